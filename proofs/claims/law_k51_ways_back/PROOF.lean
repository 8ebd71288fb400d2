import PyProof.Rows.All
import Wide.All
import OpenK.AllK
import Wide.FinOn
import Lean
import PyProof.EqAt
import PyProof.EqKinds
import PyProof.TupleCall
import PyProof.StrLawsTight
import KE.KIntText
import KE.KxPart
import KE.KDictLaws
import KE.KMinKey
import PySem.Challenge.RW_reelcut_k51_ways_back
set_option maxRecDepth 100000
set_option maxHeartbeats 4000000
set_option Elab.async false
set_option linter.all false
noncomputable section
local macro_rules|`(tactic|trivial)=>`(tactic|first|exact Or.inl rfl|exact Or.inr rfl|exact Or.inr (Or.inl rfl)|exact Or.inr (Or.inr rfl)|assumption|exact⟨rfl,rfl,rfl,rfl,rfl,rfl,rfl,rfl,fun _=>rfl,by decide⟩|(intro _ _ _ _ h;cases h;subst_vars;rfl))
theorem O.{u}{α:Sort u}{a:α}:a=a:=rfl
abbrev YA:=@if_neg
abbrev YB:=@if_pos
abbrev YC:=@absurd
abbrev YD:=@List.getElem?_eq_getElem
abbrev YE:=@List.length_cons
abbrev YF:=@List.mem_of_getElem?
abbrev YG:=@List.size_toArray
abbrev YH:=@Int.le_refl
abbrev YI:=@Nat.le_refl
abbrev YJ:=@PySem.wpAny_bind
abbrev YK:=@PySem.wpAny_pure
abbrev YL:=@PySem.wpAny_mono
abbrev YM:=@PySem.Heap.get?_push_of_some
abbrev YN:=@List.length_append
abbrev YO:=@List.mem_append
abbrev YQ:=@Int.toNat_natCast
abbrev YR:=@Nat.lt_of_lt_of_le
abbrev YS:=@List.length_map
abbrev YT:=@List.cons_append
abbrev YU:=@List.mem_cons
abbrev YV:=@PySem.Heap.lt_size
abbrev YW:=@decide_eq_false
abbrev YX:=@decide_eq_true
abbrev YY:=@List.mem_singleton
abbrev YZ:=@Bool.false_ne_true
abbrev Ya:=@List.getElem?_eq_some_iff
abbrev Yb:=@Option.some.inj
abbrev Yc:=@Int.add_zero
abbrev Yd:=@Nat.lt_of_le_of_lt
abbrev Ye:=@List.append_nil
abbrev Yf:=@List.mem_append_right
abbrev Yg:=@List.nil_append
abbrev Yh:=@Nat.pow_le_pow_right
abbrev Yi:=@Int.mul_assoc
abbrev Yj:=@List.getElem?_map
abbrev Yk:=@List.length_take
abbrev Yl:=@Bool.and_eq_true
abbrev Ym:=@Int.mul_le_mul_of_nonneg_right
abbrev Yn:=@PySem.Heap.get?_push_size
abbrev Yo:=@Nat.ne_of_lt
abbrev Yp:=@Int.zero_add
abbrev Yq:=@List.mem_append_left
abbrev Yr:=@Int.lt_of_mul_lt_mul_right
abbrev Ys:=@List.map_append
abbrev Yt:=@List.take_add_one
abbrev Yu:=@Int.mul_pos
abbrev Yv:=@Bool.eq_iff_iff
abbrev Yw:=@List.append_assoc
abbrev Yx:=@List.take_length
abbrev Yy:=@List.length_singleton
abbrev Yz:=@List.getElem?_append_right
abbrev ZA:=@List.getElem?_set_self
abbrev ZB:=@PySem.Heap.get?_update_other
abbrev ZC:=@List.getElem?_append_left
abbrev ZD:=@Nat.le_trans
abbrev ZE:=@List.not_mem_nil
abbrev ZF:=@List.mem_iff_getElem
abbrev ZG:=@Ne.symm
abbrev ZH:=@List.map_cons
abbrev ZI:=@List.take_left'
abbrev ZJ:=@List.drop_length
abbrev ZK:=@Int.mul_comm
abbrev ZL:=@List.getElem?_set_ne
abbrev ZM:=@of_decide_eq_true
abbrev ZN:=@List.length_set
abbrev ZO:=@List.length_nil
abbrev ZP:=@List.drop_left'
abbrev ZQ:=@PySem.mem_of_lookup
abbrev ZR:=@List.getElem?_eq_none_iff
abbrev ZS:=@Array.getElem?_eq_some_iff
abbrev ZT:=@Nat.zero_le
abbrev ZU:=@Int.sub_zero
abbrev ZV:=@List.length_drop
abbrev ZW:=@Int.mul_ne_zero
abbrev ZX:=@Int.eq_of_mul_eq_mul_right
namespace L2
open PySem PySem.Spec PyProof.Rows
abbrev Key:=Sum Int Str
noncomputable def qN6:Key->Value->Bool
 |.inl k,v=>Value.isInt k v
 |.inr x,v=>Value.isStrOf x v
noncomputable def qZ0(w:World):Key->Int
 |.inl k=>hashInt k
 |.inr x=>hashStr w x
theorem jm:∀{k:Key} {v:Value},qN6 k v=true->(∃i t,k=Sum.inl i/\v=Value.int i t)\/(∃x t,k=Sum.inr x/\v=Value.str x t)
 |.inl i,v,h=>by obtain⟨t,e⟩:=Value.isInt_shape (k:=i) (v:=v) h;exact .inl ⟨i,t,O,e⟩
 |.inr x,v,h=>by obtain⟨t,e⟩:=Value.isStrOf_shape (x:=x) (v:=v) h;exact .inr ⟨x,t,O,e⟩
theorem qPd(i:Int)(t:Tok):qN6 (.inl i) (.int i t)=true:=by simp[qN6,Value.isInt]
theorem qPg(x:Str)(t:Tok):qN6 (.inr x) (.str x t)=true:=by simp[qN6,Value.isStrOf]
theorem qW1(a b:Int):decide ((Sum.inl a:Key)=Sum.inl b)=(a==b):=by
 by_cases e:a=b
 . subst e;simp
 . have h:¬(Sum.inl a:Key)=Sum.inl b:=λq=>e (Sum.inl.inj q)
   rw[YW h];exact(beq_eq_false_iff_ne.mpr e).symm
theorem qV8(a b:Str):decide ((Sum.inr a:Key)=Sum.inr b)=decide (a=b):=by
 by_cases e:a=b
 . subst e;simp
 . have h:¬(Sum.inr a:Key)=Sum.inr b:=λq=>e (Sum.inr.inj q)
   rw[YW h,YW e]
theorem qWh(a:Int)(b:Str):decide ((Sum.inl a:Key)=Sum.inr b)=false:=YW (λq=>nomatch q)
theorem qV4(a:Str)(b:Int):decide ((Sum.inr a:Key)=Sum.inl b)=false:=YW (λq=>nomatch q)
noncomputable def xW(prog:Program)(w:World):PySem.KeyKind prog w Key where
 is:=qN6
 hash:=qZ0 w
 inj:=λv a b ha hb=>by
  rcases jm ha with ⟨i,t,rfl,rfl⟩|⟨x,t,rfl,rfl⟩
  . rcases jm hb with ⟨j,u,rfl,e⟩|⟨y,u,rfl,e⟩
    . injection e with e1 _;rw[e1]
    . exact nomatch e
  . rcases jm hb with ⟨j,u,rfl,e⟩|⟨y,u,rfl,e⟩
    . exact nomatch e
    . injection e with e1 _;rw[e1]
 byValue:=λk v h=>by rcases jm h with ⟨i,t,rfl,rfl⟩|⟨x,t,rfl,rfl⟩ <;> rfl
 pyHash:=λhv h=>by
  rcases jm hv with ⟨i,t,rfl,rfl⟩|⟨x,t,rfl,rfl⟩
  . exact wpAny_pyHash_int h
  . exact wpAny_pyHash_str h
 eqBool:=λhu hv h=>by
  rcases jm hu with ⟨i,t,rfl,rfl⟩|⟨x,t,rfl,rfl⟩
  . rcases jm hv with ⟨j,u,rfl,rfl⟩|⟨y,u,rfl,rfl⟩
    . rw[qW1]at h;exact wpAny_eqBool_int h
    . rw[qWh]at h;exact SeqAt.EqAt.int_str i t y u _ _ _ _ h
  . rcases jm hv with ⟨j,u,rfl,rfl⟩|⟨y,u,rfl,rfl⟩
    . rw[qV4]at h;exact SeqAt.EqAt.str_int x t j u _ _ _ _ h
    . rw[qV8]at h;exact wpAny_eqBool_str h
 «strs»:=λk x t v h=>by
  rcases jm h with ⟨i,u,rfl,e⟩|⟨y,u,rfl,e⟩
  . exact nomatch e
  . injection e with e1 _
    subst e1;cases v <;> rfl
theorem qKt(prog:Program)(w:World)(i:Int)(t:Tok):(xW prog w).is (.inl i) (.int i t)=true:=qPd i t
theorem qLq(prog:Program)(w:World)(x:Str)(t:Tok):(xW prog w).is (.inr x) (.str x t)=true:=qPg x t
inductive V where
 |non|bl (b:Bool)|int (i:Int)|str (x:Str)|byt (b:Array UInt8)|flt (b:UInt64)|ref (a:Addr)|ty (n:String)
 deriving DecidableEq
def RelV:V->Value->Prop
 |.non,u=>u=Value.none
 |.bl b,u=>u=Value.bool b
 |.int i,u=> ∃t,u=Value.int i t
 |.str x,u=> ∃t,u=Value.str x t
 |.byt b,u=> ∃t,u=Value.bytes b t
 |.flt b,u=> ∃t,u=Value.float b t
 |.ref a,u=>u=Value.ref a
 |.ty n,u=>u=Value.type n
abbrev Vals:List V->List Value->Prop:=Paired RelV
theorem Vals.length{xs:List V}{us:List Value}(r:Vals xs us):xs.length=us.length:=Paired.length r
theorem Vals.get:∀{xs:List V} {us:List Value} {i:Nat} {x:V},Vals xs us->xs[i]?=some x->∃u,us[i]?=some u/\RelV x u
 |_,_,_,_,.nil,e=>by simp at e
 |_,_,0,_,.cons r _,e=>by simp at e;subst e;exact⟨_,rfl,r⟩
 |_,_,i+1,x,.cons _ t,e=>by obtain⟨u,h1,h2⟩:=Vals.get (i:=i) (x:=x) t (by simpa using e);exact⟨u,by simpa using h1,h2⟩
theorem Vals.set{x:V}{u:Value}(r:RelV x u):∀{xs:List V} {us:List Value} (i:Nat),Vals xs us->Vals (xs.set i x) (us.set i u)
 |_,_,_,.nil=>.nil
 |_,_,0,.cons _ t=>.cons r t
 |_,_,i+1,.cons q t=>.cons q (Vals.set r i t)
theorem Vals.append:∀{xs ys:List V} {us ws:List Value},Vals xs us->Vals ys ws->Vals (xs++ys) (us++ws)
 |_,_,_,_,.nil,s=>s
 |_,_,_,_,.cons r t,s=>.cons r (Vals.append t s)
theorem Vals.take:∀{xs:List V} {us:List Value} (n:Nat),Vals xs us->Vals (xs.take n) (us.take n)
 |_,_,0,_=>.nil
 |_,_,_+1,.nil=>.nil
 |_,_,n+1,.cons r t=>.cons r (Vals.take n t)
theorem Vals.drop:∀{xs:List V} {us:List Value} (n:Nat),Vals xs us->Vals (xs.drop n) (us.drop n)
 |_,_,0,r=>r
 |_,_,_+1,.nil=>.nil
 |_,_,n+1,.cons _ t=>Vals.drop n t
def RelO:Option V->Option Value->Prop
 |some v,some u=>RelV v u
 |none,none=>True
 |_,_=>False
def KV{κ:Type}:List (κ×V)->List (κ×Value)->Prop:=Paired λ(p:κ×V) (q:κ×Value)=>p.1=q.1/\RelV p.2 q.2
noncomputable def kV:Key->V
 |.inl i=>.int i
 |.inr x=>.str x
inductive HO where
 |lst (xs:List V)
 |tup (xs:List V)
 |dK (kvs:List (Key×V))|dT (kvs:List (List Key×V))
 |set (S:Int->Bool) (n:Nat)
 |ins (C dx:Addr) (fs:List (Str×V))
 |own (x:Addr)
 |xd (fs:List (Str×V))
 |met (f x:Addr)
 |rng (lo hi:Int)
 |frz (o:Obj) (u:HO)
 |tbl (ps:Array Value)
 |ext (φ:Heap->Prop)
abbrev Hp:=Addr->Option HO
noncomputable def upd(H:Hp)(a:Addr)(o:HO):Hp:=λb=>if b=a then some o else H b
theorem qC{H:Hp}{a:Addr}{o:HO}:upd H a o a=some o:=by unfold upd;rw[YB rfl]
theorem qg{H:Hp}{a b:Addr}{o:HO}(h:b≠a):upd H a o b=H b:=by unfold upd;rw[YA h]
theorem qHb{H:Hp}{a:Addr}{o u:HO}:upd (upd H a o) a u=upd H a u:=by funext b;unfold upd;split <;> rfl
theorem qQv{H:Hp}{a b:Addr}{o u:HO}(h:H a=some o)(h':H b=some u)(d:o≠u):a≠b:=by intro e;subst e;rw[h]at h';exact d (Yb h')
theorem qW{H:Hp}{a b:Addr}{o:HO}(h:H a=some o)(h':H b=none):a≠b:=by intro e;subst e;rw[h]at h';cases h'
section
variable(P:Program)(w:World)
def ObjOk(H:Hp)(h:Heap)(a:Addr):HO->Prop
 |.lst xs=>xs.length<=sizeLine/\∃(its:List Value) (n:Nat),Vals xs its/\h.get? a=some {cls:=.type "list",data:=.seq its.toArray n}
 |.tup xs=>xs.length<=sizeLine/\∃its:List Value,Vals xs its/\IsTup h a its.toArray
 |.dK kvs=>kvs.length<=sizeLine/\(a==sysModules)=false/\∃vs,KV kvs vs/\h.DictOf (xW P w) a vs
 |.dT kvs=>kvs.length<=sizeLine/\(a==sysModules)=false/\∃xs:List (List Key×Addr×Value),
  Paired (λ(p:List Key×V) (q:List Key×Addr×Value)=>p.1=q.1/\H q.2.1=some (.tup (p.1.map kV))/\RelV p.2 q.2.2) kvs xs/\
  ∃o es ep,h.get? a=some o/\o.ExactDict/\o.data=.dict es ep/\es.toList=xs.map (entryOfKey (tupleKind (xW P w)))/\(xs.map (·.1)).Nodup
 |.set S n=>h.SetOf (intKind P w) a S n
 |.ins C dx fs=>H dx=some (.own a)/\fs.length<=1000/\dx≠a/\h.get? a=some (PySem.W.instObj C dx)/\
  ∃mA,h.Ns1 dx mA/\(∀f,RelO (fs.lookup f) (mA f))/\PySem.Within mA (fs.map (·.1))
 |.own _=> ∃o,h.get? a=some o
 |.xd fs=> ∃mA,h.Ns1 a mA/\∀f,RelO (fs.lookup f) (mA f)
 |.rng lo hi=> ∃t u v,h.get? a=some {cls:=.type "range",data:=.fields #[.int lo t,.int hi u,.int 1 v]}
 |.frz o u=>h.get? a=some o/\ObjOk H h a u
 |.tbl ps=>h.get? a=some {cls:=.none,data:=.fields ps}
 |.met f x=>h.get? a=some (PySem.W.methodObj (.ref f) (.ref x))
 |.ext φ=>φ h/\(∃o,h.get? a=some o)/\∀h1 h2:Heap,φ h1->(∀o,h1.get? a=some o->h2.get? a=some o)->φ h2
def HOk(H:Hp)(h:Heap):Prop:= ∀a o,H a=some o->ObjOk P w H h a o
end
section
variable{P:Program}{w:World}{H H':Hp}{h h':Heap}{a:Addr}{o:HO}
theorem ObjOk.lt(x:ObjOk P w H h a o):a<h.objs.size:=by
 cases o with
 |lst xs=>obtain⟨_,_,_,_,e⟩:=x;exact YV e
 |tup xs=>obtain⟨_,_,_,p⟩:=x;exact p.lt
 |dK kvs=>obtain⟨_,_,_,_,o,_,_,e,_⟩:=x;exact YV e
 |dT kvs=>obtain⟨_,_,_,_,o,_,_,e,_⟩:=x;exact YV e
 |set S n=>obtain⟨o,_,_,_,e,_⟩:=x;exact YV e
 |ins C dx fs=>obtain⟨_,_,_,e,_⟩:=x;exact YV e
 |own y=>obtain⟨_,e⟩:=x;exact YV e
 |xd fs=>obtain⟨_,⟨_,_,_,e,_⟩,_⟩:=x;exact YV e
 |rng lo hi=>obtain⟨_,_,_,e⟩:=x;exact YV e
 |frz ob u=>obtain⟨e,_⟩:=x;exact YV e
 |tbl ps=>exact YV (show h.get? a=some _ from x)
 |met f y=>exact YV (show h.get? a=some _ from x)
 |ext φ=>obtain⟨_,⟨_,e⟩,_⟩:=x;exact YV e
theorem Paired.mapP{α β:Type}{F G:α->β->Prop}:∀{l₁:List α} {l₂:List β},Paired F l₁ l₂->(∀a b,F a b->G a b)->Paired G l₁ l₂
 |_,_,.nil,_=>.nil
 |_,_,.cons r t,f=>.cons (f _ _ r) (Paired.mapP t f)
theorem ObjOk.stay(x:ObjOk P w H h a o)(k:∀b u,(b=a\/H b=some (.own a))->h.get? b=some u->h'.get? b=some u)
 (ho:∀b,H b=some (.own a)->H' b=some (.own a)) (ht:∀b xs,H b=some (.tup xs)->H' b=some (.tup xs)):ObjOk P w H' h' a o:=by
 induction o with
 |lst xs=>obtain⟨z,its,n,r,e⟩:=x;exact⟨z,its,n,r,k _ _ (.inl rfl) e⟩
 |tup xs=>obtain⟨z,its,r,ob,e,c⟩:=x;exact⟨z,its,r,ob,k _ _ (.inl rfl) e,c⟩
 |dK kvs=>obtain⟨z,y,vs,r,ob,es,ep,e,c⟩:=x;exact⟨z,y,vs,r,ob,es,ep,k _ _ (.inl rfl) e,c⟩
 |dT kvs=>
  obtain⟨z,y,xs,r,ob,es,ep,e,c⟩:=x;exact⟨z,y,xs,Paired.mapP r λp q z=>⟨z.1,ht _ _ z.2.1,z.2.2⟩,ob,es,ep,k _ _ (.inl rfl) e,c⟩
 |set S n=>obtain⟨ob,es,ep,t,e,c⟩:=x;exact⟨ob,es,ep,t,k _ _ (.inl rfl) e,c⟩
 |ins C dx fs=>
  obtain⟨d,z,ne,e,mA,⟨od,es,ep,e2,c⟩,r⟩:=x;exact⟨ho _ d,z,ne,k _ _ (.inl rfl) e,mA,⟨od,es,ep,k _ _ (.inr d) e2,c⟩,r⟩
 |own y=>obtain⟨ob,e⟩:=x;exact⟨ob,k _ _ (.inl rfl) e⟩
 |xd fs=>obtain⟨mA,⟨od,es,ep,e,c⟩,r⟩:=x;exact⟨mA,⟨od,es,ep,k _ _ (.inl rfl) e,c⟩,r⟩
 |rng lo hi=>obtain⟨t,u,v,e⟩:=x;exact⟨t,u,v,k _ _ (.inl rfl) e⟩
 |frz ob u ih=>obtain⟨e,q⟩:=x;exact⟨k _ _ (.inl rfl) e,ih q⟩
 |tbl ps=>
  have e:h.get? a=some {cls:=.none,data:=.fields ps}:=x;show h'.get? a=some {cls:=.none,data:=.fields ps};exact k a _ (.inl rfl) e
 |met f y=>
  have e:h.get? a=some (PySem.W.methodObj (.ref f) (.ref y)):=x;show h'.get? a=some (PySem.W.methodObj (.ref f) (.ref y));exact k a _ (.inl rfl) e
 |ext φ=>obtain⟨p,⟨o,e⟩,st⟩:=x;exact⟨st _ _ p λo q=>k _ _ (.inl rfl) q,⟨o,k _ _ (.inl rfl) e⟩,st⟩
theorem HOk.lt(x:HOk P w H h)(e:H a=some o):a<h.objs.size:=(x a o e).lt
theorem HOk.fresh(x:HOk P w H h)(e:h.objs.size<=a):H a=none:=by
 cases q:H a with
 |none=>rfl
 |some u=>exact YC (YR (x.lt q) e) (Nat.lt_irrefl _)
theorem HOk.kept(x:HOk P w H h)(k:∀b u,h.get? b=some u->h'.get? b=some u):HOk P w H h':=λa o e=>
 (x a o e).stay (λb u _ q=>k b u q) (λ_ q=>q) λ_ _ q=>q
theorem HOk.laid(x:HOk P w H h)(k:∀b u,h.get? b=some u->h'.get? b=some u)(hp:h.objs.size<=a)(new:ObjOk P w (upd H a o) h' a o):HOk P w (upd H a o) h':=λb u e=>by
 have hn:=x.fresh hp;by_cases hb:b=a
 . subst hb;rw[qC]at e;cases e;exact new
 . rw[qg hb]at e
   exact(x b u e).stay (λc v _ q=>k c v q) (λc q=>by rw[qg (qW q hn)];exact q) λc xs q=>by rw[qg (qW q hn)];exact q
end
def Rd(H:Hp)(a:Addr)(u:HO):Prop:=H a=some u\/∃o,H a=some (.frz o u)
theorem Rd.ok{P:Program}{w:World}{H:Hp}{h:Heap}{a:Addr}{u:HO}(r:Rd H a u)(x:HOk P w H h):ObjOk P w H h a u:=by
 rcases r with r|⟨o,r⟩
 . exact x a u r
 . obtain⟨_,q⟩:=x a _ r
   exact q
def Mut:Option HO->Prop
 |some (.lst _)=>True
 |some (.dK _)=>True
 |some (.dT _)=>True
 |some (.set _ _)=>True
 |some (.ins _ _ _)=>True
 |some (.ext _)=>True
 |_=>False
section
variable{P:Program}{w:World}{H:Hp}{h h':Heap}{x e:Addr}{o':HO}
theorem HOk.write(ok:HOk P w H h)(mu:Mut (H x))(he:e=x\/H e=some (.own x))(k:∀b u,b≠e->h.get? b=some u->h'.get? b=some u)(heo:∃u,h'.get? e=some u)
 (new:ObjOk P w (upd H x o') h' x o'):HOk P w (upd H x o') h':=λb u q=>by
 have nown:∀c y,H c=some (.own y)->c≠x:=λc y r z=>by subst z;rw[r]at mu;exact mu
 have ntup:∀c xs,H c=some (.tup xs)->c≠x:=λc xs r z=>by subst z;rw[r]at mu;exact mu
 by_cases hb:b=x
 . subst hb;rw[qC]at q;cases q;exact new
 . rw[qg hb]at q
   by_cases hbe:b=e
   . have q':H b=some (.own x):=by
      rcases he with z|z
      . exact YC (hbe.trans z) hb
      . rw[hbe];exact z
     rw[q]at q';cases q';obtain⟨v,hv⟩:=heo;exact⟨v,by rw[hbe];exact hv⟩
   . refine(ok b u q).stay (λc v hc r=>k c v ?_ r) (λc r=>by rw[qg (nown c b r)];exact r) λc xs r=>by rw[qg (ntup c xs r)];exact r
     rcases hc with rfl|hc
     . exact hbe
     . rintro rfl
       rcases he with z|z
       . exact nown c b hc z
       . rw[hc]at z;cases z;exact hb rfl
end
structure Un(fs ex:List Addr)(H H':Hp)(h h':Heap):Prop where
 keep:∀b o,h.get? b=some o->H b=none->b∉fs->b∉ex->h'.get? b=some o
 slot:∀b o,h.get? b=some o->H b=none->b∈fs->b∉ex->∃sl,h'.get? b=some {o with slots:=sl}
 free:∀b o,h.get? b=some o->H b=none->b∉ex->H' b=none
 there:∀b o,h.get? b=some o->b∉ex->∃o',h'.get? b=some o'
 tups:∀b xs,H b=some (.tup xs)->H' b=some (.tup xs)
 frzs:∀b o u,H b=some (.frz o u)->H' b=some (.frz o u)
 tbls:∀b ps,H b=some (.tbl ps)->∃more,H' b=some (.tbl (ps++more))
section
variable{fs fs' ex ex':List Addr}{H H1 H2:Hp}{h h1 h2 h':Heap}{a x e:Addr}{o:HO}
theorem Un.any(u:Un fs ex H H1 h h1){b:Addr}{ob:Obj}(q:h.get? b=some ob)(n:H b=none)(hx:b∉ex):∃sl,h1.get? b=some {ob with slots:=sl}:=by
 by_cases hb:b∈fs
 . exact u.slot b ob q n hb hx
 . exact⟨ob.slots,u.keep b ob q n hb hx⟩
theorem Un.kept(k:∀b u,h.get? b=some u->h'.get? b=some u):Un fs ex H H h h':=
 ⟨λb ob q _ _ _=>k b ob q,λb ob q _ _ _=>⟨ob.slots,k b ob q⟩,λ_ _ _ n _=>n,λb ob q _=>⟨ob,k b ob q⟩,λ_ _ q=>q,λ_ _ _ q=>q,λ_ ps q=>⟨#[],by rw[q];simp⟩⟩
theorem Un.refl:Un fs ex H H h h:=Un.kept λ_ _ q=>q
theorem Un.laid(k:∀b u,h.get? b=some u->h'.get? b=some u)(hp:h.objs.size<=a)(hn:H a=none):Un fs ex H (upd H a o) h h' where
 keep:=λb u q _ _ _=>k b u q
 slot:=λb u q _ _ _=>⟨u.slots,k b u q⟩
 free:=λb u q n _=>by rw[qg (Yo (YR (YV q) hp))];exact n
 there:=λb u q _=>⟨u,k b u q⟩
 tups:=λb xs q=>by rw[qg (qW q hn)];exact q
 frzs:=λb u xs q=>by rw[qg (qW q hn)];exact q
 tbls:=λb ps q=>⟨#[],by rw[qg (qW q hn),q];simp⟩
theorem Un.write(mu:Mut (H x))(he:e=x\/H e=some (.own x))(k:∀b u,b≠e->h.get? b=some u->h'.get? b=some u)(heo:∃u,h'.get? e=some u):Un fs ex H (upd H x o) h h':=by
 have hx:∀b,H b=none->b≠x:=λb n z=>by subst z;rw[n]at mu;exact mu
 have hb:∀b,H b=none->b≠e:=λb n z=>by
  subst z;rcases he with r|r
  . exact hx b n r
  . rw[n]at r;cases r
 have hm:∀b u,H b=some u->¬Mut (some u)->b≠x:=λb u q nm z=>by subst z;rw[q]at mu;exact nm mu
 refine⟨λb u q n _ _=>k b u (hb b n) q,λb u q n _ _=>⟨u.slots,k b u (hb b n) q⟩,λb u q n _=>by rw[qg (hx b n)];exact n,λb u q _=>?_,
  λb xs q=>by rw[qg (hm b _ q λz=>z)];exact q,λb u xs q=>by rw[qg (hm b _ q λz=>z)];exact q,λb ps q=>⟨#[],by rw[qg (hm b _ q λz=>z),q];simp⟩⟩
 by_cases hbe:b=e
 . subst hbe;exact heo
 . exact⟨u,k b u hbe q⟩
end
noncomputable def trk(h:Heap)(H:Hp):List Addr:=(List.range h.objs.size).filter λa=>(H a).isSome
noncomputable def qSs(h:Heap)(H:Hp):Heap:=PySem.W.hideAll h (trk h H)
theorem qRb(h:Heap)(H:Hp):(qSs h H).objs.size=h.objs.size:=PySem.W.hideAll_size _ _
theorem qSt{h:Heap}{H:Hp}{b:Addr}{o:Obj}(e:h.get? b=some o)(n:H b=none):(qSs h H).get? b=some o:=
 PySem.W.hideAll_get _ e λhm=>by have q:(H b).isSome=true:=(List.mem_filter.mp hm).2;rw[n]at q;simp at q
theorem qUd{h:Heap}{H:Hp}{b:Addr}{o:Obj}(e:(qSs h H).get? b=some o):h.get? b=some o/\H b=none:=by
 have e':h.get? b=some o:=PySem.W.of_hideAll (trk h H) e;refine⟨e',?_⟩;cases q:H b with
 |none=>rfl
 |some x=>
  have hm:b∈trk h H:=List.mem_filter.mpr ⟨List.mem_range.mpr (YV e'),by simp[q]⟩;have z:(qSs h H).get? b=none:=PySem.W.hideAll_none (trk h H) hm;rw[z]at e;cases e
structure Mod(K:PySem.W.Frag)(mg:Str->Option Value)(base:Heap):Prop where
 kin:K.In base
 glob:base.Ns mainGlobals mg
 blt:∃mb,base.Ns builtinsNs mb/\∀x:Str,x≠"__name__"->mb x=bootBuiltins x
 nolimit:base.NoLimit
structure Cx where
 prog:Program
 w:World
 K:PySem.W.Frag
 mg:Str->Option Value
 base:Heap
 A:Around
 N:List Str
 s₀:Shared
 H₀:Hp
 env:Env
 outer:List Env
 stack:List Env
 ex:List Addr
 fn:Str->Bool
 calm:Bool
 pn:List (Addr×Obj)
 xe:Value->Shared->Prop
noncomputable def frs(l:List Env):List Addr:=l.filterMap (·.frame)
abbrev Cx.fs(X:Cx):List Addr:=frs X.outer
def Vis(sc:Scope)(x:Str):Prop:=sc.names.lookup x=some .local\/sc.names.lookup x=some .cell\/sc.names.lookup x=some .free
def Loc(sc:Scope)(x:Str):Prop:=sc.names.lookup x=some .local\/sc.names.lookup x=some .cell
def qZ6(env:Env)(h:Heap)(m:Str->Option Value)(x:Str)(u:Value):Prop:=
 (env.kindOf x=some .local/\m x=some u)\/((env.kindOf x=some .cell\/env.kindOf x=some .free)/\∃c,env.cells.lookup x=some c/\h.IsCell c (some u))
structure Cx.Ok(X:Cx):Prop where
 mod:Mod X.K X.mg X.base
 kind:X.env.scope.kind=.function
 glob:X.env.globals=mainGlobals
 blt:X.env.builtins=builtinsNs
 above:X.s₀.heap.objs.size<=X.env.locals
 inj:∀x y c,X.env.cells.lookup x=some c->X.env.cells.lookup y=some c->x=y
 has:∀x,(X.env.kindOf x=some .cell\/X.env.kindOf x=some .free)->∃c,X.env.cells.lookup x=some c
 cab:∀x c,X.fn x=true->X.env.cells.lookup x=some c->X.s₀.heap.objs.size<=c
 hd:X.calm=true->X.A.handled=none
 frames:X.A.frames=some X.stack
 stk:X.stack=X.outer\/(X.stack=X.env::X.outer/\X.env.frame=some X.env.locals)
 exf:∀b∈X.ex,b≠X.env.locals/\∀x c,X.env.cells.lookup x=some c->c≠b
 bs:∀b o,X.base.get? b=some o->X.s₀.heap.get? b=some o/\X.H₀ b=none
 bsz:X.base.objs.size<=X.s₀.heap.objs.size
 noex:∀b o,X.base.get? b=some o->b∉X.ex
 exfs:∀b∈X.ex,b∉X.fs
 funs:X.s₀.heap.FunFrames X.base X.outer
 frf:∀b∈X.fs,X.H₀ b=none
structure Inv(X:Cx)(pins:List (Addr×Obj))(σ:List (Option V))(H:Hp)(s:Shared):Prop where
 ok:X.Ok
 os:s.os=X.s₀.os
 bare:AllBare s.gens
 base:Un X.fs X.ex X.H₀ H X.s₀.heap s.heap
 loc:∃m,s.heap.Ns X.env.locals m/\∀(i:Nat) (x:Str) (v:V),X.N[i]?=some x->σ[i]?=some (some v)->Vis X.env.scope x->∃u,RelV v u/\qZ6 X.env s.heap m x u
 cell:∀x c,X.env.cells.lookup x=some c->∃v,s.heap.IsCell c v
 free:H X.env.locals=none
 freeC:∀x c,X.env.cells.lookup x=some c->H c=none
 pin:∀p∈X.pn++pins,s.heap.get? p.1=some p.2/\H p.1=none/\p.1≠X.env.locals/\p.1∉X.fs/\∀v,p.2.data≠ .cell v
 hok:HOk X.prog X.w H s.heap
 len:σ.length=X.N.length
section
variable{X:Cx}{pins:List (Addr×Obj)}{σ:List (Option V)}{H H':Hp}{s:Shared}{h':Heap}
theorem Cx.Ok.nofr(ok:X.Ok){b:Addr}{o:Obj}(e:X.base.get? b=some o):b∉X.fs:=λhb=>by have:=(ok.funs.mem hb).1;rw[e]at this;cases this
theorem Inv.bs(I:Inv X pins σ H s):∀b o,X.base.get? b=some o->s.heap.get? b=some o/\H b=none:=λb o e=>
 ⟨I.base.keep b o (I.ok.bs b o e).1 (I.ok.bs b o e).2 (I.ok.nofr e) (I.ok.noex b o e),I.base.free b o (I.ok.bs b o e).1 (I.ok.bs b o e).2 (I.ok.noex b o e)⟩
theorem Inv.bk(I:Inv X pins σ H s):∀b o,X.base.get? b=some o->s.heap.get? b=some o:=λb o e=>(I.bs b o e).1
theorem Inv.mod(I:Inv X pins σ H s):Mod X.K X.mg X.base:=I.ok.mod
theorem Inv.kIn(I:Inv X pins σ H s):X.K.In s.heap:=I.ok.mod.kin.keeps I.bk
theorem Inv.lt(I:Inv X pins σ H s):X.env.locals<s.heap.objs.size:=let ⟨_,hn,_⟩:=I.loc;hn.lt
theorem Inv.sz(I:Inv X pins σ H s):X.s₀.heap.objs.size<=s.heap.objs.size:=ZD I.ok.above (Nat.le_of_lt I.lt)
theorem Inv.nofs(I:Inv X pins σ H s){a:Addr}(h:s.heap.objs.size<=a):a∉X.fs:=λhb=>by obtain⟨_,o,ho,_⟩:=I.ok.funs.mem hb;exact YC (YR (YV ho) (ZD I.sz h)) (Nat.lt_irrefl _)
theorem Inv.cne(I:Inv X pins σ H s):∀x c,X.env.cells.lookup x=some c->c≠X.env.locals:=λx c e z=>by obtain⟨v,o,ho,hd⟩:=I.cell x c e;obtain⟨m,⟨o',es,ep,ho',hd',_⟩,_⟩:=I.loc;rw[z,ho']at ho;cases ho;rw[hd']at hd;cases hd
theorem Inv.funs(I:Inv X pins σ H s):s.heap.FunFrames X.base X.outer:=by
 have all:∀(l:List Env),(∀b∈frs l,b∈X.fs)->X.s₀.heap.FunFrames X.base l->s.heap.FunFrames X.base l:=by
  intro l
  induction l with
  |nil=>intro _ _;trivial
  |cons env r ih=>
   intro hs hl;obtain⟨hk,⟨L,o,hf,hn,ho,hd⟩,hr⟩:=hl;have hL:L∈X.fs:=hs L (by unfold frs;rw[List.filterMap_cons,hf];exact List.mem_cons_self);obtain⟨sl,e⟩:=I.base.slot L o ho (I.ok.frf L hL) hL λz=>I.ok.exfs L z hL;exact⟨hk,⟨L,_,hf,hn,e,hd⟩,ih (λb hb=>hs b (by unfold frs;rw[List.filterMap_cons,hf];exact List.mem_cons_of_mem _ hb)) hr⟩
 exact all X.outer (λ_ hb=>hb) I.ok.funs
theorem Inv.stack(I:Inv X pins σ H s):s.heap.FunFrames X.base X.stack:=by
 rcases I.ok.stk with e|⟨e,hf⟩
 . rw[e];exact I.funs
 . rw[e]
   obtain⟨m,hn,_⟩:=I.loc;refine .cons (by rw[I.ok.kind];decide) hf hn ?_ I.funs;exact Heap.get?_none_of_le (ZD I.ok.bsz I.ok.above)
theorem Inv.stkSub(I:Inv X pins σ H s):∀b∈frs X.stack,b∈X.env.locals::X.fs:=λb hb=>by
 rcases I.ok.stk with e|⟨e,hf⟩
 . rw[e]at hb;exact List.mem_cons_of_mem _ hb
 . rw[e]at hb
   unfold frs at hb;rw[List.filterMap_cons,hf]at hb;exact hb
theorem Inv.stkFree(I:Inv X pins σ H s):∀b∈frs X.stack,H b=none:=λb hb=>by
 rcases YU.mp (I.stkSub b hb)with e|hb
 . rw[e];exact I.free
 . obtain⟨_,o,ho,_⟩:=I.ok.funs.mem hb
   exact I.base.free b o ho (I.ok.frf b hb) λz=>I.ok.exfs b z hb
theorem Inv.step{g':Array GenState}{t':Nat}{d':Drawn}{ch:List Addr}(I:Inv X pins σ H s)
 (hch:∀b∈ch,(b∈X.ex\/X.s₀.heap.objs.size<=b)/\b≠X.env.locals/\(∀x c,X.env.cells.lookup x=some c->c≠b)/\∀p∈X.pn++pins,p.1≠b)
 (keep:∀b o,b≠X.env.locals->b∉X.fs->b∉ch->s.heap.get? b=some o->H b=none->h'.get? b=some o)
 (slot:∀b o,b≠X.env.locals->b∈X.fs->b∉ch->s.heap.get? b=some o->H b=none->∃sl,h'.get? b=some {o with slots:=sl}) (free:∀b o,b∉ch->s.heap.get? b=some o->H b=none->H' b=none)
 (there:∀b o,b∉ch->s.heap.get? b=some o->∃o',h'.get? b=some o')
 (tups:∀b xs,H b=some (.tup xs)->H' b=some (.tup xs)) (frzs:∀b o u,H b=some (.frz o u)->H' b=some (.frz o u)) (tbls:∀b ps,H b=some (.tbl ps)->∃more,H' b=some (.tbl (ps++more)))
 (ns:∀m,s.heap.Ns X.env.locals m->h'.Ns X.env.locals m) (hok:HOk X.prog X.w H' h') (hg:AllBare g'):
 Inv X pins σ H' {s with heap:=h',gens:=g',drawn:=d',toks:=t'}:=by
 have neL:∀b o,X.s₀.heap.get? b=some o->b≠X.env.locals:=λb o e=>Yo (YR (YV e) I.ok.above);have neC:∀b o,X.s₀.heap.get? b=some o->b∉X.ex->b∉ch:=λb o e hx hb=>by
  rcases (hch b hb).1 with z|z
  . exact hx z
  . exact YC (YR (YV e) z) (Nat.lt_irrefl _)
 have cellK:∀x c,X.env.cells.lookup x=some c->∀v,s.heap.IsCell c v->h'.IsCell c v:=λx c e v ⟨o,ho,hd⟩=>by
  have nch:c∉ch:=λz=>(hch c z).2.2.1 x c e rfl;by_cases hc:c∈X.fs
  . obtain⟨sl,q⟩:=slot c o (I.cne x c e) hc nch ho (I.freeC x c e)
    exact⟨_,q,hd⟩
  . exact⟨o,keep c o (I.cne x c e) hc nch ho (I.freeC x c e),hd⟩
 refine⟨I.ok,I.os,hg,⟨λb o e n hb hx=>?_,λb o e n hb hx=>?_,λb o e n hx=>?_,λb o e hx=>?_,λb xs e=>tups b xs (I.base.tups b xs e),λb o xs e=>frzs b o xs (I.base.frzs b o xs e),λb ps e=>?_⟩,?_,λx c e=>?_,?_,λx c e=>?_,λp hp=>?_,hok,I.len⟩
 . exact keep b o (neL b o e) hb (neC b o e hx) (I.base.keep b o e n hb hx) (I.base.free b o e n hx)
 . obtain⟨sl,e1⟩:=I.base.slot b o e n hb hx
   obtain⟨sl',e2⟩:=slot b _ (neL b o e) hb (neC b o e hx) e1 (I.base.free b o e n hx);exact⟨sl',e2⟩
 . obtain⟨o',e1⟩:=I.base.there b o e hx
   exact free b o' (neC b o e hx) e1 (I.base.free b o e n hx)
 . obtain⟨o',e1⟩:=I.base.there b o e hx
   exact there b o' (neC b o e hx) e1
 . obtain⟨m1,e1⟩:=I.base.tbls b ps e
   obtain⟨m2,e2⟩:=tbls b _ e1;exact⟨m1++m2,by rw[e2,Array.append_assoc]⟩
 . obtain⟨m,hn,hl⟩:=I.loc
   refine⟨m,ns m hn,λi x v e1 e2 e3=>?_⟩;obtain⟨u,r,l⟩:=hl i x v e1 e2 e3;refine⟨u,r,?_⟩;rcases l with l|⟨k,c,e,z⟩
   . exact .inl l
   . exact .inr ⟨k,c,e,cellK x c e _ z⟩
 . obtain⟨v,z⟩:=I.cell x c e
   exact⟨v,cellK x c e v z⟩
 . obtain⟨m,⟨o,_,_,ho,_⟩,_⟩:=I.loc
   exact free _ o (λz=>(hch _ z).2.1 rfl) ho I.free
 . obtain⟨v,o,ho,hd⟩:=I.cell x c e
   exact free c o (λz=>(hch c z).2.2.1 x c e rfl) ho (I.freeC x c e)
 . obtain⟨e,n,ne,nf,d⟩:=I.pin p hp
   have nch:p.1∉ch:=λz=>(hch p.1 z).2.2.2 p hp rfl;exact⟨keep p.1 p.2 ne nf nch e n,free p.1 p.2 nch e n,ne,nf,d⟩
theorem Inv.un{t':Nat}(I:Inv X pins σ H s)(u:Un X.fs [] H H' s.heap h')(hok:HOk X.prog X.w H' h'):Inv X pins σ H' {s with heap:=h',toks:=t'}:=by
 obtain⟨m,⟨o,es,ep,ho,r⟩,_⟩:=id I.loc;obtain⟨sl,hL⟩:=u.any ho I.free (by simp);exact I.step (g':=s.gens) (d':=s.drawn) (ch:=[]) (λ_ z=>nomatch z) (λb o _ hb _ e n=>u.keep b o e n hb (by simp)) (λb o _ hb _ e n=>u.slot b o e n hb (by simp)) (λb o _ e n=>u.free b o e n (by simp)) (λb o _ e=>u.there b o e (by simp)) u.tups u.frzs u.tbls (λm' hm=>by obtain⟨o',es',ep',ho',r'⟩:=hm;rw[ho]at ho';cases ho';exact⟨_,es',ep',hL,r'⟩) hok I.bare
theorem Inv.call{g':Array GenState}{t':Nat}{d':Drawn}{ch:List Addr}(I:Inv X pins σ H s)(u:Un (frs X.stack) ch H H' s.heap h')(hok:HOk X.prog X.w H' h')(hg:AllBare g')
 (hch:∀b∈ch,(b∈X.ex\/X.s₀.heap.objs.size<=b)/\b≠X.env.locals/\(∀x c,X.env.cells.lookup x=some c->c≠b)/\∀p∈X.pn++pins,p.1≠b):
 Inv X pins σ H' {s with heap:=h',gens:=g',drawn:=d',toks:=t'}:=by
 obtain⟨m,⟨o,es,ep,ho,r⟩,_⟩:=id I.loc;obtain⟨sl,hL⟩:=u.any ho I.free λz=>(hch _ z).2.1 rfl;exact I.step (ch:=ch) hch (λb o hL hb hc e n=>u.keep b o e n (λz=>(YU.mp (I.stkSub b z)).elim hL hb) hc) (λb o _ _ hc e n=>u.any e n hc) (λb o hc e n=>u.free b o e n hc) (λb o hc e=>u.there b o e hc) u.tups u.frzs u.tbls (λm' hm=>by obtain⟨o',es',ep',ho',r'⟩:=hm;rw[ho]at ho';cases ho';exact⟨_,es',ep',hL,r'⟩) hok hg
theorem Inv.turned{t':Nat}{it:Addr}(I:Inv X pins σ H s)(k:∀b o,b≠it->s.heap.get? b=some o->h'.get? b=some o)(hn:H it=none)(hL:it≠X.env.locals)
 (h1:it∈X.ex\/X.s₀.heap.objs.size<=it) (h2:∀x c,X.env.cells.lookup x=some c->c≠it) (h3:∀p∈X.pn++pins,p.1≠it):Inv X pins σ H {s with heap:=h',toks:=t'}:=by
 have nit:∀b u,H b=some u->b≠it:=λb u e z=>by rw[z,hn]at e;cases e
 refine I.step (g':=s.gens) (d':=s.drawn) (ch:=[it]) (λb hb=>?_) (λb o _ _ hc e _=>k b o (λz=>hc (by simp[z])) e) (λb o _ _ hc e _=>⟨o.slots,k b o (λz=>hc (by simp[z])) e⟩) (λ_ _ _ _ n=>n)
  (λb o hc e=>⟨o,k b o (λz=>hc (by simp[z])) e⟩) (λ_ _ e=>e) (λ_ _ _ e=>e) (λb ps e=>⟨#[],by rw[e];simp⟩) (λm hm=>?_) (λb u e=>?_) I.bare
 . have e:b=it:=by simpa using hb
   subst e;exact⟨h1,hL,h2,h3⟩
 . obtain⟨o,es,ep,ho,r⟩:=hm
   exact⟨o,es,ep,k _ o (ZG hL) ho,r⟩
 . refine(I.hok b u e).stay (λc v hc q=>k c v ?_ q) (λ_ q=>q) λ_ _ q=>q
   rcases hc with z|z
   . rw[z];exact nit b u e
   . exact nit c _ z
theorem Inv.tok(I:Inv X pins σ H s)(t:Nat):Inv X pins σ H {s with toks:=t}:=I.un (h':=s.heap) (t':=t) Un.refl I.hok
theorem Inv.kept{t':Nat}(I:Inv X pins σ H s)(k:∀b u,s.heap.get? b=some u->h'.get? b=some u):Inv X pins σ H {s with heap:=h',toks:=t'}:=I.un (Un.kept k) (I.hok.kept k)
theorem Inv.laid{a:Addr}{o:HO}{t':Nat}(I:Inv X pins σ H s)(k:∀b u,s.heap.get? b=some u->h'.get? b=some u)(hp:s.heap.objs.size<=a)(new:ObjOk X.prog X.w (upd H a o) h' a o):
 Inv X pins σ (upd H a o) {s with heap:=h',toks:=t'}:=I.un (Un.laid k hp (I.hok.fresh hp)) (I.hok.laid k hp new)
theorem Inv.write{x e:Addr}{o:HO}{t':Nat}(I:Inv X pins σ H s)(mu:Mut (H x))(he:e=x\/H e=some (.own x))(k:∀b u,b≠e->s.heap.get? b=some u->h'.get? b=some u)(heo:∃u,h'.get? e=some u)
 (new:ObjOk X.prog X.w (upd H x o) h' x o):Inv X pins σ (upd H x o) {s with heap:=h',toks:=t'}:=I.un (Un.write mu he k heo) (I.hok.write mu he k heo new)
theorem Inv.weak{σ':List (Option V)}(I:Inv X pins σ H s)(hl:σ'.length=σ.length)(w:∀(i:Nat) v,σ'[i]?=some (some v)->σ[i]?=some (some v)):Inv X pins σ' H s:=
 ⟨I.ok,I.os,I.bare,I.base,let ⟨m,hn,hl'⟩:=I.loc;⟨m,hn,λi x v e1 e2 e3=>hl' i x v e1 (w i v e2) e3⟩,I.cell,I.free,I.freeC,I.pin,I.hok,hl.trans I.len⟩
theorem Inv.pins_of{pins':List (Addr×Obj)}(I:Inv X pins σ H s)(h:∀p∈pins',s.heap.get? p.1=some p.2/\H p.1=none/\p.1≠X.env.locals/\p.1∉X.fs/\∀v,p.2.data≠ .cell v):Inv X pins' σ H s:=
 ⟨I.ok,I.os,I.bare,I.base,I.loc,I.cell,I.free,I.freeC,λp hp=>(YO.mp hp).elim (λz=>I.pin p (Yq _ z)) (h p),I.hok,I.len⟩
theorem qGy{N:List Str}(hN:N.Nodup){i j:Nat}{x:Str}(a:N[i]?=some x)(b:N[j]?=some x):i=j:=by obtain⟨h1,e1⟩:=Ya.mp a;obtain⟨h2,e2⟩:=Ya.mp b;exact(List.getElem_inj hN).mp (e1.trans e2.symm)
theorem qIp{M:Model}{A:Around}{E:Value->Shared->Prop}{i:Nat}{x:Str}{v:V}{u:Value}{Q:Unit->Shared->Prop}(I:Inv X pins σ H s)(hN:X.N.Nodup)(hi:X.N[i]?=some x)(hx:Loc X.env.scope x)(r:RelV v u)
 (h:∀s',Inv X pins (σ.set i (some v)) H s'->(∃a,Heap.SameBut a s.heap s'.heap/\(a=X.env.locals\/X.env.cells.lookup x=some a))->Q () s') (hf:X.fn x=true\/X.env.scope.names.lookup x=some .local:=by trivial):wpAny M A (storeName X.env x u) Q E s:=by
 obtain⟨m,hn,hl⟩:=id I.loc;have hcls:(X.env.scope.kind== .class || (X.env.scope.kind== .module && X.env.locals != X.env.globals))=false:=by rw[I.ok.kind];rfl
 have hiσ:i<σ.length:=by rw[I.len];exact(Ya.mp hi).1
 have cne:=I.cne;have tracked:∀{a:Addr} {h':Heap},(∃o,s.heap.get? a=some o/\H a=none)->Heap.SameBut a s.heap h'->HOk X.prog X.w H h':=λ{a h'} ha hs b ob e=>by
  obtain⟨_,_,hfree⟩:=ha;refine(I.hok b ob e).stay (λc w' hc q=>(hs.2 c ?_).trans q) (λ_ q=>q) λ_ _ q=>q;rintro rfl;rcases hc with rfl|hc
  . rw[hfree]at e;cases e
  . rw[hfree]at hc;cases hc
 rcases hx with hk|hk
 . refine wpAny_storeName_local hk hn (λh' hn' hs=>?_) hcls
   obtain⟨oL,_,_,hoL,_⟩:=id hn;refine h _ ⟨I.ok,I.os,I.bare,⟨λb o e n hb hx=>?_,λb o e n hb hx=>?_,I.base.free,λb o e hx=>?_,I.base.tups,I.base.frzs,I.base.tbls⟩,⟨_,hn',λj y v' e1 e2 e3=>?_⟩,λy c e=>?_,I.free,I.freeC,λp hp=>?_,tracked ⟨oL,hoL,I.free⟩ hs,by simpa using I.len⟩ ⟨_,hs,.inl rfl⟩
   . exact(hs.2 b (Yo (YR (YV e) I.ok.above))).trans (I.base.keep b o e n hb hx)
   . obtain⟨sl,e1⟩:=I.base.slot b o e n hb hx
     exact⟨sl,(hs.2 b (Yo (YR (YV e) I.ok.above))).trans e1⟩
   . obtain⟨o',e1⟩:=I.base.there b o e hx
     exact⟨o',(hs.2 b (Yo (YR (YV e) I.ok.above))).trans e1⟩
   . by_cases hj:j=i
     . subst hj
       rw[hi]at e1;cases e1;rw[ZA hiσ]at e2;cases e2;exact⟨u,r,.inl ⟨hk,by simp⟩⟩
     . rw[ZL (ZG hj)]at e2
       obtain⟨u',r',q⟩:=hl j y v' e1 e2 e3;refine⟨u',r',?_⟩;rcases q with ⟨k,e⟩|⟨k,c,e,z⟩
       . refine .inl ⟨k,?_⟩
         have:y≠x:=λe=>hj (qGy hN e1 (e ▸ hi));simp[this,e]
       . exact .inr ⟨k,c,e,z.sameBut hs (cne y c e)⟩
   . obtain⟨w',z⟩:=I.cell y c e
     exact⟨w',z.sameBut hs (cne y c e)⟩
   . obtain⟨e,n,ne,nf,d⟩:=I.pin p hp
     exact⟨(hs.2 p.1 ne).trans e,n,ne,nf,d⟩
 . have hfn:X.fn x=true:=by
    rcases hf with z|z
    . exact z
    . rw[z]at hk;cases hk
   obtain⟨c,hc⟩:=I.ok.has x (.inl hk);obtain⟨w',z⟩:=I.cell x c hc;refine wpAny_storeName_cell I.ok.kind hk hc z (λh' hc' hs=>?_);obtain⟨oc,hoc,hocd⟩:=id z;refine h {s with heap:=h'} ⟨I.ok,I.os,I.bare,⟨λb o e n hb hx=>?_,λb o e n hb hx=>?_,I.base.free,λb o e hx=>?_,I.base.tups,I.base.frzs,I.base.tbls⟩,⟨m,hn.sameBut hs (ZG (cne x c hc)),λj y v' e1 e2 e3=>?_⟩,λy c' e=>?_,I.free,I.freeC,λp hp=>?_,tracked ⟨oc,hoc,I.freeC x c hc⟩ hs,by simpa using I.len⟩ ⟨c,hs,.inr hc⟩
   . exact(hs.2 b (Yo (YR (YV e) (I.ok.cab x c hfn hc)))).trans (I.base.keep b o e n hb hx)
   . obtain⟨sl,e1⟩:=I.base.slot b o e n hb hx
     exact⟨sl,(hs.2 b (Yo (YR (YV e) (I.ok.cab x c hfn hc)))).trans e1⟩
   . obtain⟨o',e1⟩:=I.base.there b o e hx
     exact⟨o',(hs.2 b (Yo (YR (YV e) (I.ok.cab x c hfn hc)))).trans e1⟩
   . by_cases hj:j=i
     . subst hj
       rw[hi]at e1;cases e1;rw[ZA hiσ]at e2;cases e2;exact⟨u,r,.inr ⟨.inl hk,c,hc,hc'⟩⟩
     . rw[ZL (ZG hj)]at e2
       obtain⟨u',r',q⟩:=hl j y v' e1 e2 e3;refine⟨u',r',?_⟩;rcases q with q|⟨k,c',e,z'⟩
       . exact .inl q
       . refine .inr ⟨k,c',e,z'.sameBut hs ?_⟩
         rintro rfl;exact hj (qGy hN e1 (I.ok.inj _ _ _ e hc ▸ hi))
   . by_cases hcc:c'=c
     . subst hcc;exact⟨_,hc'⟩
     . obtain⟨w2,z2⟩:=I.cell y c' e
       exact⟨w2,z2.sameBut hs hcc⟩
   . obtain⟨e,n,ne,nf,d⟩:=I.pin p hp
     refine⟨(hs.2 p.1 ?_).trans e,n,ne,nf,d⟩;intro q;rw[q,hoc]at e;have q':oc=p.2:=Yb e;exact d w' (by rw[<-q'];exact hocd)
theorem kT{M:Model}{A:Around}{E:Value->Shared->Prop}{i:Nat}{x:Str}{v:V}{u:Value}{Q:Unit->Shared->Prop}(I:Inv X pins σ H s)(hN:X.N.Nodup)(hi:X.N[i]?=some x)(hx:Loc X.env.scope x)(r:RelV v u)
 (h:∀s',Inv X pins (σ.set i (some v)) H s'->Q () s') (hf:X.fn x=true\/X.env.scope.names.lookup x=some .local:=by trivial):wpAny M A (storeName X.env x u) Q E s:=
 qIp I hN hi hx r (λs' I' _=>h s' I') hf
theorem Inv.call'{s':Shared}{ch:List Addr}(I:Inv X pins σ H s)(ho:s'.os=s.os)(u:Un (frs X.stack) ch H H' s.heap s'.heap)(hok:HOk X.prog X.w H' s'.heap)(hg:AllBare s'.gens)
 (hch:∀b∈ch,(b∈X.ex\/X.s₀.heap.objs.size<=b)/\b≠X.env.locals/\(∀x c,X.env.cells.lookup x=some c->c≠b)/\∀p∈X.pn++pins,p.1≠b):Inv X pins σ H' s':=by
 obtain⟨h',g',d',t',o'⟩:=s';have e:o'=s.os:=ho;subst e;exact I.call (g':=g') (t':=t') (d':=d') u hok hg hch
end
abbrev XK:=Value->Option Addr->Hp->Prop
abbrev St:=List (Option V)
abbrev VK:=V->Hp->Prop
abbrev TE:=St->Hp->VK->Prop
abbrev TT:=St->Hp->(Bool->Hp->Prop)->Prop
abbrev TA:=St->Hp->(List V->Hp->Prop)->Prop
structure qN2 where
 nx:St->Hp->Prop
 rt:VK
 bk:St->Hp->Prop:=λ_ _=>False
 ct:St->Hp->Prop:=λ_ _=>False
abbrev TS:=qN2->St->Hp->Prop
def EP(X:Cx)(pins:List (Addr×Obj))(σ:St)(Q:VK)(u:Value)(s':Shared):Prop:= ∃v H',Inv X pins σ H' s'/\RelV v u/\Q v H'
def TP(X:Cx)(pins:List (Addr×Obj))(σ:St)(Q:Bool->Hp->Prop)(b:Bool)(s':Shared):Prop:= ∃H',Inv X pins σ H' s'/\Q b H'
def AP(X:Cx)(pins:List (Addr×Obj))(σ:St)(Q:List V->Hp->Prop)(us:List Value)(s':Shared):Prop:= ∃vs H',Inv X pins σ H' s'/\Vals vs us/\Q vs H'
def SP(X:Cx)(pins:List (Addr×Obj))(D:qN2)(f:Flow)(s':Shared):Prop:=
 match f with
 |.next=> ∃σ' H',Inv X pins σ' H' s'/\D.nx σ' H'
 |.brk=> ∃σ' H',Inv X pins σ' H' s'/\D.bk σ' H'
 |.cont=> ∃σ' H',Inv X pins σ' H' s'/\D.ct σ' H'
 |.ret u=> ∃v σ' H',Inv X pins σ' H' s'/\RelV v u/\D.rt v H'
def PE(X:Cx)(e:Expr)(t:TE):Prop:=
 ∀(pins:List (Addr×Obj)) (s:Shared) (σ:St) (H:Hp) (Q:VK),Inv X pins σ H s->t σ H Q->wpAny (model X.prog X.w) X.A (eval e X.env) (EP X pins σ Q) X.xe s
def PT(X:Cx)(e:Expr)(t:TT):Prop:=
 ∀(pins:List (Addr×Obj)) (s:Shared) (σ:St) (H:Hp) (Q:Bool->Hp->Prop),Inv X pins σ H s->t σ H Q->wpAny (model X.prog X.w) X.A (isTrue e X.env (eval e X.env)) (TP X pins σ Q) X.xe s
def PW(X:Cx)(e:Expr)(t:TT):Prop:=
 ∀(whole:Sem Value) (pins:List (Addr×Obj)) (s:Shared) (σ:St) (H:Hp) (Q:Bool->Hp->Prop),Inv X pins σ H s->t σ H Q->wpAny (model X.prog X.w) X.A (isTrue e X.env whole) (TP X pins σ Q) X.xe s
theorem PW.pt{X:Cx}{e:Expr}{t:TT}(h:PW X e t):PT X e t:=h _
def PA(X:Cx)(es:List Expr)(t:TA):Prop:=
 ∀(pos:Pos) (pins:List (Addr×Obj)) (s:Shared) (σ:St) (H:Hp) (Q:List V->Hp->Prop),Inv X pins σ H s->t σ H Q->wpAny (model X.prog X.w) X.A (spliced (backTo pos (starEach es X.env))) (AP X pins σ Q) X.xe s
def PS(X:Cx)(st:Stmt)(t:TS):Prop:=
 ∀(pins:List (Addr×Obj)) (s:Shared) (σ:St) (H:Hp) (D:qN2),Inv X pins σ H s->t D σ H->wpAny (model X.prog X.w) X.A (exec st X.env) (SP X pins D) X.xe s
def PSs(X:Cx)(st:List Stmt)(t:TS):Prop:=
 ∀(pins:List (Addr×Obj)) (s:Shared) (σ:St) (H:Hp) (D:qN2),Inv X pins σ H s->t D σ H->wpAny (model X.prog X.w) X.A (execs st X.env) (SP X pins D) X.xe s
theorem thn{α:Type}{t:Sem α}{Q Q':α->Shared->Prop}{M:Model}{A:Around}{E:Value->Shared->Prop}{s:Shared}(h:wpAny M A t Q E s)(hQ:∀a s,Q a s->Q' a s):wpAny M A t Q' E s:=YL h hQ λ_ _ x=>x
section
variable{X:Cx}
inductive qXo(i:Nat)(σ:L2.St)(H:Hp)(Q:VK):Prop
|mk v (_:σ[i]?=some (some v)) (_:Q v H)
def tC(v:V):TE:=λ_ H Q=>Q v H
theorem qXc{i:Nat}{x:Str}{pos:Pos}(hN:X.N[i]?=some x)(hv:Vis X.env.scope x)(hd:(x==("__debug__":Str))=false:=by decide)(hcd:(x==("__classdict__":Str))=false:=by decide):PE X (.Name x pos) (qXo i):=by
 intro pins s σ H Q I h;obtain⟨v,e,h⟩:=h;obtain⟨m,hn,hl⟩:=I.loc;obtain⟨u,r,l⟩:=hl i x v hN e hv;have fin:EP X pins σ Q u s:=⟨v,H,I,r,h⟩;rcases l with ⟨hk,hm⟩|⟨hk,c,hc,hcell⟩
 . exact wpAny_Name (wpAny_loadName_local I.ok.kind hk hn hm fin) hd
 . rcases hk with hk|hk
   . exact wpAny_Name (wpAny_loadName_cell I.ok.kind hk hc hcell fin) hd
   . exact wpAny_Name (wpAny_loadName_free I.ok.kind hk hc hcell fin hcd) hd
theorem qG{i j pos}:PE X (.Constant (.int i) j pos) (tC (.int i)):=λ_ _ _ H _ I h=>wpAny_Constant_int ⟨.int i,H,I.tok _,⟨_,rfl⟩,h⟩
theorem kL{b j pos}:PE X (.Constant (.bool b) j pos) (tC (.bl b)):=λ_ _ _ H _ I h=>Constant_bool ⟨.bl b,H,I,rfl,h⟩
theorem qBa{j pos}:PE X (.Constant .none j pos) (tC .non):=λ_ _ _ H _ I h=>Constant_none ⟨.non,H,I,rfl,h⟩
theorem qN{x j pos}:PE X (.Constant (.str x) j pos) (tC (.str x)):=λ_ _ _ H _ I h=>Calls.Constant_str ⟨.str x,H,I.tok _,⟨_,rfl⟩,h⟩
def Gl(X:Cx)(x:Str):Prop:=X.env.kindOf x=some .globalImplicit
theorem qAs{E:Value->Shared->Prop}{pins:List (Addr×Obj)}{s:Shared}{σ:St}{H:Hp}{x:Str}{u:Value}{pos:Pos}{Q:Value->Shared->Prop}(I:Inv X pins σ H s)(hg:Gl X x)(hm:X.mg x=some u)(h:Q u s)
 (hd:(x==("__debug__":Str))=false:=by decide):wpAny (model X.prog X.w) X.A (eval (.Name x pos) X.env) Q E s:=
 Calls.Name_function_global I.ok.kind hg (Calls.loadGlobal_global (by rw[I.ok.glob];exact I.mod.glob.keeps I.bk) hm h) hd
theorem qJz{E:Value->Shared->Prop}{pins:List (Addr×Obj)}{s:Shared}{σ:St}{H:Hp}{x:Str}{u:Value}{pos:Pos}{Q:Value->Shared->Prop}(I:Inv X pins σ H s)(hg:Gl X x)(hm:X.mg x=none)(hv:bootBuiltins x=some u)(h:Q u s)
 (hn:x≠"__name__":=by decide) (hd:(x==("__debug__":Str))=false:=by decide):wpAny (model X.prog X.w) X.A (eval (.Name x pos) X.env) Q E s:=by
 obtain⟨mb,h1,h2⟩:=I.mod.blt;exact Calls.Name_function_global I.ok.kind hg (Calls.loadGlobal_builtin (by rw[I.ok.glob];exact I.mod.glob.keeps I.bk) hm (by rw[I.ok.blt];exact h1.keeps I.bk) ((h2 x hn).trans hv) h) hd
theorem xY{x:Str}{v:V}{u:Value}{pos:Pos}(hg:Gl X x)(hm:X.mg x=some u)(r:RelV v u)(hd:(x==("__debug__":Str))=false:=by decide):PE X (.Name x pos) (tC v):=
 λ_ _ _ H _ I h=>qAs I hg hm ⟨v,H,I,r,h⟩ hd
theorem qVl{x:Str}{v:V}{u:Value}{pos:Pos}(hg:Gl X x)(hm:X.mg x=none)(hv:bootBuiltins x=some u)(r:RelV v u)(hn:x≠"__name__":=by decide)(hd:(x==("__debug__":Str))=false:=by decide):PE X (.Name x pos) (tC v):=
 λ_ _ _ H _ I h=>qJz I hg hm hv ⟨v,H,I,r,h⟩ hn hd
variable{a b:Expr}{ta tb:TE}{pos:Pos}
def PC(X:Cx)(op:CmpOp)(a b:Expr)(t:TE):Prop:=
 ∀(pins:List (Addr×Obj)) (s:Shared) (σ:St) (H:Hp) (Q:VK),Inv X pins σ H s->t σ H Q->
  wpAny (model X.prog X.w) X.A (eval a X.env) (λv s₁=>wpAny (model X.prog X.w) X.A (eval b X.env) (λu s₂=>wpAny (model X.prog X.w) X.A (compareOp op v u) (EP X pins σ Q) X.xe s₂) X.xe s₁) X.xe s
theorem qMj(b:Expr){op:CmpOp}(h:op≠ .In)(h2:op≠ .NotIn):behindInMarks op b=false:=by
 have e1:(op==CmpOp.In)=false:=by cases op <;> first|rfl|exact YC rfl h
 have e2:(op==CmpOp.NotIn)=false:=by cases op <;> first|rfl|exact YC rfl h2
 cases b <;> simp[behindInMarks,e1,e2]
def qZ1(ta:TE):TE:=λσ H Q=>ta σ H λx H1=>Q (.bl (decide (x=.non))) H1
def qY4(ta:TE):TE:=λσ H Q=>ta σ H λx H1=>Q (.bl (!decide (x=.non))) H1
theorem RelV.none_iff{x:V}{v:Value}(r:RelV x v):(v==Value.none)=decide (x=.non):=by
 cases x with
 |non=>cases r;rfl
 |bl _=>cases r;rfl
 |int _=>obtain⟨t,rfl⟩:=r;rfl
 |str _=>obtain⟨t,rfl⟩:=r;rfl
 |byt _=>obtain⟨t,rfl⟩:=r;rfl
 |flt _=>obtain⟨t,rfl⟩:=r;rfl
 |ref _=>cases r;rfl
 |ty _=>cases r;rfl
theorem qA7{j pos'}(ha:PE X a ta):PC X .Is a (.Constant .none j pos') (qZ1 ta):=by intro pins s σ H Q I h;refine thn (ha pins s σ H _ I h) λv s1 ⟨x,H1,I1,r1,q1⟩=>?_;exact Constant_none (is_none_gen ⟨.bl _,H1,I1,by rw[r1.none_iff];rfl,q1⟩)
theorem qUq{j pos'}(ha:PE X a ta):PC X .IsNot a (.Constant .none j pos') (qY4 ta):=by intro pins s σ H Q I h;refine thn (ha pins s σ H _ I h) λv s1 ⟨x,H1,I1,r1,q1⟩=>?_;exact Constant_none (isnot_none_gen ⟨.bl _,H1,I1,by rw[r1.none_iff];rfl,q1⟩)
inductive tBI(Q:Bool->Hp->Prop)(x:V)(H1:Hp):Prop
|mk c (_:x=.bl c) (_:Q c H1)
def tB(t:TE):TT:=λσ H Q=>t σ H λx H1=>tBI Q x H1
theorem qWl{op:CmpOp}{t:TE}(h:PC X op a b t)(h1:behindInMarks op b=false:=by first|exact qMj _ (by decide) (by decide)|rfl):PE X (.Compare a [op] [b] pos) t:=λpins s σ H Q I hw=>wpAny_Compare1 (h pins s σ H Q I hw) h1
theorem wZ{op:CmpOp}{t:TE}(h:PC X op a b t)(h1:behindInMarks op b=false:=by first|exact qMj _ (by decide) (by decide)|rfl):PT X (.Compare a [op] [b] pos) (tB t):=by intro pins s σ H Q I hw;refine wpAny_isTrue_Compare1 (thn (h pins s σ H _ I hw) λv s1 h1=>thn h1 λu s2 h2=>thn h2 λc s3 ⟨x,H1,I1,r1,q1⟩=>?_) h1;obtain⟨d,rfl,q⟩:=q1;cases r1;exact wpAny_truthy_bool ⟨H1,I1,q⟩
theorem jO{e:Expr}{t:TE}(h:PE X e t)(he:∀whole,isTrue e X.env whole=(do let v<-whole;standAt e.pos;holding [v] (truthy v)):=by intro _;rfl):PT X e (tB t):=by intro pins s σ H Q I hw;refine isTrue_plain (thn (h pins s σ H _ I hw) λv s1 ⟨x,H1,I1,r1,q1⟩=>?_) (he _);obtain⟨d,rfl,q⟩:=q1;cases r1;exact wpAny_truthy_bool ⟨H1,I1,q⟩
variable{tA tB':TT}{rest:List Expr}
def qZz(t u:TT):TT:=λσ H Q=>t σ H λc H1=>if c=true then u σ H1 Q else Q false H1
def tOr(t u:TT):TT:=λσ H Q=>t σ H λc H1=>if c=true then Q true H1 else u σ H1 Q
def jAb(t:TT):TT:=λσ H Q=>t σ H λc H1=>Q (!c) H1
theorem xX(ha:PT X a tA):PW X (.BoolOp .And [a] pos) tA:=by
 intro wh pins s σ H Q I h;refine isTrue_and (thn (ha pins s σ H Q I h) λc s1 e=>?_);cases c with
 |true=>exact isTrue_and_nil e
 |false=>exact e
theorem ju(ha:PT X a tA):PW X (.BoolOp .Or [a] pos) tA:=by
 intro wh pins s σ H Q I h;refine isTrue_or (thn (ha pins s σ H Q I h) λc s1 e=>?_);cases c with
 |false=>exact isTrue_or_nil e
 |true=>exact e
theorem zn(ha:PT X a tA)(hb:PW X (.BoolOp .And (b::rest) pos) tB'):PW X (.BoolOp .And (a::b::rest) pos) (qZz tA tB'):=by
 intro wh pins s σ H Q I h;refine isTrue_and (thn (ha pins s σ H _ I h) λc s1 ⟨H1,I1,q1⟩=>?_);cases c with
 |true=>exact hb wh pins s1 σ H1 Q I1 q1
 |false=>exact⟨H1,I1,q1⟩
theorem xh(ha:PT X a tA)(hb:PW X (.BoolOp .Or (b::rest) pos) tB'):PW X (.BoolOp .Or (a::b::rest) pos) (tOr tA tB'):=by
 intro wh pins s σ H Q I h;refine isTrue_or (thn (ha pins s σ H _ I h) λc s1 ⟨H1,I1,q1⟩=>?_);cases c with
 |true=>exact⟨H1,I1,q1⟩
 |false=>exact hb wh pins s1 σ H1 Q I1 q1
theorem jr(ha:PT X a tA):PT X (.UnaryOp .Not a pos) (jAb tA):=by intro pins s σ H Q I h;exact isTrue_not (ha pins s σ H (λc H1=>Q (!c) H1) I h)
inductive qXb(tb:TE)(σ:L2.St)(Q:VK)(x:V)(H1:Hp):Prop
|mk c (_:x=.bl c) (_:if c=true then tb σ H1 Q else Q (.bl false) H1)
def qY3(ta tb:TE):TE:=λσ H Q=>ta σ H λx H1=>qXb tb σ Q x H1
inductive qYd(tb:TE)(σ:L2.St)(Q:VK)(x:V)(H1:Hp):Prop
|mk c (_:x=.bl c) (_:if c=true then Q (.bl true) H1 else tb σ H1 Q)
def qZp(ta tb:TE):TE:=λσ H Q=>ta σ H λx H1=>qYd tb σ Q x H1
inductive qWf(Q:VK)(x:V)(H1:Hp):Prop
|mk c (_:x=.bl c) (_:Q (.bl (!c)) H1)
def qX0(ta:TE):TE:=λσ H Q=>ta σ H λx H1=>qWf Q x H1
theorem vK{op}{t:TE}(h:PE X a t):PE X (.BoolOp op [a] pos) t:=λpins s σ H Q I hw=>BoolOp_one (h pins s σ H Q I hw)
theorem zq(ha:PE X a ta)(hb:PE X (.BoolOp .And (b::rest) pos) tb):PE X (.BoolOp .And (a::b::rest) pos) (qY3 ta tb):=by
 intro pins s σ H Q I h;refine BoolOp_and (thn (ha pins s σ H _ I h) λv s1 ⟨x,H1,I1,r1,q1⟩=>?_);obtain⟨c,rfl,q1⟩:=q1;cases r1;refine wpAny_truthy_bool ?_;cases c with
 |true=>exact hb pins s1 σ H1 Q I1 q1
 |false=>exact⟨.bl false,H1,I1,rfl,q1⟩
theorem qYq(ha:PE X a ta)(hb:PE X (.BoolOp .Or (b::rest) pos) tb):PE X (.BoolOp .Or (a::b::rest) pos) (qZp ta tb):=by
 intro pins s σ H Q I h;refine BoolOp_or (thn (ha pins s σ H _ I h) λv s1 ⟨x,H1,I1,r1,q1⟩=>?_);obtain⟨c,rfl,q1⟩:=q1;cases r1;refine wpAny_truthy_bool ?_;cases c with
 |false=>exact hb pins s1 σ H1 Q I1 q1
 |true=>exact⟨.bl true,H1,I1,rfl,q1⟩
theorem qXm(ha:PE X a ta):PE X (.UnaryOp .Not a pos) (qX0 ta):=by intro pins s σ H Q I h;refine UnaryOp_ (thn (ha pins s σ H _ I h) λv s1 ⟨x,H1,I1,r1,q1⟩=>?_);obtain⟨c,rfl,q1⟩:=q1;cases r1;exact not_of (wpAny_truthy_bool ⟨.bl (!c),H1,I1,O,q1⟩)
def tIf(t:TT)(ta tb:TE):TE:=λσ H Q=>t σ H λc H1=>if c=true then ta σ H1 Q else tb σ H1 Q
theorem zw{c:Expr}(hc:PT X c tA)(ha:PE X a ta)(hb:PE X b tb):PE X (.IfExp c a b pos) (tIf tA ta tb):=by
 intro pins s σ H Q I h;refine wpAny_IfExp (thn (hc pins s σ H _ I h) λd s1 ⟨H1,I1,q1⟩=>?_);cases d with
 |true=>exact ha pins s1 σ H1 Q I1 q1
 |false=>exact hb pins s1 σ H1 Q I1 q1
end
def SqL(K:PySem.W.Frag)(H:Hp)(a:Addr)(xs:List V):Prop:=
 Rd H a (.lst xs)\/
  ∃(o:Obj) (its:Array Value) (n:Nat),K.lookup a=some o/\o.cls=.type "list"/\o.dict=none/\o.data=.seq its n/\its.size<=sizeLine/\Vals xs its.toList
def SqT(K:PySem.W.Frag)(H:Hp)(a:Addr)(xs:List V):Prop:=
 Rd H a (.tup xs)\/
  ∃(o:Obj) (its:Array Value) (n:Nat),K.lookup a=some o/\o.cls=.type "tuple"/\o.data=.seq its n/\its.size<=sizeLine/\Vals xs its.toList
noncomputable def qZv:Value->Option V
 |.none=>some .non
 |.bool b=>some (.bl b)
 |.int i _=>some (.int i)
 |.str x _=>some (.str x)
 |.bytes b _=>some (.byt b)
 |.float b _=>some (.flt b)
 |.ref a=>some (.ref a)
 |.type n=>some (.ty n)
 |_=>none
theorem RelV.abs{x:V}{u:Value}(r:RelV x u):qZv u=some x:=by
 cases x with
 |non=>cases r;rfl
 |bl _=>cases r;rfl
 |int _=>obtain⟨t,rfl⟩:=r;rfl
 |str _=>obtain⟨t,rfl⟩:=r;rfl
 |byt _=>obtain⟨t,rfl⟩:=r;rfl
 |flt _=>obtain⟨t,rfl⟩:=r;rfl
 |ref _=>cases r;rfl
 |ty _=>cases r;rfl
theorem RelV.inj{x y:V}{u:Value}(r:RelV x u)(q:RelV y u):x=y:=Yb (r.abs.symm.trans q.abs)
theorem Vals.inj:∀{xs ys:List V} {us:List Value},Vals xs us->Vals ys us->xs=ys
 |_,_,_,.nil,.nil=>rfl
 |_,_,_,.cons r t,.cons r' t'=>by rw[r.inj r',Vals.inj t t']
section
variable{X:Cx}{pins:List (Addr×Obj)}{σ:St}{H:Hp}{s:Shared}{a:Addr}{xs ys:List V}
theorem SqL.of{K:PySem.W.Frag}(h:H a=some (.lst xs)):SqL K H a xs:=.inl (.inl h)
theorem SqT.of{K:PySem.W.Frag}(h:H a=some (.tup xs)):SqT K H a xs:=.inl (.inl h)
theorem Inv.list(I:Inv X pins σ H s)(h:SqL X.K H a xs):∃its:List Value,Vals xs its/\PlainL s.heap a its.toArray/\xs.length<=sizeLine:=by
 rcases h with h|⟨o,its,n,hk,hc,hd,hs,hz,r⟩
 . obtain⟨z,its,n,r,e⟩:=h.ok I.hok
   exact⟨its,r,⟨_,n,e,O,O,O⟩,z⟩
 . refine⟨its.toList,r,⟨o,n,I.kIn a o hk,hc,hd,by simpa using hs⟩,?_⟩
   have e:=r.length;simp only[Array.length_toList]at e;omega
theorem Inv.tuple(I:Inv X pins σ H s)(h:SqT X.K H a xs):∃its:List Value,Vals xs its/\IsTup s.heap a its.toArray/\xs.length<=sizeLine:=by
 rcases h with h|⟨o,its,n,hk,hc,hs,hz,r⟩
 . obtain⟨z,its,r,p⟩:=h.ok I.hok
   exact⟨its,r,p,z⟩
 . refine⟨its.toList,r,⟨o,I.kIn a o hk,hc,n,by simpa using hs⟩,?_⟩
   have e:=r.length;simp only[Array.length_toList]at e;omega
theorem Inv.list_inj(I:Inv X pins σ H s)(h:SqL X.K H a xs)(h':SqL X.K H a ys):xs=ys:=by
 obtain⟨its,r,⟨o,n,e,_,_,d⟩,_⟩:=I.list h;obtain⟨its',r',⟨o',n',e',_,_,d'⟩,_⟩:=I.list h';rw[e]at e';cases e';rw[d]at d';injection d' with d1 _
 have:its=its':=by simpa using congrArg Array.toList d1
 subst this;exact r.inj r'
theorem Inv.tuple_inj(I:Inv X pins σ H s)(h:SqT X.K H a xs)(h':SqT X.K H a ys):xs=ys:=by
 obtain⟨its,r,⟨o,e,_,n,d⟩,_⟩:=I.tuple h;obtain⟨its',r',⟨o',e',_,n',d'⟩,_⟩:=I.tuple h';rw[e]at e';cases e';rw[d]at d';injection d' with d1 _
 have:its=its':=by simpa using congrArg Array.toList d1
 subst this;exact r.inj r'
end
abbrev Cx.wish(X:Cx)(E:Value->Shared->Prop):Cx:={X with xe:=E}
abbrev Cx.nox(X:Cx):Cx:=X.wish λ_ _=>False
theorem Cx.Ok.wish{X:Cx}(ok:X.Ok)(E:Value->Shared->Prop):(X.wish E).Ok:=
 ⟨ok.mod,ok.kind,ok.glob,ok.blt,ok.above,ok.inj,ok.has,ok.cab,ok.hd,ok.frames,ok.stk,ok.exf,ok.bs,ok.bsz,ok.noex,ok.exfs,ok.funs,ok.frf⟩
theorem Cx.Ok.unwish{X:Cx}{E:Value->Shared->Prop}(ok:(X.wish E).Ok):X.Ok:=
 ⟨ok.mod,ok.kind,ok.glob,ok.blt,ok.above,ok.inj,ok.has,ok.cab,ok.hd,ok.frames,ok.stk,ok.exf,ok.bs,ok.bsz,ok.noex,ok.exfs,ok.funs,ok.frf⟩
section
variable{X:Cx}{pins:List (Addr×Obj)}{σ:St}{H:Hp}{s:Shared}{E:Value->Shared->Prop}
theorem Inv.wish(I:Inv X pins σ H s)(E:Value->Shared->Prop):Inv (X.wish E) pins σ H s:=⟨I.ok.wish E,I.os,I.bare,I.base,I.loc,I.cell,I.free,I.freeC,I.pin,I.hok,I.len⟩
theorem Inv.unwish(I:Inv (X.wish E) pins σ H s):Inv X pins σ H s:=⟨I.ok.unwish,I.os,I.bare,I.base,I.loc,I.cell,I.free,I.freeC,I.pin,I.hok,I.len⟩
theorem SP.unwish{D:qN2}{f:Flow}{s':Shared}(h:SP (X.wish E) pins D f s'):SP X pins D f s':=by
 cases f with
 |next=>obtain⟨σ',H',I,q⟩:=h;exact⟨σ',H',I.unwish,q⟩
 |brk=>obtain⟨σ',H',I,q⟩:=h;exact⟨σ',H',I.unwish,q⟩
 |cont=>obtain⟨σ',H',I,q⟩:=h;exact⟨σ',H',I.unwish,q⟩
 |ret u=>obtain⟨v,σ',H',I,r,q⟩:=h;exact⟨v,σ',H',I.unwish,r,q⟩
theorem PSs.nox{st:List Stmt}{t:TS}(h:PSs X.nox st t):PSs X st t:=λpins s σ H D I hw=>
 YL (h pins s σ H D (I.wish _) hw) (λ_ _ q=>q.unwish) λ_ _ z=>False.elim z
end
section
variable{X:Cx}{st:Stmt}{rest:List Stmt}{t u:TS}{e:Expr}{te:TE}{pos:Pos}
def qYp:TS:=λD σ H=>D.nx σ H
def qZf(t u:TS):TS:=λD σ H=>t {D with nx:=u D} σ H
theorem qO:PSs X [] qYp:=λ_ _ σ H _ I h=>wpAny_execs_nil ⟨σ,H,I,h⟩
theorem qD(h1:PS X st t)(h2:PSs X rest u):PSs X (st::rest) (qZf t u):=by
 intro pins s σ H D I h;refine wpAny_execs_cons (thn (h1 pins s σ H {D with nx:=u D} I h) λf s1 q=>?_);cases f with
 |next=>
  obtain⟨σ',H',I',q⟩:=q;exact h2 pins s1 σ' H' D I' q
 |ret v=>exact q
 |brk=>exact q
 |cont=>exact q
theorem qF(h1:PS X st t):PSs X [st] t:=by
 intro pins s σ H D I h;refine wpAny_execs_cons (thn (h1 pins s σ H D I h) λf s1 q=>?_);cases f with
 |next=>exact wpAny_execs_nil q
 |ret v=>exact q
 |brk=>exact q
 |cont=>exact q
theorem Inv.quiet{pins:List (Addr×Obj)}{σ:St}{H:Hp}{s:Shared}(I:Inv X pins σ H s):interactive X.env=false:=by simp[interactive,I.ok.kind]
def qXu(te:TE):TS:=λD σ H=>te σ H λ_ H1=>D.nx σ H1
theorem jD(he:PE X e te)(hs:swapsWith e none pos.line X.env=pure false:=by rfl):PS X (.Expr e pos) (qXu te):=by intro pins s σ H D I h;exact wpAny_Expr_any (thn (he pins s σ H _ I h) λv s1 ⟨x,H1,I1,r1,q1⟩=>⟨σ,H1,I1,q1⟩) I.quiet hs
def qZr(te:TE):TS:=λD σ H=>te σ H D.rt
theorem qM(he:PE X e te):PS X (.Return (some e) pos) (qZr te):=by intro pins s σ H D I h;exact wpAny_Return_some (thn (he pins s σ H _ I h) λv s1 ⟨x,H1,I1,r1,q1⟩=>⟨x,σ,H1,I1,r1,q1⟩)
def qZn(c:TT)(t u:TS):TS:=λD σ H=>c σ H λb H1=>if b=true then t D σ H1 else u D σ H1
theorem qc{c:Expr}{a b:List Stmt}{tc:TT}(hc:PT X c tc)(ha:PSs X a t)(hb:PSs X b u):PS X (.If c a b pos) (qZn tc t u):=by
 intro pins s σ H D I h;refine wpAny_If (thn (hc pins s σ H _ I h) λd s1 ⟨H1,I1,q1⟩=>?_);cases d with
 |true=>exact ha pins s1 σ H1 D I1 q1
 |false=>exact hb pins s1 σ H1 D I1 q1
def qW8:TS:=λ_ _ _=>False
theorem xE{sts:List Stmt}:PSs X sts qW8:=λ_ _ _ _ _ _ h=>h.elim
end
abbrev TG:=V->St->Hp->(St->Hp->Prop)->Prop
abbrev TGs:=List V->St->Hp->(St->Hp->Prop)->Prop
def PG(X:Cx)(target:Expr)(t:TG):Prop:=
 ∀(pins:List (Addr×Obj)) (s:Shared) (σ:St) (H:Hp) (v:V) (u:Value) (Q:St->Hp->Prop),Inv X pins σ H s->RelV v u->t v σ H Q->
  wpAny (model X.prog X.w) X.A (assign target X.env u) (λ_ s'=> ∃σ' H',Inv X pins σ' H' s'/\Q σ' H') X.xe s
def PGs(X:Cx)(ts:List Expr)(t:TGs):Prop:=
 ∀(pins:List (Addr×Obj)) (s:Shared) (σ:St) (H:Hp) (vs:List V) (us:List Value) (Q:St->Hp->Prop),Inv X pins σ H s->Vals vs us->t vs σ H Q->
  wpAny (model X.prog X.w) X.A (assignInOrder ((assignEach ts X.env).map (·.2)) us) (λ_ s'=> ∃σ' H',Inv X pins σ' H' s'/\Q σ' H') X.xe s
abbrev qY6:=V->V->V->Hp->(Hp->Prop)->Prop
def qZa(X:Cx)(t:qY6):Prop:=
 ∀(pins:List (Addr×Obj)) (s:Shared) (σ:St) (H:Hp) (o i v:V) (ov iv u:Value) (Q:Hp->Prop),Inv X pins σ H s->RelV o ov->RelV i iv->RelV v u->t o i v H Q->
  wpAny (model X.prog X.w) X.A (setItem ov iv u) (λ_ s'=> ∃H',Inv X pins σ H' s'/\Q H') X.xe s
section
variable{X:Cx}{pos:Pos}
def qDd(i:Nat):TG:=λv σ H Q=>Q (σ.set i (some v)) H
theorem jX{i:Nat}{x:Str}(hN:X.N.Nodup)(hi:X.N[i]?=some x)(hx:Loc X.env.scope x)(hf:X.fn x=true\/X.env.scope.names.lookup x=some .local:=by trivial):PG X (.Name x pos) (qDd i):=by intro pins s σ H v u Q I r h;exact wpAny_assign_Name (kT I hN hi hx r (λs' I'=>⟨_,H,I',h⟩) hf)
noncomputable def qY8:TGs:=λvs σ H Q=>vs=[]/\Q σ H
inductive qO0(t:TG)(u:TGs)(vs:List V)(σ:L2.St)(H:Hp)(Q:L2.St->Hp->Prop):Prop
|mk v r (_:vs=v::r) (_:t v σ H λσ' H'=>u r σ' H' Q)
theorem qUg:PGs X [] qY8:=by intro pins s σ H vs us Q I r h;obtain⟨e,h⟩:=h;subst e;cases r;exact assignInOrder_nil ⟨σ,H,I,h⟩
theorem qMl{e:Expr}{es:List Expr}{t:TG}{u:TGs}(h1:PG X e t)(h2:PGs X es u)
 (hs:(assignEach (e::es) X.env).map (·.2)=assign e X.env::(assignEach es X.env).map (·.2):=by rfl):PGs X (e::es) (qO0 t u):=by
 intro pins s σ H vs us Q I r h;obtain⟨v,vr,e1,h⟩:=h;subst e1;cases r with
 |cons r rr=>
  rw[hs];refine assignInOrder_cons (thn (h1 pins s σ H _ _ _ I r h) λ_ s1 ⟨σ1,H1,I1,q1⟩=>?_);exact h2 pins s1 σ1 H1 _ _ Q I1 rr q1
inductive qZm(K:PySem.W.Frag)(n:Nat)(t:TGs)(v:V)(σ:L2.St)(H:Hp)(Q:L2.St->Hp->Prop):Prop
|mk a xs (_:v=.ref a) (_:SqT K H a xs) (_:xs.length=n) (_:t xs σ H Q)
theorem qVx{es:List Expr}{k:Nat}{t:TGs}{n:Nat}(hc:X.calm=true)(h:PGs X es t)
 (hn:(assignEach es X.env).length=n:=by rfl) (hst:(assignEach es X.env).findIdx? (·.1)=none:=by rfl):PG X (.Tuple es k pos) (qZm X.K n t):=by
 intro pins s σ H v u Q I r hw;obtain⟨a,xs,e1,hq,hl,hw⟩:=hw;subst e1;cases r;obtain⟨its,rv,ht,hz⟩:=I.tuple hq;refine assign_Tuple_tuple (I.ok.hd hc) ht (by simp[hn,<-hl,rv.length]) hst λh' hx=>?_;have I1:Inv X pins σ H {s with heap:=h'}:=I.kept (t':=s.toks) λb o e=>hx b o (Yo (YV e)) e;exact h pins _ σ H xs _ Q I1 (by simpa using rv) hw
def qZo(to ti:TE)(t:qY6):TG:=λv σ H Q=>to σ H λo H1=>ti σ H1 λi H2=>t o i v H2 λH3=>Q σ H3
theorem qMo{o i:Expr}{to ti:TE}{t:qY6}(ho:PE X o to)(hi:PE X i ti)(hs:qZa X t)
 (ha:∀v,assign (.Subscript o i pos) X.env v=(do
   let ov<-holding [v] (eval o X.env)
   let iv<-holding [v,ov] (eval i X.env)
   standAt pos
   holding [v,ov,iv] (setItem ov iv v)
   release [v,ov,iv] []):=by intro _;rfl):PG X (.Subscript o i pos) (qZo to ti t):=by
 intro pins s σ H v u Q I r h;rw[ha];refine YJ (wpAny_holding (thn (ho pins s σ H _ I h) λov s1 ⟨x,H1,I1,r1,q1⟩=>?_));refine YJ (wpAny_holding (thn (hi pins s1 σ H1 _ I1 q1) λiv s2 ⟨y,H2,I2,r2,q2⟩=>?_));refine YJ (wpAny_standAt (YJ (wpAny_holding (thn (hs pins s2 σ H2 x y v ov iv u _ I2 r1 r2 r q2) λ_ s3 ⟨H3,I3,q3⟩=>?_))));exact wpAny_release ⟨σ,H3,I3,q3⟩
def qWt(te:TE)(g:TG):TS:=λD σ H=>te σ H λx H1=>g x σ H1 D.nx
theorem qM5{tg e:Expr}{te:TE}{g:TG}(he:PE X e te)(hg:PG X tg g)(hs:swapsWithSole [tg] e pos.line X.env=pure false:=by rfl)(hw:swappedStores [tg] e X.env=pure none:=by rfl)
 (h1:(assignEach [tg] X.env).map (·.2)=[assign tg X.env]:=by rfl):PS X (.Assign [tg] e pos) (qWt te g):=by
 intro pins s σ H D I h;refine wpAny_Assign_stores (thn (he pins s σ H _ I h) λv s1 ⟨x,H1,I1,r1,q1⟩=>?_) hs hw;rw[h1];exact thn (hg pins s1 σ H1 x v _ I1 r1 q1) λ_ s2 q=>q
theorem qMs{i:Nat}{x:Str}{e:Expr}{te:TE}{pos':Pos}(hN:X.N.Nodup)(hi:X.N[i]?=some x)(hx:Loc X.env.scope x)(he:PE X e te)(hs:swapsWith e (some (.Name x pos')) pos.line X.env=pure false:=by rfl)(hf:X.fn x=true\/X.env.scope.names.lookup x=some .local:=by trivial):
 PS X (.Assign [.Name x pos'] e pos) (qWt te (qDd i)):=by
 intro pins s σ H D I h;refine wpAny_Assign_Name (thn (he pins s σ H _ I h) λv s1 ⟨y,H1,I1,r1,q1⟩=>?_) hs;exact kT I1 hN hi hx r1 (λs2 I2=>⟨_,H1,I2,q1⟩) hf
inductive qX5(i:Nat)(j:Nat)(D:qN2)(σ:L2.St)(vs:List V)(H1:Hp):Prop
|mk v w (_:vs=[v,w]) (_:D.nx ((σ.set i (some v)).set j (some w)) H1)
def qZy(i j:Nat)(ta:TA):TS:=λD σ H=>ta σ H λvs H1=>qX5 i j D σ vs H1
theorem qV0{i j:Nat}{x y:Str}{a b:Expr}{ta:TA}{px py pt:Pos}{kt k2 pt2}(hc:X.calm=true)(hN:X.N.Nodup)(hi:X.N[i]?=some x)(hj:X.N[j]?=some y)(hij:i≠j)
 (hx:X.env.scope.names.lookup x=some .local) (hy:X.env.scope.names.lookup y=some .local) (ha:PA X [a,b] ta)
 (hw:swappedStores [.Tuple [.Name x px,.Name y py] kt pt] (.Tuple [a,b] k2 pt2) X.env=pure (some [x,y]))
 (hs:swapsWithSole [.Tuple [.Name x px,.Name y py] kt pt] (.Tuple [a,b] k2 pt2) pos.line X.env=pure false:=by rfl):
 PS X (.Assign [.Tuple [.Name x px,.Name y py] kt pt] (.Tuple [a,b] k2 pt2) pos) (qZy i j ta):=by
 intro pins s σ H D I h;rw[exec_Assign_arm];refine YJ (wpAny_standAt ?_);rw[hs];refine YJ (YK ?_);rw[YA (by decide)];refine YJ (Tuple_ (thn (ha _ pins s σ H _ I h) λus s1 ⟨vs,H1,I1,r1,q1⟩=>?_));obtain⟨v,w,e1,q1⟩:=q1;subst e1;obtain⟨u1,u2,rfl,rv,rw'⟩:∃u1 u2,us=[u1,u2]/\RelV v u1/\RelV w u2:=by
  cases r1 with
  |cons p q=>
   cases q with
   |cons p' q'=>
    cases q';exact⟨_,_,O,p,p'⟩
 refine wpAny_newObj_type ?_ (by show 2<=sizeLine;decide);have I2:Inv X pins σ H1 {s1 with heap:=s1.heap.push {cls:=.type "tuple",data:=.seq [u1,u2].toArray}}:=I1.kept (t':=s1.toks) λb o e=>YM _ e;rw[hw];refine YJ (YK ?_);show wpAny (model X.prog X.w) X.A (do rule "assign.swapped-stores";let items<-unpackItems (.ref s1.heap.objs.size) 2 none;assignInOrder [λv=>bindName X.env y v,λv=>bindName X.env x v] items.reverse;pure Flow.next) _ _ _;refine YJ (wpAny_rule (YJ (unpackItems_tuple (items:= #[u1,u2]) (I.ok.hd hc) (IsTup.new s1.heap _) λh' hx'=>?_)));have I3:=I2.kept (h':=h') (t':=s1.toks) λb o e=>hx' b o (Yo (YV e)) e;show wpAny _ _ (assignInOrder [λv=>bindName X.env y v,λv=>bindName X.env x v] [u2,u1]>>=λ_=>pure Flow.next) _ _ _;refine YJ (assignInOrder_cons (wpAny_bindName (kT I3 hN hj (.inl hy) rw' (λs2 I4=>?_) (.inr hy))));refine assignInOrder_cons (wpAny_bindName (kT I4 hN hi (.inl hx) rv (λs3 I5=>assignInOrder_nil (YK ?_)) (.inr hx)));rw[List.set_comm _ _ (ZG hij)]at I5;exact⟨_,H1,I5,q1⟩
end
section
variable{X:Cx}{pos:Pos}
def qTn(c:TT)(tb:TS):TS:=λD σ H=> ∃W:Nat->St->Hp->Prop,(∃m,W m σ H)/\∀m σ H,W m σ H->
 c σ H λb H1=>if b=true then ∃N:St->Hp->Prop,(∀σ' H',N σ' H'->∃m',m'<m/\W m' σ' H')/\tb {D with nx:=N,ct:=N,bk:=D.nx} σ H1 else D.nx σ H1
theorem qM3{c:Expr}{body:List Stmt}{tc:TT}{tb:TS}(hp:PassesOwn (model X.prog X.w) X.A X.env X.xe)(hc:PT X c tc)(hb:PSs X body tb):PS X (.While c body [] pos) (qTn tc tb):=by
 intro pins s σ H D I h;obtain⟨W,⟨m0,w0⟩,turn⟩:=h;refine wpAny_While (codeAny_whileLoop (λn s'=> ∃σ' H',Inv X pins σ' H' s'/\W n σ' H') ?_ m0 ⟨σ,H,I,w0⟩);rintro n s1 ⟨σ1,H1,I1,w1⟩;refine wpAny_passesOwn hp (thn (hc pins s1 σ1 H1 _ I1 (turn n σ1 H1 w1)) λb s2 ⟨H2,I2,q2⟩=>?_);cases b with
 |true=>
  obtain⟨N,hN,q2⟩:=q2;rw[YB rfl];refine wpAny_passesOwn hp (thn (hb pins s2 σ1 H2 _ I2 q2) λf s3 q3=>?_);cases f with
  |next=>
   obtain⟨σ3,H3,I3,n3⟩:=q3;obtain⟨m',hm,w3⟩:=hN σ3 H3 n3;exact⟨m',hm,σ3,H3,I3,w3⟩
  |cont=>
   obtain⟨σ3,H3,I3,n3⟩:=q3;obtain⟨m',hm,w3⟩:=hN σ3 H3 n3;exact⟨m',hm,σ3,H3,I3,w3⟩
  |brk=>exact q3
  |ret v=>exact q3
 |false=>
  rw[YA YZ];exact wpAny_execs_nil ⟨σ1,H2,I2,q2⟩
end
structure It where
 go:Nat->Hp->Prop
 yld:Nat->Hp->V->Hp->Prop
 stop:Nat->Hp->Prop
def qSr(X:Cx)(pins:List (Addr×Obj))(H:Hp)(b:Addr):Prop:=
 H b=none/\b≠X.env.locals/\b∉X.fs/\(b∈X.ex\/X.s₀.heap.objs.size<=b)/\(∀x c,X.env.cells.lookup x=some c->c≠b)/\∀p∈X.pn++pins,p.1≠b
theorem Inv.fpOk{X:Cx}{pins:List (Addr×Obj)}{σ:St}{H H':Hp}{s:Shared}{b:Addr}(I:Inv X pins σ H s)(hb:s.heap.objs.size<=b)(hn:H' b=none):qSr X pins H' b:=by
 refine⟨hn,Nat.ne_of_gt (YR I.lt hb),I.nofs hb,.inr (ZD I.sz hb),λx c e z=>?_,λp hp z=>?_⟩
 . obtain⟨v,q⟩:=I.cell x c e
   exact YC (YR q.lt (by rw[z];exact hb)) (Nat.lt_irrefl _)
 . exact YC (YR (YV (I.pin p hp).1) (by rw[z];exact hb)) (Nat.lt_irrefl _)
structure qVs(P:Program)(w:World)(K:PySem.W.Frag)(tg:Expr)(J:It)(fp:List Addr)(it:Addr)(tn:Nat->Heap->Prop):Prop where
 mem:it∈fp
 obj:∀i h,tn i h->∀b∈fp,∃o,h.get? b=some o/\∀v,o.data≠ .cell v
 keep:∀i h h',tn i h->(∀b∈fp,∀o,h.get? b=some o->h'.get? b=some o)->tn i h'
 item:∀(X:Cx),X.prog=P->X.w=w->X.K=K->X.calm=true->∀(i:Nat) (pins:List (Addr×Obj)) (s:Shared) (σ:St) (H:Hp) (E:Value->Shared->Prop),Inv X pins σ H s->(∀b∈fp,qSr X pins H b)->tn i s.heap->J.go i H->
  wpAny (model P w) X.A (pyNext (.ref it)) (λr s1=> ∃u,r=some u/\
   wpAny (model P w) X.A (letOwnedTupleGo tg (.ref it) u) (λ_ s2=> ∃x H',Inv X pins σ H' s2/\RelV x u/\J.yld i H x H'/\tn (i+1) s2.heap/\∀b∈fp,H' b=none) E s1) E s
 done:∀(X:Cx),X.prog=P->X.w=w->X.K=K->X.calm=true->∀(i:Nat) (pins:List (Addr×Obj)) (s:Shared) (σ:St) (H:Hp) (E:Value->Shared->Prop),Inv X pins σ H s->(∀b∈fp,qSr X pins H b)->tn i s.heap->J.stop i H->
  wpAny (model P w) X.A (pyNext (.ref it)) (λr s1=>r=none/\Inv X pins σ H s1) E s
 self:∀(A:Around) (i:Nat) (s:Shared) (Q:Value->Shared->Prop) (E:Value->Shared->Prop),tn i s.heap->Q (.ref it) s->wpAny (model P w) A (pyIter (.ref it)) Q E s
abbrev TI:=St->Hp->(It->Hp->Prop)->Prop
def PIE(X:Cx)(pins:List (Addr×Obj))(σ:St)(tg:Expr)(R:It->Hp->Prop)(itv:Value)(s2:Shared):Prop:=
 ∃(it:Addr) (fp:List Addr) (tn:Nat->Heap->Prop) (J:It) (H':Hp),itv=.ref it/\Inv X pins σ H' s2/\qVs X.prog X.w X.K tg J fp it tn/\tn 0 s2.heap/\(∀b∈fp,qSr X pins H' b)/\R J H'
def PI(X:Cx)(tg iter:Expr)(wi:TI):Prop:=
 ∀(pins:List (Addr×Obj)) (s:Shared) (σ:St) (H:Hp) (R:It->Hp->Prop),Inv X pins σ H s->wi σ H R->
  wpAny (model X.prog X.w) X.A (eval iter X.env) (λv s1=>wpAny (model X.prog X.w) X.A (pyIter v) (PIE X pins σ tg R) X.xe s1) X.xe s
theorem qR2{M:Model}{A:Around}{E:Value->Shared->Prop}{s:Shared}{tg:Expr}{it:Addr}{u:Value}{o:Obj}{n:String}{vs:Array Value}{Q:Unit->Shared->Prop}(ho:s.heap.get? it=some o)(hc:o.cls=.type n)(hd:o.data=.fields vs)
 (hn:["enumerate","zip","dict_itemiterator","dict_reverseitemiterator","odict_iterator","itertools.zip_longest","itertools.pairwise"].contains n=false) (hQ:Q () s):wpAny M A (letOwnedTupleGo tg (.ref it) u) Q E s:=by
 unfold letOwnedTupleGo;cases tg <;> first
  |exact YK hQ
  |(cases u <;> first
     |exact YK hQ
     |(refine YJ (wpAny_load ho ?_)
       rw[hc,hd];show wpAny M A (if (["enumerate","zip","dict_itemiterator","dict_reverseitemiterator","odict_iterator","itertools.zip_longest","itertools.pairwise"].contains n && vs[0]?==some (rawInt _))=true then _ else _) Q E s;rw[YA (by intro h;rw[hn,Bool.false_and]at h;cases h)];exact YK hQ))
noncomputable def Itl(K:PySem.W.Frag)(a:Addr):It:=
 ⟨λi H=> ∃xs x,SqL K H a xs/\xs[i]?=some x,λi H x H'=>H'=H/\∀xs,SqL K H a xs->xs[i]?=some x,λi H=> ∃xs,SqL K H a xs/\xs.length<=i⟩
noncomputable def Itt(K:PySem.W.Frag)(a:Addr):It:=
 ⟨λi H=> ∃xs x,SqT K H a xs/\xs[i]?=some x,λi H x H'=>H'=H/\∀xs,SqT K H a xs->xs[i]?=some x,λi H=> ∃xs,SqT K H a xs/\xs.length<=i⟩
noncomputable def Itr(lo:Int)(n:Nat):It:=⟨λi _=>i<n,λi H x H'=>H'=H/\x=.int (lo+i),λi _=>n<=i⟩
theorem qQ9{P:Program}{w:World}{K:PySem.W.Frag}{tg:Expr}(a it:Addr):qVs P w K tg (Itl K a) [it] it (λi h=>h.IsListIter it a i) where
 mem:=by simp
 obj:=λi h st b hb=>by
  have e:b=it:=by simpa using hb
  subst e;obtain⟨o,e,c,d⟩:=st;exact⟨o,e,λv z=>by rw[d]at z;cases z⟩
 keep:=λi h h' st k=>st.at λo e=>k it (by simp) o e
 item:=by intro X hP hw hK hc i pins s σ H E I hf st hg;subst hP hw hK;obtain⟨xs,x,hq,hx⟩:=hg;obtain⟨its,rv,p,hz⟩:=I.list hq;obtain⟨u,hu,ru⟩:=rv.get hx;obtain⟨f0,f1,f2,f3,f4,f5⟩:=hf it (by simp);refine wpAny_pyNext_list_item st p.isList (x:=u) (by simpa using hu) λh' st' sb=>?_;have I1:Inv X pins σ H {s with heap:=h'}:=I.turned (t':=s.toks) (λb o hb e=>(sb.2 b hb).trans e) f0 f1 f3 f4 f5;obtain⟨o,e,c,d⟩:=id st';exact⟨u,O,qR2 (s:={s with heap:=h'}) e c d (by decide) ⟨x,H,I1,ru,⟨O,λys hy=>by rw[I.list_inj hy hq];exact hx⟩,st',λb hb=>(hf b hb).1⟩⟩
 done:=by intro X hP hw hK hc i pins s σ H E I hf st hg;subst hP hw hK;obtain⟨xs,hq,hx⟩:=hg;obtain⟨its,rv,p,hz⟩:=I.list hq;obtain⟨f0,f1,f2,f3,f4,f5⟩:=hf it (by simp);have hl:=rv.length;exact wpAny_pyNext_list_end (I.ok.hd hc) st p.isList (by simp;omega) λh' eb=>⟨O,I.turned (t':=s.toks) (λb o hb e=>eb b o hb e) f0 f1 f3 f4 f5⟩
 self:=λ_ _ _ _ _ st h=>wpAny_pyIter_listiter st h
theorem qOz{P:Program}{w:World}{K:PySem.W.Frag}{tg:Expr}(a it:Addr):qVs P w K tg (Itt K a) [it] it (λi h=>h.IsTupleIter it a i) where
 mem:=by simp
 obj:=λi h st b hb=>by
  have e:b=it:=by simpa using hb
  subst e;obtain⟨o,e,c,d⟩:=st;exact⟨o,e,λv z=>by rw[d]at z;cases z⟩
 keep:=λi h h' st k=>st.at λo e=>k it (by simp) o e
 item:=by intro X hP hw hK hc i pins s σ H E I hf st hg;subst hP hw hK;obtain⟨xs,x,hq,hx⟩:=hg;obtain⟨its,rv,p,hz⟩:=I.tuple hq;obtain⟨u,hu,ru⟩:=rv.get hx;obtain⟨f0,f1,f2,f3,f4,f5⟩:=hf it (by simp);refine wpAny_pyNext_tuple_item st (show s.heap.IsTuple a its.toArray from p) (x:=u) (by simpa using hu) λh' st' sb=>?_;have I1:Inv X pins σ H {s with heap:=h'}:=I.turned (t':=s.toks) (λb o hb e=>(sb.2 b hb).trans e) f0 f1 f3 f4 f5;obtain⟨o,e,c,d⟩:=id st';exact⟨u,O,qR2 (s:={s with heap:=h'}) e c d (by decide) ⟨x,H,I1,ru,⟨O,λys hy=>by rw[I.tuple_inj hy hq];exact hx⟩,st',λb hb=>(hf b hb).1⟩⟩
 done:=by intro X hP hw hK hc i pins s σ H E I hf st hg;subst hP hw hK;obtain⟨xs,hq,hx⟩:=hg;obtain⟨its,rv,p,hz⟩:=I.tuple hq;obtain⟨f0,f1,f2,f3,f4,f5⟩:=hf it (by simp);have hl:=rv.length;exact wpAny_pyNext_tuple_end (I.ok.hd hc) st (show s.heap.IsTuple a its.toArray from p) (by simp;omega) λh' eb=>⟨O,I.turned (t':=s.toks) (λb o hb e=>eb b o hb e) f0 f1 f3 f4 f5⟩
 self:=λ_ _ _ _ _ st h=>wpAny_pyIter_tupleiter st h
theorem qNw{P:Program}{w:World}{K:PySem.W.Frag}{tg:Expr}(it:Addr)(lo:Int)(n:Nat):qVs P w K tg (Itr lo n) [it] it (λi h=>IsRangeIter h it (lo+(i:Nat)*1) ((n:Int)-(i:Nat)) 1) where
 mem:=by simp
 obj:=λi h st b hb=>by
  have e:b=it:=by simpa using hb
  subst e;exact⟨_,st,λv z=>by have z':Data.fields _=Data.cell v:=z;cases z'⟩
 keep:=λi h h' st k=>k it (by simp) _ st
 item:=by intro X hP hw hK hc i pins s σ H E I hf st hg;subst hP hw hK;obtain⟨f0,f1,f2,f3,f4,f5⟩:=hf it (by simp);have W:=Walks.range (prog:=X.prog) (w:=X.w) (I.ok.hd hc) it lo 1 n;refine W.item i s _ _ hg st λv h' tk hv st' kk=>?_;obtain⟨t,rfl⟩:=hv;have I1:Inv X pins σ H {s with heap:=h',toks:=tk}:=I.turned (λb o hb e=>kk b o (by simpa using hb) e) f0 f1 f3 f4 f5;refine⟨_,O,qR2 (s:={s with heap:=h',toks:=tk}) (n:="range_iterator") st' rfl rfl (by decide) ⟨.int (lo+i),H,I1,⟨t,?_⟩,⟨O,O⟩,st',λb hb=>(hf b hb).1⟩⟩;rw[Int.mul_one]
 done:=by intro X hP hw hK hc i pins s σ H E I hf st hg;subst hP hw hK;obtain⟨f0,f1,f2,f3,f4,f5⟩:=hf it (by simp);exact wpAny_pyNext_range_end (I.ok.hd hc) st (by have:n<=i:=hg;omega) λh' eb=>⟨rfl,I.turned (t':=s.toks) (λb o hb e=>eb b o hb e) f0 f1 f3 f4 f5⟩
 self:=λ_ _ _ _ _ st h=>wpAny_pyIter_rangeiter st h
section
variable{X:Cx}{tg:Expr}
inductive qWm(K:PySem.W.Frag)(R:It->Hp->Prop)(x:V)(H1:Hp):Prop
|mk a (_:x=.ref a) (_:(∃xs,SqL K H1 a xs)) (_:R (Itl K a) H1)
def qYb(K:PySem.W.Frag)(tl:TE):TI:=λσ H R=>tl σ H λx H1=>qWm K R x H1
inductive qYn(K:PySem.W.Frag)(R:It->Hp->Prop)(x:V)(H1:Hp):Prop
|mk a (_:x=.ref a) (_:(∃xs,SqT K H1 a xs)) (_:R (Itt K a) H1)
def qZ4(K:PySem.W.Frag)(tl:TE):TI:=λσ H R=>tl σ H λx H1=>qYn K R x H1
theorem jc{l:Expr}{tl:TE}(hl:PE X l tl):PI X tg l (qYb X.K tl):=by
 intro pins s σ H R I h;refine thn (hl pins s σ H _ I h) λv s1 ⟨x,H1,I1,r1,q1⟩=>?_;obtain⟨a,e,⟨xs,hq⟩,q⟩:=q1;subst e;cases r1;obtain⟨its,rv,p,hz⟩:=I1.list hq;refine wpAny_pyIter_list p.isList ?_;refine⟨s1.heap.objs.size,[s1.heap.objs.size],_,_,H1,O,I1.kept (t':=s1.toks) λb o e=>YM _ e,qQ9 a _,⟨_,Yn _ rfl,O,O⟩,λb hb=>?_,q⟩;have e:b=s1.heap.objs.size:=by simpa using hb
 subst e;exact I1.fpOk (YI _) (I1.hok.fresh (YI _))
theorem qT0{l:Expr}{tl:TE}(hl:PE X l tl):PI X tg l (qZ4 X.K tl):=by
 intro pins s σ H R I h;refine thn (hl pins s σ H _ I h) λv s1 ⟨x,H1,I1,r1,q1⟩=>?_;obtain⟨a,e,⟨xs,hq⟩,q⟩:=q1;subst e;cases r1;obtain⟨its,rv,p,hz⟩:=I1.tuple hq;refine wpAny_pyIter_tuple (show s1.heap.IsTuple a its.toArray from p) ?_;refine⟨s1.heap.objs.size,[s1.heap.objs.size],_,_,H1,O,I1.kept (t':=s1.toks) λb o e=>YM _ e,qOz a _,⟨_,Yn _ rfl,O,O⟩,λb hb=>?_,q⟩;have e:b=s1.heap.objs.size:=by simpa using hb
 subst e;exact I1.fpOk (YI _) (I1.hok.fresh (YI _))
theorem qRu{pins:List (Addr×Obj)}{σ:St}{H:Hp}{s:Shared}{R:It->Hp->Prop}{E:Value->Shared->Prop}{lo hi:Int}{t u v:Tok}{tk:Nat}(I:Inv X pins σ H s)(h1: -(2 ^ 62)<=lo)(h2:lo<2 ^ 62)(h3: -(2 ^ 62)<=hi)(h4:hi<2 ^ 62)
 (q:R (Itr lo (hi-lo).toNat) H):wpAny (model X.prog X.w) X.A (pyIter (.ref s.heap.objs.size)) (PIE X pins σ tg R) E {s with heap:=s.heap.push {cls:=.type "range",data:=.fields #[.int lo t,.int hi u,.int 1 v]},toks:=tk}:=by
 refine wpAny_pyIter_range (IsRange.new ..) (small_one h1 h2 h3 h4) ?_;have I1:Inv X pins σ H {s with heap:=s.heap.push {cls:=.type "range",data:=.fields #[.int lo t,.int hi u,.int 1 v]},toks:=tk}:=I.kept λb o e=>YM _ e;refine⟨(s.heap.push {cls:=.type "range",data:=.fields #[.int lo t,.int hi u,.int 1 v]}).objs.size,[(s.heap.push {cls:=.type "range",data:=.fields #[.int lo t,.int hi u,.int 1 v]}).objs.size],_,_,H,O,
  I1.kept (t':=tk) λb o e=>YM _ e,qNw _ lo (hi-lo).toNat,?_,λb hb=>?_,q⟩
 . have e1:lo+((0:Nat):Int)*1=lo:=by simp
   have e2:(((hi-lo).toNat:Nat):Int)-((0:Nat):Int)=Builtin.Range.rangeSize lo hi 1:=by rw[rangeSize_one];split <;> omega
   show IsRangeIter _ _ (lo+((0:Nat):Int)*1) ((((hi-lo).toNat:Nat):Int)-((0:Nat):Int)) 1;rw[e1,e2];exact Yn _ rfl
 . have e:b=(s.heap.push {cls:=.type "range",data:=.fields #[.int lo t,.int hi u,.int 1 v]}).objs.size:=by simpa using hb
   subst e;exact I1.fpOk (YI _) (I1.hok.fresh (YI _))
def qYe(ta:TA):TI:=λσ H R=>ta σ H λvs H1=> ∃j:Int,vs=[.int j]/\ -(2 ^ 62)<=j/\j<2 ^ 62/\R (Itr 0 j.toNat) H1
theorem vi{a:Expr}{ta:TA}{p pos:Pos}(hg:Gl X "range")(hm:X.mg "range"=none)(ha:PA X [a] ta)(hs:starEach [a] X.env=[(false,eval a X.env)]:=by rfl):PI X tg (.Call (.Name "range" p) [a] [] pos) (qYe ta):=by
 intro pins s σ H R I h;refine Call_ (qJz I hg hm boot_range (PyProof.Rows.callWith_type1 (thn (ha pos pins s σ H _ I h) λus s1 ⟨vs,H1,I1,r1,q1⟩=>?_) hs rfl));obtain⟨j,e,q1,q2,q⟩:=q1;subst e;cases r1 with
 |cons r rr=>
  cases rr;obtain⟨t,rfl⟩:=r;exact call_range_1 (qRu I1 (by omega) (by omega) q1 q2 (by simpa using q))
def qZw(wi:TI)(g:TG)(tb:TS):TS:=λD σ H=>wi σ H λJ H1=> ∃W:Nat->Nat->St->Hp->Prop,(∃m,W 0 m σ H1)/\∀i m σ H,W i m σ H->
 (J.stop i H/\D.nx σ H)\/(J.go i H/\∃N:St->Hp->Prop,(∀σ' H',N σ' H'->∃m',m'<m/\W (i+1) m' σ' H')/\∀x H',J.yld i H x H'->g x σ H' λσ2 H2=>tb {D with nx:=N,ct:=N,bk:=D.nx} σ2 H2)
noncomputable def qJn(fp:List Addr)(h:Heap):List (Addr×Obj):=fp.filterMap λb=>(h.get? b).map λo=>(b,o)
theorem qCo{fp:List Addr}{h:Heap}{b:Addr}{o:Obj}(hb:b∈fp)(e:h.get? b=some o):(b,o)∈qJn fp h:=List.mem_filterMap.mpr ⟨b,hb,by rw[e];rfl⟩
theorem qP9{fp:List Addr}{h:Heap}{p:Addr×Obj}(hp:p∈qJn fp h):p.1∈fp/\h.get? p.1=some p.2:=by
 obtain⟨b,hb,e⟩:=List.mem_filterMap.mp hp;cases q:h.get? b with
 |none=>rw[q]at e;cases e
 |some o=>
  rw[q]at e;have e':(b,o)=p:=Yb e;subst e';exact⟨hb,q⟩
theorem Inv.pinned{pins:List (Addr×Obj)}{σ:St}{H:Hp}{s:Shared}{fp:List Addr}(I:Inv X pins σ H s)(hf:∀b∈fp,qSr X pins H b)(ho:∀b∈fp,∃o,s.heap.get? b=some o/\∀v,o.data≠ .cell v):Inv X (pins++qJn fp s.heap) σ H s:=
 I.pins_of λp hp=>(YO.mp hp).elim (λz=>I.pin p (Yf _ z)) λz=>by obtain⟨hb,e⟩:=qP9 z;obtain⟨f0,f1,f2,_⟩:=hf p.1 hb;obtain⟨o,e',d⟩:=ho p.1 hb;rw[e]at e';cases e';exact⟨e,f0,f1,f2,d⟩
theorem Inv.unpinned{pins pl:List (Addr×Obj)}{σ:St}{H:Hp}{s:Shared}(I:Inv X (pins++pl) σ H s):Inv X pins σ H s:=I.pins_of λp hp=>I.pin p (Yf _ (Yq _ hp))
theorem xj{iter:Expr}{body:List Stmt}{wi:TI}{g:TG}{tb:TS}{pos:Pos}(hp:PassesOwn (model X.prog X.w) X.A X.env X.xe)(hc:X.calm=true)(hi:PI X tg iter wi)(hg:PG X tg g)(hb:PSs X body tb)
 (hs:∀x,foldedSetIterable iter X.env x=pure x:=by intro _;rfl):PS X (.For tg iter body [] pos) (qZw wi g tb):=by
 intro pins s σ H D I h;refine wpAny_For (thn (hi pins s σ H _ I h) λv s1 h1=>thn h1 λitv s2 h2=>?_) hs;obtain⟨it,fp,tn,J,H2,e,I2,T,st2,f2,W,⟨m0,w0⟩,turn⟩:=h2;subst e;have stat:∀{H':Hp},(∀b∈fp,H' b=none)->∀b∈fp,qSr X pins H' b:=λhn b hb=>⟨hn b hb,(f2 b hb).2⟩;refine codeAny_forLoop_any (λn s'=> ∃i σ' H',Inv X pins σ' H' s'/\tn i s'.heap/\(∀b∈fp,H' b=none)/\W i n σ' H') ?_ m0 ⟨0,σ,H2,I2,st2,λb hb=>(f2 b hb).1,w0⟩;rintro n s3 ⟨i,σ3,H3,I3,st3,fr3,w3⟩;rcases turn i n σ3 H3 w3 with ⟨stop,qn⟩|⟨go,N,hN,step⟩
 . refine wpAny_passesOwn hp (thn (T.done X rfl rfl rfl hc i pins s3 σ3 H3 X.xe I3 (stat fr3) st3 stop) λr s4 ⟨hr,I4⟩=>?_)
   subst hr;exact wpAny_execs_nil ⟨σ3,H3,I4,qn⟩
 . refine wpAny_passesOwn hp (thn (T.item X rfl rfl rfl hc i pins s3 σ3 H3 X.xe I3 (stat fr3) st3 go) λr s4 ⟨u,hr,h4⟩=>?_)
   subst hr;refine wpAny_passesOwn hp (thn h4 λ_ s5 ⟨x,H5,I5,r5,y5,st5,fr5⟩=>?_);have I5':=I5.pinned (stat fr5) (T.obj _ _ st5);refine wpAny_passesOwn hp (thn (hg _ s5 σ3 H5 x u _ I5' r5 (step x H5 y5)) λ_ s6 ⟨σ6,H6,I6,q6⟩=>?_);refine wpAny_passesOwn hp (thn (hb _ s6 σ6 H6 _ I6 q6) λf s7 q7=>?_);have again:∀{σ7:St} {H7:Hp},Inv X (pins++qJn fp s5.heap) σ7 H7 s7->N σ7 H7->∃m,m<n/\∃i σ' H',Inv X pins σ' H' s7/\tn i s7.heap/\(∀b∈fp,H' b=none)/\W i m σ' H':=λ{σ7 H7} I7 n7=>by obtain⟨m',hm,w7⟩:=hN σ7 H7 n7;refine⟨m',hm,i+1,σ7,H7,I7.unpinned,T.keep _ _ _ st5 λb hb o e=>(I7.pin (b,o) (Yf _ (Yf _ (qCo hb e)))).1,λb hb=>?_,w7⟩;obtain⟨o,e,d⟩:=T.obj _ _ st5 b hb;exact(I7.pin (b,o) (Yf _ (Yf _ (qCo hb e)))).2.1
   cases f with
   |next=>obtain⟨σ7,H7,I7,n7⟩:=q7;exact again I7 n7
   |cont=>obtain⟨σ7,H7,I7,n7⟩:=q7;exact again I7 n7
   |brk=>obtain⟨σ7,H7,I7,q7⟩:=q7;exact⟨σ7,H7,I7.unpinned,q7⟩
   |ret v=>obtain⟨x7,σ7,H7,I7,r7,q7⟩:=q7;exact⟨x7,σ7,H7,I7.unpinned,r7,q7⟩
end
theorem j8{K:PySem.W.Frag}{a:Addr}{xs:List V}{g:TG}{tb:TS}{D:qN2}{σ:St}{H:Hp}(Pv:Nat->St->Hp->Prop)(h0:Pv 0 σ H)(hl:∀i σ H,i<=xs.length->Pv i σ H->SqL K H a xs)
 (hs:∀i x σ H,xs[i]?=some x->Pv i σ H->g x σ H λσ2 H2=>tb {D with nx:=Pv (i+1),ct:=Pv (i+1),bk:=D.nx} σ2 H2) (hd:∀σ H,Pv xs.length σ H->D.nx σ H):
 ∃W:Nat->Nat->St->Hp->Prop,(∃m,W 0 m σ H)/\∀i m σ H,W i m σ H->
  ((Itl K a).stop i H/\D.nx σ H)\/((Itl K a).go i H/\∃N:St->Hp->Prop,(∀σ' H',N σ' H'->∃m',m'<m/\W (i+1) m' σ' H')/\∀x H',(Itl K a).yld i H x H'->g x σ H' λσ2 H2=>tb {D with nx:=N,ct:=N,bk:=D.nx} σ2 H2):=by
 refine⟨λi m σ H=>m=xs.length-i/\i<=xs.length/\Pv i σ H,⟨xs.length,by simp,ZT _,h0⟩,?_⟩;rintro i m σ H ⟨rfl,hi,p⟩;have q:=hl i σ H hi p;by_cases hlt:i<xs.length
 . refine .inr ⟨⟨xs,xs[i],q,by simp[hlt]⟩,Pv (i+1),λσ' H' p'=>⟨xs.length-(i+1),by omega,O,hlt,p'⟩,λx H' y=>?_⟩
   obtain⟨e,y⟩:=y;subst e;exact hs i x σ _ (y xs q) p
 . have e:i=xs.length:=by omega
   subst e;exact .inl ⟨⟨xs,q,YI _⟩,hd σ H p⟩
theorem qBo{lo:Int}{n:Nat}{g:TG}{tb:TS}{D:qN2}{σ:St}{H:Hp}(Pv:Nat->St->Hp->Prop)(h0:Pv 0 σ H)
 (hs:∀i σ H,i<n->Pv i σ H->g (.int (lo+i)) σ H λσ2 H2=>tb {D with nx:=Pv (i+1),ct:=Pv (i+1),bk:=D.nx} σ2 H2) (hd:∀σ H,Pv n σ H->D.nx σ H):
 ∃W:Nat->Nat->St->Hp->Prop,(∃m,W 0 m σ H)/\∀i m σ H,W i m σ H->
  ((Itr lo n).stop i H/\D.nx σ H)\/((Itr lo n).go i H/\∃N:St->Hp->Prop,(∀σ' H',N σ' H'->∃m',m'<m/\W (i+1) m' σ' H')/\∀x H',(Itr lo n).yld i H x H'->g x σ H' λσ2 H2=>tb {D with nx:=N,ct:=N,bk:=D.nx} σ2 H2):=by
 refine⟨λi m σ H=>m=n-i/\i<=n/\Pv i σ H,⟨n,by simp,ZT _,h0⟩,?_⟩;rintro i m σ H ⟨rfl,hi,p⟩;by_cases hlt:i<n
 . refine .inr ⟨hlt,Pv (i+1),λσ' H' p'=>⟨n-(i+1),by omega,O,hlt,p'⟩,λx H' y=>?_⟩
   obtain⟨e,y⟩:=y;subst e y;exact hs i σ _ hlt p
 . have e:i=n:=by omega
   subst e;exact .inl ⟨YI _,hd σ H p⟩
theorem qNh{c:TT}{tb:TS}{D:qN2}{σ:St}{H:Hp}(Pv:St->Hp->Prop)(μ:St->Hp->Nat)(h0:Pv σ H)
 (hs:∀σ H,Pv σ H->c σ H λb H1=>if b=true then tb {D with nx:=λσ' H'=>Pv σ' H'/\μ σ' H'<μ σ H,ct:=λσ' H'=>Pv σ' H'/\μ σ' H'<μ σ H,bk:=D.nx} σ H1 else D.nx σ H1)
 (mono:∀σ H Q Q',(∀b H1,Q b H1->Q' b H1)->c σ H Q->c σ H Q'):qTn c tb D σ H:=by
 refine⟨λm σ H=>m=μ σ H/\Pv σ H,⟨_,O,h0⟩,?_⟩;rintro m σ H ⟨rfl,p⟩;refine mono σ H _ _ (λb H1 q=>?_) (hs σ H p);cases b with
 |true=>exact⟨_,λσ' H' ⟨p',l⟩=>⟨_,l,rfl,p'⟩,q⟩
 |false=>exact q
abbrev R2:=V->V->Hp->VK->Prop
def OpR(X:Cx)(f:Value->Value->Sem Value)(r:R2):Prop:=
 ∀(pins:List (Addr×Obj)) (s:Shared) (σ:St) (H:Hp) (x y:V) (v u:Value) (Q:VK),Inv X pins σ H s->RelV x v->RelV y u->r x y H Q->
  wpAny (model X.prog X.w) X.A (f v u) (EP X pins σ Q) X.xe s
def UnR(X:Cx)(f:Value->Sem Value)(r:V->Hp->VK->Prop):Prop:=
 ∀(pins:List (Addr×Obj)) (s:Shared) (σ:St) (H:Hp) (x:V) (v:Value) (Q:VK),Inv X pins σ H s->RelV x v->r x H Q->
  wpAny (model X.prog X.w) X.A (f v) (EP X pins σ Q) X.xe s
def wu(X:Cx)(f:Value)(r:List V->Hp->VK->Prop):Prop:=
 ∀(pins:List (Addr×Obj)) (s:Shared) (σ:St) (H:Hp) (xs:List V) (us:List Value) (Q:VK),Inv X pins σ H s->Vals xs us->r xs H Q->
  wpAny (model X.prog X.w) X.A (call f us) (EP X pins σ Q) X.xe s
def tOp(r:R2)(ta tb:TE):TE:=λσ H Q=>ta σ H λx H1=>tb σ H1 λy H2=>r x y H2 Q
def tUn(r:V->Hp->VK->Prop)(ta:TE):TE:=λσ H Q=>ta σ H λx H1=>r x H1 Q
inductive rI(C:Int->Int->Prop)(g:Int->Int->V)(x:V)(y:V)(H:Hp)(Q:VK):Prop
|mk i j (_:x=.int i) (_:y=.int j) (_:C i j) (_:Q (g i j) H)
inductive rI0(g:Int->Int->V)(x:V)(y:V)(H:Hp)(Q:VK):Prop
|mk i j (_:x=.int i) (_:y=.int j) (_:Q (g i j) H)
inductive rU(g:Int->V)(x:V)(H:Hp)(Q:VK):Prop
|mk i (_:x=.int i) (_:Q (g i) H)
section
variable{X:Cx}{a b c:Expr}{ta tb tc:TE}{pos:Pos}
theorem qYm(ha:PE X a ta)(hb:PE X b tb){pins:List (Addr×Obj)}{s:Shared}{σ:St}{H:Hp}{R:V->V->Hp->Prop}(I:Inv X pins σ H s)
 (h:ta σ H λx H1=>tb σ H1 λy H2=>R x y H2) {Q:Value->Shared->Prop} {f:Value->Value->Sem Value}
 (hf:∀v u s2 x y H2,Inv X pins σ H2 s2->RelV x v->RelV y u->R x y H2->wpAny (model X.prog X.w) X.A (f v u) Q X.xe s2):
 wpAny (model X.prog X.w) X.A (eval a X.env) (λv s₁=>wpAny (model X.prog X.w) X.A (eval b X.env) (λu s₂=>wpAny (model X.prog X.w) X.A (f v u) Q X.xe s₂) X.xe s₁) X.xe s:=by
 refine thn (ha pins s σ H _ I h) λv s1 ⟨x,H1,I1,r1,q1⟩=>?_;refine thn (hb pins s1 σ H1 _ I1 q1) λu s2 ⟨y,H2,I2,r2,q2⟩=>?_;exact hf v u s2 x y H2 I2 r1 r2 q2
theorem qQ{op:Operator}{r:R2}(ho:OpR X (binaryOp op) r)(ha:PE X a ta)(hb:PE X b tb):PE X (.BinOp a op b pos) (tOp r ta tb):=by intro pins s σ H Q I h;exact wpAny_BinOp (qYm ha hb I h λv u s2 x y H2 I2 rx ry q=>ho pins s2 σ H2 x y v u Q I2 rx ry q)
theorem wS{op:UnaryOp}{r:V->Hp->VK->Prop}(ho:UnR X (unaryOp op) r)(ha:PE X a ta):PE X (.UnaryOp op a pos) (tUn r ta):=by intro pins s σ H Q I h;exact UnaryOp_ (thn (ha pins s σ H _ I h) λv s1 ⟨x,H1,I1,r1,q1⟩=>ho pins s1 σ H1 x v Q I1 r1 q1)
theorem opI{f:Value->Value->Sem Value}{C:Int->Int->Prop}{g:Int->Int->Int}
 (rule:∀(i j:Int) (t u:Tok) (s:Shared) (Q:Value->Shared->Prop) (E:Value->Shared->Prop),C i j->Q (.int (g i j) s.toks) {s with toks:=s.toks+1}->wpAny (model X.prog X.w) X.A (f (.int i t) (.int j u)) Q E s):
 OpR X f (rI C λi j=>.int (g i j)):=by
 intro pins s σ H x y v u Q I rx ry h;obtain⟨i,j,rfl,rfl,hc,q⟩:=h;obtain⟨t,rfl⟩:=rx;obtain⟨t',rfl⟩:=ry;exact rule i j t t' s _ _ hc ⟨.int (g i j),H,I.tok _,⟨_,O⟩,q⟩
theorem qZk{f:Value->Value->Sem Value}{g:Int->Int->Int}
 (rule:∀(i j:Int) (t u:Tok) (s:Shared) (Q:Value->Shared->Prop) (E:Value->Shared->Prop),Q (.int (g i j) s.toks) {s with toks:=s.toks+1}->wpAny (model X.prog X.w) X.A (f (.int i t) (.int j u)) Q E s):
 OpR X f (rI0 λi j=>.int (g i j)):=by
 intro pins s σ H x y v u Q I rx ry h;obtain⟨i,j,rfl,rfl,q⟩:=h;obtain⟨t,rfl⟩:=rx;obtain⟨t',rfl⟩:=ry;exact rule i j t t' s _ _ ⟨.int (g i j),H,I.tok _,⟨_,O⟩,q⟩
theorem qXp{f:Value->Value->Sem Value}{g:Int->Int->Bool}
 (rule:∀(i j:Int) (t u:Tok) (s:Shared) (Q:Value->Shared->Prop) (E:Value->Shared->Prop),Q (.bool (g i j)) s->wpAny (model X.prog X.w) X.A (f (.int i t) (.int j u)) Q E s):
 OpR X f (rI0 λi j=>.bl (g i j)):=by
 intro pins s σ H x y v u Q I rx ry h;obtain⟨i,j,rfl,rfl,q⟩:=h;obtain⟨t,rfl⟩:=rx;obtain⟨t',rfl⟩:=ry;exact rule i j t t' s _ _ ⟨.bl (g i j),H,I,O,q⟩
def qZe(i j:Int):Prop:=0<=j/\j<=1000000/\i.natAbs<2 ^ 64
def CMul(i j:Int):Prop:=(-(2 ^ 64)<i/\i<2 ^ 64)\/(-(2 ^ 64)<j/\j<2 ^ 64)
theorem CMul.ok{i j:Int}(h:CMul i j):IntMulOk i j:=by
 rcases h with ⟨h1,h2⟩|⟨h1,h2⟩
 . exact .of_left (intBits_le_64 h1 h2)
 . exact .of_right (intBits_le_64 h1 h2)
theorem qm:OpR X (binaryOp .Add) (rI0 λi j=>.int (i+j)):=qZk λ_ _ _ _ _ _ _ q=>add_int q
theorem jR:OpR X (binaryOp .Sub) (rI0 λi j=>.int (i-j)):=qZk λ_ _ _ _ _ _ _ q=>sub_int q
theorem qq:OpR X (binaryOp .Mod) (rI (λ_ j=>j≠0) λi j=>.int (i.fmod j)):=opI λ_ _ _ _ _ _ _ hc q=>mod_int' hc q
theorem qQw:OpR X (binaryOp .Pow) (rI qZe λi j=>.int (i ^ j.toNat)):=opI λ_ _ _ _ _ _ _ hc q=>pow_int_small hc.1 hc.2.1 hc.2.2 q
theorem unI{f:Value->Sem Value}{g:Int->Int}
 (rule:∀(i:Int) (t:Tok) (s:Shared) (Q:Value->Shared->Prop) (E:Value->Shared->Prop),Q (.int (g i) s.toks) {s with toks:=s.toks+1}->wpAny (model X.prog X.w) X.A (f (.int i t)) Q E s):
 UnR X f (rU λi=>.int (g i)):=by
 intro pins s σ H x v Q I rx h;obtain⟨i,rfl,q⟩:=h;obtain⟨t,rfl⟩:=rx;exact rule i t s _ _ ⟨.int (g i),H,I.tok _,⟨_,O⟩,q⟩
theorem zI:UnR X (unaryOp .USub) (rU λi=>.int (-i)):=unI λ_ _ _ _ _ q=>neg_int q
end
noncomputable def qZj:V->V->Bool
 |.non,.non=>true|.non,.int _=>true|.int _,.non=>true|.non,.bl _=>true|.bl _,.non=>true|.non,.str _=>true|.str _,.non=>true
 |.int _,.int _=>true|.bl _,.bl _=>true|.str _,.str _=>true|.byt _,.byt _=>true
 |.int _,.str _=>true|.str _,.int _=>true|.bl _,.str _=>true|.str _,.bl _=>true
 |_,_=>false
inductive rEq(x:V)(y:V)(H:Hp)(Q:VK):Prop
|mk (_:qZj x y=true) (_:Q (.bl (decide (x=y))) H)
inductive rNe(x:V)(y:V)(H:Hp)(Q:VK):Prop
|mk (_:qZj x y=true) (_:Q (.bl (!decide (x=y))) H)
theorem qQr{i j:Int}:decide (V.int i=V.int j)=(i==j):=by rw[Yv];simp
theorem qTx{i j:Bool}:decide (V.bl i=V.bl j)=(i==j):=by rw[Yv];simp
theorem qPw{i j:Str}:decide (V.str i=V.str j)=(i==j):=by rw[Yv];simp
theorem qO6{i j:Array UInt8}:decide (V.byt i=V.byt j)=(i.toList==j.toList):=by rw[Yv];cases i;cases j;simp
section
variable{X:Cx}{a b c:Expr}{ta tb tc:TE}{pos:Pos}
theorem jT{pins:List (Addr×Obj)}{σ:St}{H:Hp}{s:Shared}{Q:VK}{k k':Bool}(I:Inv X pins σ H s)(q:Q (.bl k) H)(e:k=k'):EP X pins σ Q (.bool k') s:=by subst e;exact⟨.bl k,H,I,O,q⟩
theorem jW:OpR X (compareOp .Eq) rEq:=by
 intro pins s σ H x y v u Q I rx ry h;obtain⟨hs,q⟩:=h;cases x with
 |non=>
  cases rx;cases y with
  |non=>cases ry;exact PySem.EqNone.eq_none_none (jT I q (by simp))
  |bl j=>cases ry;exact PySem.EqNone.eq_none_bool (jT I q (by simp))
  |int j=>obtain⟨t',rfl⟩:=ry;exact PySem.EqNone.eq_none_int (jT I q (by simp))
  |str j=>obtain⟨t',rfl⟩:=ry;exact PySem.EqNone.eq_none_str (jT I q (by simp))
  |_=>exact YC (show false=true from hs) YZ
 |bl i=>
  cases rx;cases y with
  |non=>cases ry;exact PySem.EqNone.eq_bool_none (jT I q (by simp))
  |bl j=>cases ry;exact eq_bool (jT I q qTx)
  |str j=>obtain⟨t',rfl⟩:=ry;exact PySem.EqMixed.eq_bool_str (jT I q (by simp))
  |_=>exact YC (show false=true from hs) YZ
 |int i=>
  obtain⟨t,rfl⟩:=rx;cases y with
  |non=>cases ry;exact PySem.EqNone.eq_int_none (jT I q (by simp))
  |int j=>obtain⟨t',rfl⟩:=ry;exact eq_int (jT I q qQr)
  |str j=>obtain⟨t',rfl⟩:=ry;exact PySem.EqMixed.eq_int_str (jT I q (by simp))
  |_=>exact YC (show false=true from hs) YZ
 |str i=>
  obtain⟨t,rfl⟩:=rx;cases y with
  |non=>cases ry;exact PySem.EqNone.eq_str_none (jT I q (by simp))
  |bl j=>cases ry;exact PySem.EqMixed.eq_str_bool (jT I q (by simp))
  |int j=>obtain⟨t',rfl⟩:=ry;exact PySem.EqMixed.eq_str_int (jT I q (by simp))
  |str j=>obtain⟨t',rfl⟩:=ry;exact eq_str (jT I q qPw)
  |_=>exact YC (show false=true from hs) YZ
 |byt i=>
  obtain⟨t,rfl⟩:=rx;cases y with
  |byt j=>obtain⟨t',rfl⟩:=ry;exact PySem.W.eq_bytes (jT I q qO6)
  |_=>exact YC (show false=true from hs) YZ
 |_=>cases y <;> exact YC (show false=true from hs) YZ
theorem kD:OpR X (compareOp .NotEq) rNe:=by
 intro pins s σ H x y v u Q I rx ry h;obtain⟨hs,q⟩:=h;cases x with
 |non=>
  cases rx;cases y with
  |non=>cases ry;exact PySem.EqNone.ne_none_none (jT I q (by simp))
  |bl j=>cases ry;exact PySem.EqNone.ne_none_bool (jT I q (by simp))
  |int j=>obtain⟨t',rfl⟩:=ry;exact PySem.EqNone.ne_none_int (jT I q (by simp))
  |str j=>obtain⟨t',rfl⟩:=ry;exact PySem.EqNone.ne_none_str (jT I q (by simp))
  |_=>exact YC (show false=true from hs) YZ
 |bl i=>
  cases rx;cases y with
  |non=>cases ry;exact PySem.EqNone.ne_bool_none (jT I q (by simp))
  |bl j=>cases ry;exact ne_bool (jT I q (congrArg not qTx))
  |str j=>obtain⟨t',rfl⟩:=ry;exact PySem.EqMixed.ne_bool_str (jT I q (by simp))
  |_=>exact YC (show false=true from hs) YZ
 |int i=>
  obtain⟨t,rfl⟩:=rx;cases y with
  |non=>cases ry;exact PySem.EqNone.ne_int_none (jT I q (by simp))
  |int j=>obtain⟨t',rfl⟩:=ry;exact ne_int (jT I q (congrArg not qQr))
  |str j=>obtain⟨t',rfl⟩:=ry;exact PySem.EqMixed.ne_int_str (jT I q (by simp))
  |_=>exact YC (show false=true from hs) YZ
 |str i=>
  obtain⟨t,rfl⟩:=rx;cases y with
  |non=>cases ry;exact PySem.EqNone.ne_str_none (jT I q (by simp))
  |bl j=>cases ry;exact PySem.EqMixed.ne_str_bool (jT I q (by simp))
  |int j=>obtain⟨t',rfl⟩:=ry;exact PySem.EqMixed.ne_str_int (jT I q (by simp))
  |str j=>obtain⟨t',rfl⟩:=ry;exact ne_str (jT I q (congrArg not qPw))
  |_=>exact YC (show false=true from hs) YZ
 |byt i=>
  obtain⟨t,rfl⟩:=rx;cases y with
  |byt j=>obtain⟨t',rfl⟩:=ry;exact PySem.W.ne_bytes (jT I q (congrArg not qO6))
  |_=>exact YC (show false=true from hs) YZ
 |_=>cases y <;> exact YC (show false=true from hs) YZ
theorem wN:OpR X (compareOp .Lt) (rI0 λi j=>.bl (decide (i<j))):=qXp λ_ _ _ _ _ _ _ q=>lt_int q
theorem qSi:OpR X (compareOp .LtE) (rI0 λi j=>.bl (decide (i<=j))):=qXp λ_ _ _ _ _ _ _ q=>le_int q
theorem wM:OpR X (compareOp .Gt) (rI0 λi j=>.bl (decide (j<i))):=qXp λ_ _ _ _ _ _ _ q=>gt_int q
theorem qG5:OpR X (compareOp .GtE) (rI0 λi j=>.bl (decide (j<=i))):=qXp λ_ _ _ _ _ _ _ q=>ge_int q
theorem qR(b:Expr){op:CmpOp}(h:op≠ .In:=by decide)(h2:op≠ .NotIn:=by decide):behindInMarks op b=false:=by
 have e1:(op==CmpOp.In)=false:=by cases op <;> first|rfl|exact YC rfl h
 have e2:(op==CmpOp.NotIn)=false:=by cases op <;> first|rfl|exact YC rfl h2
 cases b <;> simp[behindInMarks,e1,e2]
theorem jn{op:CmpOp}{r:R2}(ho:OpR X (compareOp op) r)(ha:PE X a ta)(hb:PE X b tb)(hm:behindInMarks op b=false):PE X (.Compare a [op] [b] pos) (tOp r ta tb):=by intro pins s σ H Q I h;exact wpAny_Compare1 (qYm ha hb I h λv u s2 x y H2 I2 rx ry q=>ho pins s2 σ H2 x y v u Q I2 rx ry q) hm
inductive qW6(Q:Bool->Hp->Prop)(x:V)(H':Hp):Prop
|mk k (_:x=.bl k) (_:Q k H')
def qY0(t:TE):TT:=λσ H Q=>t σ H λx H'=>qW6 Q x H'
theorem qL{op:CmpOp}{r:R2}(ho:OpR X (compareOp op) r)(ha:PE X a ta)(hb:PE X b tb)(hm:behindInMarks op b=false):PT X (.Compare a [op] [b] pos) (qY0 (tOp r ta tb)):=by
 intro pins s σ H Q I h;refine wpAny_isTrue_Compare1 (thn (ha pins s σ H _ I h) λv s1 ⟨x,H1,I1,r1,q1⟩=>thn (hb pins s1 σ H1 _ I1 q1) λu s2 ⟨y,H2,I2,r2,q2⟩=>
  thn (ho pins s2 σ H2 x y v u _ I2 r1 r2 q2) λc s3 ⟨z,H3,I3,r3,k,e,q3⟩=>?_) hm
 subst e;cases r3;exact wpAny_truthy_bool ⟨H3,I3,q3⟩
theorem qI0:(sizeLine:Nat)<2 ^ 63:=by rw[sizeLine_eq];decide
theorem qNz:OpR X (binaryOp .Add) (λx y H Q=> ∃i j,x=.str i/\y=.str j/\i.length+j.length<=sizeLine/\Q (.str (i++j)) H):=by intro pins s σ H x y v u Q I rx ry h;obtain⟨i,j,rfl,rfl,hz,q⟩:=h;obtain⟨t,rfl⟩:=rx;obtain⟨t',rfl⟩:=ry;exact add_str (λt' tk=>⟨.str (i++j),H,I.tok _,⟨_,O⟩,q⟩) hz
theorem qKc{x:V}{us:List Value}(r:Vals [x] us):∃u,us=[u]/\RelV x u:=by
 cases r with
 |cons r1 r2=>cases r2;exact⟨_,rfl,r1⟩
theorem qUn{x y:V}{us:List Value}(r:Vals [x,y] us):∃u w',us=[u,w']/\RelV x u/\RelV y w':=by
 cases r with
 |cons r1 r2=>
  cases r2 with
  |cons r3 r4=>cases r4;exact⟨_,_,rfl,r1,r3⟩
theorem qAw:wu X (.builtin "abs") (λxs H Q=> ∃i,xs=[.int i]/\Q (.int (if i<0 then-i else i)) H):=by intro pins s σ H xs us Q I r h;obtain⟨i,rfl,q⟩:=h;obtain⟨u,rfl,t,rfl⟩:=qKc r;exact call_abs_int λu tk=>⟨.int (if i<0 then-i else i),H,I.tok _,⟨_,O⟩,q⟩
theorem qBm(hc:X.calm=true):wu X (.builtin "max") (λxs H Q=> ∃i j,xs=[.int i,.int j]/\Q (.int (if j>i then j else i)) H):=by
 intro pins s σ H xs us Q I r h;obtain⟨i,j,rfl,q⟩:=h;obtain⟨u,w',rfl,⟨t,rfl⟩,⟨t',rfl⟩⟩:=qUn r;refine max_two_ints (I.ok.hd hc) λh' tk k=>⟨_,H,I.kept k,?_,q⟩;by_cases hj:j>i
 . rw[YB hj,YB hj];exact⟨_,rfl⟩
 . rw[YA hj,YA hj];exact⟨_,rfl⟩
theorem zf(hc:X.calm=true):wu X (.builtin "min") (λxs H Q=> ∃i j,xs=[.int i,.int j]/\Q (.int (if j<i then j else i)) H):=by
 intro pins s σ H xs us Q I r h;obtain⟨i,j,rfl,q⟩:=h;obtain⟨u,w',rfl,⟨t,rfl⟩,⟨t',rfl⟩⟩:=qUn r;refine min_two_ints (I.ok.hd hc) λh' tk k=>⟨_,H,I.kept k,?_,q⟩;by_cases hj:j<i
 . rw[YB hj,YB hj];exact⟨_,rfl⟩
 . rw[YA hj,YA hj];exact⟨_,rfl⟩
theorem qIl:wu X (.type "str") (λxs H Q=> ∃i,xs=[.int i]/\i.natAbs.log2<1920/\Q (.str (toString i)) H):=by intro pins s σ H xs us Q I r h;obtain⟨i,rfl,hz,q⟩:=h;obtain⟨u,rfl,t,rfl⟩:=qKc r;exact PySem.P.str_of_int hz ⟨.str _,H,I.tok _,⟨_,O⟩,q⟩
end
structure ObjM(h:Heap)(x dx C:Addr)(mA:Str->Option Value):Prop where
 obj:h.get? x=some (PySem.W.instObj C dx)
 ns:h.Ns1 dx mA
 ne:dx≠x
theorem qPe{h:Heap}{dx:Addr}{mA:Str->Option Value}(n:h.Ns1 dx mA):∃od,h.get? dx=some od/\∀name,PySem.W.lookIn name od=some (mA name):=by
 obtain⟨o,es,ep,ho,hd,hk,_,hm⟩:=n;refine⟨o,ho,λname=>?_⟩;have e:=hm name;unfold nsFind findBy at e;rw[<-Array.find?_toList]at e;unfold PySem.W.lookIn;rw[hd];dsimp only;split
 . rename_i y q
   rw[q]at e;exact congrArg some e
 . rename_i q
   rw[q]at e;have a:es.toList.any (·.refKey)=false:=by rw[List.any_eq_false];intro y hy;obtain⟨z,t,hkey⟩:=hk y (Array.mem_toList_iff.mp hy);simp[DictEntry.refKey,hkey]
   have a':¬es.toList.any (·.refKey)=true:=by rw[a];exact YZ
   rw[YA a'];exact congrArg some e
theorem ObjM.look{h:Heap}{x dx C:Addr}{mA:Str->Option Value}(I:ObjM h x dx C mA):∃od,PySem.W.InstAt h x (PySem.W.instObj C dx) C (some od)/\∀name,PySem.W.lookIn name od=some (mA name):=
 let ⟨od,ho,hl⟩:=qPe I.ns
 ⟨od,⟨I.obj,rfl,rfl,ho⟩,hl⟩
theorem RelO.some_of{v:V}{o:Option Value}(r:RelO (some v) o):∃u,o=some u/\RelV v u:=by
 cases o with
 |none=>exact(show False from r).elim
 |some u=>exact⟨u,rfl,r⟩
section
variable{P:Program}{w:World}{H H':Hp}{h h':Heap}{a C dx:Addr}{fs fs':List (Str×V)}
theorem qU9(hok:HOk P w H h)(e:H a=some (.ins C dx fs)):∃mA,ObjM h a dx C mA/\(∀f,RelO (fs.lookup f) (mA f))/\PySem.Within mA (fs.map (·.1))/\fs.length<=1000/\H dx=some (.own a):=by obtain⟨d,z,ne,ob,mA,n,r,q⟩:=(show ObjOk P w H h a (.ins C dx fs)from hok a _ e);exact⟨mA,⟨ob,n,ne⟩,r,q,z,d⟩
end
structure Cls(K:PySem.W.Frag)(C:Addr):Prop where
 pg:PySem.W.plainGet K C Str.empty=true
 hd:PySem.W.hasDictIn K C=true
 po:PySem.W.plainOver K C=true
 sa:PySem.W.findIn K (.ref C) "__setattr__"=some (some (.builtin "object.__setattr__"))
theorem Cls.get{K:PySem.W.Frag}{C:Addr}(c:Cls K C)(f:Str):PySem.W.plainGet K C f=true:=c.pg
section
variable{X:Cx}{pins:List (Addr×Obj)}{σ:St}{H:Hp}{s:Shared}{a C dx:Addr}{fs:List (Str×V)}{f:Str}{v:V}{A:Around}{E:Value->Shared->Prop}
theorem qT5{prog:Program}{w:World}{env:Env}{e:Expr}{f:Str}{pos:Pos}{s:Shared}{Q:Value->Shared->Prop}(hb:attributeBase e f env (eval e env)=eval e env)
 (h:wpAny (model prog w) A (eval e env) (λo s₁=>wpAny (model prog w) A (getAttr o f true) Q E s₁) E s):wpAny (model prog w) A (eval (.Attribute e f pos) env) Q E s:=
 Attribute_any_ h (by rw[arm_eval_Attribute,hb])
end
section
variable{X:Cx}{pins:List (Addr×Obj)}{σ:St}{H:Hp}{s:Shared}{A:Around}{E:Value->Shared->Prop}{Q:Value->Shared->Prop}{c:Value}{b:Bool}
inductive qNc(K:PySem.W.Frag)(H:Hp):V->Value->Prop where
 |non:qNc K H .non (.type "NoneType")
 |bl (x:Bool):qNc K H (.bl x) (.type "bool")
 |int (i:Int):qNc K H (.int i) (.type "int")
 |str (x:Str):qNc K H (.str x) (.type "str")
 |flt (x:UInt64):qNc K H (.flt x) (.type "float")
 |lst {a:Addr} {xs:List V} (e:H a=some (.lst xs)):qNc K H (.ref a) (.type "list")
 |frz {a:Addr} {o:Obj} {xs:List V} (e:H a=some (.frz o (.lst xs))):qNc K H (.ref a) (.type "list")
 |tup {a:Addr} {xs:List V} (e:H a=some (.tup xs)):qNc K H (.ref a) (.type "tuple")
 |dK {a:Addr} {kvs:List (Key×V)} (e:H a=some (.dK kvs)):qNc K H (.ref a) (.type "dict")
 |dT {a:Addr} {kvs:List (List Key×V)} (e:H a=some (.dT kvs)):qNc K H (.ref a) (.type "dict")
 |ins {a C dx:Addr} {fs:List (Str×V)} (e:H a=some (.ins C dx fs)) (cl:Cls K C) (ha:PySem.W.findIn K (.ref C) "__class__"=some (some (.builtin "object.__class__")))
  (hn:PySem.W.specialIn K (.builtin "object.__class__") "__get__"=some (some (.builtin "getset_descriptor.__get__"))) (htk:PySem.W.takesIn K (.builtin "object.__class__")=some true)
  (hm:PySem.W.mroIn K C (.type "object")=some true):qNc K H (.ref a) (.ref C)
theorem qKd{x:V}{u t:Value}(I:Inv X pins σ H s)(rx:RelV x u)(ty:qNc X.K H x t)(e:PySem.W.kitOne X.K t c=some b)(h:∀tk,Q (.bool b) {s with toks:=tk}):
 wpAny (model X.prog X.w) A (call (.builtin "isinstance") [u,c]) Q E s:=by
 cases ty with
 |non=>cases (show u=Value.none from rx);exact PySem.W.kia_one PySem.W.kitx_none I.kIn True.intro e (λz=>nomatch z) h
 |bl y=>cases (show u=Value.bool y from rx);exact PySem.W.kia_one PySem.W.kitx_bool I.kIn True.intro e (λz=>nomatch z) h
 |int i=>obtain⟨t,q⟩:=(show ∃t,u=Value.int i t from rx);cases q;exact PySem.W.kia_one PySem.W.kitx_int I.kIn True.intro e (λz=>nomatch z) h
 |str y=>obtain⟨t,q⟩:=(show ∃t,u=Value.str y t from rx);cases q;exact PySem.W.kia_one PySem.W.kitx_str I.kIn True.intro e (λz=>nomatch z) h
 |flt y=>obtain⟨t,q⟩:=(show ∃t,u=Value.float y t from rx);cases q;exact PySem.W.kia_one PySem.W.kitx_float I.kIn True.intro e (λz=>nomatch z) h
 | @lst a xs ea=>
  cases (show u=Value.ref a from rx);obtain⟨_,_,n,_,h1⟩:=(show ObjOk X.prog X.w H s.heap a (.lst xs)from I.hok a _ ea);exact PySem.W.kia_one PySem.W.kitx_list I.kIn ⟨_,h1,O⟩ e (λz=>nomatch z) h
 | @frz a ob xs ea=>
  cases (show u=Value.ref a from rx);obtain⟨_,_,_,n,_,h1⟩:=(show ObjOk X.prog X.w H s.heap a (.frz ob (.lst xs))from I.hok a _ ea);exact PySem.W.kia_one PySem.W.kitx_list I.kIn ⟨_,h1,O⟩ e (λz=>nomatch z) h
 | @tup a xs ea=>
  cases (show u=Value.ref a from rx);obtain⟨_,_,_,p⟩:=(show ObjOk X.prog X.w H s.heap a (.tup xs)from I.hok a _ ea);obtain⟨o,h1,h2,_⟩:=p;exact PySem.W.kia_one PySem.W.kitx_tuple I.kIn ⟨o,h1,h2⟩ e (λz=>nomatch z) h
 | @dK a kvs ea=>
  cases (show u=Value.ref a from rx);obtain⟨_,_,vs,_,p⟩:=(show ObjOk X.prog X.w H s.heap a (.dK kvs)from I.hok a _ ea);obtain⟨o,es,ep,h1,h2,_⟩:=p;exact PySem.W.kia_one PySem.W.kitx_dict I.kIn ⟨o,h1,h2.1⟩ e (λz=>nomatch z) h
 | @dT a kvs ea=>
  cases (show u=Value.ref a from rx);obtain⟨_,_,xs,_,o,es,ep,h1,h2,_⟩:=(show ObjOk X.prog X.w H s.heap a (.dT kvs)from I.hok a _ ea);exact PySem.W.kia_one PySem.W.kitx_dict I.kIn ⟨o,h1,h2.1⟩ e (λz=>nomatch z) h
 | @ins a C dx fs ea cl ha hn htk hm=>
  cases (show u=Value.ref a from rx);obtain⟨mA,O9,_⟩:=qU9 I.hok ea;obtain⟨od,J,_⟩:=O9.look;exact PySem.W.kia_one (PySem.W.kitx_own (cl.get _) cl.hd ha hn htk hm) I.kIn J e (λz=>nomatch z) h
end
structure Room(k:Nat)(A:Around):Prop where
 hd:A.handled=none
 dp:A.depth+3*k+5<recursionLimit
 un:A.units+16*k+200<cLine
theorem Room.mono{j k:Nat}{A:Around}(r:Room k A)(h:j<=k):Room j A:=⟨r.hd,by have:=r.dp;omega,by have:=r.un;omega⟩
theorem Room.deeper{k:Nat}{A:Around}(r:Room (k+1) A)(env:Env):Room k (A.deeper env):=
 ⟨r.hd,by have:=r.dp;show A.depth+1+3*k+5<_;omega,by have:=r.un;show A.units+3+16*k+200<_;omega⟩
theorem qNo{A:Around}{C:Addr}{us:List Value}{kw:List (Str×Value)}:(A.under (.builtin "type.__call__" ⟨.ref C::us,kw⟩)).depth=A.depth+1:=by
 first|rfl|simp[Around.under,Code.weight,Code.isCreation,Code.isGuard,Code.isCaller,Code.frames,Code.isFrame,guardIds]
theorem qO1{A:Around}{C:Addr}{us:List Value}{kw:List (Str×Value)}:(A.under (.builtin "type.__call__" ⟨.ref C::us,kw⟩)).units=A.units+1:=by
 first|rfl|simp[Around.under,Code.cUnits,Code.frames,Code.isFrame]
theorem Room.make{k:Nat}{A:Around}(r:Room (k+1) A)(C:Addr)(us:List Value)(kw:List (Str×Value)):Room k (A.under (.builtin "type.__call__" ⟨.ref C::us,kw⟩)):=
 ⟨r.hd,by have:=r.dp;rw[qNo];omega,by have:=r.un;rw[qO1];omega⟩
theorem Room.depth{k:Nat}{A:Around}(r:Room k A):A.depth<recursionLimit:=by have:=r.dp;omega
theorem Room.units{k:Nat}{A:Around}(r:Room k A):A.units+64<cLine:=by have:=r.un;omega
theorem Room.units0{k:Nat}{A:Around}(r:Room k A):A.units<cLine:=by have:=r.un;omega
def qZ9:TA:=λ_ H Q=>Q [] H
def qYw(ta:TE)(tr:TA):TA:=λσ H Q=>ta σ H λx H1=>tr σ H1 λxs H2=>Q (x::xs) H2
section
variable{X:Cx}{e:Expr}{es:List Expr}{te:TE}{t:TA}{pos:Pos}
theorem qB:PA X [] qZ9:=λ_ _ _ _ H Q I h=>Calls.spliced_nil ⟨[],H,I,.nil,h⟩
theorem qA(ha:PE X e te)(hr:PA X es t)(hs:starEach (e::es) X.env=(false,eval e X.env)::starEach es X.env:=by rfl):PA X (e::es) (qYw te t):=by intro pos pins s σ H Q I h;rw[hs];show wpAny _ _ (spliced ((false,eval e X.env)::backTo pos (starEach es X.env))) _ _ s;refine Calls.spliced_cons (thn (ha pins s σ H _ I h) λu s1 ⟨x,H1,I1,r1,q1⟩=>?_);exact thn (hr pos pins s1 σ H1 _ I1 q1) λus s2 ⟨xs,H2,I2,r2,q2⟩=>⟨x::xs,H2,I2,.cons r1 r2,q2⟩
inductive qYv(Q:VK)(xs:List V)(H1:Hp):Prop
|mk (_:xs.length<=sizeLine) (_:∀p,H1 p=none->Q (.ref p) (upd H1 p (.tup xs)))
def qZs(t:TA):TE:=λσ H Q=>t σ H λxs H1=>qYv Q xs H1
inductive qX7(Q:VK)(xs:List V)(H1:Hp):Prop
|mk (_:xs.length<=sizeLine) (_:∀p,H1 p=none->Q (.ref p) (upd H1 p (.lst xs)))
def qZt(t:TA):TE:=λσ H Q=>t σ H λxs H1=>qX7 Q xs H1
theorem qh{x1}(h:PA X es t):PE X (.Tuple es x1 pos) (qZs t):=by intro pins s σ H Q I hq;refine wpAny_Tuple_spliced (thn (h pos pins s σ H _ I hq) λus s1 ⟨xs,H1,I1,r,z,q⟩=>⟨by rw[<-r.length];exact z,?_⟩);have hf:H1 s1.heap.objs.size=none:=I1.hok.fresh (YI _);refine⟨.ref s1.heap.objs.size,upd H1 s1.heap.objs.size (.tup xs),I1.laid (t':=s1.toks) (λb u e=>YM _ e) (YI _) ?_,O,q _ hf⟩;exact⟨z,us,r,⟨_,Yn _ rfl,O,_,O⟩⟩
theorem q9(h:PA X es t):PE X (.List es pos) (qZt t):=by intro pins s σ H Q I hq;refine wpAny_List_spliced (thn (h pos pins s σ H _ I hq) λus s1 ⟨xs,H1,I1,r,z,q⟩=>⟨by rw[<-r.length];exact z,?_⟩);have hf:H1 s1.heap.objs.size=none:=I1.hok.fresh (YI _);refine⟨.ref s1.heap.objs.size,upd H1 s1.heap.objs.size (.lst xs),I1.laid (t':=s1.toks) (λb u e=>YM _ e) (YI _) ?_,O,q _ hf⟩;exact⟨z,us,0,r,Yn _ rfl⟩
end
abbrev Sp:=List V->Hp->VK->XK->Prop
abbrev CXT:=List Env->Hp->Shared->XK->Value->Shared->Prop
structure Env0(P:Program)(w:World)(K:PySem.W.Frag)(mg:Str->Option Value)(base:Heap)(A:Around)(outer:List Env)(s:Shared)(H:Hp):Prop where
 frames:A.frames=some outer
 mod:Mod K mg base
 bs:∀b o,base.get? b=some o->s.heap.get? b=some o/\H b=none
 bsz:base.objs.size<=s.heap.objs.size
 funs:s.heap.FunFrames base outer
 frf:∀b∈frs outer,H b=none
 hok:HOk P w H s.heap
 bare:AllBare s.gens
def CE(outer:List Env)(P:Program)(w:World)(H:Hp)(s:Shared)(Q:VK)(u:Value)(s':Shared):Prop:=
 ∃v H',s'.os=s.os/\AllBare s'.gens/\Un (frs outer) [] H H' s.heap s'.heap/\HOk P w H' s'.heap/\RelV v u/\Q v H'
def CR(CX:CXT)(outer:List Env)(P:Program)(w:World)(H:Hp)(s:Shared)(Q:VK)(E:XK)(r:Result)(s':Shared):Prop:=
 match r with
 |.ok (.ret u)=>CE outer P w H s Q u s'
 |.ok _=>False
 |.error e=>CX outer H s E e s'
structure FnOk(P:Program)(w:World)(K:PySem.W.Frag)(mg:Str->Option Value)(base:Heap)(CX:CXT)(k:Nat)(f:Addr)(fd:FuncData)(ps:List Str)(sp:Sp):Prop where
 len:∀vs H Q E,sp vs H Q E->vs.length=ps.length
 run:∀(A:Around) (outer:List Env) (s:Shared) (H:Hp) (args:Args) (us:List Value) (vs:List V) (Q:VK) (E:XK),Room k A->Env0 P w K mg base A outer s H->BindsTo s fd args (ps.zip us)->Vals vs us->sp vs H Q E->
  codeAny (model P w) A (.call (.ref f) args) (CR CX outer P w H s Q E) s
theorem FnOk.imp{P:Program}{w:World}{K:PySem.W.Frag}{mg:Str->Option Value}{base:Heap}{CX:CXT}{k:Nat}{f:Addr}{fd:FuncData}{ps:List Str}{sp sp':Sp}(F:FnOk P w K mg base CX k f fd ps sp)
 (h:∀vs H Q E,sp' vs H Q E->sp vs H Q E):FnOk P w K mg base CX k f fd ps sp':=
 ⟨λvs H Q E q=>F.len vs H Q E (h _ _ _ _ q),λA outer s H args us vs Q E hr he hb hv hs=>F.run A outer s H args us vs Q E hr he hb hv (h _ _ _ _ hs)⟩
theorem Env0.make{P:Program}{w:World}{K:PySem.W.Frag}{mg:Str->Option Value}{base:Heap}{A:Around}{outer:List Env}{s:Shared}{H:Hp}(e:Env0 P w K mg base A outer s H)(C:Addr)(us:List Value)(kw:List (Str×Value)):
 Env0 P w K mg base (A.under (.builtin "type.__call__" ⟨.ref C::us,kw⟩)) outer s H:=⟨by first|exact e.frames|(simpa[Around.under,Code.envs,Code.isFrame,pushEnvs]using e.frames),e.mod,e.bs,e.bsz,e.funs,e.frf,e.hok,e.bare⟩
section
variable{X:Cx}{pins:List (Addr×Obj)}{σ:St}{H:Hp}{s s':Shared}
theorem Inv.env0(I:Inv X pins σ H s):Env0 X.prog X.w X.K X.mg X.base X.A X.stack s H:=
 ⟨I.ok.frames,I.ok.mod,I.bs,ZD I.ok.bsz I.sz,I.stack,I.stkFree,I.hok,I.bare⟩
theorem Inv.after{Q:VK}{u:Value}(I:Inv X pins σ H s)(h:CE X.stack X.prog X.w H s Q u s'):EP X pins σ Q u s':=by obtain⟨v,H',os,bare,un,hok,r,q⟩:=h;obtain⟨hh,g,d,t,os'⟩:=s';obtain rfl:os'=s.os:=os;exact⟨v,H',I.call (h':=hh) (g':=g) (d':=d) (t':=t) (ch:=[]) un hok bare (λb z=>YC z (by simp)),r,q⟩
end
def qVg(sp:Sp)(dvs:List V)(E:XK)(t:TA):TE:=λσ H Q=>t σ H λvs H1=>sp (vs++dvs) H1 Q E
def Binds(K:PySem.W.Frag)(fd:FuncData)(ps:List Str)(ds:List Value):Prop:=
 ∀(s:Shared) (us:List Value),K.In s.heap->(us++ds).length=ps.length->BindsTo s fd ⟨us,[]⟩ (ps.zip (us++ds))
theorem Binds.all{K:PySem.W.Frag}{fd:FuncData}{ps:List Str}(h:∀us:List Value,us.length=ps.length->bindArgs fd ⟨us,[]⟩=pure (ps.zip us)):Binds K fd ps []:=λs us _ hl=>by rw[Ye]at hl⊢;exact .of_eq (h us hl)
def qMn(CX:CXT)(X:Cx)(E:XK):Prop:= ∀(pins:List (Addr×Obj)) (σ:St) (H:Hp) (s:Shared) (e:Value) (s':Shared),Inv X pins σ H s->CX X.stack H s E e s'->X.xe e s'
section
variable{X:Cx}{CX:CXT}{k:Nat}{f C:Addr}{fd:FuncData}{ps:List Str}{sp:Sp}{dvs:List V}{ds:List Value}{E:XK}{x m:Str}{p pos apos:Pos}{e o:Expr}{es:List Expr}{ta:TE}{t:TA}
theorem qWb{pins:List (Addr×Obj)}{σ:St}{H:Hp}{s:Shared}{Q:VK}{us:List Value}{vs:List V}(F:FnOk X.prog X.w X.K X.mg X.base CX k f fd ps sp)(hr:Room k X.A)(hb:Binds X.K fd ps ds)(hd:Vals dvs ds)(hx:qMn CX X E)
 (I:Inv X pins σ H s) (r:Vals vs us) (h:sp (vs++dvs) H Q E):wpAny (model X.prog X.w) X.A (call (.ref f) us) (EP X pins σ Q) X.xe s:=by
 have r2:Vals (vs++dvs) (us++ds):=r.append hd;have hl:(us++ds).length=ps.length:=by rw[<-r2.length];exact F.len _ _ _ _ h
 refine wpAny_call (codeAny_mono (F.run X.A X.stack s H ⟨us,[]⟩ (us++ds) (vs++dvs) Q E hr I.env0 (hb s us I.kIn hl) r2 h) λr s' hq=>?_);cases r with
 |error e=>exact hx pins σ H s e s' I hq
 |ok fl=>
  cases fl with
  |ret u=>exact I.after hq
  |next=>exact False.elim hq
  |brk=>exact False.elim hq
  |cont=>exact False.elim hq
theorem qRk(F:FnOk X.prog X.w X.K X.mg X.base CX k f fd ps sp)(hr:Room k X.A)(hg:Gl X x)(hm:X.mg x=some (.ref f))(hk:PySem.W.keepIn X.K (.ref f)=true)(hb:Binds X.K fd ps ds)(hd:Vals dvs ds)(hx:qMn CX X E)
 (ha:PA X (e::es) t) (hdb:(x==("__debug__":Str))=false:=by decide) (he:starEach (e::es) X.env=(false,eval e X.env)::starEach es X.env:=by rfl) (hpl:(backTo pos (starEach es X.env)).any (·.1)=false:=by rfl):
 PE X (.Call (.Name x p) (e::es) [] pos) (qVg sp dvs E t):=by
 intro pins s σ H Q I h;refine wpAny_Call_Name_kw (qAs I hg hm ?_ hdb);refine PySem.W.callWith_K (h₀:=X.base) I.ok.mod.kin hk (thn (ha pos pins s σ H _ I h) λus s1 ⟨vs,H1,I1,r,q⟩=>⟨I1.kIn,?_⟩) he hpl;exact qWb F hr hb hd hx I1 r q
end
structure qP(N P:List Str)(sc:Scope):Prop where
 kind:sc.kind=.function
 co:sc.isCoroutine=false
 gen:sc.isGenerator=false
 nd:N.Nodup
 pre:N.take P.length=P
 par:∀x∈P,sc.names.lookup x=some .local\/sc.names.lookup x=some .cell
 nofree:∀y∈sc.names,y.2≠ .free
theorem qI2{kindOf:Str->Option NameKind}{x:Str}:∀{binds:List (Str×Value)} {m:Str->Option Value},(∀v,(x,v)∉binds)->bindL kindOf binds m x=m x
 |[],_,_=>rfl
 |(n,v)::r,m,h=>by
  unfold bindL;rw[qI2 λw hw=>h w (List.mem_cons_of_mem _ hw)];split
  . have:x≠n:=by rintro rfl;exact h v List.mem_cons_self
    simp[this]
  . rfl
theorem qI9{kindOf:Str->Option NameKind}{x:Str}:∀{binds:List (Str×Value)} {m:Str->Option Value},(∀v,(x,v)∉binds)->bindC kindOf binds m x=m x
 |[],_,_=>rfl
 |(n,v)::r,m,h=>by
  unfold bindC;rw[qI9 λw hw=>h w (List.mem_cons_of_mem _ hw)];split
  . rfl
  . have:x≠n:=by rintro rfl;exact h v List.mem_cons_self
    simp[this]
theorem qJ9{kindOf:Str->Option NameKind}{x:Str}{v:Value}:∀{P:List Str} {vs:List Value} {i:Nat} {m:Str->Option Value},P.Nodup->P[i]?=some x->vs[i]?=some v->kindOf x=some .local->
 bindL kindOf (P.zip vs) m x=some v
 |[],_,_,_,_,h,_,_=>by simp at h
 |_::_,[],_,_,_,_,h,_=>by simp at h
 |p::P,w::vs,0,m,nd,h1,h2,hk=>by simp at h1 h2;subst h1;subst h2;show bindL kindOf ((p,w)::P.zip vs) m p=_;unfold bindL;rw[qI2 λv hv=>(List.nodup_cons.mp nd).1 (List.of_mem_zip hv).1,YB hk];simp
 |p::P,w::vs,i+1,m,nd,h1,h2,hk=>by show bindL kindOf ((p,w)::P.zip vs) m x=_;unfold bindL;exact qJ9 (i:=i) (List.nodup_cons.mp nd).2 (by simpa using h1) (by simpa using h2) hk
theorem qIs{kindOf:Str->Option NameKind}{x:Str}{v:Value}:∀{P:List Str} {vs:List Value} {i:Nat} {m:Str->Option Value},P.Nodup->P[i]?=some x->vs[i]?=some v->kindOf x≠some .local->
 bindC kindOf (P.zip vs) m x=some v
 |[],_,_,_,_,h,_,_=>by simp at h
 |_::_,[],_,_,_,_,h,_=>by simp at h
 |p::P,w::vs,0,m,nd,h1,h2,hk=>by simp at h1 h2;subst h1;subst h2;show bindC kindOf ((p,w)::P.zip vs) m p=_;unfold bindC;rw[qI9 λv hv=>(List.nodup_cons.mp nd).1 (List.of_mem_zip hv).1,YA hk];simp
 |p::P,w::vs,i+1,m,nd,h1,h2,hk=>by show bindC kindOf ((p,w)::P.zip vs) m x=_;unfold bindC;exact qIs (i:=i) (List.nodup_cons.mp nd).2 (by simpa using h1) (by simpa using h2) hk
noncomputable def qEd(N:List Str)(vs:List V):St:=vs.map some++List.replicate (N.length-vs.length) none
noncomputable def qOr(CX:CXT)(P:Program)(w:World)(K:PySem.W.Frag)(mg:Str->Option Value)(base:Heap)(N:List Str)(qual:Str)(scope:Scope)(f:Addr)(cd:Value)(A:Around)(outer:List Env)(s:Shared)(H:Hp)(E:XK):Cx where
 prog:=P
 w:=w
 K:=K
 mg:=mg
 base:=base
 A:=A.deeper (envOfC qual scope s.heap.objs.size f cd)
 N:=N
 s₀:=s
 H₀:=H
 env:=envOfC qual scope s.heap.objs.size f cd
 outer:=outer
 stack:=envOfC qual scope s.heap.objs.size f cd::outer
 ex:=[]
 calm:=true
 fn:=λ_=>true
 pn:=[]
 xe:=λe s'=>wpAny (model P w) (A.deeper (envOfC qual scope s.heap.objs.size f cd)) (leaving (envOfC qual scope s.heap.objs.size f cd) e) (λ_ s''=>CX outer H s E e s'') (λe' s''=>CX outer H s E e' s'') s'
theorem qMx{sc:Scope}{n:Nat}{x:Str}(h:sc.names.lookup x=some .cell):∃c,(cellsFrom n sc.names []).lookup x=some c:=by have q:=PySem.W.cellsFrom_some sc.names n [] (.inl h);exact Option.isSome_iff_exists.mp q
theorem qO9{CX:CXT}{P:Program}{w:World}{K:PySem.W.Frag}{mg:Str->Option Value}{base:Heap}{N ps:List Str}{qual:Str}{scope:Scope}{f:Addr}{cd:Value}{A:Around}{outer:List Env}{s s1:Shared}{H:Hp}{E:XK}{us:List Value}{vs:List V}
 (S:qP N ps scope) (hd:A.handled=none) (e0:Env0 P w K mg base A outer s H) (hl:vs.length=ps.length) (r:Vals vs us)
 (x:InCallC s s.heap.objs.size (bindL (envOfC qual scope s.heap.objs.size f cd).kindOf (ps.zip us) λ_=>none) (cellsFrom (s.heap.objs.size+1) scope.names []) (bindC (envOfC qual scope s.heap.objs.size f cd).kindOf (ps.zip us) λ_=>none) s1):
 Inv (qOr CX P w K mg base N qual scope f cd A outer s H E) [] (qEd N vs) H s1:=by
 have hpl:ps.length<=N.length:=by have:=congrArg List.length S.pre;rw[Yk]at this;omega
 obtain⟨h1,tk,rfl,hk⟩:=x.done;have noA:∀b:Addr,b∉(qOr CX P w K mg base N qual scope f cd A outer s H E).ex:=λb z=>YC (show b∈([]:List Addr)from z) (by simp);refine⟨⟨e0.mod,S.kind,O,O,YI _,λy z c h1 h2=>?_,λy hy=>?_,λy c _ h=>?_,λ_=>hd,Around.frames_deeper e0.frames,.inr ⟨O,O⟩,λb z=>YC z (noA b),e0.bs,e0.bsz,λb _ _=>noA b,λb z=>YC z (noA b),e0.funs,e0.frf⟩,
  rfl,e0.bare,Un.kept hk,⟨_,x.toInCall.ns,λi y v h1 h2 h3=>?_⟩,λy c h=>⟨_,x.cell y c h⟩,e0.hok.fresh (YI _),λy c h=>?_,λp hp=>YC (show p∈([]:List (Addr×Obj))from hp) (by simp),e0.hok.kept hk,?_⟩
 . exact name_of_addr x.apart (ZQ h1) (ZQ h2)
 . have hy:scope.names.lookup y=some .cell\/scope.names.lookup y=some .free:=hy
   rcases hy with hy|hy
   . exact qMx hy
   . exact YC rfl (S.nofree _ (ZQ hy))
 . exact Nat.le_of_lt (x.above y c (ZQ h))
 . have hi:i<vs.length:=by
    unfold qEd at h2;by_cases hi:i<vs.length
    . exact hi
    . rw[Yz (by simpa using hi)]at h2
      rw[List.getElem?_replicate]at h2;split at h2 <;> cases h2
   have ha:vs[i]?=some v:=by
    unfold qEd at h2;rw[ZC (by simpa using hi),Yj]at h2;cases e:vs[i]? with
    |none=>rw[e]at h2;cases h2
    |some a=>rw[e]at h2;cases h2;rfl
   obtain⟨u,hu,rv⟩:=r.get ha;have hp:ps[i]?=some y:=by rw[<-S.pre,List.getElem?_take_of_lt (by omega)];exact h1
   have ndP:ps.Nodup:=by rw[<-S.pre];exact S.nd.sublist (List.take_sublist _ _)
   refine⟨u,rv,?_⟩;rcases S.par y (YF hp)with k|k
   . exact .inl ⟨k,qJ9 ndP hp hu k⟩
   . obtain⟨c,e⟩:=qMx (n:=s.heap.objs.size+1) k
     refine .inr ⟨.inl k,c,e,?_⟩;have q:=x.cell y c e;rw[qIs ndP hp hu (by show scope.names.lookup y≠_;rw[k];decide)]at q;exact q
 . exact e0.hok.fresh (Nat.le_of_lt (x.above y c (ZQ h)))
 . unfold qEd
   show _=N.length;rw[YN,YS,List.length_replicate];omega
theorem qW7{CX:CXT}{P:Program}{w:World}{K:PySem.W.Frag}{mg:Str->Option Value}{base:Heap}{k:Nat}{f:Addr}{name qual:Str}{params:Arguments}{body:List Stmt}{scope:Scope}{dV kV doc pm cdv ct oc:Value}{an od:Option Addr}
 {osl:Array (Option Value)} {N ps:List Str} {sp:Sp} (lk:K.lookup f=some ⟨oc,od,.func (PySem.W.fnOf name qual params body scope dV kV doc pm an cdv ct),osl⟩) (hcd:PySem.W.codeIn K cdv qual=true) (S:qP N ps scope)
 (len:∀vs H Q E,sp vs H Q E->vs.length=ps.length)
 (hbody:∀(A:Around) (outer:List Env) (s:Shared) (H:Hp) (vs:List V) (Q:VK) (E:XK),Room k (A.deeper (envOfC qual scope s.heap.objs.size f cdv))->sp vs H Q E->
   ∃t,PSs (qOr CX P w K mg base N qual scope f cdv A outer s H E) body t/\t {nx:=λ_ H'=>Q .non H',rt:=Q} (qEd N vs) H):
 FnOk P w K mg base CX (k+1) f (PySem.W.fnOf name qual params body scope dV kV doc pm an cdv ct) ps sp:=by
 refine⟨len,λA outer s H args us vs Q E hr e0 hb r hsp=>?_⟩;have hl:=len _ _ _ _ hsp;have KX:K.In s.heap:=e0.mod.kin.keeps λb o e=>(e0.bs b o e).1;have lim:s.heap.NoLimit:=e0.mod.nolimit.keeps λb o e=>(e0.bs b o e).1;have hkind:∀y∈ps.zip us,scope.names.lookup y.1=some .local\/(scope.names.lookup y.1=some .cell/\((cellsFrom (s.heap.objs.size+1) scope.names []).lookup y.1).isSome=true):=λ⟨n,v⟩ hy=>by
  rcases S.par n (List.of_mem_zip hy).1 with q|q
  . exact .inl q
  . exact .inr ⟨q,PySem.W.cellsFrom_some _ _ _ (.inl q)⟩
 refine codeAny_call_function hr.depth (KX _ _ lk) rfl S.co S.gen rfl (PySem.W.codeRec_of KX hcd) (hb _ _ _ _ ?_);refine wpAny_newFunctionEnv_cells S.kind hkind λenv he s1 x=>?_;subst he;refine⟨lim.keeps x.toInCall.keep,codeAny_func ?_⟩;obtain⟨t,ht,hq⟩:=hbody A outer s H vs Q E (hr.deeper _) hsp;have I:Inv (qOr CX P w K mg base N qual scope f cdv A outer s H E) [] (qEd N vs) H s1:=qO9 S hr.hd e0 hl r x;refine YL (ht [] s1 (qEd N vs) H _ I hq) (λfl s' hs=>?_) λe s' hs=>hs;have fin:∀{σ':St} {H':Hp} {v:V} {u:Value},Inv (qOr CX P w K mg base N qual scope f cdv A outer s H E) [] σ' H' s'->RelV v u->Q v H'->CE outer P w H s Q u s':=
  λ{σ' H' v u} J rv q=>⟨v,H',J.os,J.bare,J.base,J.hok,rv,q⟩
 cases fl with
 |ret u=>
  obtain⟨v,σ',H',J,rv,q⟩:=hs;exact fin J rv q
 |next=>
  obtain⟨σ',H',J,q⟩:=hs;exact fin (v:=V.non) (u:=Value.none) J rfl q
 |brk=>
  obtain⟨_,_,_,q⟩:=hs;exact False.elim q
 |cont=>
  obtain⟨_,_,_,q⟩:=hs;exact False.elim q
section
variable{X:Cx}{x:Str}{p pos:Pos}{e:Expr}{es:List Expr}{t:TA}{id T:String}{r:List V->Hp->VK->Prop}
def tCB(r:List V->Hp->VK->Prop)(t:TA):TE:=λσ H Q=>t σ H λvs H1=>r vs H1 Q
theorem qd(hc:wu X (.builtin id) r)(hg:Gl X x)(hm:X.mg x=none)(hv:bootBuiltins x=some (.builtin id))(ha:PA X (e::es) t)(hn:x≠"__name__":=by decide)(hdb:(x==("__debug__":Str))=false:=by decide)
 (he:starEach (e::es) X.env=(false,eval e X.env)::starEach es X.env:=by rfl) (hpl:(backTo pos (starEach es X.env)).any (·.1)=false:=by rfl):PE X (.Call (.Name x p) (e::es) [] pos) (tCB r t):=by
 intro pins s σ H Q I h;refine wpAny_Call_Name_kw (qJz I hg hm hv ?_ hn hdb);exact PyProof.Rows.callWith_builtin1 (thn (ha pos pins s σ H _ I h) λus s1 ⟨vs,H1,I1,r1,q1⟩=>hc pins s1 σ H1 vs us Q I1 r1 q1) he hpl
theorem zg(hc:wu X (.type T) r)(hg:Gl X x)(hm:X.mg x=none)(hv:bootBuiltins x=some (.type T))(ha:PA X (e::es) t)(hn:x≠"__name__":=by decide)(hdb:(x==("__debug__":Str))=false:=by decide)
 (he:starEach (e::es) X.env=(false,eval e X.env)::starEach es X.env:=by rfl) (hpl:(backTo pos (starEach es X.env)).any (·.1)=false:=by rfl):PE X (.Call (.Name x p) (e::es) [] pos) (tCB r t):=by
 intro pins s σ H Q I h;refine wpAny_Call_Name_kw (qJz I hg hm hv ?_ hn hdb);exact PyProof.Rows.callWith_type1 (thn (ha pos pins s σ H _ I h) λus s1 ⟨vs,H1,I1,r1,q1⟩=>hc pins s1 σ H1 vs us Q I1 r1 q1) he hpl
end
end L2
namespace HT
open PySem PyProof.Rows
section
variable{prog:Program}{w:World}{A:Around}{E:Value->Shared->Prop}{s:Shared}
theorem cat_tup{t b:Addr}{vs ws:List Value}{Q:Value->Shared->Prop}(ht:IsTup s.heap t vs.toArray)(hb:IsTup s.heap b ws.toArray)(hv:vs≠[])
 (h1:ws=[]->Q (.ref t) s) (h2:ws≠[]->Q (.ref s.heap.objs.size) {s with heap:=s.heap.push {cls:=.type "tuple",data:=.seq (vs++ws).toArray}})
 (hsz:vs.length+ws.length<=sizeLine):wpAny (model prog w) A (binaryOp .Add (.ref t) (.ref b)) Q E s:=by
 obtain⟨⟨cls,dd,data,sl⟩,ho,hc,n,hd⟩:=id ht;obtain⟨⟨cls2,dd2,data2,sl2⟩,ho2,hc2,n2,hd2⟩:=id hb;simp only at hc hd hc2 hd2;subst hc hd hc2 hd2;have e:vs.toArray++ws.toArray=(vs++ws).toArray:=by simp
 by_cases hw:ws=[]
 . exact concat_meets ⟨_,ho,O⟩ ⟨_,ho2,O⟩ noFill_tuple_add seq_tuple_add PySem.F.slot_tuple_add PySem.F.entry_tuple_add (PySem.F.args_tuple_add_2 _ _)
    (tuple_addW1 t b vs.toArray ws.toArray n n2 dd dd2 sl sl2 (by simpa using hv) (by simp[hw])) ⟨ho,ho2,h1 hw⟩
 . refine concat_meets ⟨_,ho,O⟩ ⟨_,ho2,O⟩ noFill_tuple_add seq_tuple_add PySem.F.slot_tuple_add PySem.F.entry_tuple_add (PySem.F.args_tuple_add_2 _ _)
    (tuple_addW2 t b vs.toArray ws.toArray n n2 dd dd2 sl sl2 (by simpa using hv) (by simpa using hw) (by rw[YG,YG];exact hsz)) ⟨ho,ho2,?_⟩
   rw[e];exact h2 hw
noncomputable def sIx(n d:Nat):Option Int->Nat
 |none=>d
 |some v=>if v<0 then (v+(n:Int)).toNat else min v.toNat n
theorem sIx_none(n d:Nat):sIx n d none=d:=rfl
theorem sIx_nat(n d k:Nat):sIx n d (some (k:Int))=min k n:=by show (if (k:Int)<0 then ((k:Int)+(n:Int)).toNat else min (k:Int).toNat n)=min k n;rw[YA (by omega),YQ]
theorem qW9(n d:Nat)(hd:d<=n)(o:Option Int):sIx n d o<=n:=by
 cases o with
 |none=>exact hd
 |some v=>
  show (if v<0 then (v+(n:Int)).toNat else min v.toNat n)<=n;by_cases hv:v<0
  . rw[YB hv];omega
  . rw[YA hv];exact Nat.min_le_right _ _
theorem qQn(v:Int)(n d:Nat):(if v<0 then max (v+(n:Int)) 0 else min v (n:Int))=((sIx n d (some v):Nat):Int):=by
 show (if v<0 then max (v+(n:Int)) 0 else min v (n:Int))=(((if v<0 then (v+(n:Int)).toNat else min v.toNat n):Nat):Int);by_cases hv:v<0
 . simp only[YB hv];omega
 . simp only[YA hv];omega
theorem qNs(lo hi:Option Int)(n:Nat):Builtin.Slice.sliceAdjust lo hi 1 (n:Int)=(((sIx n 0 lo:Nat):Int),((sIx n n hi:Nat):Int)):=by
 have h1:¬((1:Int)<0):=by omega
 unfold Builtin.Slice.sliceAdjust;simp only[h1,if_false];refine Prod.ext ?_ ?_
 . cases lo with
   |none=>rfl
   |some v=>exact qQn v n 0
 . cases hi with
   |none=>rfl
   |some v=>exact qQn v n n
theorem qOn(i j:Nat):Builtin.Slice.slicePlaces (i:Int) (j:Int) 1=j-i:=by
 unfold Builtin.Slice.slicePlaces;have h1:(1:Int)>0:=by omega
 simp only[h1,if_true,Int.ediv_one];split <;> omega
theorem qF4{v:Value}{o:Option Int}{Q:Option Int->Shared->Prop}(p:IsPart v o)(h:Q o s):wpAny (model prog w) A (Builtin.Slice.slicePartIndex v) Q E s:=by
 cases p with
 |none=>exact slicePart_none h
 |int i t=>exact slicePart_int h
theorem qDf{sl:Addr}{vl vu:Value}{lo hi:Option Int}{n:Nat}{Q:Int×Int×Nat->Shared->Prop}(hs:s.heap.IsSliceOf sl vl vu .none)(pl:IsPart vl lo)(pu:IsPart vu hi)
 (h:Q (((sIx n 0 lo:Nat):Int),1,sIx n n hi-sIx n 0 lo) s):wpAny (model prog w) A (Builtin.Slice.sliceApplied (.ref sl) (pure (n:Int))) Q E s:=by
 obtain⟨os,hos,hcs,hds⟩:=id hs;unfold Builtin.Slice.sliceApplied Builtin.Slice.sliceFields;refine YJ (YJ (wpAny_field hos hds (x:=vl) rfl (YJ (wpAny_field hos hds (x:=vu) rfl (YJ (wpAny_field hos hds (x:=.none) rfl (YK ?_)))))));refine YJ (slicePart_none ?_);show wpAny _ _ (if ((1:Int)==0)=true then _ else _) _ _ s;rw[YA (by decide)];refine YJ (qF4 pl (YJ (qF4 pu (YJ (YK ?_)))));show wpAny _ _ (match Builtin.Slice.sliceAdjust lo hi 1 (n:Int)with|(lo,hi)=>pure (lo,(1:Int),Builtin.Slice.slicePlaces lo hi 1)) _ _ s;rw[qNs lo hi n];show wpAny _ _ (pure (((sIx n 0 lo:Nat):Int),(1:Int),Builtin.Slice.slicePlaces ((sIx n 0 lo:Nat):Int) ((sIx n n hi:Nat):Int) 1)) _ _ s;rw[qOn];exact YK h
theorem qSo(xs:Array Value)(i k:Nat):((List.range k).filterMap λ(m:Nat)=>xs[((i:Int)+(m:Int)*1).toNat]?).toArray=((xs.toList.drop i).take k).toArray:=by
 have e:(λ(m:Nat)=>xs[((i:Int)+(m:Int)*1).toNat]?)=λm=>xs[i+m]?:=by
  funext m;have:((i:Int)+(m:Int)*1).toNat=i+m:=by omega
  rw[this]
 rw[e];have:=pick_run xs i k;rw[List.filterMap_map]at this;have e2:((λx=>xs[x]?) ∘ λx=>i+x)=λm=>xs[i+m]?:=rfl;rw[e2]at this;rw[this]
theorem getItem_tuple_cut{t sl:Addr}{items:Array Value}{vl vu:Value}{lo hi:Option Int}{Q:Value->Shared->Prop}(ht:IsTup s.heap t items)(hs:s.heap.IsSliceOf sl vl vu .none)(pl:IsPart vl lo)(pu:IsPart vu hi)
 (hw:¬(sIx items.size 0 lo=0/\sIx items.size items.size hi=items.size))
 (h:Q (.ref s.heap.objs.size) {s with heap:=s.heap.push {cls:=.type "tuple",data:=.seq ((items.toList.drop (sIx items.size 0 lo)).take (sIx items.size items.size hi-sIx items.size 0 lo)).toArray}})
 (hsz:items.size<=sizeLine):wpAny (model prog w) A (getItem (.ref t) (.ref sl)) Q E s:=by
 have htake:sizeOk (.seq ((items.toList.drop (sIx items.size 0 lo)).take (sIx items.size items.size hi-sIx items.size 0 lo)).toArray):=by show ((items.toList.drop (sIx items.size 0 lo)).take (sIx items.size items.size hi-sIx items.size 0 lo)).toArray.size<=sizeLine;rw[YG,Yk,ZV,Array.length_toList];omega
 have hj:sIx items.size items.size hi<=items.size:=qW9 _ _ (YI _) hi;obtain⟨os,hos,hcs,hds⟩:=id hs;have hTs:s.TypeIs (.ref sl) "slice":=⟨os,hos,hcs⟩;unfold getItem
 try with_reducible refine wpAny_holding ?_
 first|refine YJ (YK ?_)|skip
 refine YJ (wpAny_sequenceKey ht.typeIs (by decide) ?_);refine YJ (wpAny_callSpecial?_slot (name:=Str.ofString "__getitem__") ht.typeIs PyProof.Rows.slot_tuple_getitem
  (wpAny_call_entry PyProof.Rows.slot_tuple_getitem ht.typeIs entry_tuple_getitem ?_ (args_tuple_getitem _ _)))
 show wpAny _ _ (Builtin.Tuple.tupleItemsOf (.ref t)>>=_) _ _ s;refine YJ (tupleItemsOf_ ht ?_);refine YJ (wpAny_typeOf hTs ?_);rw[YB (by decide)];refine YJ (qDf hs pl pu ?_);have hno:¬((((sIx items.size 0 lo:Nat):Int)==0 && (1:Int)==1 && (sIx items.size items.size hi-sIx items.size 0 lo)==items.size)=true):=by intro q;rw[Yl,Yl]at q;have q1:((sIx items.size 0 lo:Nat):Int)=0:=eq_of_beq q.1.1;have q2:sIx items.size items.size hi-sIx items.size 0 lo=items.size:=eq_of_beq q.2;exact hw ⟨by omega,by omega⟩
 show wpAny _ _ (if (((sIx items.size 0 lo:Nat):Int)==0 && (1:Int)==1 && (sIx items.size items.size hi-sIx items.size 0 lo)==items.size)=true then _ else _) _ _ s;rw[YA hno,qSo]
 first
  |exact YJ (m:=Builtin.Tuple.tupleExact _) (wpAny_newObj_type (YK ⟨_,rfl,YK h⟩) htake)
  |exact YJ (m:=Builtin.Tuple.tupleExact _) (wpAny_newObj_type (YJ (YK (YK ⟨_,rfl,YK h⟩))) htake)
  |exact YJ (YJ (m:=Builtin.Tuple.tupleExact _) (wpAny_newObj_type (YK (YK ⟨_,rfl,YK h⟩)) htake))
  |exact YJ (YJ (m:=Builtin.Tuple.tupleExact _) (wpAny_newObj_type (YK ⟨_,rfl,YK h⟩) htake))
end
end HT
namespace L2
open PySem PySem.Spec PyProof.Rows
abbrev TO:=St->Hp->(Option Int->Hp->Prop)->Prop
def PO(X:Cx)(e:Option Expr)(t:TO):Prop:=
 ∀(pins:List (Addr×Obj)) (s:Shared) (σ:St) (H:Hp) (Q:Option Int->Hp->Prop),Inv X pins σ H s->t σ H Q->
  wpAny (model X.prog X.w) X.A (evalPart e X.env) (λu s'=> ∃o H',Inv X pins σ H' s'/\IsPart u o/\Q o H') X.xe s
noncomputable def qVd:TO:=λ_ H Q=>Q none H
inductive qWx(Q:Option Int->Hp->Prop)(x:V)(H1:Hp):Prop
|mk i (_:x=.int i) (_:Q (some i) H1)
noncomputable def qX6(t:TE):TO:=λσ H Q=>t σ H λx H1=>qWx Q x H1
section
variable{X:Cx}{e:Expr}{te:TE}{lo hi:Option Expr}{tl th:TO}{pos p2:Pos}
theorem wA:PO X none qVd:=by intro pins s σ H Q I h;rw[evalPart_none];exact YK ⟨none,H,I,.none,h⟩
theorem zZ(h:PE X e te):PO X (some e) (qX6 te):=by intro pins s σ H Q I hw;rw[evalPart_some];refine thn (h pins s σ H _ I hw) λu s1 ⟨x,H1,I1,r1,q1⟩=>?_;obtain⟨i,rfl,q⟩:=q1;obtain⟨t,rfl⟩:=r1;exact⟨some i,H1,I1,.int i t,q⟩
def SlR(X:Cx)(r:V->Option Int->Option Int->Hp->VK->Prop):Prop:=
 ∀(pins:List (Addr×Obj)) (s:Shared) (σ:St) (H:Hp) (x:V) (v vl vu:Value) (lo hi:Option Int) (sl:Addr) (Q:VK),Inv X pins σ H s->RelV x v->s.heap.IsSliceOf sl vl vu .none->IsPart vl lo->IsPart vu hi->r x lo hi H Q->
  ∃T id,typeLookup (.type T) "__getitem__"=pure (some (.builtin id))/\s.TypeIs v T/\wpAny (model X.prog X.w) X.A (getItem v (.ref sl)) (EP X pins σ Q) X.xe s
def tSl(r:V->Option Int->Option Int->Hp->VK->Prop)(te:TE)(tl th:TO):TE:=λσ H Q=>te σ H λx H1=>tl σ H1 λl H2=>th σ H2 λu H3=>r x l u H3 Q
theorem zO{r:V->Option Int->Option Int->Hp->VK->Prop}(hr:SlR X r)(he:PE X e te)(hl:PO X lo tl)(hu:PO X hi th):PE X (.Subscript e (.Slice lo hi none p2) pos) (tSl r te tl th):=by intro pins s σ H Q I h;refine Subscript_ (thn (he pins s σ H _ I h) λv s1 ⟨x,H1,I1,r1,q1⟩=>?_);refine wpAny_Slice (thn (hl pins s1 σ H1 _ I1 q1) λvl s2 ⟨l,H2,I2,pl,q2⟩=>thn (hu pins s2 σ H2 _ I2 q2) λvu s3 ⟨u,H3,I3,pu,q3⟩=>?_);rw[evalPart_none];refine YK ?_;have I4:Inv X pins σ H3 {s3 with heap:=s3.heap.push {cls:=.type "slice",data:=.fields #[vl,vu,.none]}}:=I3.kept (t':=s3.toks) λb ob q=>YM _ q;obtain⟨T,id,hT,ht,hg⟩:=hr pins {s3 with heap:=s3.heap.push {cls:=.type "slice",data:=.fields #[vl,vu,.none]}} σ H3 x v vl vu l u s3.heap.objs.size Q I4 r1 (Heap.IsSliceOf.new ..) pl pu q3;show wpAny (model X.prog X.w) X.A (subscriptTail e (.Slice lo hi none p2) v (.ref s3.heap.objs.size)) (EP X pins σ Q) X.xe {s3 with heap:=s3.heap.push {cls:=.type "slice",data:=.fields #[vl,vu,.none]}};exact tail_any (ops:=[.ref s3.heap.objs.size,v]) ht hT hg (by with_unfolding_all rfl)
noncomputable def zd(xs:List V)(lo hi:Option Int):List V:=(xs.drop (HT.sIx xs.length 0 lo)).take (HT.sIx xs.length xs.length hi-HT.sIx xs.length 0 lo)
theorem ku(xs:List V)(lo hi:Option Int):(zd xs lo hi).length<=xs.length:=by unfold zd;rw[Yk,ZV];omega
inductive qZ2(K:PySem.W.Frag)(x:V)(lo:Option Int)(hi:Option Int)(H:Hp)(Q:VK):Prop
|mk a xs (_:x=.ref a) (_:SqT K H a xs) (_:¬(HT.sIx xs.length 0 lo=0/\HT.sIx xs.length xs.length hi=xs.length)) (_:∀p,H p=none->Q (.ref p) (upd H p (.tup (zd xs lo hi))))
theorem qWo:SlR X (qZ2 X.K):=by
 intro pins s σ H x v vl vu lo hi sl Q I rx hs pl pu h;obtain⟨a,xs,rfl,hx,hw,q⟩:=h;cases rx;obtain⟨its,r,ht,hz⟩:=I.tuple hx;have hlen:its.toArray.size=xs.length:=by rw[YG];exact r.length.symm
 refine⟨"tuple",_,PyProof.Rows.slot_tuple_getitem.lookup,ht.typeIs,?_⟩;refine HT.getItem_tuple_cut ht hs pl pu (by rw[hlen];exact hw) ?_ (by rw[hlen];exact hz);rw[hlen];refine⟨.ref s.heap.objs.size,_,I.laid (t':=s.toks) (o:=.tup (zd xs lo hi)) (λb ob q=>YM _ q) (YI _) ?_,O,q _ (I.hok.fresh (YI _))⟩;exact⟨ZD (ku xs lo hi) hz,_,(r.drop (HT.sIx xs.length 0 lo)).take (HT.sIx xs.length xs.length hi-HT.sIx xs.length 0 lo),IsTup.new _ _⟩
def qX8(K:PySem.W.Frag):R2:=λx y H Q=> ∃a b xs ys,x=.ref a/\y=.ref b/\SqT K H a xs/\SqT K H b ys/\xs≠[]/\xs.length+ys.length<=sizeLine/\
 (ys=[]->Q (.ref a) H)/\(ys≠[]->∀p,H p=none->Q (.ref p) (upd H p (.tup (xs++ys))))
theorem Vals.nil_iff{xs:List V}{us:List Value}(r:Vals xs us):us=[]↔xs=[]:=by
 cases r with
 |nil=>simp
 |cons _ _=>simp
theorem qT6:OpR X (binaryOp .Add) (qX8 X.K):=by intro pins s σ H x y v u Q I rx ry h;obtain⟨a,b,xs,ys,rfl,rfl,ha,hb,hx,hz,q1,q2⟩:=h;cases rx;cases ry;obtain⟨its,r1,p1,_⟩:=I.tuple ha;obtain⟨its2,r2,p2,_⟩:=I.tuple hb;refine HT.cat_tup p1 p2 (λz=>hx (r1.nil_iff.mp z)) (λz=>⟨.ref a,H,I,O,q1 (r2.nil_iff.mp z)⟩) (λz=>?_) (by rw[<-r1.length,<-r2.length];exact hz);refine⟨.ref s.heap.objs.size,_,I.laid (t':=s.toks) (o:=.tup (xs++ys)) (λb ob q=>YM _ q) (YI _) ?_,O,q2 (λw=>z (r2.nil_iff.mpr w)) _ (I.hok.fresh (YI _))⟩;exact⟨by rw[YN];exact hz,_,r1.append r2,IsTup.new _ _⟩
end
noncomputable def ixN(n:Nat)(i:Int):Option Nat:=if 0<=i then (if i<n then some i.toNat else none)else if-(n:Int)<=i then some (i+n).toNat else none
noncomputable def atI{α:Type}(xs:List α)(i:Int):Option α:=(ixN xs.length i).bind λj=>xs[j]?
theorem qO2{n:Nat}{i:Int}{j:Nat}(h:ixN n i=some j):seqIndex? i n=some j/\j<n/\ -(n:Int)<=i/\i<n:=by
 unfold ixN at h;by_cases h0:0<=i
 . rw[YB h0]at h
   by_cases h1:i<n
   . rw[YB h1]at h
     have e:i.toNat=j:=Yb h;exact⟨by rw[seqIndex_of h0 h1,e],by omega,by omega,h1⟩
   . rw[YA h1]at h;cases h
 . rw[YA h0]at h
   by_cases h1: -(n:Int)<=i
   . rw[YB h1]at h
     have e:(i+n).toNat=j:=Yb h;exact⟨by rw[seqIndex_neg (by omega) h1,e],by omega,h1,by omega⟩
   . rw[YA h1]at h;cases h
theorem qQz{α:Type}{xs:List α}{i:Int}{v:α}(h:atI xs i=some v):∃j,seqIndex? i xs.length=some j/\xs[j]?=some v/\j<xs.length/\ -(xs.length:Int)<=i/\i<xs.length:=by
 unfold atI at h;cases e:ixN xs.length i with
 |none=>rw[e]at h;cases h
 |some j=>
  rw[e]at h;obtain⟨h1,h2,h3,h4⟩:=qO2 e;exact⟨j,h1,h,h2,h3,h4⟩
theorem q8{α:Type}{xs:List α}{j:Nat}{v:α}(h:xs[j]?=some v):atI xs (j:Int)=some v:=by
 have hj:j<xs.length:=(Ya.mp h).1;have e:ixN xs.length (j:Int)=some j:=by unfold ixN;rw[YB (by omega),YB (by omega)];simp
 unfold atI;rw[e];exact h
theorem qRr{α:Type}(xs:List α)(v:α):atI (xs++[v]) (-1)=some v:=by
 have hl:(xs++[v]).length=xs.length+1:=by simp
 have e:ixN (xs++[v]).length (-1)=some xs.length:=by unfold ixN;rw[hl,YA (by decide),YB (by omega)];congr 1;omega
 unfold atI;rw[e];show (xs++[v])[xs.length]?=some v;simp
def qVm(b:Expr):Prop:= ∀o i,subscripted b false o i=operate [o,i] (getItem o i)
def IxR(X:Cx)(r:R2):Prop:=
 ∀(value slice:Expr) (pins:List (Addr×Obj)) (s:Shared) (σ:St) (H:Hp) (x y:V) (v u:Value) (Q:VK),Inv X pins σ H s->RelV x v->RelV y u->r x y H Q->
  subscripted slice false v u=operate [v,u] (getItem v u)->wpAny (model X.prog X.w) X.A (subscriptTail value slice v u) (EP X pins σ Q) X.xe s
def MtR(X:Cx)(id:String)(r:V->List V->Hp->VK->Prop):Prop:=
 ∀(pins:List (Addr×Obj)) (s:Shared) (σ:St) (H:Hp) (x:V) (xs:List V) (v:Value) (us:List Value) (Q:VK),Inv X pins σ H s->RelV x v->Vals xs us->r x xs H Q->
  wpAny (model X.prog X.w) X.A (call (.builtin id) (v::us)) (EP X pins σ Q) X.xe s
section
variable{X:Cx}{a b:Expr}{ta tb:TE}{pos:Pos}
theorem IxR.or{r r':R2}(h:IxR X r)(h':IxR X r'):IxR X (λx y H Q=>r x y H Q\/r' x y H Q):=by
 intro value slice pins s σ H x y v u Q I rx ry q hs;rcases q with q|q
 . exact h value slice pins s σ H x y v u Q I rx ry q hs
 . exact h' value slice pins s σ H x y v u Q I rx ry q hs
theorem jP{r:R2}(hr:IxR X r)(ha:PE X a ta)(hb:PE X b tb)(hs:qVm b):PE X (.Subscript a b pos) (tOp r ta tb):=by intro pins s σ H Q I h;exact Subscript_ (qYm ha hb I h λv u s2 x y H2 I2 rx ry q=>hr a b pins s2 σ H2 x y v u Q I2 rx ry q (hs _ _))
inductive qZh(K:PySem.W.Frag)(x:V)(y:V)(H:Hp)(Q:VK):Prop
|mk p xs i v (_:x=.ref p) (_:y=.int i) (_:SqL K H p xs) (_:atI xs i=some v) (_:Q v H)
inductive qVt(K:PySem.W.Frag)(x:V)(y:V)(H:Hp)(Q:VK):Prop
|mk p xs i v (_:x=.ref p) (_:y=.int i) (_:SqT K H p xs) (_:atI xs i=some v) (_:Q v H)
theorem qo:IxR X (qZh X.K):=by
 intro value slice pins s σ H x y v u Q I rx ry h hs;obtain⟨p,xs,i,z,rfl,rfl,hq,he,q⟩:=h;cases rx;obtain⟨t,rfl⟩:=ry;obtain⟨its,r,pl,hz⟩:=I.list hq;obtain⟨j,h1,h2,h3,h4,h5⟩:=qQz he;obtain⟨w,ew,rw'⟩:=r.get h2;have hl:=r.length;have hn:=qI0;have fin:EP X pins σ Q w s:=⟨z,H,I,rw',q⟩;by_cases h0:0<=i
 . have hj:i.toNat=j:=by rw[seqIndex_of h0 h5]at h1;exact Yb h1
   exact item_listR pl.isList h0 (by omega) (by rw[hj];simpa using ew) fin hs
 . have hj:(i+(its.toArray.size:Int)).toNat=j:=by rw[seqIndex_neg (by omega) h4]at h1;rw[YG,<-hl];exact Yb h1
   exact subscriptTail_builtinR (x:=w) pl.isList.typeIs slot_list_getitem.lookup
    (wpAny_getItem_list_neg (Q:=λr s'=>r=w/\EP X pins σ Q r s') pl.isList (by omega) (by rw[YG] <;> omega) (by omega) (by rw[hj];simpa using ew) ⟨rfl,fin⟩) hs
theorem qF9:IxR X (qVt X.K):=by
 intro value slice pins s σ H x y v u Q I rx ry h hs;obtain⟨p,xs,i,z,rfl,rfl,hq,he,q⟩:=h;cases rx;obtain⟨t,rfl⟩:=ry;obtain⟨its,r,pl,hz⟩:=I.tuple hq;obtain⟨j,h1,h2,h3,h4,h5⟩:=qQz he;obtain⟨w,ew,rw'⟩:=r.get h2;have hl:=r.length;have hn:=qI0;have fin:EP X pins σ Q w s:=⟨z,H,I,rw',q⟩;exact subscriptTail_builtinR (x:=w) pl.typeIs slot_tuple_getitem.lookup
  (getItem_tuple (j:=j) (Q:=λr s'=>r=w/\EP X pins σ Q r s') pl (by omega) (by omega) (by rw[YG,<-hl];exact h1) (by simpa using ew) ⟨rfl,fin⟩) hs
theorem qNv(its:List Value)(n j:Nat)(u:Value):Obj.mapSeq (·.setIfInBounds j u) {cls:=.type "list",data:=.seq its.toArray n}={cls:=.type "list",data:=.seq (its.set j u).toArray n}:=by simp[Obj.mapSeq]
theorem Inv.lst{pins:List (Addr×Obj)}{σ:St}{H:Hp}{s:Shared}{p:Addr}{xs:List V}(I:Inv X pins σ H s)(h:H p=some (.lst xs)):
 ∃(its:List Value) (n:Nat),Vals xs its/\s.heap.get? p=some {cls:=.type "list",data:=.seq its.toArray n}/\xs.length<=sizeLine:=by
 obtain⟨z,its,n,r,e⟩:=I.hok p _ h;exact⟨its,n,r,e,z⟩
theorem Inv.lstUpd{pins:List (Addr×Obj)}{σ:St}{H:Hp}{s:Shared}{p:Addr}{xs ys:List V}{its its':List Value}{n n':Nat}{f:Obj->Obj}(I:Inv X pins σ H s)(h:H p=some (.lst xs))
 (ho:s.heap.get? p=some {cls:=.type "list",data:=.seq its.toArray n}) (hf:f {cls:=.type "list",data:=.seq its.toArray n}={cls:=.type "list",data:=.seq its'.toArray n'}) (r:Vals ys its') (hz:ys.length<=sizeLine) (t:Nat):
 Inv X pins σ (upd H p (.lst ys)) {s with heap:=s.heap.update p f,toks:=t}:=by
 have e:(s.heap.update p f).get? p=some {cls:=.type "list",data:=.seq its'.toArray n'}:=by rw[Heap.get?_update_self f ho (by rw[hf] <;> rfl),hf]
 refine I.write (x:=p) (e:=p) (by rw[h];trivial) (.inl rfl) (λb u hb q=>(ZB _ _ (ZG hb)).trans q) ⟨_,e⟩ ?_;exact⟨hz,its',n',r,e⟩
def qXs:V->V->V->Hp->(Hp->Prop)->Prop:=λo i v H Q=> ∃p xs k j,o=.ref p/\i=.int k/\H p=some (.lst xs)/\ixN xs.length k=some j/\Q (upd H p (.lst (xs.set j v)))
theorem qDo:qZa X qXs:=by
 intro pins s σ H o i v ov iv u Q I ro ri rv h;obtain⟨p,xs,k,j,rfl,rfl,hp,hj,q⟩:=h;cases ro;obtain⟨t,rfl⟩:=ri;obtain⟨its,n,r,ho,hz⟩:=I.lst hp;obtain⟨h1,h2,h3,h4⟩:=qO2 hj;have hl:=r.length;have hn:=qI0;have I':Inv X pins σ (upd H p (.lst (xs.set j v))) {s with heap:=s.heap.update p (Obj.mapSeq (·.setIfInBounds j u))}:=
  I.lstUpd hp ho (qNv its n j u) (r.set rv j) (by rw[ZN];exact hz) s.toks
 by_cases h0:0<=k
 . have hk:k.toNat=j:=by rw[seqIndex_of h0 h4]at h1;exact Yb h1
   exact PySem.W.ki_setAt ho h0 (by omega) (by rw[YG,<-hl];exact h4) (by rw[hk];exact⟨_,I',q⟩)
 . have hk:(k+(its.toArray.size:Int)).toNat=j:=by rw[seqIndex_neg (by omega) h3]at h1;rw[YG,<-hl];exact Yb h1
   exact PySem.W.ki_setBack ho (by omega) (by rw[YG,<-hl];exact h3) (by omega) (by rw[hk];exact⟨_,I',q⟩)
theorem qJl(lo hi:Option Int)(n:Nat):(sliceBounds lo hi none n).1=((HT.sIx n 0 lo:Nat):Int)/\(sliceBounds lo hi none n).2.1=((HT.sIx n n hi:Nat):Int)/\(sliceBounds lo hi none n).2.2=1:=by
 refine⟨?_,?_,O⟩
 . cases lo with
   |none=>simp[sliceBounds,HT.sIx]
   |some i=>
    simp only[sliceBounds,HT.sIx,Option.getD_none,show (1:Int)>0 by decide,if_true];by_cases h:i<0
    . simp only[h,if_true] <;> omega
    . simp only[h,if_false] <;> omega
 . cases hi with
   |none=>simp[sliceBounds,HT.sIx]
   |some i=>
    simp only[sliceBounds,HT.sIx,Option.getD_none,show (1:Int)>0 by decide,if_true];by_cases h:i<0
    . simp only[h,if_true] <;> omega
    . simp only[h,if_false] <;> omega
theorem qHv(its:List Value)(lo hi:Option Int):slicePick its.toArray lo hi none=((its.drop (HT.sIx its.length 0 lo)).take (HT.sIx its.length its.length hi-HT.sIx its.length 0 lo)).toArray:=by obtain⟨h1,h2,h3⟩:=qJl lo hi its.toArray.size;unfold slicePick;rw[h1,h2,h3];simp only[sliceRange_one,pick_run,YG] <;> rfl
inductive qZ5(K:PySem.W.Frag)(x:V)(lo:Option Int)(hi:Option Int)(H:Hp)(Q:VK):Prop
|mk a xs (_:x=.ref a) (_:SqL K H a xs) (_:∀p,H p=none->Q (.ref p) (upd H p (.lst (zd xs lo hi))))
theorem vU:SlR X (qZ5 X.K):=by intro pins s σ H x v vl vu lo hi sl Q I rx hs pl pu h;obtain⟨a,xs,rfl,hx,q⟩:=h;cases rx;obtain⟨its,r,ht,hz⟩:=I.list hx;have hlen:=r.length;refine⟨"list",_,slot_list_getitem.lookup,ht.isList.typeIs,?_⟩;refine wpAny_getItem_list_slice ht.isList hs pl pu .none (by simp) ?_ (by rw[YG] <;> omega);rw[qHv,<-hlen];refine⟨.ref s.heap.objs.size,_,I.laid (t':=s.toks) (o:=.lst (zd xs lo hi)) (λb ob q=>YM _ q) (YI _) ?_,O,q _ (I.hok.fresh (YI _))⟩;exact⟨ZD (ku xs lo hi) hz,_,0,(r.drop (HT.sIx xs.length 0 lo)).take (HT.sIx xs.length xs.length hi-HT.sIx xs.length 0 lo),Yn _ rfl⟩
noncomputable def kY:V->Bool
 |.non=>true
 |.bl _=>true
 |.int _=>true
 |.str _=>true
 |_=>false
noncomputable def eqV:V->V->Bool
 |.non,.non=>true
 |.bl a,.bl b=>a==b
 |.bl a,.int b=>(if a then 1 else 0)==b
 |.int a,.bl b=>a==(if b then 1 else 0)
 |.int a,.int b=>a==b
 |.str a,.str b=>a==b
 |_,_=>false
theorem qMk{A:Around}{s:Shared}{y x:V}{u v:Value}(ry:RelV y u)(rx:RelV x v)(fy:kY y=true)(fx:kY x=true):SeqAt.EqAt A s u v (eqV y x):=by
 cases y with
 |non=>
  cases ry;cases x with
  |non=>cases rx;exact SeqAt.EqAt.same _
  |bl b=>cases rx;exact SeqAt.EqAt.none_bool b
  |int b=>obtain⟨t,rfl⟩:=rx;exact SeqAt.EqAt.none_int b t
  |str b=>obtain⟨t,rfl⟩:=rx;exact SeqAt.EqAt.none_str b t
  |_=>exact YC (show false=true from fx) YZ
 |bl a=>
  cases ry;cases x with
  |non=>cases rx;exact SeqAt.EqAt.bool_none a
  |bl b=>cases rx;exact SeqAt.EqAt.bool_bool a b
  |int b=>obtain⟨t,rfl⟩:=rx;exact SeqAt.EqAt.bool_int a b t
  |str b=>obtain⟨t,rfl⟩:=rx;exact SeqAt.EqAt.bool_str a b t
  |_=>exact YC (show false=true from fx) YZ
 |int a=>
  obtain⟨t',rfl⟩:=ry;cases x with
  |non=>cases rx;exact SeqAt.EqAt.int_none a t'
  |bl b=>cases rx;exact SeqAt.EqAt.int_bool a t' b
  |int b=>obtain⟨t,rfl⟩:=rx;exact SeqAt.EqAt.int_int a t' b t
  |str b=>obtain⟨t,rfl⟩:=rx;exact SeqAt.EqAt.int_str a t' b t
  |_=>exact YC (show false=true from fx) YZ
 |str a=>
  obtain⟨t',rfl⟩:=ry;cases x with
  |non=>cases rx;exact SeqAt.EqAt.str_none a t'
  |bl b=>cases rx;exact SeqAt.EqAt.str_bool a t' b
  |int b=>obtain⟨t,rfl⟩:=rx;exact SeqAt.EqAt.str_int a t' b t
  |str b=>obtain⟨t,rfl⟩:=rx;exact SeqAt.EqAt.str_str a t' b t
  |_=>exact YC (show false=true from fx) YZ
 |_=>exact YC (show false=true from fy) YZ
noncomputable def eqU(x:V)(u:Value):Bool:=match u with
 |.none=>eqV .non x
 |.bool b=>eqV (.bl b) x
 |.int i _=>eqV (.int i) x
 |.str z _=>eqV (.str z) x
 |_=>false
theorem qTp{x y:V}{u:Value}(r:RelV y u)(f:kY y=true):eqU x u=eqV y x:=by
 cases y with
 |non=>cases r;rfl
 |bl b=>cases r;rfl
 |int i=>obtain⟨t,rfl⟩:=r;rfl
 |str z=>obtain⟨t,rfl⟩:=r;rfl
 |_=>exact YC (show false=true from f) YZ
theorem qEj{x:V}:∀{xs:List V} {us:List Value},Vals xs us->xs.all kY=true->us.any (eqU x)=xs.any λy=>eqV y x
 |_,_,.nil,_=>rfl
 |y::xs,u::us,.cons r t,f=>by rw[List.all_cons,Yl]at f;rw[List.any_cons,List.any_cons,qTp r f.1,qEj t f.2]
theorem qBj{A:Around}{s:Shared}{x:V}{v:Value}(rx:RelV x v)(fx:kY x=true):∀{xs:List V} {us:List Value},Vals xs us->xs.all kY=true->∀u∈us,SeqAt.EqAt A s u v (eqU x u)
 |_,_,.nil,_=>λu hu=>by cases hu
 |y::xs,u::us,.cons r t,f=>λu' hu=>by
  rw[List.all_cons,Yl]at f;rcases YU.mp hu with rfl|hu
  . rw[qTp r f.1];exact qMk r rx f.1 fx
  . exact qBj rx fx t f.2 u' hu
noncomputable def inV(x:V)(xs:List V):Bool:=xs.any λy=>eqV y x
inductive rIn(K:PySem.W.Frag)(neg:Bool)(x:V)(y:V)(H:Hp)(Q:VK):Prop
|mk p xs (_:y=.ref p) (_:(SqL K H p xs\/SqT K H p xs)) (_:kY x=true) (_:xs.all kY=true) (_:Q (.bl (if neg then !inV x xs else inV x xs)) H)
theorem jF:OpR X (compareOp .In) (rIn X.K false):=by
 intro pins s σ H x y v u Q I rx ry h;obtain⟨p,xs,rfl,hq,fx,fs,q⟩:=h;cases ry;rcases hq with hq|hq
 . obtain⟨its,r,pl,hz⟩:=I.list hq
   refine SeqAt.in_listAt (eqU x) pl.isList (λw hw=>qBj rx fx r fs w (by simpa using hw)) ⟨.bl _,H,I,O,?_⟩;rw[show its.toArray.any (eqU x)=its.any (eqU x) by simp,qEj r fs];exact q
 . obtain⟨its,r,pl,hz⟩:=I.tuple hq
   refine SeqAt.in_tupleAt (eqU x) pl (λw hw=>qBj rx fx r fs w (by simpa using hw)) ⟨.bl _,H,I,O,?_⟩;rw[show its.toArray.any (eqU x)=its.any (eqU x) by simp,qEj r fs];exact q
theorem vh:OpR X (compareOp .NotIn) (rIn X.K true):=by
 intro pins s σ H x y v u Q I rx ry h;obtain⟨p,xs,rfl,hq,fx,fs,q⟩:=h;cases ry;rcases hq with hq|hq
 . obtain⟨its,r,pl,hz⟩:=I.list hq
   refine SeqAt.notIn_listAt (eqU x) pl.isList (λw hw=>qBj rx fx r fs w (by simpa using hw)) ⟨.bl _,H,I,O,?_⟩;rw[show its.toArray.any (eqU x)=its.any (eqU x) by simp,qEj r fs];exact q
 . obtain⟨its,r,pl,hz⟩:=I.tuple hq
   refine SeqAt.notIn_tupleAt (eqU x) pl (λw hw=>qBj rx fx r fs w (by simpa using hw)) ⟨.bl _,H,I,O,?_⟩;rw[show its.toArray.any (eqU x)=its.any (eqU x) by simp,qEj r fs];exact q
theorem jM:wu X (.builtin "len") (λxs H Q=> ∃p ys,xs=[.ref p]/\(SqL X.K H p ys\/SqT X.K H p ys)/\Q (.int ys.length) H):=by
 intro pins s σ H xs us Q I r h;obtain⟨p,ys,rfl,hq,q⟩:=h;obtain⟨u,rfl,rx⟩:=qKc r;cases rx;have hn:=qI0;rcases hq with hq|hq
 . obtain⟨its,r',pl,hz⟩:=I.list hq
   have hlen:=r'.length;exact Calls.call_len_list pl.isList (by simp only[YG] <;> omega) ⟨.int ys.length,H,I.tok _,⟨s.toks+1,by rw[YG,hlen]⟩,q⟩
 . obtain⟨its,r',pl,hz⟩:=I.tuple hq
   have hlen:=r'.length;exact len_tuple pl (by simp only[YG] <;> omega) ⟨.int ys.length,H,I.tok _,⟨s.toks+1,by rw[YG,hlen]⟩,q⟩
theorem qCz:wu X (.builtin "len") (λxs H Q=> ∃z,xs=[.str z]/\z.length<=sizeLine/\Q (.int z.length) H):=by intro pins s σ H xs us Q I r h;obtain⟨z,rfl,hz,q⟩:=h;obtain⟨u,rfl,t,rfl⟩:=qKc r;have hn:=qI0;exact len_str (by omega) ⟨.int z.length,H,I.tok _,⟨_,O⟩,q⟩
theorem xt:wu X (.type "list") (λxs H Q=> ∃p ys,xs=[.ref p]/\(SqL X.K H p ys\/SqT X.K H p ys)/\∀l,H l=none->Q (.ref l) (upd H l (.lst ys))):=by
 intro pins s σ H xs us Q I r h;obtain⟨p,ys,rfl,hq,q⟩:=h;obtain⟨u,rfl,rx⟩:=qKc r;cases rx;have fin:∀(its:List Value),Vals ys its->ys.length<=sizeLine->∀(h':Heap) (c':Nat),(∀b o',s.heap.get? b=some o'->h'.get? b=some o')->
  h'.get? s.heap.objs.size=some {cls:=.type "list",dict:=none,data:=.seq its.toArray c',slots:= #[]}->EP X pins σ Q (.ref s.heap.objs.size) {s with heap:=h'}:=λits r' hz h' c' kp e=>
  ⟨.ref s.heap.objs.size,_,I.laid (t':=s.toks) kp (YI _) (show ObjOk X.prog X.w _ h' _ (.lst ys)from ⟨hz,its,c',r',e⟩),rfl,q _ (I.hok.fresh (YI _))⟩
 rcases hq with hq|hq
 . obtain⟨its,r',pl,hz⟩:=I.list hq
   have hlen:=r'.length;obtain⟨o,ho,hc,n,hd⟩:=pl.isList;exact call_list_seq p (.inl rfl) ho hc hd (λh' c' kp e=>fin its r' hz h' c' kp e) (by simp only[YG] <;> omega)
 . obtain⟨its,r',pl,hz⟩:=I.tuple hq
   have hlen:=r'.length;obtain⟨o,ho,hc,n,hd⟩:=pl;exact call_list_seq p (.inr rfl) ho hc hd (λh' c' kp e=>fin its r' hz h' c' kp e) (by simp only[YG] <;> omega)
def tyV(K:PySem.W.Frag)(T:String)(x:V)(H:Hp):Prop:=match x with
 |.str _=>T="str"
 |.int _=>T="int"
 |.ref p=>(T="list"/\∃xs,SqL K H p xs)\/(T="tuple"/\∃o,K.lookup p=some o/\o.cls=.type "tuple"/\o.dict=none)\/
  (T="dict"/\((∃kvs,H p=some (.dK kvs))\/∃kvs,H p=some (.dT kvs)))\/(T="set"/\∃S n,H p=some (.set S n))
 |_=>False
theorem qTt{pins:List (Addr×Obj)}{σ:St}{H:Hp}{s:Shared}{T:String}{x:V}{v:Value}(I:Inv X pins σ H s)(r:RelV x v)(ty:tyV X.K T x H):
 s.TypeIs v T/\∀a,v=.ref a->∃ob,s.heap.get? a=some ob/\ob.dict=none:=by
 cases x with
 |str z=>
  obtain⟨t,rfl⟩:=r;cases (show T="str" from ty);exact⟨typeIs_str s z t,λ_ e=>nomatch e⟩
 |int i=>
  obtain⟨t,rfl⟩:=r;cases (show T="int" from ty);exact⟨typeIs_int s i t,λ_ e=>nomatch e⟩
 |ref p=>
  cases r;rcases ty with ⟨rfl,xs,hq⟩|⟨rfl,o,hk,hc,hd⟩|⟨rfl,hk⟩|⟨rfl,S,n,hk⟩
  . obtain⟨its,_,pl,_⟩:=I.list hq
    refine⟨pl.isList.typeIs,λa e=>?_⟩;cases e;obtain⟨o,n,e,c,hd,_⟩:=pl;exact⟨o,e,hd⟩
  . refine⟨⟨o,I.kIn p o hk,hc⟩,λa e=>?_⟩
    cases e;exact⟨o,I.kIn _ o hk,hd⟩
  . have z:∃o,s.heap.get? p=some o/\o.ExactDict:=by
     rcases hk with ⟨kvs,hk⟩|⟨kvs,hk⟩
     . obtain⟨_,_,_,_,o,_,_,e,ex,_⟩:=I.hok p _ hk
       exact⟨o,e,ex⟩
     . obtain⟨_,_,_,_,o,_,_,e,ex,_⟩:=I.hok p _ hk
       exact⟨o,e,ex⟩
    obtain⟨o,e,ex⟩:=z;refine⟨⟨o,e,ex.1⟩,λa e2=>?_⟩;cases e2;exact⟨o,e,ex.2.1⟩
  . obtain⟨o,_,_,_,e,ex,_⟩:=I.hok p _ hk
    refine⟨⟨o,e,ex.1⟩,λa e2=>?_⟩;cases e2;exact⟨o,e,ex.2.1⟩
 |_=>exact False.elim ty
def qZ3(K:PySem.W.Frag)(T:String)(r:V->List V->Hp->VK->Prop)(to:TE):TE:=λσ H Q=>to σ H λx H1=>tyV K T x H1/\r x [] H1 Q
def tBM(K:PySem.W.Frag)(T:String)(r:V->List V->Hp->VK->Prop)(to:TE)(t:TA):TE:=λσ H Q=>to σ H λx H1=>tyV K T x H1/\t σ H1 λxs H2=>r x xs H2 Q
variable{o e:Expr}{es:List Expr}{to:TE}{t:TA}{name:Str}{apos cpos:Pos}{T id:String}{r:V->List V->Hp->VK->Prop}
theorem jo(pa:PlainAttrs T)(slot:Slot T name id)(hty:typeOf (.builtin id)=pure (.type "method_descriptor"))(hm:MtR X id r)(ho:PE X o to)
 (hbase:attributeBase o name X.env (eval o X.env)=eval o X.env:=by rfl) (hline:(apos.endLine==cpos.line)=true:=by rfl):PE X (.Call (.Attribute o name apos) [] [] cpos) (qZ3 X.K T r to):=by
 intro pins s σ H Q I h;refine wpAny_Call_method0_late hbase hline (thn (ho pins s σ H _ I h) λv s1 ⟨x,H1,I1,r1,ty,q1⟩=>?_);obtain⟨h1,h2⟩:=qTt I1 r1 ty;exact⟨T,id,pa,slot,hty,h1,h2,Calls.callWith_builtin rfl (PySem.evalArgs_none (hm pins s1 σ H1 x [] v [] Q I1 r1 .nil q1))⟩
theorem wT(pa:PlainAttrs T)(slot:Slot T name id)(hty:typeOf (.builtin id)=pure (.type "method_descriptor"))(hm:MtR X id r)(ho:PE X o to)(ha:PA X (e::es) t)
 (hbase:attributeBase o name X.env (eval o X.env)=eval o X.env:=by rfl)
 (hfew:((backTo cpos (starEach (e::es) X.env)).all (λx=>!x.1) && (backToKw cpos (keywordEach [] X.env)).all (λx=>x.1.isSome)
   && decide ((e::es).length+([]:List Keyword).length+(if ([]:List Keyword).isEmpty then 0 else 1)<30))=true:=by rfl)
 (hline:(apos.endLine==cpos.line)=true:=by rfl) (hs:starEach (e::es) X.env=(false,eval e X.env)::starEach es X.env:=by rfl) (hplain:(backTo cpos (starEach es X.env)).any (·.1)=false:=by rfl):
 PE X (.Call (.Attribute o name apos) (e::es) [] cpos) (tBM X.K T r to t):=by
 intro pins s σ H Q I h;refine wpAny_Call_method_late hbase hfew hline rfl (thn (ho pins s σ H _ I h) λv s1 ⟨x,H1,I1,r1,ty,q1⟩=>?_);obtain⟨h1,h2⟩:=qTt I1 r1 ty;refine⟨T,id,pa,slot,hty,h1,h2,?_⟩;have hA:=ha cpos pins s1 σ H1 _ I1 q1;rw[hs]at hA⊢;refine Calls.callWith_builtin (by show (false || (backTo cpos (starEach es X.env)).any (·.1))=false;rw[hplain] <;> rfl) (Calls.evalArgs_plain ?_);exact thn hA λus s2 ⟨vs,H2,I2,r2,q2⟩=>hm pins s2 σ H2 x vs v us Q I2 r1 r2 q2
end
def MtM(X:Cx)(id:String)(r:V->List V->Hp->VK->Prop):Prop:=
 ∀(pins:List (Addr×Obj)) (s:Shared) (σ:St) (H:Hp) (x:V) (xs:List V) (v:Value) (us:List Value) (Q:VK),Inv X pins σ H s->RelV x v->Vals xs us->r x xs H Q->
  wpAny (model X.prog X.w) X.A (call (.builtin id) (v::us)) (EP X pins σ Q) X.xe s
theorem Vals.one:∀{x:V} {us:List Value},Vals [x] us->∃u,us=[u]/\RelV x u
 |_,_,.cons r .nil=>⟨_,rfl,r⟩
theorem Vals.zero:∀{us:List Value},Vals [] us->us=[]
 |_,.nil=>rfl
theorem Vals.dropLast{xs:List V}{us:List Value}(h:Vals xs us):Vals xs.dropLast us.dropLast:=by
 induction h with
 |nil=>exact .nil
 |cons r t ih=>
  cases t with
  |nil=>exact .nil
  |cons q t'=>exact .cons r ih
theorem qOo{α:Type}(l:List α):l.eraseIdx (l.length-1)=l.dropLast:=by
 induction l with
 |nil=>rfl
 |cons a r ih=>
  cases r with
  |nil=>rfl
  |cons b r=>
   have e:(a::b::r).length-1=((b::r).length-1)+1:=by have h1:(a::b::r).length=r.length+2:=rfl;have h2:(b::r).length=r.length+1:=rfl;omega
   rw[e,List.eraseIdx_cons_succ,ih]
   all_goals rfl
section
variable{X:Cx}{pins:List (Addr×Obj)}{σ:St}{H:Hp}{s:Shared}{l b:Addr}{xs ys zs:List V}
theorem Inv.lset{its its':List Value}{n:Nat}{f:Array Value->Array Value}{t':Nat}(I:Inv X pins σ H s)(hH:H l=some (.lst xs))
 (e:s.heap.get? l=some {cls:=.type "list",data:=.seq its.toArray n}) (hf:f its.toArray=its'.toArray) (hv:Vals ys its') (hz:ys.length<=sizeLine):
 Inv X pins σ (upd H l (.lst ys)) {s with heap:=s.heap.update l (Obj.mapSeq f),toks:=t'}:=by
 have q:=PySem.IsL.update e f;rw[hf]at q;refine I.write (x:=l) (e:=l) (by rw[hH];exact trivial) (.inl rfl) (λb' u hb hu=>(ZB s.heap (Obj.mapSeq f) (ZG hb)).trans hu) ⟨_,q⟩ ?_;exact⟨hz,its',_,hv,q⟩
theorem Inv.lnew{its:List Value}{t':Nat}(I:Inv X pins σ H s)(hv:Vals ys its)(hz:ys.length<=sizeLine):
 Inv X pins σ (upd H s.heap.objs.size (.lst ys)) {s with heap:=s.heap.push {cls:=.type "list",data:=.seq its.toArray},toks:=t'}:=
 I.laid (λ_ _ q=>YM _ q) (YI _) ⟨hz,its,0,hv,Yn _ rfl⟩
theorem Inv.fresh(I:Inv X pins σ H s):H s.heap.objs.size=none:=I.hok.fresh (YI _)
theorem Inv.lstM(I:Inv X pins σ H s)(hH:H l=some (.lst xs)):xs.length<=sizeLine/\∃(its:List Value) (n:Nat),Vals xs its/\xs.length=its.length/\s.heap.get? l=some {cls:=.type "list",data:=.seq its.toArray n}:=by obtain⟨z,its,n,r,e⟩:=I.hok l _ hH;exact⟨z,its,n,r,r.length,e⟩
theorem qSj{n:Nat}(h:n<=sizeLine):Builtin.List.listTooLong n=false:=by unfold Builtin.List.listTooLong;exact YW (by omega)
end
section
variable{X:Cx}
inductive qVp(x:V)(vs:List V)(H:Hp)(Q:VK):Prop
|mk l xs y (_:x=.ref l) (_:vs=[y]) (_:H l=some (.lst xs)) (_:xs.length<sizeLine) (_:Q .non (upd H l (.lst (xs++[y]))))
theorem jZ:MtM X "list.append" qVp:=by intro pins s σ H x vs v us Q I rx rv h;obtain⟨l,xs,y,rfl,rfl,hH,hz,q⟩:=h;cases rx;obtain⟨u,rfl,ru⟩:=rv.one;obtain⟨z,its,n,r,hl,e⟩:=I.lstM hH;refine call_meets F.slot_list_append ⟨_,e,O⟩ F.entry_list_append (F.args_list_append_2 _ _) (PySem.list_append l its.toArray n u (by rw[YG];omega)) ⟨e,?_⟩;refine⟨.non,_,I.lset (its':=its++[u]) hH e (by simp) (r.append (.cons ru .nil)) ?_,O,q⟩;rw[YN,Yy];omega
inductive qUp(x:V)(vs:List V)(H:Hp)(Q:VK):Prop
|mk l b xs zs (_:x=.ref l) (_:vs=[.ref b]) (_:H l=some (.lst xs)) (_:H b=some (.lst zs)) (_:xs.length+zs.length<=sizeLine) (_:Q .non (upd H l (.lst (xs++zs))))
theorem qJk:MtM X "list.extend" qUp:=by
 intro pins s σ H x vs v us Q I rx rv h;obtain⟨l,b,xs,zs,rfl,rfl,hH,hB,hz,q⟩:=h;cases rx;obtain⟨u,rfl,ru⟩:=rv.one;cases ru;obtain⟨z,its,n,r,hl,e⟩:=I.lstM hH;obtain⟨z2,its2,n2,r2,hl2,e2⟩:=I.lstM hB;have hsz:its.toArray.size+its2.toArray.size<=sizeLine:=by rw[YG,YG];omega
 have hlong:¬(!its.toArray.isEmpty && Builtin.List.listTooLong (its.toArray.size+its2.toArray.size))=true:=by rw[qSj hsz,Bool.and_false];exact YZ
 refine call_meets F.slot_list_extend ⟨_,e,O⟩ F.entry_list_extend (F.args_list_extend_2 _ _)
  (AutoSeq1.list_extend_list_list_0 l its.toArray n b its2.toArray n2 hlong (by rw[YG];omega) (by omega)) ⟨e,e2,?_⟩
 refine⟨.non,_,I.lset (its':=its++its2) hH e (by simp) (r.append r2) ?_,O,q⟩;rw[YN];omega
def qZb:V->List V->Hp->VK->Prop:=λx vs H Q=> ∃l xs y,x=.ref l/\vs=[]/\H l=some (.lst xs)/\xs[xs.length-1]?=some y/\Q y (upd H l (.lst xs.dropLast))
theorem jv:MtM X "list.pop" qZb:=by
 intro pins s σ H x vs v us Q I rx rv h;obtain⟨l,xs,y,rfl,rfl,hH,hy,q⟩:=h;cases rx;have hus:=rv.zero;subst hus;obtain⟨z,its,n,r,hl,e⟩:=I.lstM hH;obtain⟨u,hu,ru⟩:=r.get hy;have hy':its.toArray[its.toArray.size-1]?=some u:=by show its.toArray[its.length-1]?=some u;rw[<-Array.getElem?_toList,<-hl];exact hu
 refine call_meets F.slot_list_pop ⟨_,e,O⟩ F.entry_list_pop (F.args_list_pop_1 _) (MeetsSeq.list_pop_last l its.toArray n u hy' (by rw[YG];omega)) ⟨e,?_⟩;refine⟨y,_,I.lset (its':=its.dropLast) hH e ?_ r.dropLast ?_,ru,q⟩
 . show its.toArray.eraseIdxIfInBounds (its.toArray.size-1)=its.dropLast.toArray
   rw[YG,List.eraseIdxIfInBounds_toArray,qOo]
 . rw[List.length_dropLast]
   omega
inductive qZx(x:V)(y:V)(H:Hp)(Q:VK):Prop
|mk l b xs zs (_:x=.ref l) (_:y=.ref b) (_:H l=some (.lst xs)) (_:H b=some (.lst zs)) (_:xs.length+zs.length<=sizeLine) (_:∀p,H p=none->Q (.ref p) (upd H p (.lst (xs++zs))))
theorem vH:OpR X (binaryOp .Add) qZx:=by
 intro pins s σ H x y v u Q I rx ry h;obtain⟨l,b,xs,zs,rfl,rfl,hH,hB,hz,q⟩:=h;cases rx;cases ry;obtain⟨z,its,n,r,hl,e⟩:=I.lstM hH;obtain⟨z2,its2,n2,r2,hl2,e2⟩:=I.lstM hB;refine PySem.P.add_list e e2 ?_ (by rw[YG,YG];omega);have ea:its.toArray++its2.toArray=(its++its2).toArray:=by simp
 rw[ea];exact⟨.ref _,_,I.lnew (t':=s.toks) (r.append r2) (by rw[YN];omega),O,q _ I.fresh⟩
end
end L2
namespace Att
open PySem PySem.W PySem.Calls PyProof.Rows
theorem qE1{P:Params}{h:Heap}:∀(ns:List Int) (vs:List Value),WellAll P h vs (ns.map WData.int)->IntsAre vs ns:=by
 intro ns
 induction ns with
 |nil=>
  intro vs w;rw[List.map_nil]at w;cases w;exact .nil
 |cons n ns ih=>
  intro vs w;rw[ZH]at w;cases w with
  |cons a b=>
   cases a;exact .cons _ _ (ih _ b)
theorem qQ8{l:OpenLaw}{n:Nat}(hn:l.most=some n){P:Params}{h:Heap}{args:List WData}{vals:List Value}
 (hpre:l.row.toRowW.claim.pre args=true) (hwl:WellAll P h vals args):
 ∃a vs ns,vals=[Value.ref a]/\args=[WData.list (ns.map WData.int)]/\h.get? a=some {cls:=.type "list",data:=.seq vs.toArray}/\IntsAre vs ns/\ns.length<=n:=by
 have hsh:WShape.hasAll [] args [.list .int]=true:=(pre_splitW hpre).1;have hc:l.pre.holds [] {args:=args}=true:=(pre_splitW hpre).2;obtain⟨d,r,rfl,h1,h2⟩:=hasAllW_cons hsh;obtain rfl:=hasAllW_nil h2;obtain⟨xs,rfl,h3⟩:=hasW_list h1;obtain⟨ns,rfl⟩:=items_int h3;have hlen:ns.length<=n:=by
  unfold OpenLaw.pre at hc;have h4:(WTm.not (.lt (.lit (.int (n:Int))) (.len (.arg 0)))).holds [] {args:=[.list (ns.map .int)]}=true:=by have h4:=(holds_andW hc).1;rw[hn]at h4;exact h4
  have h5:=condW_of h4 (w_not (w_lt w_lit (w_len_list (w_arg rfl))));rw[YS]at h5;refine Nat.le_of_not_lt λq=>?_;have q':(n:Int)<((ns.length:Nat):Int):=by omega
  first
   |(rw[YX q']at h5;exact YC h5 (by decide))
   |(simp at h5;omega)
 cases hwl with
 |cons w1 w2=>
  cases w2;cases w1 with
  |list ho hall=>exact⟨_,_,ns,rfl,rfl,ho,qE1 ns _ hall,hlen⟩
theorem qPv(l:OpenLaw)(args:List WData):l.row.toRowW.claim.post args (.bool true) args=true:=
 postW_of (r:=l.row.toRowW) (X:=(true==true))
  (show WShape.has [] (.bool true) .bool=true by first|rfl|decide|simp[WShape.has,WShape.arms,WShape.armsAll])
  (show (WTm.eq .res (.lit (.bool true))).value [] {args:=args,res:=some (.bool true),after:=args}=some (.bool (true==true))from w_eq_bool (w_res rfl) w_lit) rfl
theorem attach_call{l:OpenLaw}{n:Nat}{q:Program}{loose:List Str}{XP:(Str->Option Value)->Heap->Prop}{YP:World->Heap->Prop}{d:DefRec}
 (hn:l.most=some n) (hdf:d.params.defaults=[])
 (call:∀(w:World) (s₀ s₁:Shared) (mg mb:Str->Option Value) (fa:Addr) (o:Obj) (pm cd doc:Value) (a:Addr) (vs:List Value) (ns:List Int),
   Ground q loose [] XP w s₀ mg mb s₁.heap->YP w s₁.heap->
   s₁.heap.get? fa=some o->o.data=.func (docDef d.name d.params d.body d.scope pm cd doc)->s₁.heap.CodeRec cd d.name->mg d.name=some (.ref fa)->
   s₁.heap.get? a=some {cls:=.type "list",data:=.seq vs.toArray}->IntsAre vs ns->ns.length<=n->s₁.gens= #[]->
   codeAny (model l.prog w) callerA (.call (.ref fa) ⟨[.ref a],[]⟩) (λr s'=>r=.ok (.ret (.bool true))/\OldK s₁.heap s'.heap/\s'.os=s₁.os/\AllBare s'.gens) s₁):
 WalkO q loose XP YP l.row.toRowW d [] (λf vs=>PySem.call f vs):=by
 intro w s₀ s₁ mg mb G Y fa o pm cd doc dV kV ho hd hcd hD hmg hg args vals as hpre hlay hrd hwl hlo;obtain rfl:dV=.none:=Dflts.none hD hdf;obtain rfl:kV=.none:=Dflts.noKw hD;obtain⟨a,vs,ns,rfl,rfl,hobj,hints,hlen⟩:=qQ8 hn hpre hwl;refine enter_call (codeAny_mono (call w s₀ s₁ mg mb fa o pm cd doc a vs ns G Y ho (fd_plain hd) hcd hmg hobj hints hlen hg) λr s' hq=>?_);obtain⟨rfl,h2,h3,h4⟩:=hq;exact⟨.inl ⟨.bool true,.bool true,[],O,λ_=>rfl,.bool true,qPv l _,λ_=>⟨List.Pairwise.nil,λ_ hm=>(nomatch hm)⟩⟩,h2,h3,h4⟩
end Att
namespace L2
open PySem PySem.Spec PyProof.Rows
theorem qIy:∀{vs:List Value} {ns:List Int},IntsAre vs ns->Vals (ns.map V.int) vs
 |_,_,.nil=>.nil
 |_,_,.cons n t h=>.cons ⟨t,rfl⟩ (qIy h)
def qXy(H:Hp):Prop:= ∀b,H b=none\/∃o xs,H b=some (.frz o (.lst xs))
theorem qS4{P:Program}{w:World}{K:PySem.W.Frag}{mg mb:Str->Option Value}{CX:CXT}{k:Nat}{fa a:Addr}{fd:FuncData}{x:Str}{sp:Sp}{s₁:Shared}{vs:List Value}{ns:List Int}
 (KX:K.In s₁.heap) (hns:s₁.heap.Ns mainGlobals mg) (hb:s₁.heap.Ns builtinsNs mb) (hbb:∀x:Str,x≠"__name__"->mb x=bootBuiltins x) (hlim:s₁.heap.NoLimit) (hg:s₁.gens= #[])
 (ha:s₁.heap.get? a=some {cls:=.type "list",data:=.seq vs.toArray}) (hi:IntsAre vs ns) (hl:ns.length<=sizeLine) (hr:Room k callerA)
 (F:∀base:Heap,K.In base->base.Ns mainGlobals mg->FnOk P w K mg base CX k fa fd [x] sp) (hbind:∀(s:Shared) (u:Value),BindsTo s fd ⟨[u],[]⟩ [(x,u)])
 (hsp:∀H:Hp,qXy H->SqL K H a (ns.map V.int)->sp [.ref a] H (λv _=>v=.bl true) λ_ _ _=>False)
 (hCX:∀H e s',CX [] H s₁ (λ_ _ _=>False) e s'->False):
 codeAny (model P w) callerA (.call (.ref fa) ⟨[.ref a],[]⟩) (λr s'=>r=.ok (.ret (.bool true))/\OldK s₁.heap s'.heap/\s'.os=s₁.os/\AllBare s'.gens) s₁:=by
 have rv:=qIy hi;have lenV:=hi.length;have core:∀H:Hp,qXy H->SqL K H a (ns.map V.int)->HOk P w H s₁.heap->(∀b,H b≠none->b=a)->(H a≠none->K.lookup a=none)->
  codeAny (model P w) callerA (.call (.ref fa) ⟨[.ref a],[]⟩) (λr s'=>r=.ok (.ret (.bool true))/\OldK s₁.heap s'.heap/\s'.os=s₁.os/\AllBare s'.gens) s₁:=by
  intro H hO hS hok hA hK;have base_of:∀{b:Addr} {o:Obj},s₁.heap.get? b=some o->H b=none->(qSs s₁.heap H).get? b=some o:=λe n=>qSt e n;have noA:∀{b:Addr} {o:Obj} {es:Array DictEntry} {ep:Nat},s₁.heap.get? b=some o->o.data=.dict es ep->H b=none:=λ{b o es ep} e d=>by
   cases q:H b with
   |none=>rfl
   |some u=>
    have e':b=a:=hA b (by rw[q];simp);subst e';rw[ha]at e;cases e;have d':Data.seq vs.toArray _=Data.dict es ep:=d;cases d'
  have nsK:∀{b:Addr} {m:Str->Option Value},s₁.heap.Ns b m->(qSs s₁.heap H).Ns b m:=λ{b m} ⟨o,es,ep,e,d,r⟩=>⟨o,es,ep,base_of e (noA e d),d,r⟩;have hKb:K.In (qSs s₁.heap H):=λb o e=>base_of (KX b o e) (by
   cases q:H b with
   |none=>rfl
   |some u=>
    have e':b=a:=hA b (by rw[q];simp);subst e';rw[hK (by rw[q];simp)]at e;cases e)
  have hM:Mod K mg (qSs s₁.heap H):=⟨hKb,nsK hns,⟨mb,nsK hb,hbb⟩,let ⟨mc,h1,h2⟩:=hlim;⟨mc,nsK h1,h2⟩⟩;have e0:Env0 P w K mg (qSs s₁.heap H) callerA [] s₁ H:=⟨rfl,hM,λb o e=>qUd e,Nat.le_of_eq (qRb _ _),trivial,λb hb=>YC (show b∈([]:List Addr)from hb) (by simp),hok,.of_eq hg⟩;refine codeAny_mono ((F _ hKb (nsK hns)).run callerA [] s₁ H ⟨[.ref a],[]⟩ [.ref a] [.ref a] _ _ hr e0 (hbind s₁ (.ref a)) (.cons rfl .nil) (hsp H hO hS)) λr s' h=>?_;cases r with
  |error e=>exact(hCX H e s' h).elim
  |ok fl=>
   cases fl with
   |next=>exact False.elim h
   |brk=>exact False.elim h
   |cont=>exact False.elim h
   |ret u=>
    obtain⟨v,H',os,bare,un,hok',r',q⟩:=h;have q':v=.bl true:=q;subst q';obtain rfl:u=Value.bool true:=r';refine⟨O,OldK.of_keep λb o e=>?_,os,bare⟩;cases q:H b with
    |none=>exact un.keep b o e q (by intro z;exact YC (show b∈([]:List Addr)from z) (by simp)) (by simp)
    |some u=>
     rcases hO b with z|⟨ob,xs,z⟩
     . rw[q]at z;cases z
     . have z2:=un.frzs b ob _ z
       obtain⟨e1,_⟩:=hok b _ z;obtain⟨e2,_⟩:=hok' b _ z2;rw[e]at e1;cases e1;exact e2
 cases hk:K.lookup a with
 |some o=>
  have e:=KX a o hk;rw[ha]at e;cases e;refine core (λ_=>none) (λ_=>.inl rfl) (.inr ⟨_,vs.toArray,_,hk,rfl,rfl,rfl,by rw[YG,lenV];exact hl,by simpa using rv⟩) (λb u z=>by have z':(none:Option HO)=some u:=z;cases z') (λb z=>YC rfl z) λz=>YC rfl z
 |none=>
  refine core (λb=>if b=a then some (.frz {cls:=.type "list",data:=.seq vs.toArray} (.lst (ns.map V.int)))else none) (λb=>?_) (.inl (.inr ⟨{cls:=.type "list",data:=.seq vs.toArray},YB rfl⟩)) (λb u z=>?_) (λb z=>?_) λ_=>hk
  . by_cases hb:b=a
    . exact .inr ⟨_,_,YB hb⟩
    . exact .inl (YA hb)
  . by_cases hb:b=a
    . have z':=(YB hb).symm.trans z
      cases z';subst hb;exact⟨ha,by rw[YS];exact hl,vs,_,rv,ha⟩
    . have z':=(YA hb).symm.trans z
      cases z'
  . by_cases hb:b=a
    . exact hb
    . exact YC (YA hb) z
theorem walk_of{l:PySem.W.OpenLaw}{n k:Nat}{q:Program}{loose:List Str}{XP:(Str->Option Value)->Heap->Prop}{YP:World->Heap->Prop}{d:DefRec}{K:Params->PySem.W.Frag}{CX:World->CXT}{sp:World->Sp}{x:Str}
 (hn:l.most=some n) (hn2:n<=sizeLine) (hdf:d.params.defaults=[]) (hr:Room k callerA)
 (hY:∀(w:World) (h:Heap),YP w h->(K w.params).In h)
 (F:∀(w:World) (mg:Str->Option Value) (fa:Addr) (h:Heap),(K w.params).In h->h.Ns mainGlobals mg->mg d.name=some (.ref fa)->
   ∃fd:FuncData,(∀(s:Shared) (u:Value),BindsTo s fd ⟨[u],[]⟩ [(x,u)])/\
    ∀base:Heap,(K w.params).In base->base.Ns mainGlobals mg->FnOk l.prog w (K w.params) mg base (CX w) k fa fd [x] (sp w))
 (hsp:∀(w:World) (H:Hp) (a:Addr) (ns:List Int),ns.length<=n->qXy H->SqL (K w.params) H a (ns.map V.int)->sp w [.ref a] H (λv _=>v=.bl true) λ_ _ _=>False)
 (hCX:∀(w:World) (H:Hp) (s:Shared) (e:Value) (s':Shared),CX w [] H s (λ_ _ _=>False) e s'->False):
 PySem.W.WalkO q loose XP YP l.row.toRowW d [] (λf vs=>PySem.call f vs):=by
 refine Att.attach_call hn hdf λw s₀ s₁ mg mb fa o pm cd doc a vs ns G Y ho hd hcd hmg hobj hints hlen hg=>?_;have KX:=hY w _ Y;obtain⟨fd,hb,hF⟩:=F w mg fa _ KX G.T.g hmg;exact qS4 KX G.T.g G.T.b G.T.builtins G.T.nolimit hg hobj hints (ZD hlen hn2) hr hF hb (λH hO hS=>hsp w H a ns hlen hO hS) λH e s'=>hCX w H s₁ e s'
noncomputable def qU4(s:Stmt)(j:Nat):Stmt:=match s with
 |.ClassDef _ _ _ body _ _ _ _ _ _ _=>body.getD j (.Pass ⟨0,0,0,0⟩)
 |_=>.Pass ⟨0,0,0,0⟩
noncomputable def vW(s:Stmt):Arguments:=match s with
 |.FunctionDef _ a _ _ _ _ _ _ _ _=>a
 |_=>{posonlyargs:=[],args:=[],vararg:=none,kwonlyargs:=[],kw_defaults:=[],kwarg:=none,defaults:=[]}
noncomputable def zE(s:Stmt):List Stmt:=match s with
 |.FunctionDef _ _ b _ _ _ _ _ _ _=>b
 |_=>[]
noncomputable def qH(s:Stmt):Scope:=match s with
 |.FunctionDef _ _ _ _ _ _ sc _ _ _=>sc
 |_=>{kind:=.function,names:=[],isGenerator:=false,isCoroutine:=false}
abbrev CX0:CXT:=λ_ _ _ _ _ _=>False
abbrev E0:XK:=λ_ _ _=>False
theorem qYi{X:Cx}:qMn CX0 X E0:=λ_ _ _ _ _ _ _ h=>h.elim
structure Fun(K:PySem.W.Frag)(x qual:Str)(st:Stmt)(f:Addr)(fd:FuncData):Prop where
 ex:∃(oc:Value) (od:Option Addr) (kV doc pm:Value) (an:Option Addr) (cdv ct:Value) (osl:Array (Option Value)),
  fd=PySem.W.fnOf x qual (vW st) (zE st) (qH st) .none kV doc pm an cdv ct/\K.lookup f=some ⟨oc,od,.func fd,osl⟩/\PySem.W.codeIn K cdv qual=true
 kp:PySem.W.keepIn K (.ref f)=true
section
variable{P:Program}{w:World}{K:PySem.W.Frag}{mg:Str->Option Value}{base:Heap}
theorem Fun.ok{x qual:Str}{st:Stmt}{f:Addr}{fd:FuncData}{N ps:List Str}{k:Nat}{sp:Sp}(F:Fun K x qual st f fd)(S:qP N ps (qH st))(len:∀vs H Q E,sp vs H Q E->vs.length=ps.length)
 (hbody:∀(cdv:Value) (A:Around) (outer:List Env) (s:Shared) (H:Hp) (vs:List V) (Q:VK) (E:XK),Room k (A.deeper (envOfC qual (qH st) s.heap.objs.size f cdv))->sp vs H Q E->
   ∃t,PSs (qOr CX0 P w K mg base N qual (qH st) f cdv A outer s H E).nox (zE st) t/\t {nx:=λ_ H'=>Q .non H',rt:=Q} (qEd N vs) H):FnOk P w K mg base CX0 (k+1) f fd ps sp:=by
 obtain⟨oc,od,kV,doc,pm,an,cdv,ct,osl,rfl,lk,hcd⟩:=F.ex;refine qW7 lk hcd S len λA outer s H vs Q E hr hsp=>?_;obtain⟨t,h,q⟩:=hbody cdv A outer s H vs Q E hr hsp;exact⟨t,h.nox,q⟩
theorem Fun.binds{x qual:Str}{st:Stmt}{f:Addr}{fd:FuncData}{ps:List Str}(F:Fun K x qual st f fd)
 (h:∀(kV doc pm:Value) (an:Option Addr) (cdv ct:Value) (us:List Value),us.length=ps.length->bindArgs (PySem.W.fnOf x qual (vW st) (zE st) (qH st) .none kV doc pm an cdv ct) ⟨us,[]⟩=pure (ps.zip us)):Binds K fd ps []:=by
 obtain⟨oc,od,kV,doc,pm,an,cdv,ct,osl,rfl,lk,hcd⟩:=F.ex;exact .all (h kV doc pm an cdv ct)
theorem qTs{x qual:Str}{st:Stmt}{f:Addr}{oc:Value}{od an:Option Addr}{osl:Array (Option Value)}{kV doc pm cdv ct:Value}(l:K.lookup f=some ⟨oc,od,.func (PySem.W.fnOf x qual (vW st) (zE st) (qH st) .none kV doc pm an cdv ct),osl⟩)
 (c:PySem.W.codeIn K cdv qual=true) (k:PySem.W.keepIn K (.ref f)=true):Fun K x qual st f (PySem.W.fnOf x qual (vW st) (zE st) (qH st) .none kV doc pm an cdv ct):=⟨⟨oc,od,kV,doc,pm,an,cdv,ct,osl,rfl,l,c⟩,k⟩
end
theorem qUl{A:Around}{k:Nat}(hr:Room k A):A.units+1<cLine:=Yd (Nat.add_le_add_left (by decide:1<=64) _) hr.units
theorem qi{n:Nat}(h:n<=1000):n<sizeLine:=Yd h (by decide)
section
variable{X:Cx}
theorem pv(i:Nat){x:Str}{pos:Pos}(hN:X.N[i]?=some x:=by rfl)(hv:Vis X.env.scope x:=by trivial)(hd:(x==("__debug__":Str))=false:=by decide)
 (hcd:(x==("__classdict__":Str))=false:=by decide):PE X (.Name x pos) (qXo i):=qXc hN hv hd hcd
end
theorem jH{A B:Prop}(h:B):if false=true then A else B:=by rw[YA YZ];exact h
theorem j5{A B:Prop}(h:A):if true=true then A else B:=by rw[YB rfl];exact h
theorem je{c A B:Prop} [Decidable c] (h1:c->A)(h2:¬c->B):if c then A else B:=by
 by_cases h:c
 . rw[YB h]
   exact h1 h
 . rw[YA h]
   exact h2 h
theorem qXf{c A B:Prop} [Decidable c] (hc:c)(h:B):if (!decide c)=true then A else B:=by rw[YX hc];exact jH h
def Same(H H':Hp):Prop:= ∀b o,H b=some o->H' b=some o
theorem Same.refl(H:Hp):Same H H:=λ_ _ h=>h
theorem Same.trans{H H1 H2:Hp}(a:Same H H1)(b:Same H1 H2):Same H H2:=λc o h=>b c o (a c o h)
theorem Same.free{H H':Hp}(e:Same H H'){l:Addr}(h:H' l=Option.none):H l=Option.none:=by
 cases q:H l with
 |none=>rfl
 |some o=>
  rw[e l o q]at h;cases h
theorem Same.seq{K:PySem.W.Frag}{H H':Hp}{a:Addr}{xs:List V}(e:Same H H')(h:SqL K H a xs):SqL K H' a xs:=by
 rcases h with (h|⟨o,h⟩)|h
 . exact .inl (.inl (e _ _ h))
 . exact .inl (.inr ⟨o,e _ _ h⟩)
 . exact .inr h
section
variable{κ:Type} [DecidableEq κ]
noncomputable def qRm(kvs:List (κ×V))(k:κ):Option V:=(kvs.find? λkv=>decide (kv.1=k)).map (·.2)
noncomputable def qTu(kvs:List (κ×V))(k:κ)(v:V):List (κ×V):=
 if (kvs.any λkv=>decide (kv.1=k))=true then kvs.map (λkv=>if kv.1=k then (kv.1,v)else kv)else kvs++[(k,v)]
theorem qMa{p:κ×V}{r:List (κ×V)}{k:κ}(e:p.1=k):qRm (p::r) k=some p.2:=by simp[qRm,List.find?_cons,e]
theorem qMc{p:κ×V}{r:List (κ×V)}{k:κ}(e:¬p.1=k):qRm (p::r) k=qRm r k:=by simp[qRm,List.find?_cons,e]
theorem qKn(kvs:List (κ×V))(k:κ)(v:V):(qTu kvs k v).length<=kvs.length+1:=by
 unfold qTu;split
 . rw[YS];omega
 . rw[YN,YE,ZO];omega
theorem RelO.isSome_eq{o:Option V}{u:Option Value}(r:RelO o u):o.isSome=u.isSome:=by
 cases o with
 |none=>cases u with
  |none=>rfl
  |some _=>exact(show False from r).elim
 |some _=>cases u with
  |none=>exact(show False from r).elim
  |some _=>rfl
theorem KV.val{kvs:List (κ×V)}{vs:List (κ×Value)}(r:KV kvs vs)(k:κ):RelO (qRm kvs k) (valueAt vs k):=by
 unfold KV at r
 induction r with
 |nil=>exact True.intro
 | @cons p q ps qs h t ih=>
  obtain⟨h1,h2⟩:=h;by_cases e:p.1=k
  . have e':q.1=k:=h1.symm.trans e
    have b:valueAt (q::qs) k=some q.2:=by simp[valueAt,List.find?_cons,e']
    rw[qMa e,b];exact h2
  . have e':¬q.1=k:=λz=>e (h1.trans z)
    have b:valueAt (q::qs) k=valueAt qs k:=by simp[valueAt,List.find?_cons,e']
    rw[qMc e,b];exact ih
theorem KV.any{kvs:List (κ×V)}{vs:List (κ×Value)}(r:KV kvs vs)(k:κ):(kvs.any λkv=>decide (kv.1=k))=vs.any λkv=>decide (kv.1=k):=by
 unfold KV at r
 induction r with
 |nil=>rfl
 |cons h t ih=>rw[List.any_cons,List.any_cons,ih,h.1]
theorem KV.repl{kvs:List (κ×V)}{vs:List (κ×Value)}(r:KV kvs vs)(k:κ){y:V}{u:Value}(ry:RelV y u):
 KV (kvs.map λkv=>if kv.1=k then (kv.1,y)else kv) (vs.map λkv=>if kv.1=k then (kv.1,u)else kv):=by
 unfold KV at r⊢
 induction r with
 |nil=>exact .nil
 | @cons p q ps qs h t ih=>
  rw[ZH,ZH];refine .cons ?_ ih;obtain⟨h1,h2⟩:=h;by_cases e:p.1=k
  . rw[YB e,YB (h1.symm.trans e)];exact⟨h1,ry⟩
  . rw[YA e,YA (λz=>e (h1.trans z))];exact⟨h1,h2⟩
theorem KV.put{kvs:List (κ×V)}{vs:List (κ×Value)}(r:KV kvs vs)(k:κ){y:V}{u:Value}(ry:RelV y u):KV (qTu kvs k y) (stored vs k u):=by
 unfold qTu stored;rw[r.any k];by_cases e:(vs.any λkv=>decide (kv.1=k))=true
 . rw[YB e,YB e];exact r.repl k ry
 . rw[YA e,YA e];exact Paired.snoc r ⟨rfl,ry⟩
end
theorem qRn{P:Program}{w:World}{k:Key}{u:Value}(r:RelV (kV k) u):(xW P w).is k u=true:=by
 cases k with
 |inl i=>obtain⟨t,e⟩:=(show ∃t,u=Value.int i t from r);subst e;exact qKt P w i t
 |inr x=>obtain⟨t,e⟩:=(show ∃t,u=Value.str x t from r);subst e;exact qLq P w x t
theorem qKa{P:Program}{w:World}:∀{ks:List Key} {us:List Value},Vals (ks.map kV) us->ItemsAre (xW P w) ks us
 |[],_,r=>by rw[List.map_nil]at r;cases r;exact .nil
 |k::ks,_,r=>by
  rw[ZH]at r;cases r with
  |cons h t=>exact .cons (qRn h) (qKa t)
abbrev KT(H:Hp):List (List Key×V)->List (List Key×Addr×Value)->Prop:=Paired λp q=>p.1=q.1/\H q.2.1=some (.tup (p.1.map kV))/\RelV p.2 q.2.2
theorem KT.val{H:Hp}{kvs:List (List Key×V)}{xs:List (List Key×Addr×Value)}(r:KT H kvs xs)(k:List Key):RelO (qRm kvs k) ((atKey xs k).map (·.2)):=by
 induction r with
 |nil=>exact True.intro
 | @cons p q ps qs h t ih=>
  obtain⟨h1,_,h2⟩:=h;by_cases e:p.1=k
  . have e':q.1=k:=h1.symm.trans e
    have b:atKey (q::qs) k=some q.2:=by simp[atKey,List.find?_cons,e']
    rw[qMa e,b];exact h2
  . have e':¬q.1=k:=λz=>e (h1.trans z)
    have b:atKey (q::qs) k=atKey qs k:=by simp[atKey,List.find?_cons,e']
    rw[qMc e,b];exact ih
section
variable{P:Program}{w:World}{H:Hp}{h:Heap}{a:Addr}
theorem qW0{u:HO}(ok:HOk P w H h)(e:Rd H a u):ObjOk P w H h a u:=e.ok ok
theorem qRt{kvs:List (Key×V)}(ok:HOk P w H h)(e:Rd H a (.dK kvs)):kvs.length<=sizeLine/\(a==sysModules)=false/\∃vs,KV kvs vs/\h.DictOf (xW P w) a vs:=
 show ObjOk P w H h a (.dK kvs)from qW0 ok e
theorem qY1{kvs:List (Key×V)}(ok:HOk P w H h)(e:H a=some (.dK kvs)):kvs.length<=sizeLine/\(a==sysModules)=false/\∃vs,KV kvs vs/\h.DictOf (xW P w) a vs:=qRt ok (.inl e)
theorem qQm{ks:List Key}(ok:HOk P w H h)(e:H a=some (.tup (ks.map kV))):(tupleKind (xW P w)).is h ks a:=by obtain⟨_,its,r,o,h1,h2,n,h3⟩:=(show ObjOk P w H h a (.tup (ks.map kV))from ok a _ e);exact⟨o,its.toArray,n,h1,h2,h3,by simpa using qKa r⟩
theorem qU8{kvs:List (List Key×V)}(ok:HOk P w H h)(e:Rd H a (.dT kvs)):kvs.length<=sizeLine/\(a==sysModules)=false/\
 ∃xs,KT H kvs xs/\h.DictOfH (tupleKind (xW P w)) a xs:=by
 obtain⟨z,y,xs,r,o,es,ep,h1,h2,h3,h4,h5⟩:=(show ObjOk P w H h a (.dT kvs)from qW0 ok e);refine⟨z,y,xs,r,o,es,ep,h1,h2,h3,h4,λx hx=>?_,h5⟩;have all:∀{l:List (List Key×V)} {m:List (List Key×Addr×Value)},KT H l m->∀x∈m,(tupleKind (xW P w)).is h x.1 x.2.1:=by
  intro l m q
  induction q with
  |nil=>intro x hx;exact nomatch hx
  | @cons p q ps qs hq t ih=>
   intro x hx;rcases YU.mp hx with e|hx
   . subst e
     exact qQm ok (by rw[<-hq.1];exact hq.2.1)
   . exact ih x hx
 exact all r x hx
end
def qSx(H:Hp)(a:Addr)(y:V)(r:Option V):Prop:=
 (∃kvs k,Rd H a (.dK kvs)/\y=kV k/\r=qRm kvs k)\/∃kvs k b,Rd H a (.dT kvs)/\y=.ref b/\H b=some (.tup (k.map kV))/\r=qRm kvs k
section
variable{X:Cx}{pins:List (Addr×Obj)}{σ:St}{H:Hp}{s:Shared}{a:Addr}{y v:V}{u r:Value}{o:Option V}{A:Around}{E:Value->Shared->Prop}
theorem Inv.big(I:Inv X pins σ H s):sysModules<s.heap.objs.size:=by have h:mainGlobals<s.heap.objs.size:=(I.mod.glob.keeps I.bk).lt;exact Nat.lt_trans (by decide) h
theorem qPi{Q:Value->Shared->Prop}(hu:A.units+1<cLine)(I:Inv X pins σ H s)(g:qSx H a y (some v))(ry:RelV y u)(h:∀w' s',Inv X pins σ H s'->RelV v w'->Q w' s'):
 wpAny (model X.prog X.w) A (getItem (.ref a) u) Q E s:=by
 rcases g with ⟨kvs,k,e,ey,l⟩|⟨kvs,k,b,e,ey,eb,l⟩
 . subst ey
   obtain⟨z,hd,vs,rel,dd⟩:=qRt I.hok e;obtain⟨w',hw,rw'⟩:=RelO.some_of (v:=v) (o:=valueAt vs k) (by rw[l];exact rel.val k);exact wpAny_getItem_of (qRn ry) dd.mapOf hw (h w' _ (I.tok _) rw')
 . subst ey
   cases (show u=Value.ref b from ry);obtain⟨z,hd,xs,rel,dd⟩:=qU8 I.hok e;obtain⟨w',hw,rw'⟩:=RelO.some_of (v:=v) (o:=(atKey xs k).map (·.2)) (by rw[l];exact rel.val k);obtain⟨p,hp,hp2⟩:=Option.map_eq_some_iff.mp hw;refine wpAny_getItem_heap (tupleKind_room_in1 hu) (qQm I.hok eb) dd hp ?_;rw[hp2];exact h w' _ (I.tok _) rw'
theorem qVr{Q:Value->Shared->Prop}(hu:A.units+1<cLine)(I:Inv X pins σ H s)(g:qSx H a y o)(ry:RelV y u)(h:∀s',Inv X pins σ H s'->Q (.bool (!o.isSome)) s'):
 wpAny (model X.prog X.w) A (compareOp .NotIn u (.ref a)) Q E s:=by
 rcases g with ⟨kvs,k,e,ey,l⟩|⟨kvs,k,b,e,ey,eb,l⟩
 . subst ey
   obtain⟨z,hd,vs,rel,dd⟩:=qRt I.hok e;refine wpAny_notIn_of (qRn ry) hd dd.mapOf ?_;rw[<-(rel.val k).isSome_eq,<-l];exact h _ (I.tok _)
 . subst ey
   cases (show u=Value.ref b from ry);obtain⟨z,hd,xs,rel,dd⟩:=qU8 I.hok e;refine wpAny_notIn_heap (tupleKind_room_in1 hu) (qQm I.hok eb) hd dd ?_;have q:=(rel.val k).isSome_eq;rw[Option.isSome_map]at q;rw[<-q,<-l];exact h _ (I.tok _)
theorem qUc{h':Heap}{t':Nat}{ob:HO}(I:Inv X pins σ H s)(mu:Mut (H a))(hs:Heap.SameBut a s.heap h')(he:∃q,h'.get? a=some q)(new:ObjOk X.prog X.w (upd H a ob) h' a ob):
 Inv X pins σ (upd H a ob) {s with heap:=h',toks:=t'}:=
 I.write (x:=a) (e:=a) mu (.inl rfl) (λb q hb z=>(hs.2 b hb).trans z) he new
theorem qWn{P:Program}{w:World}{H':Hp}{h':Heap}{kvs:List (Key×V)}{vs:List (Key×Value)}(z:kvs.length<=sizeLine)(hd:(a==sysModules)=false)(rel:KV kvs vs)(dd:h'.DictOf (xW P w) a vs):
 ObjOk P w H' h' a (.dK kvs):=⟨z,hd,vs,rel,dd⟩
end
def qZg(i:Expr):Prop:= ∀ov iv,subscripted i false ov iv=operate [ov,iv] (getItem ov iv)
theorem qUm{prog:Program}{w:World}{A:Around}{E:Value->Shared->Prop}{s:Shared}{env:Env}{value slice:Expr}{pos:Pos}{T id:String}{Q:Value->Shared->Prop}
 (hl:typeLookup (.type T) "__getitem__"=pure (some (.builtin id))) (hs:qZg slice)
 (h:wpAny (model prog w) A (eval value env) (λo s₁=>wpAny (model prog w) A (eval slice env) (λi s₂=>s₂.TypeIs o T/\wpAny (model prog w) A (getItem o i) Q E s₂) E s₁) E s):
 wpAny (model prog w) A (eval (.Subscript value slice pos) env) Q E s:=by
 refine Subscript_ (YL h (λo s₁ h₁=>YL h₁ (λi s₂ h₂=>?_) λ_ _ x=>x) λ_ _ x=>x);obtain⟨hT,h₂⟩:=h₂;unfold subscriptTail;refine YJ ?_;rw[getitemInPython_of_ne hT.not_modules];refine YJ (wpAny_specialOf hT hl ?_);have fin:wpAny (model prog w) A (subscripted slice false o i) (λr s₃=>wpAny (model prog w) A (letTemporaryGo value o r>>=λ_=>pure r) Q E s₃) E s₂:=by rw[hs o i];exact wpAny_operating (YL h₂ (λr s₃ h₃=>YJ (wpAny_letTemporaryGo (YK h₃))) λ_ _ x=>x)
 first
  |exact YK (YJ fin)
  |exact YJ (YK (YJ fin))
  |exact YJ fin
theorem qK8{X:Cx}{pins:List (Addr×Obj)}{σ:St}{H:Hp}{s:Shared}{a:Addr}{y:V}{o:Option V}(I:Inv X pins σ H s)(g:qSx H a y o):s.TypeIs (.ref a) "dict":=by
 rcases g with ⟨kvs,k,e,_,_⟩|⟨kvs,k,b,e,_,_,_⟩
 . obtain⟨_,_,vs,_,dd⟩:=qRt I.hok e
   exact dd.typeIs
 . obtain⟨_,_,xs,_,dd⟩:=qU8 I.hok e
   exact dd.typeIs
def qYr(td ty:TE):TE:=λσ H Q=>td σ H λx H1=>ty σ H1 λy H2=> ∃a v,x=.ref a/\qSx H2 a y (some v)/\Q v H2
def qT4(ty td:TE):TE:=λσ H Q=>ty σ H λy H1=>td σ H1 λx H2=> ∃a o,x=.ref a/\qSx H2 a y o/\Q (.bl (!o.isSome)) H2
section
variable{X:Cx}{o i e value:Expr}{pos pos' tpos:Pos}{td ty tv:TE}
theorem qD8(hu:X.A.units+1<cLine)(ho:PE X o td)(hi:PE X i ty)(hs:qZg i):PE X (.Subscript o i pos) (qYr td ty):=by intro pins s σ H Q I h;refine qUm PySem.F.slot_dict_getitem.lookup hs (thn (ho pins s σ H _ I h) λu s1 ⟨x,H1,I1,rx,q1⟩=>thn (hi pins s1 σ H1 _ I1 q1) λiv s2 ⟨y,H2,I2,ry,a,v,ex,g,q2⟩=>?_);subst ex;obtain rfl:u=Value.ref a:=rx;exact⟨qK8 I2 g,qPi hu I2 g ry λw' s3 I3 rw'=>⟨v,H2,I3,rw',q2⟩⟩
theorem qQ3(hu:X.A.units+1<cLine)(hi:PE X i ty)(ho:PE X o td):PC X .NotIn i o (qT4 ty td):=by intro pins s σ H Q I h;refine thn (hi pins s σ H _ I h) λiv s1 ⟨y,H1,I1,ry,q1⟩=>thn (ho pins s1 σ H1 _ I1 q1) λu s2 ⟨x,H2,I2,rx,a,ov,ex,g,q2⟩=>?_;subst ex;obtain rfl:u=Value.ref a:=rx;exact qVr hu I2 g ry λs3 I3=>⟨.bl (!ov.isSome),H2,I3,O,q2⟩
end
theorem qTb{P:Program}{w:World}{H:Hp}(h:Heap)(hb:sysModules<h.objs.size):ObjOk P w H (h.push {cls:=.type "dict",data:=.dict #[]}) h.objs.size (.dK []):=
 ⟨ZT _,beq_eq_false_iff_ne.mpr (ZG (Yo hb)),[],.nil,Heap.DictOf.new h⟩
def qPc:List (TE×TE)->St->Hp->(List (V×V)->Hp->Prop)->Prop
 |[],_,H,Q=>Q [] H
 |(tk,tv)::r,σ,H,Q=>tk σ H λx H1=>tv σ H1 λy H2=>qPc r σ H2 λps H3=>Q ((x,y)::ps) H3
abbrev VV:List (V×V)->List (Value×Value)->Prop:=Paired λp q=>RelV p.1 q.1/\RelV p.2 q.2
def PPs(X:Cx)(pos:Pos)(keys:List (Option Expr))(values:List Expr)(trs:List (TE×TE)):Prop:=
 ∀(pins:List (Addr×Obj)) (s:Shared) (σ:St) (H:Hp) (Q:List (V×V)->Hp->Prop),Inv X pins σ H s->qPc trs σ H Q->
  wpAny (model X.prog X.w) X.A (evalPairs (pairTrees keys values X.env pos)) (λvs s'=> ∃ps H',Inv X pins σ H' s'/\VV ps vs/\Q ps H') X.xe s
theorem qUu{X:Cx}{pos:Pos}:PPs X pos [] [] []:=λpins s σ H Q I h=>pairTrees_nil_walk ⟨[],H,I,.nil,h⟩
theorem qM2{X:Cx}{pos:Pos}{k v:Expr}{ks:List (Option Expr)}{vs:List Expr}{tk tv:TE}{trs:List (TE×TE)}(hk:PE X k tk)(hv:PE X v tv)(hr:PPs X pos ks vs trs):
 PPs X pos (some k::ks) (v::vs) ((tk,tv)::trs):=λpins s σ H Q I h=>
 pairTrees_cons_walk (thn (hk pins s σ H _ I h) λu s1 ⟨x,H1,I1,rx,q1⟩=>thn (hv pins s1 σ H1 _ I1 q1) λw2 s2 ⟨y,H2,I2,ry,q2⟩=>
  thn (hr pins s2 σ H2 _ I2 q2) λws s3 ⟨ps,H3,I3,rel,q3⟩=>⟨(x,y)::ps,H3,I3,.cons ⟨rx,ry⟩ rel,q3⟩)
noncomputable def qGb(kvs more:List (Key×V)):List (Key×V):=more.foldl (λacc kv=>qTu acc kv.1 kv.2) kvs
theorem KV.merge:∀{more:List (Key×V)} {rs:List (Key×Value)} {kvs:List (Key×V)} {vs:List (Key×Value)},KV more rs->KV kvs vs->KV (qGb kvs more) (merged vs rs):=by
 intro more rs kvs vs r;unfold KV at r
 induction r generalizing kvs vs with
 |nil=>intro q;exact q
 | @cons p q ps qs h t ih=>
  intro r0;have e:KV (qTu kvs p.1 p.2) (stored vs q.1 q.2):=by have:=r0.put p.1 h.2;rw[<-h.1];exact this
  exact ih e
theorem qAz:∀(more kvs:List (Key×V)),(qGb kvs more).length<=kvs.length+more.length
 |[],kvs=>by show kvs.length<=kvs.length+0;omega
 |p::r,kvs=>by have h1:=qAz r (qTu kvs p.1 p.2);have h2:=qKn kvs p.1 p.2;show (qGb (qTu kvs p.1 p.2) r).length<=_;rw[YE];omega
theorem qF8{P:Program}{w:World}:∀{kvs:List (Key×V)} {ws:List (Value×Value)},VV (kvs.map λkv=>(kV kv.1,kv.2)) ws->∃rs,Carries (xW P w) ws rs/\KV kvs rs
 |[],_,r=>by rw[List.map_nil]at r;cases r;exact⟨[],True.intro,.nil⟩
 |p::kvs,_,r=>by
  rw[ZH]at r;cases r with
  | @cons a b as bs h t=>
   obtain⟨rs,c,q⟩:=qF8 (P:=P) (w:=w) t;obtain⟨b1,b2⟩:=b;exact⟨(p.1,b2)::rs,⟨qRn h.1,O,c⟩,.cons ⟨O,h.2⟩ q⟩
def qXq(trs:List (TE×TE)):TE:=λσ H Q=> ∀p,H p=none->qPc trs σ (upd H p (.dK [])) λps H2=>H2 p=some (.dK [])/\∃kvs:List (Key×V),ps=kvs.map (λkv=>(kV kv.1,kv.2))/\kvs.length<=15/\Q (.ref p) (upd H2 p (.dK (qGb [] kvs)))
theorem qU2{X:Cx}{pos:Pos}{keys:List (Option Expr)}{values:List Expr}{trs:List (TE×TE)}(h:PPs X pos keys values trs)(hall:keys.all (·.isSome)=true)(hl:keys.length=values.length)(h0:keys≠[])
 (h15:keys.length<=15):PE X (.Dict keys values pos) (qXq trs):=by
 intro pins s σ H Q I q;have hn:=I.hok.fresh (YI s.heap.objs.size);have I1:=I.laid (a:=s.heap.objs.size) (o:=.dK []) (h':=s.heap.push {cls:=.type "dict",data:=.dict #[]}) (t':=s.toks) (λ_ _ q=>YM _ q) (YI _) (qTb s.heap I.big);refine wpAny_Dict_walk (knd:=xW X.prog X.w) hall hl h0 h15 (thn (h pins _ σ _ _ I1 (q _ hn)) λws s2 ⟨ps,H2,I2,rel,e,kvs,ep,lk,q2⟩=>?_);subst ep;obtain⟨rs,c,rk⟩:=qF8 (P:=X.prog) (w:=X.w) rel;obtain⟨z,hd,vs0,r0,dd⟩:=qY1 I2.hok e;cases r0;refine⟨rs,c,dd,λh' dd' hs=>⟨.ref s.heap.objs.size,_,?_,O,q2⟩⟩;have hz:(qGb [] kvs).length<=sizeLine:=by have h1:=qAz kvs [];rw[ZO]at h1;rw[sizeLine_eq];omega
 have he:∃q,h'.get? s.heap.objs.size=some q:=let ⟨q,_,_,hq,_⟩:=dd';⟨q,hq⟩
 exact qUc I2 (by rw[e];exact True.intro) hs he (qWn hz hd (rk.merge .nil) dd')
end L2
namespace Mt
theorem qU0(a b:Int):a.fmod b=a-b*a.fdiv b:=by have:=Int.fmod_add_mul_fdiv a b;omega
theorem qL9(a b:Int):Int.gcd b (a.fmod b)=Int.gcd a b:=by
 apply Nat.dvd_antisymm
 . refine Int.dvd_gcd ?_ (Int.gcd_dvd_left b (a.fmod b))
   have h1:((Int.gcd b (a.fmod b):Nat):Int)∣b:=Int.gcd_dvd_left ..;have h2:((Int.gcd b (a.fmod b):Nat):Int)∣a.fmod b:=Int.gcd_dvd_right ..;have h3:=Int.dvd_add h2 (Int.dvd_trans h1 (Int.dvd_mul_right b (a.fdiv b)));have e:a.fmod b+b*a.fdiv b=a:=Int.fmod_add_mul_fdiv a b
   rwa [e]at h3
 . refine Int.dvd_gcd (Int.gcd_dvd_right ..) ?_
   rw[qU0];exact Int.dvd_sub (Int.gcd_dvd_left ..) (Int.dvd_trans (Int.gcd_dvd_right ..) (Int.dvd_mul_right ..))
theorem qQo(a b:Int)(h:b≠0):(a.fmod b).natAbs<b.natAbs:=by
 rcases Int.lt_or_gt_of_ne h with h|h
 . have h1:=Int.fmod_lt_of_pos (-a) (show 0< -b by omega)
   have h2:=Int.fmod_nonneg_of_pos (-a) (show 0< -b by omega);rw[Int.neg_fmod_neg]at h1 h2;omega
 . have h1:=Int.fmod_lt_of_pos a h
   have h2:=Int.fmod_nonneg_of_pos a h;omega
noncomputable def sg(t b:Int):Int:=if b<0 then-((Int.gcd t b:Nat):Int)else ((Int.gcd t b:Nat):Int)
noncomputable def xI(t b:Int):Int:=t.fdiv (sg t b)
noncomputable def jq(t b:Int):Int:=b.fdiv (sg t b)
theorem qCp{t b:Int}(h:b≠0):0<Int.gcd t b:=by
 rcases Nat.eq_zero_or_pos (Int.gcd t b)with z|z
 . rw[Int.gcd_eq_zero_iff]at z
   exact YC z.2 h
 . exact z
theorem qYh{t b:Int}(h:b≠0):sg t b≠0:=by have:=qCp (t:=t) h;unfold sg;split <;> omega
theorem qTg(t b:Int):sg t b∣t:=by
 unfold sg;split
 . exact Int.neg_dvd.mpr (Int.gcd_dvd_left ..)
 . exact Int.gcd_dvd_left ..
theorem qRq(t b:Int):sg t b∣b:=by
 unfold sg;split
 . exact Int.neg_dvd.mpr (Int.gcd_dvd_right ..)
 . exact Int.gcd_dvd_right ..
theorem qMw(t b:Int):(sg t b).natAbs=Int.gcd t b:=by unfold sg;split <;> omega
theorem qSd(t b:Int):xI t b*sg t b=t:=Int.fdiv_mul_cancel (qTg t b)
theorem qOu(t b:Int):jq t b*sg t b=b:=Int.fdiv_mul_cancel (qRq t b)
theorem xD{t b:Int}(h:b≠0):0<jq t b:=by
 have e:=qOu t b;have g:=qCp (t:=t) h;by_cases hb:b<0
 . have s:sg t b=-((Int.gcd t b:Nat):Int):=by unfold sg;rw[YB hb]
   rw[s]at e;rcases Int.lt_trichotomy (jq t b) 0 with z|z|z
   . have:=Int.mul_pos_of_neg_of_neg z (show-((Int.gcd t b:Nat):Int)<0 by omega)
     omega
   . rw[z]at e;omega
   . exact z
 . have s:sg t b=((Int.gcd t b:Nat):Int):=by unfold sg;rw[YA hb]
   rw[s]at e;rcases Int.lt_trichotomy (jq t b) 0 with z|z|z
   . have:=Int.mul_neg_of_neg_of_pos z (show 0<((Int.gcd t b:Nat):Int) by omega)
     omega
   . rw[z]at e;omega
   . exact z
theorem qAa{t b:Int}(h:b≠0):Int.gcd (xI t b) (jq t b)=1:=by
 have e:=Int.gcd_mul_right (xI t b) (sg t b) (jq t b);rw[qSd,qOu,qMw]at e;have g:=qCp (t:=t) h;have e':1*Int.gcd t b=(xI t b).gcd (jq t b)*Int.gcd t b:=by omega
 exact(Nat.eq_of_mul_eq_mul_right g e').symm
theorem xy(t b:Int):xI t b*b=t*jq t b:=by
 have e1:=qSd t b;have e2:=qOu t b
 calc xI t b*b=xI t b*(jq t b*sg t b):=by rw[e2]
  _=(xI t b*sg t b)*jq t b:=by rw[ZK (jq t b),Yi]
  _=t*jq t b:=by rw[e1]
theorem qA1{t b:Int}(h:b≠0):(xI t b).natAbs<=t.natAbs:=by have e:=congrArg Int.natAbs (qSd t b);rw[Int.natAbs_mul,qMw]at e;have g:=qCp (t:=t) h;rw[<-e];exact Nat.le_mul_of_pos_right _ g
theorem kh{t b:Int}(h:b≠0):(jq t b).natAbs<=b.natAbs:=by have e:=congrArg Int.natAbs (qOu t b);rw[Int.natAbs_mul,qMw]at e;have g:=qCp (t:=t) h;have:=Nat.le_mul_of_pos_right (jq t b).natAbs g;omega
theorem qUi{p q p' q':Int}(hq:0<q)(hq':0<q')(g:Int.gcd p q=1)(g':Int.gcd p' q'=1)(c:p*q'=p'*q):p=p'/\q=q':=by
 have d1:q∣q':=by
  have h:q∣p*q':=by rw[c];exact Int.dvd_mul_left ..
  have n:q.natAbs∣p.natAbs*q'.natAbs:=by
   have:=Int.natAbs_dvd_natAbs.mpr h
   rwa [Int.natAbs_mul]at this
  have co:Nat.Coprime q.natAbs p.natAbs:=by show Nat.gcd q.natAbs p.natAbs=1;rw[Nat.gcd_comm];exact g
  exact Int.natAbs_dvd_natAbs.mp (Nat.Coprime.dvd_of_dvd_mul_left co n)
 have d2:q'∣q:=by
  have h:q'∣p'*q:=by rw[<-c];exact Int.dvd_mul_left ..
  have n:q'.natAbs∣p'.natAbs*q.natAbs:=by
   have:=Int.natAbs_dvd_natAbs.mpr h
   rwa [Int.natAbs_mul]at this
  have co:Nat.Coprime q'.natAbs p'.natAbs:=by show Nat.gcd q'.natAbs p'.natAbs=1;rw[Nat.gcd_comm];exact g'
  exact Int.natAbs_dvd_natAbs.mp (Nat.Coprime.dvd_of_dvd_mul_left co n)
 have e:q=q':=by have h1:=Int.le_of_dvd hq' d1;have h2:=Int.le_of_dvd hq d2;omega
 subst e;exact⟨ZX (by omega) c,O⟩
theorem qJo{t b p q:Int}(h:b≠0)(hq:0<q)(g:Int.gcd p q=1)(c:p*b=t*q):xI t b=p/\jq t b=q:=by
 have e:=xy t b;have k:xI t b*q=p*jq t b:=by
  have:(xI t b*q)*b=(p*jq t b)*b:=by
   calc (xI t b*q)*b=(xI t b*b)*q:=by rw[Yi,ZK q b,<-Yi]
    _=(t*jq t b)*q:=by rw[e]
    _=(t*q)*jq t b:=by rw[Yi,ZK (jq t b) q,<-Yi]
    _=(p*b)*jq t b:=by rw[c]
    _=(p*jq t b)*b:=by rw[Yi,ZK b,<-Yi]
  exact ZX h this
 exact qUi (xD h) hq (qAa h) g k
theorem qMm{p q:Int}(hq:0<q)(g:Int.gcd p q=1):xI p q=p/\jq p q=q:=qJo (by omega) hq g rfl
theorem qz{p q:Int}(hq:0<q):p.fdiv q*q<=p/\p<(p.fdiv q+1)*q:=by
 have e:=Int.fmod_add_mul_fdiv p q;have h1:=Int.fmod_nonneg_of_pos p hq;have h2:=Int.fmod_lt_of_pos p hq;have c:q*p.fdiv q=p.fdiv q*q:=ZK ..;have d:(p.fdiv q+1)*q=p.fdiv q*q+q:=by rw[Int.add_mul,Int.one_mul]
 omega
theorem qBv{A B C D:Int}(hB:0<B)(hD:0<D)(h:A*D=C*B):A.fdiv B=C.fdiv D:=by
 obtain⟨h1,h2⟩:=qz (p:=A) hB;obtain⟨h3,h4⟩:=qz (p:=C) hD;generalize A.fdiv B=f at h1 h2⊢;generalize C.fdiv D=g at h3 h4⊢;have k1:f*B*D<=A*D:=Ym h1 (by omega);have k2:C*B<(g+1)*D*B:=Int.mul_lt_mul_of_pos_right h4 hB;have k3:g*D*B<=C*B:=Ym h3 (by omega);have k4:A*D<(f+1)*B*D:=Int.mul_lt_mul_of_pos_right h2 hD;have p:=Yu hB hD;have e1:f*(B*D)<(g+1)*(B*D):=by grind
 have e2:g*(B*D)<(f+1)*(B*D):=by grind
 have:=Yr e1 (by omega);have:=Yr e2 (by omega);omega
theorem qSa{A B C D:Int}(hB:B≠0)(hD:D≠0)(h:A*D=C*B):xI A B=xI C D/\jq A B=jq C D:=by
 refine qJo hB (xD hD) (qAa hD) ?_;have c:=xy C D;generalize xI C D=u at c⊢;generalize jq C D=v at c⊢;refine ZX hD ?_
 grind
noncomputable def plP(p q r s k:Int):Int:=xI (p*s+k*r*q) (q*s)
noncomputable def plQ(p q r s k:Int):Int:=jq (p*s+k*r*q) (q*s)
theorem qF5{p q r s k:Int}(hq:0<q)(hs:0<s):0<plQ p q r s k:=xD (Int.ne_of_gt (Yu hq hs))
theorem qRi{p q r s k:Int}(hq:0<q)(hs:0<s):Int.gcd (plP p q r s k) (plQ p q r s k)=1:=qAa (Int.ne_of_gt (Yu hq hs))
theorem qDq(p q r s k:Int):plP p q r s k*(q*s)=(p*s+k*r*q)*plQ p q r s k:=xy _ _
theorem qQl{p q r s lo k:Int}(hq:0<q)(hs:0<s):plP (plP p q r s lo) (plQ p q r s lo) r s k=plP p q r s (lo+k)/\plQ (plP p q r s lo) (plQ p q r s lo) r s k=plQ p q r s (lo+k):=by
 have c:=qDq p q r s lo;have h:=qF5 (p:=p) (r:=r) (k:=lo) hq hs;generalize plP p q r s lo=u at c⊢;generalize plQ p q r s lo=v at c h⊢;refine qSa (Int.ne_of_gt (Yu h hs)) (Int.ne_of_gt (Yu hq hs)) ?_
 grind
theorem qBw{p q r s:Int}(hq:0<q)(hs:0<s)(g:Int.gcd p q=1):plP p q r s 0=p/\plQ p q r s 0=q:=by
 refine qJo (Int.ne_of_gt (Yu hq hs)) hq g ?_
 grind
theorem qU7{p q r s k:Int}(hq:0<q)(hs:0<s):(plP p q r s k).natAbs<=(p*s+k*r*q).natAbs:=qA1 (Int.ne_of_gt (Yu hq hs))
theorem qVi{p q r s k:Int}(hq:0<q)(hs:0<s):(plQ p q r s k).natAbs<=(q*s).natAbs:=kh (Int.ne_of_gt (Yu hq hs))
def InR(N D m:Int):Prop:=0<=N/\N<m*D
theorem qEp{N D m:Int}(hD:0<D):InR N D m↔(0<=N.fdiv D/\N.fdiv D<m):=by
 obtain⟨h1,h2⟩:=qz (p:=N) hD;generalize N.fdiv D=f at h1 h2⊢;unfold InR;constructor
 . rintro⟨a,b⟩
   constructor
   . have:0*D<(f+1)*D:=by rw[Int.zero_mul];omega
     have:=Yr this (by omega);omega
   . exact Yr (a:=D) (by omega) (by omega)
 . rintro⟨a,b⟩
   constructor
   . have:=Int.mul_nonneg a (by omega:0<=D)
     omega
   . have:(f+1)*D<=m*D:=Ym (by omega) (by omega)
     omega
theorem qD2{X Y E D m:Int}(hE:0<E)(hD:0<D)(h:X*D=Y*E):InR X E m↔InR Y D m:=by rw[qEp hE,qEp hD,qBv hE hD h]
noncomputable def zl(N R D m:Int):Int:=
 if R=0 then 1000000 else if ¬(0<=N.fdiv D/\N.fdiv D<m)then 0
 else if 1000000<(if R<0 then N.fdiv (-R)+1 else-((N-m*D).fdiv R))then 1000000 else (if R<0 then N.fdiv (-R)+1 else-((N-m*D).fdiv R))
theorem qSf{N R D m:Int}(hR:R<0)(h:InR N D m):1<=N.fdiv (-R)+1/\(∀j,0<=j->j<N.fdiv (-R)+1->InR (N+j*R) D m)/\¬InR (N+(N.fdiv (-R)+1)*R) D m:=by
 obtain⟨h1,h2⟩:=qz (p:=N) (q:= -R) (by omega);have f0:0<=N.fdiv (-R):=Int.fdiv_nonneg h.1 (by omega);generalize N.fdiv (-R)=f at h1 h2 f0⊢;refine⟨by omega,λj j0 j1=>?_,?_⟩
 . have k1:j*(-R)<=f*(-R):=Ym (by omega) (by omega)
   have k2:0<=j*(-R):=Int.mul_nonneg j0 (by omega);have e:j*R=-(j*(-R)):=by grind
   obtain⟨a,b⟩:=h;exact⟨by omega,by omega⟩
 . intro z
   have e:(f+1)*R=-((f+1)*(-R)):=by grind
   have:=z.1;omega
theorem qSg{N R D m:Int}(hR:0<R)(h:InR N D m):1<=-((N-m*D).fdiv R)/\(∀j,0<=j->j< -((N-m*D).fdiv R)->InR (N+j*R) D m)/\¬InR (N+ -((N-m*D).fdiv R)*R) D m:=by
 obtain⟨h1,h2⟩:=qz (p:=N-m*D) hR;obtain⟨a,b⟩:=h;generalize (N-m*D).fdiv R=f at h1 h2⊢;have f0:f<0:=by
  have:f*R<0*R:=by rw[Int.zero_mul];omega
  exact Yr this (by omega)
 refine⟨by omega,λj j0 j1=>?_,?_⟩
 . have k1:(j+f+1)*R<=0*R:=Ym (by omega) (by omega)
   have k2:0<=j*R:=Int.mul_nonneg j0 (by omega);have e:(j+f+1)*R=j*R+(f+1)*R:=by grind
   rw[Int.zero_mul]at k1;exact⟨by omega,by omega⟩
 . intro z
   have:=z.2;have e: -f*R=-(f*R):=by grind
   omega
theorem qUw{N R D m:Int}(hD:0<D)(h0:R=0->InR N D m):0<=zl N R D m/\zl N R D m<=1000000/\(∀j,0<=j->j<zl N R D m->InR (N+j*R) D m)/\(zl N R D m<1000000->¬InR (N+zl N R D m*R) D m)/\(R=0->zl N R D m=1000000):=by
 unfold zl;by_cases hR:R=0
 . rw[YB hR]
   refine⟨by decide,by decide,λj _ _=>?_,λz=>YC z (by decide),λ_=>rfl⟩;rw[hR,Int.mul_zero,Yc];exact h0 hR
 rw[YA hR];by_cases hi:InR N D m
 . rw[YA (by rw[Classical.not_not];exact(qEp hD).mp hi)]
   have key:∀g:Int,1<=g->(∀j,0<=j->j<g->InR (N+j*R) D m)->¬InR (N+g*R) D m->
    0<=(if 1000000<g then 1000000 else g)/\(if 1000000<g then 1000000 else g)<=1000000/\(∀j,0<=j->j<(if 1000000<g then 1000000 else g)->InR (N+j*R) D m)/\((if 1000000<g then 1000000 else g)<1000000->¬InR (N+(if 1000000<g then 1000000 else g)*R) D m):=by
    intro g g1 g2 g3;by_cases hg:1000000<g
    . rw[YB hg]
      exact⟨by decide,by decide,λj a b=>g2 j a (by omega),λz=>YC z (by decide)⟩
    . rw[YA hg]
      exact⟨by omega,by omega,g2,λ_=>g3⟩
   have fin:∀{A B C D':Prop},A/\B/\C/\D'->A/\B/\C/\D'/\(R=0->(if 1000000<(if R<0 then N.fdiv (-R)+1 else-((N-m*D).fdiv R))then (1000000:Int)else (if R<0 then N.fdiv (-R)+1 else-((N-m*D).fdiv R)))=1000000):=λ⟨a,b,c,d⟩=>⟨a,b,c,d,λz=>YC z hR⟩;refine fin ?_;by_cases hn:R<0
   . rw[YB hn]
     obtain⟨a,b,c⟩:=qSf hn hi;exact key _ a b c
   . rw[YA hn]
     obtain⟨a,b,c⟩:=qSg (by omega:0<R) hi;exact key _ a b c
 . rw[YB (by rw[<-qEp hD];exact hi)]
   refine⟨by decide,by decide,λj a b=>YC b (by omega),λ_=>?_,λz=>YC z hR⟩;rw[Int.zero_mul,Yc];exact hi
end Mt
namespace L3
open PySem PySem.Spec PyProof.Rows L2
def CMulB(i j:Int):Prop:=CMul i j\/(i.natAbs<2 ^ 60000/\j.natAbs<2 ^ 60000)
theorem qA3{i:Int}(h:i.natAbs<2 ^ 60000):Builtin.Int.intBits i<=2 ^ 20:=by
 unfold Builtin.Int.intBits;split
 . exact ZT _
 . rename_i h0
   have hz:i.natAbs≠0:=by
    intro z;apply h0;have:i=0:=by omega
    rw[this];rfl
   have:=(Nat.log2_lt hz).mpr h;have e:(2:Nat) ^ 20=1048576:=by decide
   omega
theorem CMulB.ok{i j:Int}(h:CMulB i j):IntMulOk i j:=by
 rcases h with h|⟨h1,h2⟩
 . exact h.ok
 . exact IntMulOk.of_bits (qA3 h1) (qA3 h2)
def CDivB(_ j:Int):Prop:=j≠0/\j.natAbs<2 ^ 8000
theorem CDivB.ok{i j:Int}(h:CDivB i j):Builtin.divisionGoesByPylong i j=false:=by
 refine PyProof.noPylong_of_log2 ?_;have hz:j.natAbs≠0:=by have:=h.1;omega
 have:=(Nat.log2_lt hz).mpr h.2;omega
section
variable{X:Cx}
theorem jK:OpR X (binaryOp .Mult) (rI CMulB λi j=>.int (i*j)):=opI λ_ _ _ _ _ _ _ hc q=>mul_int q hc.ok
theorem qj:OpR X (binaryOp .FloorDiv) (rI CDivB λi j=>.int (i.fdiv j)):=opI λ_ _ _ _ _ _ _ hc q=>floordiv_int hc.1 q (.inl hc.ok)
theorem jh:wu X (.builtin "isinstance") (λxs H Q=> ∃x c t b,xs=[x,c]/\qNc X.K H x t/\
 (∃n,c=.ty n/\PySem.W.kitOne X.K t (.type n)=some b\/∃a,c=.ref a/\PySem.W.kitOne X.K t (.ref a)=some b)/\Q (.bl b) H):=by
 intro pins s σ H xs us Q I r h;obtain⟨x,c,t,b,rfl,ty,hk,q⟩:=h;obtain⟨u,u',rfl,rx,rc⟩:=qUn r;obtain⟨n,⟨rfl,e⟩|⟨a,rfl,e⟩⟩:=hk
 . cases rc
   exact qKd I rx ty e λtk=>⟨.bl b,H,I.tok _,O,q⟩
 . cases rc
   exact qKd I rx ty e λtk=>⟨.bl b,H,I.tok _,O,q⟩
noncomputable def qJ7(xs ys:List V):Bool:=(List.range (min xs.length ys.length)).all (λj=>eqV (xs.getD j .non) (ys.getD j .non)) && xs.length==ys.length
theorem qF7{A:Around}{s:Shared}{xs ys:List V}{us ws:List Value}(r1:Vals xs us)(r2:Vals ys ws)(f1:xs.all kY=true)(f2:ys.all kY=true):
 ∀j (h1:j<us.toArray.size) (h2:j<ws.toArray.size),SeqAt.EqAt A s us.toArray[j] ws.toArray[j] (eqV (xs.getD j .non) (ys.getD j .non)):=by
 intro j h1 h2;have l1:=r1.length;have l2:=r2.length;rw[YG]at h1 h2;have g1:xs[j]?=some xs[j]:=YD (by omega);have g2:ys[j]?=some ys[j]:=YD (by omega);obtain⟨u,e1,q1⟩:=r1.get g1;obtain⟨w,e2,q2⟩:=r2.get g2;have d1:xs.getD j .non=xs[j]:=by rw[List.getD_eq_getElem?_getD,g1];rfl
 have d2:ys.getD j .non=ys[j]:=by rw[List.getD_eq_getElem?_getD,g2];rfl
 have c1:us.toArray[j]=u:=by have:=(Ya.mp e1).2;simpa using this
 have c2:ws.toArray[j]=w:=by have:=(Ya.mp e2).2;simpa using this
 rw[d1,d2,c1,c2];exact qMk q1 q2 (List.all_eq_true.mp f1 _ (List.getElem_mem _)) (List.all_eq_true.mp f2 _ (List.getElem_mem _))
inductive qY9(K:PySem.W.Frag)(neg:Bool)(x:V)(y:V)(H:Hp)(Q:VK):Prop
|mk p q xs ys (_:x=.ref p) (_:y=.ref q) (_:SqT K H p xs) (_:SqT K H q ys) (_:xs.all kY=true) (_:ys.all kY=true) (_:Q (.bl (if neg then !qJ7 xs ys else qJ7 xs ys)) H)
theorem qTr(hu:X.A.units<cLine):OpR X (compareOp .Eq) (qY9 X.K false):=by
 intro pins s σ H x y v u Q I rx ry h;obtain⟨p,q,xs,ys,rfl,rfl,h1,h2,f1,f2,k⟩:=h;cases rx;cases ry;obtain⟨us,r1,t1,_⟩:=I.tuple h1;obtain⟨ws,r2,t2,_⟩:=I.tuple h2;have l1:us.toArray.size=xs.length:=by rw[YG];exact r1.length.symm
 have l2:ws.toArray.size=ys.length:=by rw[YG];exact r2.length.symm
 refine SeqAt.eq_tupleAt t1 t2 hu (qF7 r1 r2 f1 f2) ?_;rw[l1,l2];exact⟨.bl (qJ7 xs ys),H,I,O,k⟩
theorem qVw(hu:X.A.units<cLine):OpR X (compareOp .NotEq) (qY9 X.K true):=by
 intro pins s σ H x y v u Q I rx ry h;obtain⟨p,q,xs,ys,rfl,rfl,h1,h2,f1,f2,k⟩:=h;cases rx;cases ry;obtain⟨us,r1,t1,_⟩:=I.tuple h1;obtain⟨ws,r2,t2,_⟩:=I.tuple h2;have l1:us.toArray.size=xs.length:=by rw[YG];exact r1.length.symm
 have l2:ws.toArray.size=ys.length:=by rw[YG];exact r2.length.symm
 refine SeqAt.RcNeAt.tuples t1 t2 hu (qF7 r1 r2 f1 f2) _ _ _ _ ?_;rw[l1,l2];exact⟨.bl (!qJ7 xs ys),H,I,O,k⟩
end
noncomputable def jz(X:Cx)(scope:Scope)(cl:List (Str×Addr))(C:Addr)(N:List Str)(s:Shared)(H:Hp)(fp:List Addr):Cx:=
 {X with N:=N,s₀:=s,H₀:=H,env:=compEnvC scope cl C X.env,outer:=X.stack,stack:=X.stack,ex:=fp,fn:=λ_=>false,pn:=[]}
noncomputable def qCq(js:List Nat)(σ:L2.St):L2.St:=js.map λj=>(σ[j]?).join
theorem qOd{prog:Program}{w:World}{A:Around}{R:Result->Shared->Prop}{s0:Shared}{el tg src:Expr}{cs:List Expr}{sco:Scope}{po:Pos}{itv lst:Value}{en:Env}(J:Nat->Shared->Prop)
 (step:∀k st,J k st->wpAny (model prog w) A (pyNext itv) (λgot s1=>match got with
   |none=>R (.ok .next) s1
   |some u=>wpAny (model prog w) A (letOwnedTupleGo tg itv u) (λ_ s1'=>wpAny (model prog w) A (assign tg en u) (λ_ s2=>
    wpAny (model prog w) A (forIn cs true λc r=>if r=true then do let ok<-isTrue c en (eval c en);pure (ForInStep.yield ok)else pure (ForInStep.yield r)) (λgood s3=>
     if good=true then wpAny (model prog w) A (eval el en) (λy s4=>
      wpAny (model prog w) A (call (.builtin "list.append") [lst,y]) (λ_ s5=> ∃j,j<k/\J j s5) (notedBy (model prog w) A en λx z=>R (.error x) z) s4) (notedBy (model prog w) A en λx z=>R (.error x) z) s3
     else ∃j,j<k/\J j s3) (notedBy (model prog w) A en λx z=>R (.error x) z) s2) (notedBy (model prog w) A en λx z=>R (.error x) z) s1') (notedBy (model prog w) A en λx z=>R (.error x) z) s1) (notedBy (model prog w) A en λx z=>R (.error x) z) st)
 (k:Nat) (hJ:J k s0):codeAny (model prog w) A (.compLoop (.ListComp el [⟨tg,src,cs,0⟩] sco po) 0 itv lst en) R s0:=by
 refine codeAny_loop rfl J (λk st hk=>?_) k hJ;show wpAny _ A ((compTurn (.ListComp el [⟨tg,src,cs,0⟩] sco po) 0 itv lst en).onRaise (λx=>do noteFrame x en;theTreesLotGoes x)) _ _ st;refine wpAny_noted ?_;rw[compTurn_list];refine YJ (wpAny_standAt (YJ (YL (step k st hk) (λgot s1 g1=>?_) λ_ _ q=>q)))
 match got with
 |none=>exact YK g1
 |some u=>
  refine YJ (YL g1 (λ_ s1' g2=>?_) λ_ _ q=>q);refine YJ (YL g2 (λ_ s2 g3=>YJ (YL g3 (λgood s3 g4=>?_) λ_ _ q=>q)) λ_ _ q=>q)
  match good with
  |false=>exact YK ⟨rfl,g4⟩
  |true=>
   refine YJ (YJ (YL g4 (λy s4 g5=>?_) λ_ _ q=>q));exact YJ (YL g5 (λ_ s5 g6=>YK (YK ⟨O,g6⟩)) λ_ _ q=>q)
structure COk(X:Cx)(scope:Scope)(cl:List (Str×Addr))(iter:Expr)(xs ys:List Str)(js:List Nat):Prop where
 clos:closureFor scope X.env=pure cl
 cls:cl.map (λp=>X.env.cells.lookup p.1)=cl.map (λp=>some p.2)
 cell:(scope.names.all λp=>p.2 != .cell)=true
 kind:scope.kind=.function
 names:(scope.names.all λp=>p.2 != .local || scope.names.lookup p.1==some .local)=true
 has:((relabel scope X.env).names.all λp=>(p.2 != .cell && p.2 != .free) || (cl.lookup p.1).isSome)=true
 hjs:js.map (λj=>X.N[j]?)=ys.map some
 hys:(ys.all λy=>((relabel scope X.env).names.lookup y==some .cell || (relabel scope X.env).names.lookup y==some .free) && (X.env.scope.names.lookup y==some .cell || X.env.scope.names.lookup y==some .free))=true
 set:∀x,foldedSetIterable iter X.env x=pure x
 nd:(xs++ys).Nodup
def PTs(X:Cx)(cs:List Expr)(t:TT):Prop:=
 ∀(pins:List (Addr×Obj)) (s:Shared) (σ:L2.St) (H:Hp) (Q:Bool->Hp->Prop),Inv X pins σ H s->t σ H Q->wpAny (model X.prog X.w) X.A (forIn cs true λc r=>if r=true then do let ok<-isTrue c X.env (eval c X.env);pure (ForInStep.yield ok)else pure (ForInStep.yield r)) (TP X pins σ Q) X.xe s
theorem qO3{X:Cx}:PTs X [] λ_ H Q=>Q true H:=λ_ _ _ H _ I h=>YK ⟨H,I,h⟩
theorem qUa{X:Cx}{c:Expr}{t:TT}(hc:PT X c t):PTs X [c] t:=λpins s σ H Q I h=>by simp only[List.forIn_cons,List.forIn_nil,if_true];exact YJ (YJ (thn (hc pins s σ H Q I h) λ_ _ q=>YK (YK q)))
def qBf(n:Nat)(js:List Nat)(g:TG)(tc:TT)(te:TE)(σ:L2.St)(Q:VK)(J:It)(H1:Hp):Prop:= ∃W:Nat->Nat->List V->Hp->Prop,(∃m,W 0 m [] H1)/\∀i m acc H2,W i m acc H2->
 acc.length<sizeLine/\((J.stop i H2/\∀D,H2 D=none->Q (.ref D) (upd H2 D (.lst acc)))\/
  (J.go i H2/\∀x H3,J.yld i H2 x H3->g x (List.replicate n none++qCq js σ) H3 λσ' H4=> ∃vs:L2.St,σ'=vs++qCq js σ/\vs.length=n/\tc σ' H4 λok H5=>if ok=true then te σ' H5 λv H6=> ∃m',m'<m/\W (i+1) m' (acc++[v]) H6 else ∃m',m'<m/\W (i+1) m' acc H5))
theorem qS{G:Prop}(k:∀X:Prop,(G->X)->X):G:=k G id
theorem qGa{X:Cx}{elt iter tg:Expr}{cs:List Expr}{scope:Scope}{cl:List (Str×Addr)}{pos:Pos}{wi:TI}{g:TG}{tc:TT}{te:TE}{xs ys:List Str}{js:List Nat}{E:It->Hp->Prop}
 (hcm:X.calm=true) (hi:PI X tg iter wi) (hg:∀C s H fp,PG (jz X scope cl C (xs++ys) s H fp).nox tg g) (hc:∀C s H fp,PTs (jz X scope cl C (xs++ys) s H fp).nox cs tc) (he:∀C s H fp,PE (jz X scope cl C (xs++ys) s H fp).nox elt te)
 (hC:COk X scope cl iter xs ys js)
 {pins:List (Addr×Obj)} {s:Shared} {σ:L2.St} {H:Hp} (R:V->Hp->Prop) (use:Option (Value->Sem Unit)) (Q:Value->Shared->Prop) (I:Inv X pins σ H s) (h:wi σ H E) (hE:∀J H1,E J H1->qBf xs.length js g tc te σ R J H1)
 (fin:∀(v:V) (u:Value) (H':Hp) (s':Shared) (C:Addr),Inv X pins σ H' s'->RelV v u->R v H'->(∃m,s'.heap.Ns C m)->H' C=none->C≠X.env.locals->X.s₀.heap.objs.size<=C->(∀y c,X.env.cells.lookup y=some c->c≠C)->(∀p∈X.pn++pins,p.1≠C)->
   compPost (model X.prog X.w) X.A X.xe use Q u C (.ok .next) s'):
 wpAny (model X.prog X.w) X.A (comprehension (.ListComp elt [⟨tg,iter,cs,0⟩] scope pos) scope X.env (firstIterPos [⟨tg,iter,cs,0⟩] pos) (newList []) false (eval iter X.env) use) Q X.xe s:=by
 obtain⟨hclos,hcl,hcell,hkind,hnames,hhas,hjs,hys,hs,hnd⟩:=hC;have hcell':∀y∈scope.names,y.2≠ .cell:=λy hy=>by have:=List.all_eq_true.mp hcell y hy;simpa using this
 have hnm:∀y∈scope.names,y.2=.local->scope.names.lookup y.1=some .local:=λy hy e=>by have:=List.all_eq_true.mp hnames y hy;rw[e]at this;simpa using this
 have clX:∀y c,cl.lookup y=some c->X.env.cells.lookup y=some c:=λy c e=>by have hm:=ZQ e;obtain⟨k,hk,e2⟩:=ZF.mp hm;have:=congrArg (λl=>l[k]?) hcl;simp only[Yj,YD hk,Option.map_some,e2]at this;exact Yb this
 have has:∀y,((relabel scope X.env).names.lookup y=some .cell\/(relabel scope X.env).names.lookup y=some .free)->∃c,cl.lookup y=some c:=λy hy=>by
  have key:∀k:NameKind,(k=.cell\/k=.free)->(relabel scope X.env).names.lookup y=some k->∃c,cl.lookup y=some c:=λk hk e=>by have:=List.all_eq_true.mp hhas _ (ZQ e);rcases hk with rfl|rfl <;> exact Option.isSome_iff_exists.mp (by simpa using this)
  rcases hy with e|e
  . exact key _ (.inl rfl) e
  . exact key _ (.inr rfl) e
 refine wpAny_comprehension_free (use:=use) rfl hs hclos hkind hnm (thn (hi pins s σ H _ I h) λv s1 h1=>thn h1 λitv s2 h2=>?_);refine qS λ_ Y=>?_;obtain⟨it,fp,tn,J,H2,e,I2,T,st2,f2,hw⟩:=h2;obtain⟨W,⟨m0,w0⟩,turn⟩:=hE J H2 hw;subst e;apply Y;refine wpAny_newObj_type (wpAny_newFunctionEnv hcell' (by intro y hy;simp at hy) (λh₁ hns hsb=>?_) hkind);dsimp only at hns hsb⊢;generalize hG:s2.heap.push {cls:=.type "list",dict:=none,data:=.seq ([]:List Value).toArray}=G at hns hsb⊢;have szG:G.objs.size=s2.heap.objs.size+1:=by rw[<-hG,Heap.size_push]
 have inG:∀b o,s2.heap.get? b=some o->G.get? b=some o:=λb o e=>hG ▸ YM _ e;have ltC:∀b o,s2.heap.get? b=some o->b≠G.objs.size:=λb o e=>by rw[szG];exact Yo (Nat.lt_succ_of_lt (YV e))
 have ltD:∀b o,s2.heap.get? b=some o->b≠s2.heap.objs.size:=λb o e=>Yo (YV e);have DC:s2.heap.objs.size≠G.objs.size:=by rw[szG];omega
 have old:∀b o,s2.heap.get? b=some o->h₁.get? b=some o:=λb o e=>hsb.extBut b o (ltC b o e) (YM _ (inG b o e));have hacc:h₁.PlainList s2.heap.objs.size #[]:=⟨_,hsb.extBut _ _ DC (YM _ (hG ▸ Yn _ rfl))⟩;have fpO:∀b∈fp,∃o,s2.heap.get? b=some o:=λb hb=>let ⟨o,e,_⟩:=T.obj 0 _ st2 b hb;⟨o,e⟩
 have stkO:∀b∈frs X.stack,∃o,s2.heap.get? b=some o:=λb hb=>by obtain⟨_,o,ho,_⟩:=I2.stack.mem hb;exact⟨o,ho⟩
 have freshH:∀a,s2.heap.objs.size<=a->H2 a=none:=λa ha=>I2.hok.fresh ha;have stkFp:∀b∈fp,b∉frs X.stack:=λb hb z=>by
  rcases YU.mp (I2.stkSub b z)with q|q
  . exact(f2 b hb).2.1 q
  . exact(f2 b hb).2.2.1 q
 have okX:(jz X scope cl G.objs.size (xs++ys) s2 H2 fp).Ok:={
  mod:=I2.ok.mod
  kind:=hkind
  glob:=I2.ok.glob
  blt:=I2.ok.blt
  above:=by show s2.heap.objs.size<=G.objs.size;rw[szG];omega
  inj:=λy z c e1 e2=>I2.ok.inj y z c (clX y c e1) (clX z c e2)
  has:=λy hy=>has y hy
  cab:=λy c e _=>YC (show false=true from e) YZ
  hd:=I2.ok.hd
  frames:=I2.ok.frames
  stk:=.inl rfl
  exf:=λb hb=>by obtain⟨o,e⟩:=fpO b hb;exact⟨ltC b o e,λy c e1=>(f2 b hb).2.2.2.2.1 y c (clX y c e1)⟩
  bs:=I2.bs
  bsz:=ZD I2.ok.bsz I2.sz
  noex:=λb o e hb=>by
   rcases (f2 b hb).2.2.2.1 with q|q
   . exact I2.ok.noex b o e q
   . exact Nat.lt_irrefl _ (YR (YR (YV e) I2.ok.bsz) q)
  exfs:=stkFp
  funs:=I2.stack
  frf:=I2.stkFree}
 have lenY:js.length=ys.length:=by have:=congrArg List.length hjs;simpa using this
 have I0:Inv (jz X scope cl G.objs.size (xs++ys) s2 H2 fp) [] (List.replicate xs.length none++qCq js σ) H2 {s2 with heap:=h₁,toks:=s2.toks+([]:List (Str×Value)).length}:=by
  refine⟨okX,O,I2.bare,Un.kept old,⟨_,hns,λk y v e1 e2 e3=>?_⟩,λy c e=>?_,freshH _ (by show s2.heap.objs.size<=G.objs.size;rw[szG];omega),λy c e=>I2.freeC y c (clX y c e),λp hp=>YC (show p∈([]:List (Addr×Obj))from hp) (by simp),I2.hok.kept old,?_⟩
  . obtain⟨k,e1',e2'⟩:∃k,ys[k]?=some y/\(qCq js σ)[k]?=some (some v):=by
     have e1:(xs++ys)[k]?=some y:=e1;by_cases hk:k<xs.length
     . rw[ZC (by simpa using hk),List.getElem?_replicate,YB hk]at e2
       cases e2
     . rw[Yz (by simpa using hk),List.length_replicate]at e2
       rw[Yz (Nat.le_of_not_lt hk)]at e1;exact⟨_,e1,e2⟩
    unfold qCq at e2';rw[Yj]at e2';cases ej:js[k]? with
    |none=>rw[ej]at e2';cases e2'
    |some j=>
     rw[ej]at e2';have e4:(σ[j]?).join=some v:=Yb e2';have e5:σ[j]?=some (some v):=by
      cases q:σ[j]? with
      |none=>rw[q]at e4;cases e4
      |some o=>rw[q]at e4;exact congrArg some e4
     have e6:X.N[j]?=some y:=by have:=congrArg (λl=>l[k]?) hjs;simp only[Yj,ej,e1',Option.map_some]at this;exact Yb this
     have hy:=List.all_eq_true.mp hys y (YF e1');simp only[Yl,Bool.or_eq_true,beq_iff_eq]at hy;obtain⟨ky,ko⟩:=hy;obtain⟨m,hn,hl⟩:=I2.loc;obtain⟨u,r,lk⟩:=hl j y v e6 e5 (.inr ko);refine⟨u,r,.inr ⟨ky,?_⟩⟩;rcases lk with ⟨kl,_⟩|⟨_,c,ec,hc⟩
     . have kl':X.env.scope.names.lookup y=some .local:=kl
       rw[kl']at ko;rcases ko with z|z <;> cases z
     . obtain⟨c',ec'⟩:=has y ky
       have:=clX y c' ec';rw[ec]at this;cases this;obtain⟨o,ho,hd⟩:=hc;exact⟨c,ec',o,old c o ho,hd⟩
  . obtain⟨v,o,ho,hd⟩:=I2.cell y c (clX y c e)
    exact⟨v,o,old c o ho,hd⟩
  . show (List.replicate xs.length none++qCq js σ).length=(xs++ys).length
    simp[qCq,lenY]
 have loop:∀s3:Shared,s3={s2 with heap:=h₁,toks:=s2.toks+([]:List (Str×Value)).length}->
  codeAny (model X.prog X.w) X.A (.compLoop (.ListComp elt [⟨tg,iter,cs,0⟩] scope pos) 0 (.ref it) (.ref s2.heap.objs.size) (compEnvC scope cl G.objs.size X.env))
   (compPost (model X.prog X.w) X.A X.xe use Q (.ref s2.heap.objs.size) G.objs.size) s3:=by
  rintro s3 rfl;have stat:∀{H':Hp} (o:Obj),(∀b∈fp,H' b=none)->∀b∈fp,qSr (jz X scope cl G.objs.size (xs++ys) s2 H2 fp) [(s2.heap.objs.size,o)] H' b:=λ{H'} o hn b hb=>by
   obtain⟨ob,eb⟩:=fpO b hb;refine⟨hn b hb,ltC b ob eb,stkFp b hb,.inl hb,λy c e1=>(f2 b hb).2.2.2.2.1 y c (clX y c e1),λp hp=>?_⟩;have hp':p=(s2.heap.objs.size,o):=by have:p∈[(s2.heap.objs.size,o)]:=hp;simpa using this
   rw[hp'];exact ZG (ltD b ob eb)
  refine qOd (λn s'=> ∃i acc its H3,Inv (jz X scope cl G.objs.size (xs++ys) s2 H2 fp) [] (List.replicate xs.length none++qCq js σ) H3 s'/\tn i s'.heap/\(∀b∈fp,H3 b=none)/\s'.heap.PlainList s2.heap.objs.size its.toArray/\Vals acc its/\H3 s2.heap.objs.size=none/\W i n acc H3)
   ?_ m0 ⟨0,[],[],H2,I0,T.keep _ _ _ st2 λb _ o e=>old b o e,λb hb=>(f2 b hb).1,hacc,.nil,freshH _ (YI _),w0⟩
  intro n s3 hx3;refine qS λ_ Y=>?_;obtain⟨i,acc,its,H3,I3,st3,fr3,⟨nn,pl3⟩,va3,hD3,w3⟩:=hx3;obtain⟨hlen,cs⟩:=turn i n acc H3 w3;apply Y;have hal:acc.length=its.length:=va3.length;have nD:s2.heap.objs.size∉frs X.stack:=λz=>by obtain⟨o,e⟩:=stkO _ z;exact ltD _ o e rfl
  have I3p:Inv (jz X scope cl G.objs.size (xs++ys) s2 H2 fp) [(s2.heap.objs.size,{cls:=.type "list",data:=.seq its.toArray nn})] (List.replicate xs.length none++qCq js σ) H3 s3:=I3.pins_of λp hp=>by
   have e:p=(s2.heap.objs.size,{cls:=.type "list",data:=.seq its.toArray nn}):=by simpa using hp
   subst e;exact⟨pl3,hD3,DC,nD,λv z=>nomatch z⟩
  rcases cs with ⟨stop,q⟩|⟨go,step⟩
  . refine thn (T.done (jz X scope cl G.objs.size (xs++ys) s2 H2 fp) rfl rfl rfl hcm i _ s3 _ H3 _ I3p (stat _ fr3) st3 stop) λr s4 hr=>?_
    obtain⟨hr,I4⟩:=hr;subst hr;have pl4:=(I4.pin (s2.heap.objs.size,{cls:=.type "list",data:=.seq its.toArray nn}) (by simp)).1;obtain⟨m,hn,_⟩:=I4.loc;have B:=I4.base;have un':Un (frs X.stack) fp H2 (upd H3 s2.heap.objs.size (.lst acc)) s2.heap s4.heap:=by
     refine⟨λb o e n hb hx=>B.keep b o e n hb hx,λb o e n hb hx=>B.slot b o e n hb hx,λb o e n hx=>?_,λb o e hx=>B.there b o e hx,λb xs e=>?_,λb o u e=>?_,λb ps e=>?_⟩
     . rw[qg (ltD b o e)]
       exact B.free b o e n hx
     . have z:=B.tups b xs e
       rw[qg (qW z hD3)];exact z
     . have z:=B.frzs b o u e
       rw[qg (qW z hD3)];exact z
     . obtain⟨more,z⟩:=B.tbls b ps e
       exact⟨more,by rw[qg (qW z hD3)];exact z⟩
    have freeC4:H3 G.objs.size=none:=I4.free;have hok':HOk X.prog X.w (upd H3 s2.heap.objs.size (.lst acc)) s4.heap:=λb u e=>by
     by_cases hb:b=s2.heap.objs.size
     . subst hb
       rw[qC]at e;cases e;exact⟨Nat.le_of_lt hlen,its,nn,va3,pl4⟩
     . rw[qg hb]at e
       exact(I4.hok b u e).stay (λc v hc z=>z) (λc z=>by rw[qg (qW z hD3)];exact z) λc xs z=>by rw[qg (qW z hD3)];exact z
    have hch:∀b∈fp,(b∈X.ex\/X.s₀.heap.objs.size<=b)/\b≠X.env.locals/\(∀y c,X.env.cells.lookup y=some c->c≠b)/\∀p∈X.pn++pins,p.1≠b:=λb hb=>by obtain⟨_,z1,_,z3,z4,z5⟩:=f2 b hb;exact⟨z3,z1,z4,z5⟩
    have I5:=I2.call' (s':=s4) (ch:=fp) I4.os un' hok' I4.bare hch;refine fin (.ref s2.heap.objs.size) _ _ s4 G.objs.size I5 rfl (q _ hD3) ⟨m,hn⟩ ?_ ?_ ?_ (λy c e=>?_) λp hp=>?_
    . rw[qg (ZG DC)];exact freeC4
    . rw[szG];exact Nat.ne_of_gt (Nat.lt_succ_of_lt I2.lt)
    . rw[szG];exact Nat.le_succ_of_le I2.sz
    . obtain⟨v,o,ho,_⟩:=I2.cell y c e
      exact ltC c o ho
    . exact ltC p.1 p.2 (I2.pin p hp).1
  . refine thn (T.item (jz X scope cl G.objs.size (xs++ys) s2 H2 fp) rfl rfl rfl hcm i _ s3 _ H3 _ I3p (stat _ fr3) st3 go) λr s4 hr=>?_
    obtain⟨u,hr,h4⟩:=hr;subst hr;refine thn h4 λ_ s5 h5=>?_;refine qS λ_ Y=>?_;obtain⟨v,H5,I5,r5,y5,st5,fr5⟩:=h5;apply Y;have I5':=I5.pinned (stat _ fr5) (T.obj _ _ st5);refine YL (hg G.objs.size s2 H2 fp _ s5 _ H5 v u _ (I5'.wish _) r5 (step v H5 y5)) (λ_ s6 h6=>?_) λ_ _ z=>z.elim;refine qS λ_ Y=>?_;obtain⟨σ6,H6',I6',vs,eσ,hv,q5⟩:=h6;subst eσ;apply Y;have back:∀(H7:Hp) (s7:Shared) (σ7:L2.St) (h':Heap) (acc':List V) (its':List Value) (m':Nat),Inv (jz X scope cl G.objs.size (xs++ys) s2 H2 fp) ([(s2.heap.objs.size,{cls:=.type "list",data:=.seq its.toArray nn})]++qJn fp s5.heap) (vs++qCq js σ) H7 s7->
     Heap.SameBut s2.heap.objs.size s7.heap h'->h'.PlainList s2.heap.objs.size its'.toArray->Vals acc' its'->m'<n->W (i+1) m' acc' H7->
     ∃m,m<n/\∃i acc its H3,Inv (jz X scope cl G.objs.size (xs++ys) s2 H2 fp) [] (List.replicate xs.length none++qCq js σ) H3 {s7 with heap:=h'}/\tn i h'/\(∀b∈fp,H3 b=none)/\h'.PlainList s2.heap.objs.size its.toArray/\Vals acc its/\H3 s2.heap.objs.size=none/\W i m acc H3:=by
     intro H7 s7 _ h' acc' its' m' I7 hsb' hp' va' hm' w7;have pinD:=I7.pin (s2.heap.objs.size,{cls:=.type "list",data:=.seq its.toArray nn}) (by simp);have pf:∀b∈fp,∀o,s5.heap.get? b=some o->s7.heap.get? b=some o/\H7 b=none:=λb hb o e=>by have z:=I7.pin (b,o) (Yf _ (Yf _ (qCo hb e)));exact⟨z.1,z.2.1⟩
     have I8:Inv (jz X scope cl G.objs.size (xs++ys) s2 H2 fp) [] (List.replicate xs.length none++qCq js σ) H7 {s7 with heap:=h'}:=by
      have I7u:Inv (jz X scope cl G.objs.size (xs++ys) s2 H2 fp) [] (List.replicate xs.length none++qCq js σ) H7 s7:=(I7.pins_of (pins':=[]) λp hp=>YC hp (by simp)).weak (by simp[hv]) λk v e=>by
       by_cases hk:k<xs.length
       . rw[ZC (by simpa using hk),List.getElem?_replicate,YB hk]at e
         cases e
       . rw[Yz (by simpa using hk),List.length_replicate]at e
         rw[Yz (by rw[hv];exact Nat.le_of_not_lt hk),hv];exact e
      refine I7u.turned (t':=s7.toks) (it:=s2.heap.objs.size) (λb o hb e=>hsb'.extBut b o hb e) pinD.2.1 DC (.inr (YI _)) (λy c e=>?_) λp hp=>YC (show p∈([]:List (Addr×Obj))from hp) (by simp);obtain⟨v,o,ho,_⟩:=I2.cell y c (clX y c e);exact ltD c o ho
     refine⟨m',hm',i+1,acc',its',H7,I8,?_,λb hb=>?_,hp',va',pinD.2.1,w7⟩
     . refine T.keep _ _ _ st5 λb hb o e=>hsb'.extBut b o ?_ (pf b hb o e).1
       obtain⟨ob,eb⟩:=fpO b hb;exact ltD b ob eb
     . obtain⟨o,e,_⟩:=T.obj _ _ st5 b hb
       exact(pf b hb o e).2
    refine YL (hc G.objs.size s2 H2 fp _ s6 _ _ _ I6' q5) (λok s6a h6=>?_) λ_ _ z=>z.elim;obtain⟨H6,I6a,q6⟩:=h6;cases ok with
    |false=>
     rw[YA (by decide)]at q6⊢;obtain⟨m',hm',w7⟩:=q6;have I7:=I6a.unwish;have pinD:=I7.pin (s2.heap.objs.size,{cls:=.type "list",data:=.seq its.toArray nn}) (by simp);exact back H6 s6a (List.replicate xs.length none++qCq js σ) s6a.heap acc its m' I7 (Heap.SameBut.refl _ _) ⟨nn,pinD.1⟩ va3 hm' w7
    |true=>
     rw[YB rfl]at q6⊢;refine YL (he G.objs.size s2 H2 fp _ s6a _ H6 _ I6a q6) (λy s7 h7=>?_) λ_ _ z=>z.elim;refine qS λ_ Y=>?_;obtain⟨v7,H7,I7,r7,m',hm',w7⟩:=h7;apply Y;have I7:=I7.unwish;have pinD:=I7.pin (s2.heap.objs.size,{cls:=.type "list",data:=.seq its.toArray nn}) (by simp);refine wpAny_list_append_plain (items:=its.toArray) ⟨nn,pinD.1⟩ (λh' hp' hsb'=>?_) (by rw[YG,<-hal];exact Nat.le_of_lt hlen);have e8:its.toArray.push y=(its++[y]).toArray:=by simp
     rw[e8]at hp';exact back H7 s7 (List.replicate xs.length none++qCq js σ) h' (acc++[v7]) (its++[y]) m' I7 hsb' hp' (va3.append (.cons r7 .nil)) hm' w7
 exact codeAny_compStart_list (loop _ rfl) (T.self _ 0 _ _ _ (T.keep _ _ _ st2 λb _ o e=>old b o e) (loop _ rfl))
theorem qNf{X:Cx}{pins:List (Addr×Obj)}{σ:L2.St}{H:Hp}{s:Shared}{C:Addr}{h':Heap}(I:Inv X pins σ H s)(hsb:Heap.SameBut C s.heap h')(h0:H C=none)(h1:C≠X.env.locals)(h2:X.s₀.heap.objs.size<=C)
 (h3:∀y c,X.env.cells.lookup y=some c->c≠C) (h4:∀p∈X.pn++pins,p.1≠C):Inv X pins σ H {s with heap:=h'}:=
 I.turned (t':=s.toks) (it:=C) (λb o hb e=>hsb.extBut b o hb e) h0 h1 (.inr h2) h3 h4
theorem qNi{X:Cx}{elt iter tg:Expr}{cs:List Expr}{scope:Scope}{cl:List (Str×Addr)}{pos:Pos}{wi:TI}{g:TG}{tc:TT}{te:TE}{xs ys:List Str}{js:List Nat}{T:L2.St->VK->It->Hp->Prop}
 (hcm:X.calm=true) (hi:PI X tg iter wi) (hg:∀C s H fp,PG (jz X scope cl C (xs++ys) s H fp).nox tg g) (hc:∀C s H fp,PTs (jz X scope cl C (xs++ys) s H fp).nox cs tc) (he:∀C s H fp,PE (jz X scope cl C (xs++ys) s H fp).nox elt te) (hC:COk X scope cl iter xs ys js) (hE:∀σ Q J H1,T σ Q J H1->qBf xs.length js g tc te σ Q J H1):PE X (.ListComp elt [⟨tg,iter,cs,0⟩] scope pos) (λσ H Q=>wi σ H (T σ Q)):=by
 intro pins s σ H Q I h;rw[eval_ListComp];refine qGa hcm hi hg hc he hC Q none (EP X pins σ Q) I h (hE σ Q) λv u H' s' C I' r q hm h0 h1 h2 h3 h4=>?_;obtain⟨m,hm⟩:=hm;exact⟨m,hm,λh' hsb=>⟨v,H',qNf I' hsb h0 h1 h2 h3 h4,r,q⟩⟩
theorem qSv{X:Cx}{elt iter tg:Expr}{cs:List Expr}{scope:Scope}{cl:List (Str×Addr)}{pos:Pos}{wi:TI}{g:TG}{tc:TT}{te:TE}{xs ys:List Str}{js:List Nat}{T:L2.St->VK->It->Hp->Prop}{i:Nat}{y:Str}{py spos:Pos}(hN:X.N.Nodup)(hi':X.N[i]?=some y)(hy:X.env.kindOf y=some .local)
 (hcm:X.calm=true) (hi:PI X tg iter wi) (hg:∀C s H fp,PG (jz X scope cl C (xs++ys) s H fp).nox tg g) (hc:∀C s H fp,PTs (jz X scope cl C (xs++ys) s H fp).nox cs tc) (he:∀C s H fp,PE (jz X scope cl C (xs++ys) s H fp).nox elt te) (hC:COk X scope cl iter xs ys js) (hE:∀σ Q J H1,T σ Q J H1->qBf xs.length js g tc te σ Q J H1) (hsw:swapsWith (.ListComp elt [⟨tg,iter,cs,0⟩] scope pos) (some (.Name y py)) spos.line X.env=pure true):PS X (.Assign [.Name y py] (.ListComp elt [⟨tg,iter,cs,0⟩] scope pos) spos) (qWt (λσ H Q=>wi σ H (T σ Q)) (qDd i)):=by
 intro pins s σ H D I h;rw[exec_Assign_Name_used _ _ _ _ hsw];refine YJ (wpAny_standAt (YJ ?_));have key:=qGa (pos:=pos) hcm hi hg hc he hC (λv H'=>D.nx (σ.set i (some v)) H') (some (assign (.Name y py) X.env)) (λ_ s'=>SP X pins D .next s') I h (hE σ _) λv u H' s' C I' r q hm h0 h1 h2 h3 h4=>?_
 . exact YJ (thn key λ_ s' hq=>YK (YK hq))
 . refine wpAny_assign_Name (qIp I' hN hi' (.inl hy) r (λs2 I2 ch=>?_) (.inr hy))
   obtain⟨b,sb,hb⟩:=ch;obtain⟨m,hm⟩:=hm;have nb:C≠b:=by
    rcases hb with rfl|hb
    . exact h1
    . exact ZG (h3 y b hb)
   exact⟨m,hm.sameBut sb nb,λh' hsb=>⟨_,H',qNf I2 hsb h0 h1 h2 h3 h4,q⟩⟩
def CompEnd(js:List Nat)(te:TE)(σ:L2.St)(Q:VK)(J:It)(H1:Hp):Prop:= ∃W:Nat->Nat->List V->Hp->Prop,(∃m,W 0 m [] H1)/\∀i m acc H2,W i m acc H2->
 acc.length<sizeLine/\((J.stop i H2/\∀D,H2 D=none->Q (.ref D) (upd H2 D (.lst acc)))\/
  (J.go i H2/\∀x H3,J.yld i H2 x H3->te (some x::qCq js σ) H3 λv H4=> ∃m',m'<m/\W (i+1) m' (acc++[v]) H4))
def qXk(js:List Nat)(wi:TI)(te:TE):TE:=λσ H Q=>wi σ H (CompEnd js te σ Q)
theorem CompEnd.g{js:List Nat}{te:TE}(σ:L2.St)(Q:VK)(J:It)(H1:Hp):CompEnd js te σ Q J H1->qBf 1 js (qDd 0) (λ_ H Q=>Q true H) te σ Q J H1:=λ⟨W,w0,st⟩=>
 ⟨W,w0,λi m acc H2 w=>⟨(st i m acc H2 w).1,(st i m acc H2 w).2.imp id λ⟨go,y⟩=>⟨go,λx H3 z=>⟨[some x],rfl,rfl,(YB rfl).mpr (y x H3 z)⟩⟩⟩⟩
theorem vq{X:Cx}{elt iter:Expr}{x:Str}{px:Pos}{scope:Scope}{cl:List (Str×Addr)}{pos:Pos}{wi:TI}{te:TE}(ys:List Str)(js:List Nat)
 (hcm:X.calm=true) (hi:PI X (.Name x px) iter wi) (he:∀C s H fp,PE (jz X scope cl C (x::ys) s H fp).nox elt te) (hx:scope.names.lookup x=some .local:=by rfl) (hC:COk X scope cl iter [x] ys js:=by trivial):PE X (.ListComp elt [⟨.Name x px,iter,[],0⟩] scope pos) (qXk js wi te):=
 qNi (xs:=[x]) (T:=CompEnd js te) hcm hi (λ_ _ _ _=>jX (i:=0) hC.nd rfl (.inl (lookup_relabel_local hx)) (.inr (lookup_relabel_local hx))) (λ_ _ _ _=>qO3) he hC CompEnd.g
theorem qT7{X:Cx}{elt iter:Expr}{x:Str}{px:Pos}{scope:Scope}{cl:List (Str×Addr)}{pos:Pos}{wi:TI}{te:TE}(ys:List Str)(js:List Nat){i:Nat}{y:Str}{py spos:Pos}(hN:X.N.Nodup)(hi':X.N[i]?=some y)(hy:X.env.kindOf y=some .local)
 (hcm:X.calm=true) (hi:PI X (.Name x px) iter wi) (he:∀C s H fp,PE (jz X scope cl C (x::ys) s H fp).nox elt te) (hx:scope.names.lookup x=some .local:=by rfl) (hC:COk X scope cl iter [x] ys js:=by trivial) (hsw:swapsWith (.ListComp elt [⟨.Name x px,iter,[],0⟩] scope pos) (some (.Name y py)) spos.line X.env=pure true:=by rfl):PS X (.Assign [.Name y py] (.ListComp elt [⟨.Name x px,iter,[],0⟩] scope pos) spos) (qWt (qXk js wi te) (qDd i)):=
 qSv (xs:=[x]) (T:=CompEnd js te) hN hi' hy hcm hi (λ_ _ _ _=>jX (i:=0) hC.nd rfl (.inl (lookup_relabel_local hx)) (.inr (lookup_relabel_local hx))) (λ_ _ _ _=>qO3) he hC CompEnd.g hsw
def Nxt(n i:Nat)(P:Prop):Prop:= ∃m',m'<n-i/\m'=n-(i+1)/\i+1<=n/\P
theorem Nxt.mk{n i:Nat}{P:Prop}(h:i<n)(p:P):Nxt n i P:=⟨n-(i+1),by omega,rfl,h,p⟩
theorem kI{K:PySem.W.Frag}{a:Addr}{xs:List V}{js:List Nat}{te:TE}{σ:L2.St}{H:Hp}{Q:VK}(Pv:Nat->List V->Hp->Prop)(h0:Pv 0 [] H)(hl:∀i acc H,i<=xs.length->Pv i acc H->SqL K H a xs/\acc.length<sizeLine)
 (hs:∀i x acc H,i<xs.length->xs[i]?=some x->Pv i acc H->te (some x::qCq js σ) H λv H'=>Nxt xs.length i (Pv (i+1) (acc++[v]) H')) (hd:∀acc H,Pv xs.length acc H->∀D,H D=none->Q (.ref D) (upd H D (.lst acc))):CompEnd js te σ Q (Itl K a) H:=by
 refine⟨λi m acc H=>m=xs.length-i/\i<=xs.length/\Pv i acc H,⟨xs.length,by simp,ZT _,h0⟩,?_⟩;rintro i m acc H2 ⟨rfl,hi,p⟩;obtain⟨q,hz⟩:=hl i acc H2 hi p;refine⟨hz,?_⟩;by_cases hlt:i<xs.length
 . refine .inr ⟨⟨xs,xs[i],q,by simp[hlt]⟩,λx H3 y=>?_⟩
   obtain⟨e,y⟩:=y;subst e;exact hs i x acc _ hlt (y xs q) p
 . have e:i=xs.length:=by omega
   subst e;exact .inl ⟨⟨xs,q,YI _⟩,hd acc H2 p⟩
theorem qOg{lo:Int}{n:Nat}{js:List Nat}{te:TE}{σ:L2.St}{H:Hp}{Q:VK}(Pv:Nat->List V->Hp->Prop)(h0:Pv 0 [] H)(hl:∀i acc H,i<=n->Pv i acc H->acc.length<sizeLine)
 (hs:∀i acc H,i<n->Pv i acc H->te (some (.int (lo+i))::qCq js σ) H λv H'=>Nxt n i (Pv (i+1) (acc++[v]) H')) (hd:∀acc H,Pv n acc H->∀D,H D=none->Q (.ref D) (upd H D (.lst acc))):CompEnd js te σ Q (Itr lo n) H:=by
 refine⟨λi m acc H=>m=n-i/\i<=n/\Pv i acc H,⟨n,by simp,ZT _,h0⟩,?_⟩;rintro i m acc H2 ⟨rfl,hi,p⟩;refine⟨hl i acc H2 hi p,?_⟩;by_cases hlt:i<n
 . refine .inr ⟨hlt,λx H3 y=>?_⟩
   obtain⟨e,y⟩:=y;subst e y;exact hs i acc _ hlt p
 . have e:i=n:=by omega
   subst e;exact .inl ⟨YI _,hd acc H2 p⟩
structure Def(K:PySem.W.Frag)(mg:Str->Option Value)(x:Str)(st:Stmt)(ps:List Str)(f:Addr)(fd:FuncData):Prop where
 F:Fun K x x st f fd
 b:Binds K fd ps []
 m:mg x=some (.ref f)
section
variable{X:Cx}
theorem qJ{k j:Nat}{x:Str}{st:Stmt}{ps:List Str}{f:Addr}{fd:FuncData}{sp:Sp}{e:Expr}{es:List Expr}{t:TA}{p pos:Pos}(D:Def X.K X.mg x st ps f fd)(F:FnOk X.prog X.w X.K X.mg X.base CX0 j f fd ps sp)(hr:Room k X.A)(hg:Gl X x)(ha:PA X (e::es) t)(hj:j<=k:=by decide)
 (hdb:(x==("__debug__":Str))=false:=by decide) (he:starEach (e::es) X.env=(false,eval e X.env)::starEach es X.env:=by rfl) (hpl:(backTo pos (starEach es X.env)).any (·.1)=false:=by rfl):
 PE X (.Call (.Name x p) (e::es) [] pos) (qVg sp [] E0 t):=qRk F (hr.mono hj) hg D.m D.F.kp D.b .nil qYi ha hdb he hpl
theorem qGm{x:Str}{n:String}{pos:Pos}(hg:Gl X x)(hm:X.mg x=none)(hv:bootBuiltins x=some (.type n))(hn:x≠"__name__":=by decide)(hd:(x==("__debug__":Str))=false:=by decide):PE X (.Name x pos) (tC (.ty n)):=
 qVl hg hm hv rfl hn hd
end
theorem qMd{X:Cx}{K:PySem.W.Frag}(h:X.K=K):IxR X (qZh K):=h ▸ qo
theorem qHk{X:Cx}{K:PySem.W.Frag}(h:X.K=K):IxR X (qVt K):=h ▸ qF9
def qYl(t:TS):TS:=λD σ H=> ∃R:L2.St->Hp->Prop,t {D with nx:=R} σ H/\∀σ' H',R σ' H'->D.nx σ' H'
theorem xV{X:Cx}{st:Stmt}{t:TS}(h:PS X st t):PS X st (qYl t):=by
 rintro pins s σ H D I ⟨R,ht,hR⟩;refine thn (h pins s σ H {D with nx:=R} I ht) λf s' q=>?_;cases f with
 |next=>obtain⟨σ',H',I',r⟩:=q;exact⟨σ',H',I',hR _ _ r⟩
 |brk=>exact q
 |cont=>exact q
 |ret u=>exact q
theorem qE{H:Hp}{p:Addr}(h:H p=none)(o:HO):Same H (upd H p o):=λb u q=>by rw[qg (qW q h)];exact q
theorem Same.tup{K:PySem.W.Frag}{H H':Hp}{a:Addr}{xs:List V}(e:Same H H')(h:SqT K H a xs):SqT K H' a xs:=by
 rcases h with (h|⟨o,h⟩)|h
 . exact .inl (.inl (e _ _ h))
 . exact .inl (.inr ⟨o,e _ _ h⟩)
 . exact .inr h
abbrev EC:=Value×Option Addr
def vM(h:Heap)(e:Addr)(C:EC)(hd:Option Addr):Prop:=
 ∃(vs:Array Value) (sl:Array (Option Value)),h.get? e=some {cls:=C.1,dict:=C.2,data:=.fields vs,slots:=sl}/\
  match hd with
  |none=>vs[1]?=some .none
  |some T=>vs[1]?=some (.ref T)/\T≠e/\∃oT ts m,h.get? T=some oT/\oT.data=.fields ts/\ts[3]?=some m
def qZl(h:Heap)(e:Addr)(c:Value):Prop:= ∃o vs,h.get? e=some o/\o.data=.fields vs/\vs[2]?=some c
structure Noted(fs:List Addr)(e:Addr)(hd:Option Addr)(C:EC)(h h':Heap):Prop where
 keep:∀b o,h.get? b=some o->b∉fs->b≠e->some b≠hd->h'.get? b=some o
 slot:∀b o,h.get? b=some o->b∈fs->b≠e->some b≠hd->∃sl,h'.get? b=some {o with slots:=sl}
 ent:∃T,(h.get? T=none\/hd=some T)/\vM h' e C (some T)
 c2:∀c,qZl h e c->qZl h' e c
theorem Noted.before{fs:List Addr}{e T:Addr}{C:EC}{h h1 h':Heap}(x:Noted fs e none C h1 h')(k:∀b,b≠T->h1.get? b=h.get? b)(t:∃o,h1.get? T=some o)(ne:e≠T):Noted fs e (some T) C h h':=by
 refine⟨λb o q hf he ht=>x.keep b o ?_ hf he (by simp),λb o q hf he ht=>x.slot b o ?_ hf he (by simp),?_,λc ⟨o,vs,q1,q2⟩=>x.c2 c ⟨o,vs,by rw[k e ne];exact q1,q2⟩⟩
 . rw[k b (λz=>ht (by rw[z]))];exact q
 . rw[k b (λz=>ht (by rw[z]))];exact q
 . obtain⟨T',n|n,r⟩:=x.ent
   . refine⟨T',.inl ?_,r⟩
     rw[<-k T' (λz=>?_)];exact n;obtain⟨o,q⟩:=t;rw[z,q]at n;cases n
   . cases n
section
variable{M:Model}{A:Around}{E:Value->Shared->Prop}{s:Shared}
theorem Noted.then{fs:List Addr}{e T:Addr}{hd:Option Addr}{C:EC}{h h1 h2:Heap}(x:Noted fs e hd C h h1)(hT:h.get? T=none\/hd=some T)(y:Noted fs e (some T) C h1 h2):Noted fs e hd C h h2:=by
 have nt:∀b o,h.get? b=some o->some b≠hd->(some b:Option Addr)≠some T:=λb o q hb z=>by
  cases z;rcases hT with n|n
  . rw[q]at n;cases n
  . exact hb n.symm
 have n1:∀T',h1.get? T'=none->T'≠e->some T'≠hd->h.get? T'=none:=λT' n he ht=>by
  cases q:h.get? T' with
  |none=>rfl
  |some o=>
   by_cases hs:T'∈fs
   . obtain⟨sl,z⟩:=x.slot T' o q hs he ht
     rw[n]at z;cases z
   . have z:=x.keep T' o q hs he ht
     rw[n]at z;cases z
 refine⟨λb o q hf he ht=>y.keep b o (x.keep b o q hf he ht) hf he (nt b o q ht),λb o q hf he ht=>?_,?_,λc q=>y.c2 c (x.c2 c q)⟩
 . obtain⟨sl,z⟩:=x.slot b o q hf he ht
   obtain⟨sl',z'⟩:=y.slot b _ z hf he (nt b o q ht);exact⟨sl',z'⟩
 . obtain⟨T',n,r⟩:=y.ent
   refine⟨T',?_,r⟩;rcases n with n|n
   . by_cases hh:hd=some T'
     . exact .inr hh
     . refine .inl (n1 T' n (λz=>?_) (ZG hh))
       obtain⟨vs,sl,q,r1,nT,_⟩:=r;exact nT z
   . cases n
     exact hT
theorem qJr{base:Heap}{env:Env}{outer:List Env}{L e:Addr}{C:EC}{head:Value}{vs:Array Value}{sl:Array (Option Value)}{had:Bool}{Q:Unit->Shared->Prop}
 (fr:A.frames=some (env::outer)) (ff:s.heap.FunFrames base (env::outer)) (ef:env.frame=some L) (re:s.heap.get? e=some {cls:=C.1,dict:=C.2,data:=.fields vs,slots:=sl}) (v1:1<vs.size)
 (k:∀h',Noted (frs (env::outer)) e none C s.heap h'->Q () {s with heap:=h'}):
 wpAny M A (do let a<-frameOf env;let pl<-entryPlaceOf L had;let b<-EntryCells.newEntry head a .none (rawInt L) .none pl;setField (.ref e) 1 b) Q E s:=by
 have efs:e∉frs (env::outer):=λz=>by obtain⟨_,o,q,nf⟩:=ff.mem z;rw[re]at q;cases q;exact nf vs rfl
 refine YJ (wpAny_frameOf_fun fr ff ef λg so=>?_);refine YJ (wpAny_entryPlaceOf λpl ip=>?_);unfold EntryCells.newEntry newFields;refine YJ (wpAny_newObj_type ?_ (ip.sizeOk5 _ _ _ _ _));generalize hN:({cls:=.type "traceback",dict:=none,data:=.fields ([head,.ref L,.none,rawInt L,.none]++(if pl.isEmpty then List.replicate 6 Value.none else pl)).toArray}:Obj)=N;have Nd:N.data=.fields ([head,.ref L,.none,rawInt L,.none]++(if pl.isEmpty then List.replicate 6 Value.none else pl)).toArray:=by rw[<-hN]
 have q1:g.get? e=some {cls:=C.1,dict:=C.2,data:=.fields vs,slots:=sl}:=(so.2.1 e efs).trans re;have q2:=YM (h:=g) N q1;have ne:g.objs.size≠e:=Nat.ne_of_gt (YV q1);refine wpAny_setField q2 rfl v1 (k _ ?_);have q3:=Heap.get?_update_self (Obj.mapFields (·.setIfInBounds 1 (Value.ref g.objs.size))) q2 rfl;have nf:N.isFreed=false:=Obj.isFreed_of_fields Nd;have t3:((g.push N).update e (Obj.mapFields (·.setIfInBounds 1 (Value.ref g.objs.size)))).get? g.objs.size=some N:=
  (ZB (g.push N) _ (ZG ne)).trans (Yn g nf)
 have oth:∀b o,b≠e->g.get? b=some o->((g.push N).update e (Obj.mapFields (·.setIfInBounds 1 (Value.ref g.objs.size)))).get? b=some o:=λb o hb q=>by rw[ZB _ _ (ZG hb)];exact YM _ q
 refine⟨λb o q hf he _=>oth b o he ((so.2.1 b hf).trans q),λb o q hf he _=>?_,⟨g.objs.size,.inl ?_,vs.setIfInBounds 1 (.ref g.objs.size),sl,q3,by simp[v1],ne,N,_,rawInt L,t3,Nd,?_⟩,λc q=>?_⟩
 . obtain⟨sl',q'⟩:=so.2.2 b o q
   exact⟨sl',oth b _ he q'⟩
 . rw[so.1]
   exact Heap.get?_none_of_le (YI _)
 . simp
 . obtain⟨o,ws,z1,z2,z3⟩:=q
   rw[re]at z1;cases z1;cases z2;exact⟨_,vs.setIfInBounds 1 (.ref g.objs.size),q3,O,by rw[Array.getElem?_setIfInBounds_ne (by decide)];exact z3⟩
theorem qNa{base:Heap}{env:Env}{outer:List Env}{L e:Addr}{C:EC}{hd:Option Addr}{Q:Unit->Shared->Prop}
 (fr:A.frames=some (env::outer)) (ff:s.heap.FunFrames base (env::outer)) (ef:env.frame=some L) (re:vM s.heap e C hd)
 (k:∀h',Noted (frs (env::outer)) e hd C s.heap h'->Q () {s with heap:=h'}):wpAny M A (noteFrame (.ref e) env) Q E s:=by
 have re0:=re;obtain⟨vs,sl,q,r⟩:=re;unfold noteFrame;simp only[ef];cases hd with
 |none=>
  refine YJ (wpAny_field q rfl r ?_);rw[YA (by decide)];exact qJr fr ff ef q (ZS.mp r).1 k
 |some T=>
  obtain⟨r1,nT,oT,ts,m,qT,dT,r3⟩:=r;refine YJ (wpAny_field q rfl r1 ?_);rw[YB (by simp)];refine YJ (wpAny_field qT dT r3 ?_);by_cases hm:(m==rawInt L)=true
  . rw[YB hm]
    exact YK (k s.heap ⟨λb o q _ _ _=>q,λb o q _ _ _=>⟨o.slots,q⟩,⟨T,.inr rfl,re0⟩,λ_ z=>z⟩)
  rw[YA hm];refine YJ (wpAny_setField qT dT (ZS.mp r3).1 ?_);have oth:∀b,b≠T->(s.heap.update T (Obj.mapFields (·.setIfInBounds 3 Value.none))).get? b=s.heap.get? b:=λb z=>ZB _ _ (ZG z);have qT':=Heap.get?_update_self (Obj.mapFields (·.setIfInBounds 3 Value.none)) qT (Obj.isFreed_of_fields (Obj.data_mapFields dT _));have nf:∀b o,s.heap.get? b=some o->(∀vs,o.data≠ .fields vs)->b≠T:=λb o z n w=>by rw[w,qT]at z;cases z;exact n ts dT
  refine qJr (s:={s with heap:=s.heap.update T (Obj.mapFields (·.setIfInBounds 3 Value.none))}) fr (ff.of_keeps λb o z n=>⟨o,(oth b (nf b o z n)).trans z,O⟩) ef ((oth e (ZG nT)).trans q) (ZS.mp r1).1 λh' x=>?_;exact k h' (x.before oth ⟨_,qT'⟩ (ZG nT))
theorem qGf{e T:Addr}{C:EC}{fo:Option Addr}{Q:Unit->Shared->Prop}(re:vM s.heap e C (some T))
 (k:∀h',(∀fs,Noted fs e (some T) C s.heap h')->Q () {s with heap:=h'}):wpAny M A (setFlight (.ref e) fo) Q E s:=by
 obtain⟨vs,sl,q,r1,nT,oT,ts,m,qT,dT,r3⟩:=re;unfold setFlight;refine YJ (wpAny_field q rfl r1 ?_);rw[YB (by simp)];have oth:∀b,b≠T->(s.heap.update T (Obj.mapFields (·.setIfInBounds 3 (fo.elim Value.none λf=>rawInt f)))).get? b=s.heap.get? b:=λb z=>ZB _ _ (ZG z);refine wpAny_setField qT dT (ZS.mp r3).1 (k _ λfs=>⟨λb o q _ _ z=>?_,λb o q _ _ z=>⟨o.slots,?_⟩,⟨T,.inr rfl,?_⟩,λc ⟨o,ws,z1,z2⟩=>⟨o,ws,(ZB _ _ nT).trans z1,z2⟩⟩)
 . rw[oth b λw=>z (by rw[w])];exact q
 . rw[oth b λw=>z (by rw[w])];exact q
 . refine⟨vs,sl,(ZB _ _ nT).trans q,r1,nT,_,_,fo.elim Value.none λf=>rawInt f,Heap.get?_update_self _ qT (Obj.isFreed_of_fields (Obj.data_mapFields dT _)),Obj.data_mapFields dT _,?_⟩
   have h3:=(ZS.mp r3).1;simp[h3]
theorem v8{e T:Addr}{C:EC}{Q:Unit->Shared->Prop}(re:vM s.heap e C (some T))
 (k:∀h',(∀fs,Noted fs e (some T) C s.heap h')->Q () {s with heap:=h'}):wpAny M A (setFlight (.ref e) none) Q E s:=qGf re k
theorem qK9{base:Heap}{env:Env}{outer:List Env}{L e:Addr}{C:EC}{hd:Option Addr}{Q:Unit->Shared->Prop}
 (fr:A.frames=some (env::outer)) (ff:s.heap.FunFrames base (env::outer)) (ef:env.frame=some L) (re:vM s.heap e C hd)
 (k:∀h',Noted (frs (env::outer)) e hd C s.heap h'->Q () {s with heap:=h'}):wpAny M A (noteFrame (.ref e) env) (λ_ s'=>wpAny M A (setFlight (.ref e) none) Q E s') E s:=by
 refine qNa fr ff ef re λh1 N1=>?_;obtain⟨T,hT,rT⟩:=N1.ent;exact v8 (s:={s with heap:=h1}) rT λh2 N2=>k h2 (N1.then hT (N2 _))
theorem qTe{base:Heap}{env:Env}{outer:List Env}{L e:Addr}{C:EC}{hd:Option Addr}{E2:Value->Shared->Prop}
 (fr:A.frames=some (env::outer)) (ff:s.heap.FunFrames base (env::outer)) (ef:env.frame=some L) (re:vM s.heap e C hd)
 (k:∀h',Noted (frs (env::outer)) e hd C s.heap h'->E2 (.ref e) {s with heap:=h'}):notedBy M A env (cameBackBy M A env E2) (.ref e) s:=by
 refine qNa fr ff ef re λh1 N1=>?_;obtain⟨T,hT,rT⟩:=N1.ent;obtain⟨vs,sl,q,r1,_⟩:=id rT;show wpAny M A _ _ _ _;refine YJ (wpAny_field (s:={s with heap:=h1}) q rfl r1 ?_);rw[YA (by simp)];exact qGf (s:={s with heap:=h1}) rT λh2 N2=>k h2 (N1.then hT (N2 _))
end
theorem qTj{P:Program}{w:World}{H:Hp}{h:Heap}{a:Addr}{o:HO}(x:ObjOk P w H h a o):∃ob,h.get? a=some ob:=by
 cases o with
 |lst xs=>obtain⟨_,_,_,_,e⟩:=x;exact⟨_,e⟩
 |tup xs=>obtain⟨_,_,_,ob,e,_⟩:=x;exact⟨ob,e⟩
 |dK kvs=>obtain⟨_,_,_,_,o,_,_,e,_⟩:=x;exact⟨_,e⟩
 |dT kvs=>obtain⟨_,_,_,_,o,_,_,e,_⟩:=x;exact⟨_,e⟩
 |set S n=>obtain⟨o,_,_,_,e,_⟩:=x;exact⟨_,e⟩
 |ins C dx fs=>obtain⟨_,_,_,e,_⟩:=x;exact⟨_,e⟩
 |own y=>exact x
 |xd fs=>obtain⟨_,⟨_,_,_,e,_⟩,_⟩:=x;exact⟨_,e⟩
 |rng lo hi=>obtain⟨_,_,_,e⟩:=x;exact⟨_,e⟩
 |frz ob u=>obtain⟨e,_⟩:=x;exact⟨_,e⟩
 |tbl ps=>exact⟨_,x⟩
 |met f y=>exact⟨_,x⟩
 |ext φ=>exact x.2.1
def qRa(h₀:Heap)(H:Hp)(ps:List (Addr×Obj))(e:Addr):Prop:=h₀.get? e=none/\H e=none/\∀p∈ps,p.1≠e
def qTf(h₀:Heap)(H:Hp)(ps:List (Addr×Obj))(h:Heap)(e:Addr)(C:EC):Prop:=
 qRa h₀ H ps e/\∃hd,vM h e C hd/\∀T,hd=some T->qRa h₀ H ps T
def CXR(P:Program)(w:World):CXT:=λouter H s E e s'=> ∃ea C H',e=.ref ea/\s'.os=s.os/\AllBare s'.gens/\Un (frs outer) [] H H' s.heap s'.heap/\HOk P w H' s'.heap/\qTf s.heap H' [] s'.heap ea C/\E C.1 C.2 H'
def XE(X:Cx)(Ex:Value->Option Addr->Hp->Prop):Value->Shared->Prop:=λe s'=> ∃ea C σ H',e=.ref ea/\Inv X [] σ H' s'/\qTf X.s₀.heap H' X.pn s'.heap ea C/\Ex C.1 C.2 H'
section
variable{X:Cx}{σ:L2.St}{H:Hp}{s:Shared}
theorem xx{e:Addr}{hd:Option Addr}{C:EC}{h':Heap}(I:Inv X [] σ H s)(hex:X.ex=[])(re:vM s.heap e C hd)(n1:qRa X.s₀.heap H X.pn e)(n3:∀T,hd=some T->qRa X.s₀.heap H X.pn T)
 (N:Noted (frs X.stack) e hd C s.heap h'):Inv X [] σ H {s with heap:=h'}/\qTf X.s₀.heap H X.pn h' e C:=by
 have B:=I.base;rw[hex]at B;have ne:∀b o,X.s₀.heap.get? b=some o->b≠e/\some b≠hd/\b≠X.env.locals:=λb o q=>by
  refine⟨λz=>?_,λz=>?_,Yo (YR (YV q) I.ok.above)⟩
  . rw[z,n1.1]at q;cases q
  . rw[(n3 b z.symm).1]at q;cases q
 have nin:∀b,b∉([]:List Addr):=λb z=>nomatch z
 have nfl:∀b o,s.heap.get? b=some o->(∀vs,o.data≠ .fields vs)->b≠e/\some b≠hd:=λb o q nf=>by
  obtain⟨vs,sl,qe,r⟩:=re;refine⟨λz=>?_,λz=>?_⟩
  . rw[z,qe]at q;cases q
    exact nf vs rfl
  . subst z
    obtain⟨_,_,oT,ts,_,qT,dT,_⟩:=r;rw[qT]at q;cases q;exact nf ts dT
 have up:∀b o,s.heap.get? b=some o->b≠e->some b≠hd->∃sl,h'.get? b=some {o with slots:=sl}:=λb o q z1 z2=>by
  by_cases hs:b∈frs X.stack
  . exact N.slot b o q hs z1 z2
  . exact⟨o.slots,N.keep b o q hs z1 z2⟩
 have un:Un X.fs [] X.H₀ H X.s₀.heap h':=by
  refine⟨λb o q n hb hx=>?_,λb o q n hb hx=>?_,λb o q n hx=>B.free b o q n hx,λb o q hx=>?_,B.tups,B.frzs,B.tbls⟩
  . obtain⟨z1,z2,z3⟩:=ne b o q
    refine N.keep b o (B.keep b o q n hb hx) (λz=>?_) z1 z2;rcases YU.mp (I.stkSub b z)with w|w
    . exact z3 w
    . exact hb w
  . obtain⟨z1,z2,z3⟩:=ne b o q
    obtain⟨sl,q1⟩:=B.slot b o q n hb hx;obtain⟨sl',q2⟩:=up b _ q1 z1 z2;exact⟨sl',q2⟩
  . obtain⟨z1,z2,z3⟩:=ne b o q
    obtain⟨o',q1⟩:=B.there b o q hx;obtain⟨sl',q2⟩:=up b _ q1 z1 z2;exact⟨_,q2⟩
 have hok:HOk X.prog X.w H h':=λa u q=>by
  have key:∀c,H c=none->¬(c=a\/H c=some (.own a)):=λc z w=>by
   rcases w with w|w
   . rw[w,q]at z;cases z
   . rw[z]at w;cases w
  exact(I.hok a u q).stay (λc v hc z=>N.keep c v z (λw=>key c (I.stkFree c w) hc) (λw=>key c (by rw[w];exact n1.2.1) hc) λw=>key c (n3 c w.symm).2.1 hc) (λ_ z=>z) λ_ _ z=>z
 have cellK:∀c v,s.heap.IsCell c v->h'.IsCell c v:=λc v ⟨o,q,d⟩=>by
  obtain⟨z1,z2⟩:=nfl c o q λvs w=>by rw[d]at w;cases w
  obtain⟨sl,q'⟩:=up c o q z1 z2;exact⟨_,q',d⟩
 have I':Inv X [] σ H {s with heap:=h'}:=by
  refine⟨I.ok,I.os,I.bare,by rw[hex];exact un,?_,λy c e=>?_,I.free,I.freeC,λp hp=>?_,hok,I.len⟩
  . obtain⟨m,⟨o,es,ep,ho,hd',r⟩,hl⟩:=I.loc
    obtain⟨z1,z2⟩:=nfl _ o ho λvs w=>by rw[hd']at w;cases w
    obtain⟨sl,q'⟩:=up _ o ho z1 z2;refine⟨m,⟨_,es,ep,q',hd',r⟩,λi x v e1 e2 e3=>?_⟩;obtain⟨u,r,l⟩:=hl i x v e1 e2 e3;refine⟨u,r,?_⟩;rcases l with l|⟨k,c,ec,z⟩
    . exact .inl l
    . exact .inr ⟨k,c,ec,cellK c _ z⟩
  . obtain⟨v,z⟩:=I.cell y c e
    exact⟨v,cellK c v z⟩
  . obtain⟨q,n,nl,nf,d⟩:=I.pin p hp
    have hp':p∈X.pn:=by simpa using hp
    refine⟨N.keep p.1 p.2 q (λz=>?_) (n1.2.2 p hp') λz=>(n3 p.1 z.symm).2.2 p hp' rfl,n,nl,nf,d⟩;rcases YU.mp (I.stkSub p.1 z)with w|w
    . exact nl w
    . exact nf w
 refine⟨I',n1,?_⟩;obtain⟨T,nT,r⟩:=N.ent;refine⟨some T,r,λT' e'=>?_⟩;cases e';rcases nT with nT|nT
 rotate_left
 . exact n3 T nT
 refine⟨?_,?_,λp hp z=>?_⟩
 . cases q:X.s₀.heap.get? T with
   |none=>rfl
   |some o=>
    obtain⟨o',z⟩:=B.there T o q (nin T);rw[nT]at z;cases z
 . cases q:H T with
   |none=>rfl
   |some u=>
    obtain⟨o',z⟩:=qTj (I.hok T u q);rw[nT]at z;cases z
 . have q:=(I.pin p (Yq _ hp)).1
   rw[z,nT]at q;cases q
end
theorem qXt{X:Cx}{Ex:Value->Option Addr->Hp->Prop}{L:Addr}{env:Env}{outer:List Env}(hst:X.stack=env::outer)(he:X.env=env)(hf:env.frame=some L)(hex:X.ex=[]):PassesOwn (model X.prog X.w) X.A X.env (XE X Ex):=by rintro e s' ⟨ea,C,σ,H',rfl,I,⟨n1,hd,r,n3⟩,z⟩;subst he;have fr:=I.ok.frames;rw[hst]at fr;have ff:=I.stack;rw[hst]at ff;refine qTe fr ff hf r λh' N'=>?_;rw[<-hst]at N';obtain⟨I',x'⟩:=xx I hex r n1 n3 N';exact⟨ea,C,σ,H',O,I',x',z⟩
theorem qVk{X:Cx}{E:Value->Shared->Prop}{st:List Stmt}{t:TS}(h:PSs (X.wish E) st t)(hE:∀e s',E e s'->X.xe e s'):PSs X st t:=λpins s σ H D I hw=>
 YL (h pins s σ H D (I.wish E) hw) (λ_ _ q=>q.unwish) hE
section
variable{P:Program}{w:World}{K:PySem.W.Frag}{mg:Str->Option Value}{base:Heap}
theorem okX{x qual:Str}{st:Stmt}{f:Addr}{fd:FuncData}{N ps:List Str}{k:Nat}{sp:Sp}(F:Fun K x qual st f fd)(S:qP N ps (qH st))(len:∀vs H Q E,sp vs H Q E->vs.length=ps.length)
 (hbody:∀(cdv:Value) (A:Around) (outer:List Env) (s:Shared) (H:Hp) (vs:List V) (Q:VK) (E:XK),Room k (A.deeper (envOfC qual (qH st) s.heap.objs.size f cdv))->sp vs H Q E->
   ∃t,PSs ((qOr (CXR P w) P w K mg base N qual (qH st) f cdv A outer s H E).wish (XE (qOr (CXR P w) P w K mg base N qual (qH st) f cdv A outer s H E) E)) (zE st) t/\
    t {nx:=λ_ H'=>Q .non H',rt:=Q} (qEd N vs) H):FnOk P w K mg base (CXR P w) (k+1) f fd ps sp:=by
 obtain⟨oc,od,kV,doc,pm,an,cdv,ct,osl,rfl,lk,hcd⟩:=F.ex;refine qW7 lk hcd S len λA outer s H vs Q E hr hsp=>?_;obtain⟨t,h,q⟩:=hbody cdv A outer s H vs Q E hr hsp;refine⟨t,qVk h ?_,q⟩;rintro e s' ⟨ea,C,σ,H',rfl,I,⟨n1,hd,r,n3⟩,z⟩;show wpAny _ _ (leaving _ _) _ _ _;unfold leaving;refine YJ (qK9 I.ok.frames I.stack rfl r λh' N'=>?_);obtain⟨I',x'⟩:=xx I rfl r n1 n3 N';exact⟨ea,C,H',O,I.os,I.bare,I'.base,I'.hok,x',z⟩
end
theorem qYa{X:Cx}{Ex:Value->Option Addr->Hp->Prop}(hex:X.ex=[]):qMn (CXR X.prog X.w) (X.wish (XE X Ex)) Ex:=by
 rintro pins σ H s e s' I ⟨ea,C,H',rfl,os,bare,un,hok,⟨n1,hd,r,n3⟩,q⟩;have I0:=I.unwish;have I1:Inv X pins σ H' s':=I0.call' (ch:=[]) os un hok bare λb z=>nomatch z
 have old:∀b,s.heap.get? b=none->X.s₀.heap.get? b=none:=λb z=>by
  cases w:X.s₀.heap.get? b with
  |none=>rfl
  |some o=>
   obtain⟨o',w'⟩:=I0.base.there b o w (by rw[hex];intro y;cases y);rw[z]at w';cases w'
 have pn:∀b,s.heap.get? b=none->∀p∈X.pn,p.1≠b:=λb z p hp w=>by have q:=(I0.pin p (Yq _ hp)).1;rw[w,z]at q;cases q
 exact⟨ea,C,σ,H',O,I1.pins_of (pins':=[]) λp hp=>(nomatch hp),⟨⟨old _ n1.1,n1.2.1,pn _ n1.1⟩,hd,r,λT e=>⟨old _ (n3 T e).1,(n3 T e).2.1,pn _ (n3 T e).1⟩⟩,q⟩
theorem xM{X:Cx}{Ex:Value->Option Addr->Hp->Prop}{k j:Nat}{x:Str}{st:Stmt}{ps:List Str}{f:Addr}{fd:FuncData}{sp:Sp}{e:Expr}{es:List Expr}{t:TA}{p pos:Pos}(D:Def X.K X.mg x st ps f fd)(F:FnOk X.prog X.w X.K X.mg X.base (CXR X.prog X.w) j f fd ps sp)(hr:Room k X.A)(hg:Gl X x)
 (ha:PA (X.wish (XE X Ex)) (e::es) t) (hj:j<=k:=by decide) (hex:X.ex=[]:=by rfl)
 (hdb:(x==("__debug__":Str))=false:=by decide) (he:starEach (e::es) X.env=(false,eval e X.env)::starEach es X.env:=by rfl) (hpl:(backTo pos (starEach es X.env)).any (·.1)=false:=by rfl):
 PE (X.wish (XE X Ex)) (.Call (.Name x p) (e::es) [] pos) (qVg sp [] Ex t):=
 qRk (X:=X.wish (XE X Ex)) (CX:=CXR X.prog X.w) F (hr.mono hj) hg D.m D.F.kp D.b .nil (qYa hex) ha hdb he hpl
noncomputable def qVj:List Value:=[.type "ValueError",.type "Exception",.type "BaseException",.type "object"]
noncomputable def excG (K : PySem.W.Frag) (C : Addr) (u : Option Value) : Bool := match K.lookup C with
  | some o => (match o.data with
    | .cls d => o.cls == .type "type" && d.mro == .ref C :: d.mro.tail && (o.slots.toList == let g i := o.slots.toList.getD i none; [g 0, g 1, g 2, g 3, some (.builtin "ValueError.__new__"), g 5]) && !d.hasDel && PySem.W.tailIn K qVj d.mro.tail && PySem.W.nsOkIn K d.ns && PySem.W.nsIn K d.ns "__init__" == some u
    | _ => false)
  | none => false
inductive ExG (h : Heap) (C : Addr) (u : Option Value) : Prop
  | mk (bm N nm q bs hd sn sub ab col dd k0 k1 k2 k3 k5 mN) (hC : h.get? C = some (excClassObj nm q C N bs bm hd sn sub ab col dd k0 k1 k2 k3 k5 "ValueError.__new__")) (hN : h.Ns N mN) (hi : mN "__init__" = u) (T : OwnTail h qVj bm)
theorem excG_obj {K : PySem.W.Frag} {h : Heap} {C : Addr} {u : Option Value} (X : K.In h) (f : ∀ {N}, h.Ns N (h.nsMap N) → PySem.W.nsIn K N "__init__" = some u → h.nsMap N "__init__" = u) (q : excG K C u = true) : ExG h C u := by
  unfold excG at q
  cases ho : K.lookup C with
  | none => rw [ho] at q; cases q
  | some o =>
    rw [ho] at q
    obtain ⟨c, dd, d, ⟨l⟩⟩ := o
    dsimp only at q
    split at q
    · rename_i d
      simp only [Bool.and_eq_true, beq_iff_eq, Bool.not_eq_true'] at q
      obtain ⟨nm, bs, mro, ns, qn, hd, sn, sub, ab, col, dl⟩ := d
      obtain ⟨⟨⟨⟨⟨⟨rfl, e2⟩, e3⟩, e5⟩, e6⟩, e7⟩, e8⟩ := q
      cases e5
      have z := X _ _ ho
      dsimp only at e2
      rw [e2, e3] at z
      have N1 := Heap.Ns.of_isNs (PySem.W.isNs_of_in X e7)
      exact .mk _ _ _ _ _ _ _ _ _ _ _ _ _ _ _ _ _ z N1 (f N1 e8) (PySem.W.tail_of_in X e6)
    · cases q
def OwnX(K:PySem.W.Frag)(C:Addr):Prop:=excG K C none=true
def qXn(C:Addr)(Ex:Value->Option Addr->Hp->Prop)(t:TA):TS:=λ_ σ H=>t σ H λvs H1=>vs.length<=sizeLine/\Ex (.ref C) none H1
theorem zN{X:Cx}{Ex:Value->Option Addr->Hp->Prop}{x:Str}{C:Addr}{np cpos pos:Pos}{e₀:Expr}{rest:List Expr}{t:TA}(hcm:X.calm=true)(hg:Gl X x)(hm:X.mg x=some (.ref C))(hx:OwnX X.K C)(ha:PA (X.wish (XE X Ex)) (e₀::rest) t)
 (he:starEach (e₀::rest) X.env=(false,eval e₀ X.env)::starEach rest X.env:=by rfl) (hpl:(backTo cpos (starEach rest X.env)).any (·.1)=false:=by rfl) (hex:X.ex=[]:=by rfl) (hdb:(x==("__debug__":Str))=false:=by decide):
 PS (X.wish (XE X Ex)) (.Raise (some (.Call (.Name x np) (e₀::rest) [] cpos)) none pos) (qXn C Ex t):=by
 intro pins s σ H D I h;obtain⟨tl,N,nm,q,bs,hdct,sn,sub,ab,col,dd,k0,k1,k2,k3,k5,mN,hC,hN,hni,T⟩:=
  excG_obj I.ok.mod.kin (PySem.W.ns_none_of I.ok.mod.kin) hx
 refine wpAny_Raise_call_subT (bm:=tl) (C:=C) (N:=N) (nm:=nm) (q:=q) (bs:=bs) (hdct:=hdct) (sn:=sn) (sub:=sub) (ab:=ab) (col:=col) (dd:=dd) (k5:=k5) (k0:=k0) (k1:=k1) (k2:=k2) (k3:=k3)
  PySem.F.excBase_ValueError (mN:=mN) (T.hasType PySem.F.excBase_ValueError.hasBase) (I.ok.hd hcm) (by rw[he];show (false || (backTo cpos (starEach rest X.env)).any (·.1))=false;rw[hpl];rfl) hni (qAs I hg hm ⟨rfl,?_⟩ hdb)
 have z:=ha cpos pins s σ H _ I h;rw[show (X.wish (XE X Ex)).env=X.env from rfl]at z;rw[he]at z⊢;refine Calls.evalArgs_plain (YL z (λus s2 w=>?_) λ_ _ y=>y);obtain⟨vs,H1,I1,r1,hl,ex⟩:=w;have I1':=I1.unwish;refine⟨O,by rw[<-r1.length];exact hl,I1.bk _ _ hC,hN.keeps I1.bk,T.keeps I1.bk,λh' e hmk=>?_⟩;obtain⟨tt,q1,q2,q3⟩:=hmk.there;have I2:Inv X pins σ H1 {s2 with heap:=h'}:=I1'.kept (t':=s2.toks) hmk.keeps;refine⟨e,(.ref C,none),σ,H1,O,I2.pins_of (pins':=[]) λp hp=>(nomatch hp),⟨⟨?_,?_,λp hp z=>?_⟩,none,⟨_,_,q1,O⟩,λT e'=>nomatch e'⟩,ex⟩
 . cases w:X.s₀.heap.get? e with
   |none=>rfl
   |some o=>
    obtain⟨o',w'⟩:=I1'.base.there e o w (by rw[hex];intro y;cases y);rw[hmk.new]at w';cases w'
 . cases w:H1 e with
   |none=>rfl
   |some u=>
    obtain⟨o',w'⟩:=qTj (I1'.hok e u w);rw[hmk.new]at w';cases w'
 . have q':=(I1'.pin p (Yq _ hp)).1
   rw[z,hmk.new]at q';cases q'
noncomputable def pnX(X:Cx)(l:List (Addr×Obj)):Cx:={X with pn:=l}
noncomputable def hdX(X:Cx)(ea:Addr):Cx:={X with A:=X.A.mark (some (.ref ea)),calm:=false}
section
variable{X:Cx}{pins:List (Addr×Obj)}{σ:L2.St}{H:Hp}{s:Shared}
theorem qTi(I:Inv X pins σ H s):Inv (pnX X (X.pn++pins)) [] σ H s:=by obtain⟨a1,a2,a3,a4,a5,a6,a7,a8,a9,a10,a11,a12,a13,a14,a15,a16,a17,a18⟩:=I.ok;exact⟨⟨a1,a2,a3,a4,a5,a6,a7,a8,a9,a10,a11,a12,a13,a14,a15,a16,a17,a18⟩,I.os,I.bare,I.base,I.loc,I.cell,I.free,I.freeC,λp hp=>I.pin p (by have z:p∈(X.pn++pins)++[]:=hp;simpa using z),I.hok,I.len⟩
theorem zJ(I:Inv (pnX X (X.pn++pins)) [] σ H s):Inv X pins σ H s:=by obtain⟨a1,a2,a3,a4,a5,a6,a7,a8,a9,a10,a11,a12,a13,a14,a15,a16,a17,a18⟩:=I.ok;exact⟨⟨a1,a2,a3,a4,a5,a6,a7,a8,a9,a10,a11,a12,a13,a14,a15,a16,a17,a18⟩,I.os,I.bare,I.base,I.loc,I.cell,I.free,I.freeC,λp hp=>I.pin p (by show p∈(X.pn++pins)++[];simpa using hp),I.hok,I.len⟩
theorem qGc{ea:Addr}(I:Inv X pins σ H s):Inv (hdX X ea) pins σ H s:=by obtain⟨a1,a2,a3,a4,a5,a6,a7,a8,a9,a10,a11,a12,a13,a14,a15,a16,a17,a18⟩:=I.ok;exact⟨⟨a1,a2,a3,a4,a5,a6,a7,a8,λh=>YC (show false=true from h) YZ,a10,a11,a12,a13,a14,a15,a16,a17,a18⟩,I.os,I.bare,I.base,I.loc,I.cell,I.free,I.freeC,I.pin,I.hok,I.len⟩
theorem wQ{ea:Addr}(I:Inv (hdX X ea) pins σ H s)(hd:X.calm=true->X.A.handled=none):Inv X pins σ H s:=by obtain⟨a1,a2,a3,a4,a5,a6,a7,a8,a9,a10,a11,a12,a13,a14,a15,a16,a17,a18⟩:=I.ok;exact⟨⟨a1,a2,a3,a4,a5,a6,a7,a8,hd,a10,a11,a12,a13,a14,a15,a16,a17,a18⟩,I.os,I.bare,I.base,I.loc,I.cell,I.free,I.freeC,I.pin,I.hok,I.len⟩
noncomputable def qE4(e:Addr)(C:EC):HO:=.ext λh=> ∃(vs:Array Value) (sl:Array (Option Value)),h.get? e=some {cls:=C.1,dict:=C.2,data:=.fields vs,slots:=sl}
theorem qBe{a:Addr}{C:EC}{hd:Option Addr}(I:Inv X [] σ H s)(_:X.ex=[])(n:qRa X.s₀.heap H X.pn a)(r:vM s.heap a C hd):Inv X [] σ (upd H a (qE4 a C)) s:=by
 obtain⟨vs,sl,q,_⟩:=r;have B:=I.base;have ne:∀b o,X.s₀.heap.get? b=some o->b≠a:=λb o w z=>by rw[z,n.1]at w;cases w
 refine⟨I.ok,I.os,I.bare,⟨B.keep,B.slot,λb o w z hx=>?_,B.there,λb xs w=>?_,λb o u w=>?_,λb ps w=>?_⟩,I.loc,I.cell,?_,λy c e=>?_,λp hp=>?_,λb u w=>?_,I.len⟩
 . rw[qg (ne b o w)];exact B.free b o w z hx
 . have z:=B.tups b xs w
   rw[qg (qW z n.2.1)];exact z
 . have z:=B.frzs b o u w
   rw[qg (qW z n.2.1)];exact z
 . obtain⟨more,z⟩:=B.tbls b ps w
   exact⟨more,by rw[qg (qW z n.2.1)];exact z⟩
 . obtain⟨m,⟨o,es,ep,ho,hd',_⟩,_⟩:=I.loc
   rw[qg (λz=>by rw[z,q]at ho;cases ho;cases hd')];exact I.free
 . obtain⟨v,o,ho,hd'⟩:=I.cell y c e
   rw[qg (λz=>by rw[z,q]at ho;cases ho;cases hd')];exact I.freeC y c e
 . obtain⟨w1,w2,w3⟩:=I.pin p hp
   have hp':p∈X.pn:=by simpa using hp
   rw[qg (n.2.2 p hp')];exact⟨w1,w2,w3⟩
 . by_cases hb:b=a
   . subst hb
     rw[qC]at w;cases w;refine⟨⟨vs,sl,q⟩,⟨_,q⟩,λh1 h2 z k=>?_⟩;obtain⟨vs',sl',z⟩:=z;exact⟨vs',sl',k _ z⟩
   . rw[qg hb]at w
     exact(I.hok b u w).stay (λ_ _ _ z=>z) (λc z=>by rw[qg (qW z n.2.1)];exact z) λc xs z=>by rw[qg (qW z n.2.1)];exact z
theorem x9{M:Model}{A:Around}{E:Value->Shared->Prop}{i:Nat}{n:Str}{pos:Pos}{Q:Unit->Shared->Prop}(I:Inv X pins σ H s)(hN:X.N.Nodup)(hi:X.N[i]?=some n)(hl:X.env.scope.names.lookup n=some .local)
 (h:∀s',Inv X pins (σ.set i none) H s'->Q () s'):wpAny M A (do bindName X.env n .none;unbindBehindTheSuite X.env n pos) Q E s:=by
 refine YJ (wpAny_bindName (kT (v:=.non) I hN hi (.inl hl) rfl (λs1 I1=>?_) (.inr hl)));unfold unbindBehindTheSuite;refine wpAny_onRaise ?_;have hcls:(X.env.scope.kind== .class || (X.env.scope.kind== .module && X.env.locals != X.env.globals))=false:=by rw[I1.ok.kind];rfl
 have hiσ:i<σ.length:=by rw[I.len];exact(Ya.mp hi).1
 obtain⟨m,hn,hlk⟩:=I1.loc;obtain⟨u,r,lk⟩:=hlk i n .non hi (by rw[ZA hiσ]) (.inl hl);have hm:m n=some u:=by
  rcases lk with ⟨_,z⟩|⟨z,_⟩
  . exact z
  . have hl':X.env.kindOf n=some .local:=hl
    rw[hl']at z;rcases z with z|z <;> cases z
 obtain⟨oL,es,ep,hoL,hdL,_⟩:=id hn;refine wpAny_unbindName_local hl hn hm hcls λh' u' hn' hs=>h _ ?_;have B:=I1.base;have neL:∀b o,X.s₀.heap.get? b=some o->b≠X.env.locals:=λb o e=>Yo (YR (YV e) I1.ok.above);refine⟨I1.ok,I1.os,I1.bare,⟨λb o e n hb hx=>(hs.2 b (neL b o e)).trans (B.keep b o e n hb hx),λb o e n hb hx=>?_,B.free,λb o e hx=>?_,B.tups,B.frzs,B.tbls⟩,⟨_,hn',λj y v e1 e2 e3=>?_⟩,λy c e=>?_,I1.free,I1.freeC,λp hp=>?_,λb ob e=>?_,?_⟩
 . obtain⟨sl,z⟩:=B.slot b o e n hb hx
   exact⟨sl,(hs.2 b (neL b o e)).trans z⟩
 . obtain⟨o',z⟩:=B.there b o e hx
   exact⟨o',(hs.2 b (neL b o e)).trans z⟩
 . have hj:j≠i:=λz=>by subst z;rw[ZA hiσ]at e2;cases e2
   rw[ZL (ZG hj)]at e2;obtain⟨u2,r2,l2⟩:=hlk j y v e1 (by rw[ZL (ZG hj)];exact e2) e3;refine⟨u2,r2,?_⟩;rcases l2 with ⟨k,z⟩|⟨k,c,ec,z⟩
   . refine .inl ⟨k,?_⟩
     have:y≠n:=λw=>hj (qGy hN e1 (w ▸ hi));simp[this,z]
   . exact .inr ⟨k,c,ec,z.sameBut hs (I1.cne y c ec)⟩
 . obtain⟨w',z⟩:=I1.cell y c e
   exact⟨w',z.sameBut hs (I1.cne y c e)⟩
 . obtain⟨e,n,ne,nf,d⟩:=I1.pin p hp
   exact⟨(hs.2 p.1 ne).trans e,n,ne,nf,d⟩
 . refine(I1.hok b ob e).stay (λc w' hc q=>(hs.2 c λz=>?_).trans q) (λ_ q=>q) λ_ _ q=>q
   have fr:=I1.free;rcases hc with hc|hc
   . rw[<-hc,z,fr]at e;cases e
   . rw[z,fr]at hc;cases hc
 . have:=I1.len
   simpa using this
end
noncomputable def qOq(D:qN2)(i:Option Nat):qN2:=
 let f:(L2.St->Hp->Prop)->L2.St->Hp->Prop:=λq σ H=>match i with|some i=>q (σ.set i none) H|none=>q σ H
 {nx:=f D.nx,rt:=D.rt,bk:=f D.bk,ct:=f D.ct}
noncomputable def qV6(i:Option Nat)(ea:Addr)(σ:L2.St):L2.St:=match i with|some i=>σ.set i (some (.ref ea))|none=>σ
inductive qI1(X:Cx):Option Str->Option Nat->Prop where
 |none:qI1 X none none
 |some {n:Str} {i:Nat} (hi:X.N[i]?=some n) (hl:X.env.scope.names.lookup n=some .local):qI1 X (some n) (some i)
end L3
namespace L3
open PySem PySem.Spec PySem.Calls PyProof.Rows PySem.W
section
variable{prog:Program}{w:World}{A:Around}{E:Value->Shared->Prop}{K:Frag}{h:Heap}{g:Array GenState}{d:Drawn}{t:Nat}{os:OsState}{a D:Addr}{ox:Obj}{od:Option Obj}
structure ExcK(K:Frag)(D:Addr):Prop where
 ga:findIn K (.ref D) "__getattribute__"=some (some (.builtin "BaseException.__getattribute__"))
 gt:findIn K (.ref D) "__getattr__"=some none
 ca:findIn K (.ref D) "__class__"=some (some (.builtin "object.__class__"))
 sg:specialIn K (.builtin "object.__class__") "__get__"=some (some (.builtin "getset_descriptor.__get__"))
 tk:takesIn K (.builtin "object.__class__")=some true
 mo:mroIn K D (.type "object")=some true
 mb:mroIn K D (.type "BaseException")=some true
end
end L3
namespace L3
open PySem PySem.Spec PySem.Calls PySem.Builtin PySem.Builtin.ObjectAttr PyProof.Rows
noncomputable def exOver(K:PySem.W.Frag)(C D:Addr):Bool:=(PySem.W.clsIn K C).any λcd=>cd.mro== .ref C:: .ref D::qVj
section
variable{prog:Program}{w:World}{A:Around}{E:Value->Shared->Prop}{K:PySem.W.Frag}{s:Shared}{x C D:Addr}{vs:Array Value}{sl:Array (Option Value)}{R:Result->Shared->Prop}
open PySem.W in
theorem qQu{ox:Obj}{od:Option Obj}{name:Str}{tk:Tok}{v:Value}(X:K.In s.heap)(I:InstAt s.heap x ox C od)(hp:exOver K C D=true)(ht:takerIn K C name=some none)
 (h:∀b,wpAny (model prog w) A.in1 (storeInOwnDict (.ref x) (.ref C) (.str name tk) name v b)
   (λfin s'=>match fin with|.done f=>R (.ok f) s'|.again c'=>c'.quiet=true/\codeAny (model prog w) A c' R s') (λe s'=>R (.error e) s') s):
 codeAny (model prog w) A (.call (.builtin "object.__setattr__") ⟨[.ref x,.str name tk,v],[]⟩) R s:=by
 have SF:=PySem.F.store_object;obtain⟨cd,hc,ho⟩:=any_some hp;have ho:cd.mro=.ref C:: .ref D::qVj:=beq_iff_eq.mp ho;have sub:Looks (model prog w) s.heap (isInstance (.ref x) (.type "object")) true:=I.type.andThen (looks_mroIn X (by unfold mroIn;rw[hc,Option.bind_some,ho];rfl));refine codeAny_call_builtin SF.slot.plain SF.entry (@check_slot (model prog w) _ _ s "object.__setattr__" "object" "__setattr__" (.ref x) [.str name tk,v] [] _ SF.kind SF.split sub (SF.args (.ref x) (.str name tk) v) ?_);obtain⟨attr,ha,hr⟩:=Option.bind_eq_some_iff.mp ht;have hm:Looks (model prog w) s.heap (mroOf (.ref C)) cd.mro:=(looks_clsIn X hc).andThen .now;have L3:Looks (model prog w) s.heap (storeTaker? attr) none:=by
  cases attr with
  |none=>cases hr;exact .now
  |some a=>
   obtain⟨b,hb,hb2⟩:=Option.map_eq_some_iff.mp hr;refine(looks_takesIn X hb).andThen ?_;cases b
   . exact .now
   . cases hb2
 rw[osa_eq,refuse_eq];refine YJ (YJ (I.type.here (YJ (hm.here ?_))));rw[ho,refuseLoop_ref,refuseLoop_ref];rw[show refuseLoop (.ref x) "__setattr__" qVj=pure ()from PySem.F.store_ValueError.passes (.ref x)];refine YK (YJ (I.type.here (YJ ((looks_findIn X ha).here (YJ (L3.here ?_))))));exact h _
open PySem.W in
theorem qVn{name:Str}{v:Value}{Q:Unit->Shared->Prop}(X:K.In s.heap)(hx:s.heap.get? x=some {cls:=.ref C,dict:=none,data:=.fields vs,slots:=sl})
 (hs:findIn K (.ref C) "__setattr__"=some (some (.builtin "object.__setattr__"))) (hp:exOver K C D=true) (ht:takerIn K C name=some none) (hh:hasDictIn K C=true)
 (h:∀h' tk,h'.get? x=some {cls:=.ref C,dict:=some s.heap.objs.size,data:=.fields vs,slots:=sl}->h'.Ns1 s.heap.objs.size (λy=>if y=name then some v else none)->(∀b o,b≠x->s.heap.get? b=some o->h'.get? b=some o)->Q () {s with heap:=h',toks:=tk}):
 wpAny (model prog w) A (setAttr (.ref x) name v) Q E s:=by
 have J:InstAt s.heap x {cls:=.ref C,dict:=none,data:=.fields vs,slots:=sl} C none:=⟨hx,rfl,rfl,trivial⟩;refine PySem.W.set_plain X J hs (qQu (s:={s with toks:=s.toks+1}) X J hp ht λb=>?_);obtain⟨cd,hc,hd'⟩:=PySem.W.any_some hh;refine YJ (YK (YJ (YJ (wpAny_loadPart hx (YJ (PySem.W.Looks.here (s:={s with toks:=s.toks+1}) (PySem.W.looks_clsIn X hc) ?_))))));rw[hd'];have hx₁:(s.heap.push {cls:=.type "dict",data:=.dict #[]}).get? x=some {cls:=.ref C,dict:=none,data:=.fields vs,slots:=sl}:=YM _ hx;have hxs:x≠s.heap.objs.size:=Yo (YV hx);refine YJ (wpAny_alloc' ?_);refine YJ (wpAny_update' hx₁ ?_);refine YK ?_;have hgd:((s.heap.push {cls:=.type "dict",data:=.dict #[]}).update x λo=>{o with dict:=some s.heap.objs.size}).get? s.heap.objs.size=some {cls:=.type "dict",data:=.dict #[]}:=
  (Heap.get?_update_ne _ _ _ _ hxs.symm).trans (Heap.get?_push_at rfl rfl)
 have hnd:((s.heap.push {cls:=.type "dict",data:=.dict #[]}).update x λo=>{o with dict:=some s.heap.objs.size}).Ns s.heap.objs.size (λ_=>none):=
  ⟨_,#[],_,hgd,rfl,λe he=>YC he (by simp),λ_=>rfl⟩
 refine YJ (YK (YJ ?_));refine wpAny_nsSet1 (s:={s with heap:=_,toks:=s.toks+1}) (Heap.Ns1.of_empty hnd) λh' hn' hs2=>?_;obtain⟨oD,esD,epD,hoD,hdD,hcD⟩:=hn'.count (Within.cons name v Within.nil);refine YJ (wpAny_lookBehind hoD (by rw[hdD];exact pastItsLine_dict (ZD hcD (by rw[YE,ZO,sizeLine_eq];omega))) ?_);refine YK (h _ _ ?_ hn' ?_)
 . refine(hs2.2 x hxs).trans (Heap.get?_update_self _ hx₁ rfl)
 . intro b o hb ho
   exact(hs2.2 b (Yo (YV ho))).trans ((Heap.get?_update_ne _ _ _ _ hb).trans (YM _ ho))
end
section
variable{prog:Program}{w:World}{A:Around}{E:Value->Shared->Prop}{h:Heap}{g:Array GenState}{d:Drawn}{t:Nat}{os:OsState}
variable{nm q:Str}{C N:Addr}{bs bm bmB:List Value}{hdct:Bool}{sn:List Str}{sub:List Value}{ab:Bool}{col:Option Bool}{dd:Option Addr}{k0 k1 k2 k3 k5:Option Value}{B newId initId:String}
theorem qEq(F:ExcBaseFacts B newId initId bmB)(T:OwnTail h bmB bm){mN:Str->Option Value}{rest:List Value}{fI:Addr}{oI:Obj}{Q:PySem.Fin->Shared->Prop}
 (hC:h.get? C=some (excClassObj nm q C N bs bm hdct sn sub ab col dd k0 k1 k2 k3 k5 newId)) (hn:h.Ns N mN) (hi:mN "__init__"=some (.ref fI))
 (hfI:h.get? fI=some oI) (hfc:oI.cls=.type "function")
 (hq:∀h' e,Heap.MadeExcOf h h' e (.ref C) rest->h'.objs.size=h.objs.size+2->e=h.objs.size+1->
   wpAny (model prog w) A (call (.ref fI) (.ref e::rest)) (λr s'=>r=.none/\Q (.done (.ret (.ref e))) s') E ⟨h',g,d,t,os⟩) (hrest:rest.length<=sizeLine:=by size_fits):
 wpAny (model prog w) A (Builtin.«type.__call__» ⟨.ref C::rest,[]⟩) Q E ⟨h,g,d,t,os⟩:=by
 repeat (first|with_reducible refine wpAny_loadPart_at hC ?_|with_reducible refine wpAny_madeBy_exc hC ?_|wp_step)
 refine codeAny_call_builtin_code (Code.quiet_builtin _ F.quiet) (wpAny_check_new_subT F T hC ?_);refine codeAny_exc_new_subT F T hC ?_ hrest;show wpAny _ _ _ _ _ _;have hC₁:=YM {cls:=.ref C,data:=.fields #[.ref h.objs.size,.none,.none,.none,.bool false,.none]}
  (YM {cls:=.type "tuple",data:=.seq rest.toArray} hC)
 have hfI₁:=YM {cls:=.ref C,data:=.fields #[.ref h.objs.size,.none,.none,.none,.bool false,.none]}
  (YM {cls:=.type "tuple",data:=.seq rest.toArray} hfI)
 have hn₁:((h.push {cls:=.type "tuple",data:=.seq rest.toArray}).push {cls:=.ref C,data:=.fields #[.ref h.objs.size,.none,.none,.none,.bool false,.none]}).Ns N mN:=
  let ⟨o,es,ep,e,r⟩:=hn;⟨o,es,ep,YM _ (YM _ e),r⟩
 have hget:((h.push {cls:=.type "tuple",data:=.seq rest.toArray}).push
  {cls:=.ref C,data:=.fields #[.ref h.objs.size,.none,.none,.none,.bool false,.none]}).get? (h.objs.size+1)=some
  {cls:=.ref C,data:=.fields #[.ref h.objs.size,.none,.none,.none,.bool false,.none]}:=by heap_get
 have hcC:(Value.ref C::bm).contains (.ref C)=true:=by simp
 have T₁:=T.keeps (h':=(h.push {cls:=.type "tuple",data:=.seq rest.toArray}).push {cls:=.ref C,data:=.fields #[.ref h.objs.size,.none,.none,.none,.bool false,.none]})
  λb o e=>YM _ (YM _ e)
 unfold isInstance
 repeat (first|with_reducible refine wpAny_loadPart_at hget ?_|(with_reducible refine wpAny_isSubtype_exc hC₁ ?_;rw[hcC])|wp_step)
 show wpAny _ _ (typeLookup (.ref C) _) _ _ _;refine wpAny_typeLookup_tail hC₁ hn₁ T₁ F.mroIs F.init.lookup ?_;rw[hi];refine wpAny_holding (YJ ?_);unfold bindSpecial;refine YJ (wpAny_typeOf (T:="function") ⟨_,hfI₁,hfc⟩ ?_);rw[YB (by decide)];refine YK (YJ (YL (hq _ (h.objs.size+1) ⟨λb o hb=>YM _ (YM _ hb),Heap.get?_none_of_le (Nat.le_succ _),h.objs.size,hget,Heap.get?_none_of_le (YI _),?_⟩ (by simp only[Heap.size_push]) rfl) (λr s' hr=>?_) λ_ _ x=>x))
 . exact YM _ (Heap.get?_push_at rfl rfl)
 . obtain⟨rfl,hQ⟩:=hr
   wp_walk
   exact hQ
theorem qNn(F:ExcBaseFacts B newId initId bmB)(T:OwnTail h bmB bm){mN:Str->Option Value}{rest:List Value}{fI:Addr}{oI:Obj}{Q:Value->Shared->Prop}
 (hC:h.get? C=some (excClassObj nm q C N bs bm hdct sn sub ab col dd k0 k1 k2 k3 k5 newId)) (hn:h.Ns N mN) (hi:mN "__init__"=some (.ref fI))
 (hfI:h.get? fI=some oI) (hfc:oI.cls=.type "function")
 (hq:∀h' e,Heap.MadeExcOf h h' e (.ref C) rest->h'.objs.size=h.objs.size+2->e=h.objs.size+1->
   wpAny (model prog w) (A.under (.builtin "type.__call__" ⟨.ref C::rest,[]⟩)) (call (.ref fI) (.ref e::rest)) (λr s'=>r=.none/\Q (.ref e) s') E ⟨h',g,d,t,os⟩) (hrest:rest.length<=sizeLine:=by size_fits):
 wpAny (model prog w) A (call (.ref C) rest) Q E ⟨h,g,d,t,os⟩:=by
 have f1:=tc_lookup;have f2:=tc_bind (.ref C);have hT:(⟨h,g,d,t,os⟩:Shared).TypeIs (.ref C) "type":=⟨_,hC,rfl⟩;refine wpAny_call (codeAny_of_tree ?_);show wpAny _ _ (callAny (.ref C) _) _ _ _
 repeat (any_goals (first|assumption|with_reducible refine wpAny_loadPart_at hC ?_|wp_step))
 refine⟨O,?_⟩;refine codeAny_call_builtin_at (Code.quiet_builtin _ (by decide+kernel)) entry_typeCall (wpAny_check_type_call_sub hC (qEq (hrest:=hrest) F T hC hn hi hfI hfc λh' e hm h1 h2=>?_));exact hq h' e hm h1 h2
end
section
variable{prog:Program}{w:World}{A:Around}{E:Value->Shared->Prop}{s:Shared}{env:Env}
variable{nm q:Str}{C N:Addr}{bs bm bmB:List Value}{hdct:Bool}{sn:List Str}{sub:List Value}{ab:Bool}{col:Option Bool}{dd:Option Addr}{k0 k1 k2 k3 k5:Option Value}{B newId initId:String}
theorem qOw{M:Model}{x:Sem Value}{Q:Flow->Shared->Prop}(hbase:bm.contains (.type "BaseException")=true)(hh:A.handled=none)
 (h:wpAny M A x (λv s₁=> ∃e od vs sl,v=.ref e/\s₁.heap.get? C=some (excClassObj nm q C N bs bm hdct sn sub ab col dd k0 k1 k2 k3 k5 newId)/\
   s₁.heap.get? e=some {cls:=.ref C,dict:=od,data:=.fields vs,slots:=sl}/\vs[1]?=some .none/\E (.ref e) s₁) E s):
 wpAny M A (raiseStmt env (some x) none) Q E s:=by
 have hcB:(Value.ref C::bm).contains (.type "BaseException")=true:=by rw[List.contains_cons,hbase,Bool.or_true]
 unfold raiseStmt;refine YJ (YL h (λv s₁ h₁=>?_) λ_ _ x=>x);obtain⟨e,od,vs,sl,rfl,hC,he,hv,hE⟩:=h₁;obtain⟨hp,g,d,tk,os⟩:=s₁
 repeat (first|with_reducible refine wpAny_loadPart_at he ?_|with_reducible refine wpAny_loadPart_at hC ?_|(with_reducible refine wpAny_isSubtype_exc hC ?_;rw[hcB])|wp_step)
 rw[hv];refine YK ?_;rw[YA (by decide)];refine YK ?_;exact wpAny_raiseNew_none hh hE
theorem qL6(F:ExcBaseFacts B newId initId bmB){mN:Str->Option Value}{x:Str}{np cpos pos:Pos}{args:List Expr}{fI:Addr}{oI:Obj}{Q:Flow->Shared->Prop}
 (hbase:bm.contains (.type "BaseException")=true) (hh:A.handled=none) (hplain:(backTo cpos (starEach args env)).any (·.1)=false) (hi:mN "__init__"=some (.ref fI)) (hfc:oI.cls=.type "function")
 (h:wpAny (model prog w) A (eval (.Name x np) env) (λf s₁=>f=.ref C/\wpAny (model prog w) A (evalArgs (.ref C) true (backTo cpos (starEach args env)) [])
   (λa s₂=>a.kw=[]/\a.pos.length<=sizeLine/\s₂.heap.get? C=some (excClassObj nm q C N bs bm hdct sn sub ab col dd k0 k1 k2 k3 k5 newId)/\s₂.heap.Ns N mN/\OwnTail s₂.heap bmB bm/\s₂.heap.get? fI=some oI/\
     ∀h' e,Heap.MadeExcOf s₂.heap h' e (.ref C) a.pos->h'.objs.size=s₂.heap.objs.size+2->e=s₂.heap.objs.size+1->
      wpAny (model prog w) (A.under (.builtin "type.__call__" ⟨.ref C::a.pos,[]⟩)) (call (.ref fI) (.ref e::a.pos))
       (λr s'=>r=.none/\s'.heap.get? C=some (excClassObj nm q C N bs bm hdct sn sub ab col dd k0 k1 k2 k3 k5 newId)/\(∃od vs sl,s'.heap.get? e=some {cls:=.ref C,dict:=od,data:=.fields vs,slots:=sl}/\vs[1]?=some .none)/\E (.ref e) s') E {s₂ with heap:=h'}) E s₁) E s):
 wpAny (model prog w) A (exec (.Raise (some (.Call (.Name x np) args [] cpos)) none pos) env) Q E s:=by
 rw[arm_exec_Raise];refine YJ (wpAny_standAt (qOw (C:=C) (nm:=nm) (q:=q) (N:=N) (bs:=bs) (bm:=bm) (hdct:=hdct) (sn:=sn) (sub:=sub) (ab:=ab) (col:=col) (dd:=dd) (k0:=k0) (k1:=k1) (k2:=k2) (k3:=k3) (k5:=k5) (newId:=newId) hbase hh (YJ (YL (wpAny_Call_ofName (YL h (λf s₁ h₁=>?_) λ_ _ x=>x)) (λv s₃ h₃=>YJ (wpAny_standAt (YK h₃))) λ_ _ x=>x))));obtain⟨rfl,h₁⟩:=h₁;unfold callWith;refine YJ (wpAny_holding (YL h₁ (λa s₂ h₂=>YJ (wpAny_standAt ?_)) λ_ _ x=>x));obtain⟨apos,akw⟩:=a;obtain⟨hkw,hlen,hC,hn,T,hfI,h₂⟩:=h₂;obtain rfl:akw=[]:=hkw;obtain⟨hp,g,d,tk,os⟩:=s₂;simp only[hplain];refine YJ (wpAny_keeperOf_exc hC ?_);refine YJ (qNn (hrest:=hlen) F T hC hn hi hfI hfc λh' e hm h1 h2=>YL (h₂ h' e hm h1 h2) (λr s' z=>⟨z.1,?_⟩) λ_ _ x=>x);obtain⟨_,hC',⟨od,vs,sl,he,hv⟩,hE⟩:=z;refine YJ (wpAny_holding (wpAny_point (YK ?_)));exact⟨e,od,vs,sl,O,hC',he,hv,hE⟩
end
end L3
namespace L3
open PySem PySem.Spec PyProof.Rows L2
noncomputable def qDs(e:Addr)(C:Value):HO:=.ext λh=> ∃(vs:Array Value) (sl:Array (Option Value)),h.get? e=some {cls:=C,dict:=none,data:=.fields vs,slots:=sl}/\vs[1]?=some .none
noncomputable def qEz(e:Addr)(C:EC):HO:=.ext λh=>vM h e C none
noncomputable def excInitIn(K:PySem.W.Frag)(C f:Addr):Bool:=excG K C (some (.ref f))
structure XMk(K:PySem.W.Frag)(C D f:Addr):Prop where
 ov:exOver K C D=true
 hd:PySem.W.hasDictIn K C=true
 sa:PySem.W.findIn K (.ref C) "__setattr__"=some (some (.builtin "object.__setattr__"))
 ex:excInitIn K C f=true
 fn:PySem.W.isFn K (.ref f)=true
theorem qOp{K:PySem.W.Frag}{h:Heap}{N:Addr}{mg:Str->Option Value}{n:Str}{v:Value}(X:K.In h)(G:h.Ns N mg)(e:PySem.W.nsIn K N n=some (some v)):mg n=some v:=by
 obtain⟨o,es,ep,ho,hd,_,hf⟩:=G;unfold PySem.W.nsIn at e;split at e
 . rename_i c d es' n' sl q
   have:=X _ _ q;rw[ho]at this;cases this;cases hd;split at e
   . rename_i en he
     cases e;rw[<-hf];unfold nsFind findBy;rw[<-Array.find?_toList,he];rfl
   . split at e <;> cases e
 . cases e
section
variable{X:Cx}{pins:List (Addr×Obj)}{σ:L2.St}{H:Hp}{s:Shared}
theorem qR0{e:Addr}{φ:Heap->Prop}(I:Inv X pins σ (upd H e (.ext φ)) s)(h0:H e=none)(hs:X.s₀.heap.get? e=none):Inv X pins σ H s:=by
 have B:=I.base;have nn:∀b u,upd H e (.ext φ) b=some u->(∀ψ,u≠ .ext ψ)->H b=some u:=λb u z n=>by
  by_cases hb:b=e
  . subst hb
    rw[qC]at z;cases z;exact YC rfl (n φ)
  . rwa [qg hb]at z
 have n0:∀b,upd H e (.ext φ) b=none->H b=none:=λb z=>by
  by_cases hb:b=e
  . rw[hb,qC]at z;cases z
  . rwa [qg hb]at z
 refine⟨I.ok,I.os,I.bare,⟨B.keep,B.slot,λb o w z hx=>n0 _ (B.free b o w z hx),B.there,λb xs w=>nn _ _ (B.tups b xs w) (λ_ z=>nomatch z),λb o u w=>nn _ _ (B.frzs b o u w) (λ_ z=>nomatch z),λb ps w=>?_⟩,I.loc,I.cell,n0 _ I.free,λy c z=>n0 _ (I.freeC y c z),λp hp=>?_,λb u w=>?_,I.len⟩
 . obtain⟨more,z⟩:=B.tbls b ps w
   exact⟨more,nn _ _ z (λ_ z=>nomatch z)⟩
 . obtain⟨w1,w2,w3⟩:=I.pin p hp
   exact⟨w1,n0 _ w2,w3⟩
 . have hb:b≠e:=λz=>by rw[z,h0]at w;cases w
   refine(I.hok b u (by rw[qg hb];exact w)).stay (λ_ _ _ z=>z) (λc z=>nn _ _ z (λ_ z=>nomatch z)) λc xs z=>nn _ _ z (λ_ z=>nomatch z)
end
theorem qOs{X:Cx}{pins:List (Addr×Obj)}{σ:L2.St}{H:Hp}{s:Shared}{dx:Addr}{fs:List (Str×V)}(I:Inv X pins σ H s)(h0:H dx=none)(hs0:X.s₀.heap.get? dx=none)(hp:∀p∈X.pn++pins,p.1≠dx)
 (hl:dx≠X.env.locals) (hc:∀y c,X.env.cells.lookup y=some c->c≠dx) (ok:∃mA,s.heap.Ns1 dx mA/\∀f,RelO (fs.lookup f) (mA f)):Inv X pins σ (upd H dx (.xd fs)) s:=by
 have B:=I.base;have ne:∀b o,X.s₀.heap.get? b=some o->b≠dx:=λb o w z=>by rw[z,hs0]at w;cases w
 refine⟨I.ok,I.os,I.bare,⟨B.keep,B.slot,λb o w z hx=>?_,B.there,λb xs w=>?_,λb o u w=>?_,λb ps w=>?_⟩,I.loc,I.cell,?_,λy c e=>?_,λp hp'=>?_,λb u w=>?_,I.len⟩
 . rw[qg (ne b o w)];exact B.free b o w z hx
 . have z:=B.tups b xs w
   rw[qg (qW z h0)];exact z
 . have z:=B.frzs b o u w
   rw[qg (qW z h0)];exact z
 . obtain⟨more,z⟩:=B.tbls b ps w
   exact⟨more,by rw[qg (qW z h0)];exact z⟩
 . rw[qg (ZG hl)];exact I.free
 . rw[qg (hc y c e)];exact I.freeC y c e
 . obtain⟨w1,w2,w3⟩:=I.pin p hp'
   rw[qg (hp p hp')];exact⟨w1,w2,w3⟩
 . by_cases hb:b=dx
   . subst hb
     rw[qC]at w;cases w;exact ok
   . rw[qg hb]at w
     exact(I.hok b u w).stay (λ_ _ _ z=>z) (λc z=>by rw[qg (qW z h0)];exact z) λc xs z=>by rw[qg (qW z h0)];exact z
def qYo(K:PySem.W.Frag)(ta tv:TE)(f:Str):TS:=λD σ H=>tv σ H λy H1=>ta σ H1 λx H2=> ∃a C B,x=.ref a/\H2 a=some (qDs a (.ref C))/\exOver K C B=true/\PySem.W.hasDictIn K C=true/\
 PySem.W.findIn K (.ref C) "__setattr__"=some (some (.builtin "object.__setattr__"))/\PySem.W.takerIn K C f=some none/\∀dx,H2 dx=none->D.nx σ (upd (upd H2 a (qEz a (.ref C,some dx))) dx (.xd [(f,y)]))
theorem qUh{X:Cx}{o value:Expr}{f:Str}{pos pos':Pos}{ta tv:TE}(ha:PE X o ta)(hv:PE X value tv)(hs:swapsWith value (some (.Attribute o f pos')) pos.line X.env=pure false:=by rfl):
 PS X (.Assign [.Attribute o f pos'] value pos) (qYo X.K ta tv f):=by
 intro pins s σ H D I h;refine plainObj_wpAny_Assign_Attribute (thn (hv pins s σ H _ I h) λu s1 ⟨y,H1,I1,ry,q⟩=>thn (ha pins s1 σ H1 _ I1 q) λov s2 hx=>?_) hs;refine qS λ_ Y=>?_;obtain⟨x,H2,I2,rx,a,C,B,ex,ea,o1,o2,o3,o4,q2⟩:=hx;subst ex;obtain rfl:ov=Value.ref a:=rx;obtain⟨⟨vs,sl,he,hv1⟩,_,_⟩:=I2.hok a _ ea;apply Y;have hf:H2 s2.heap.objs.size=none:=I2.hok.fresh (YI _);refine qVn I2.kIn he o3 o1 o4 o2 λh' tk he' hn k=>⟨σ,_,?_,q2 _ hf⟩;have I3:Inv X pins σ (upd H2 a (qEz a (.ref C,some s2.heap.objs.size))) {s2 with heap:=h',toks:=tk}:=by refine I2.write (x:=a) (e:=a) (by rw[ea];exact True.intro) (.inl rfl) k ⟨_,he'⟩ ?_;refine⟨⟨vs,sl,he',hv1⟩,⟨_,he'⟩,λh1 h2 z k=>?_⟩;obtain⟨vs',sl',z,z2⟩:=z;exact⟨vs',sl',k _ z,z2⟩
 have na:s2.heap.objs.size≠a:=λz=>by rw[z,ea]at hf;cases hf
 refine qOs I3 (by rw[qg na];exact hf) ?_ (λp hp=>Yo (YV (I2.pin p hp).1)) (Nat.ne_of_gt I2.lt) (λy c e=>?_) ⟨_,hn,λg=>?_⟩
 . cases w:X.s₀.heap.get? s2.heap.objs.size with
   |none=>rfl
   |some o=>exact YC (YR (YV w) I2.sz) (Nat.lt_irrefl _)
 . obtain⟨v,o,ho,_⟩:=I2.cell y c e
   exact Yo (YV ho)
 . by_cases hg:g=f
   . subst hg
     simp[List.lookup];exact ry
   . have e1:([(f,y)]:List (Str×V)).lookup g=none:=by rw[List.lookup_cons];have:(g==f)=false:=beq_eq_false_iff_ne.mpr hg;rw[this];rfl
     rw[e1,YA hg];trivial
inductive qL5(C:Addr)(f:Str)(vs:List V)(H:Hp)(Q:VK)(_:XK):Prop
|mk (e:Addr) (v:V) (_:vs=[.ref e,v]) (_:H e=some (qDs e (.ref C))) (_:∀dx,H dx=none->Q .non (upd (upd H e (qEz e (.ref C,some dx))) dx (.xd [(f,v)])))
def qUv(C:Addr)(fn:Str)(Ex:Value->Option Addr->Hp->Prop)(t:TA):TS:=λ_ σ H=>t σ H λvs H1=> ∃v,vs=[v]/\∀dx,H1 dx=none->Ex (.ref C) (some dx) (upd H1 dx (.xd [(fn,v)]))
theorem qJa{X:Cx}{Ex:Value->Option Addr->Hp->Prop}{fn:Str}{k:Nat}{x:Str}{C B f:Addr}{fd:FuncData}{ps:List Str}{np cpos pos:Pos}{e₀:Expr}{rest:List Expr}{t:TA}(M:XMk X.K C B f)
 (F:FnOk X.prog X.w X.K X.mg X.base CX0 k f fd ps (qL5 C fn)) (hb:Binds X.K fd ps []) (hr:Room (k+1) X.A) (hcm:X.calm=true) (hg:Gl X x) (hm:X.mg x=some (.ref C)) (ha:PA (X.wish (XE X Ex)) (e₀::rest) t)
 (he:starEach (e₀::rest) X.env=(false,eval e₀ X.env)::starEach rest X.env:=by rfl) (hpl:(backTo cpos (starEach rest X.env)).any (·.1)=false:=by rfl) (hex:X.ex=[]:=by rfl) (hdb:(x==("__debug__":Str))=false:=by decide):
 PS (X.wish (XE X Ex)) (.Raise (some (.Call (.Name x np) (e₀::rest) [] cpos)) none pos) (qUv C fn Ex t):=by
 intro pins s σ H D I h;obtain⟨tl,N,nm,q,bs,hdct,sn,sub,ab,col,dd,k0,k1,k2,k3,k5,mN,hC,hN,hni,T⟩:=excG_obj (K:=X.K) I.ok.mod.kin (qOp I.ok.mod.kin) M.ex;have hfn:PySem.W.typeIn X.K (.ref f)=some (.type "function"):=beq_iff_eq.mp M.fn;have hfo:∃oI:Obj,X.base.get? f=some oI/\oI.cls=.type "function":=by
  replace hfn:(X.K.lookup f).map (·.cls)=some (.type "function"):=hfn;cases hl:X.K.lookup f with
  |none=>rw[hl]at hfn;cases hfn
  |some o=>
   rw[hl]at hfn;exact⟨o,I.ok.mod.kin _ _ hl,by simpa using hfn⟩
 obtain⟨oI,hfI,hfc⟩:=hfo;refine qL6 (bm:=tl) (C:=C) (N:=N) (nm:=nm) (q:=q) (bs:=bs) (hdct:=hdct) (sn:=sn) (sub:=sub) (ab:=ab) (col:=col) (dd:=dd) (k5:=k5) (k0:=k0) (k1:=k1) (k2:=k2) (k3:=k3)
  PySem.F.excBase_ValueError (mN:=mN) (fI:=f) (oI:=oI) (T.hasType PySem.F.excBase_ValueError.hasBase) (I.ok.hd hcm) (by rw[he];show (false || (backTo cpos (starEach rest X.env)).any (·.1))=false;rw[hpl];rfl) hni hfc (qAs I hg hm ⟨rfl,?_⟩ hdb)
 have z:=ha cpos pins s σ H _ I h;rw[show (X.wish (XE X Ex)).env=X.env from rfl]at z;rw[he]at z⊢;refine Calls.evalArgs_plain (YL z (λus s2 w=>?_) λ_ _ y=>y);obtain⟨vs,H1,I1,r1,v,rfl,ex⟩:=w;have I1':=I1.unwish;have hl1:us.length=1:=r1.length.symm;refine⟨O,by rw[hl1,sizeLine_eq];decide,I1.bk _ _ hC,hN.keeps I1.bk,T.keeps I1.bk,I1.bk _ _ hfI,λh' e hmk hsz hes=>?_⟩;obtain⟨tt,q1,q2,q3⟩:=hmk.there;have hle:s2.heap.objs.size<=e:=by rw[hes];exact Nat.le_succ _
 have e0:H1 e=none:=I1'.hok.fresh hle;have I2:Inv X pins σ (upd H1 e (qDs e (.ref C))) {s2 with heap:=h'}:=I1'.laid (t':=s2.toks) hmk.keeps hle ⟨⟨_,_,q1,rfl⟩,⟨_,q1⟩,λh1 h2 z k=>by obtain⟨vs',sl',z,z2⟩:=z;exact⟨vs',sl',k _ z,z2⟩⟩
 have r2:Vals [V.ref e,v] (Value.ref e::us):=.cons rfl r1;have hsp:qL5 C fn [V.ref e,v] (upd H1 e (qDs e (.ref C))) (λu H2=>u=.non/\∃dx,H1 dx=none/\dx≠e/\H2=upd (upd H1 dx (.xd [(fn,v)])) e (qEz e (.ref C,some dx))) E0:=⟨e,v,rfl,qC,λdx hdx=>⟨rfl,dx,?_⟩⟩
 rotate_left
 . have hne:dx≠e:=λz=>by rw[z,qC]at hdx;cases hdx
   refine⟨by rwa [qg hne]at hdx,hne,?_⟩;funext b;by_cases hb:b=e
   . subst hb
     rw[qC,qg (ZG hne),qC]
   . rw[qg hb (o:=qEz e (.ref C,some dx)) (H:=upd H1 dx (.xd [(fn,v)]))]
     by_cases hb2:b=dx
     . subst hb2
       rw[qC,qC]
     . rw[qg hb2,qg hb,qg hb,qg hb2]
 have hl:((Value.ref e::us)++[]).length=ps.length:=by have:=F.len _ _ _ _ hsp;rw[Ye,YE,hl1];simpa using this
 have hbb:=hb _ (Value.ref e::us) I2.kIn hl;rw[Ye]at hbb;refine wpAny_call (codeAny_mono (F.run _ X.stack _ _ ⟨Value.ref e::us,[]⟩ (Value.ref e::us) _ _ E0 (hr.make C us []) (I2.env0.make C us []) hbb r2 hsp) λr s' hq'=>?_);cases r with
 |error e=>exact False.elim hq'
 |ok fl=>
  cases fl with
  |ret u=>
   obtain⟨v',H',I3,rv,ev,dx,hdx,hne,rfl⟩:=I2.after hq';subst ev;cases rv;obtain⟨⟨vs',sl',g1,g2⟩,_,_⟩:=I3.hok e _ qC;have e0':(upd H1 dx (.xd [(fn,v)])) e=none:=by rw[qg (ZG hne)];exact e0
   have hs0:X.s₀.heap.get? e=none:=by
    cases w:X.s₀.heap.get? e with
    |none=>rfl
    |some o=>
     obtain⟨o',w'⟩:=I1'.base.there e o w (by rw[hex];intro y;cases y);rw[hmk.new]at w';cases w'
   refine⟨O,I3.bk _ _ hC,⟨some dx,vs',sl',g1,g2⟩,e,(.ref C,some dx),σ,upd H1 dx (.xd [(fn,v)]),O,(qR0 I3 e0' hs0).pins_of (pins':=[]) λp hp=>(nomatch hp),⟨⟨hs0,e0',λp hp z=>?_⟩,none,⟨vs',sl',g1,g2⟩,λT e'=>nomatch e'⟩,ex dx hdx⟩;have q':=(I1'.pin p (Yq _ hp)).1;rw[z,hmk.new]at q';cases q'
  |next=>exact False.elim hq'
  |brk=>exact False.elim hq'
  |cont=>exact False.elim hq'
end L3
namespace L3
open PySem PySem.Spec PySem.Calls PyProof.Rows PySem.W
section
variable{prog:Program}{w:World}{A:Around}{E:Value->Shared->Prop}{K:Frag}{h:Heap}{g:Array GenState}{d:Drawn}{t:Nat}{os:OsState}{a D:Addr}{ox o:Obj}{name:Str}{v:Value}
theorem qN0{tk:Tok}{Q:PySem.Fin->Shared->Prop}(X:K.In h)(I:InstAt h a ox D (some o))(hf:findObj K D (some o) name=some (.value v))(hq:Q (.done (.ret v)) ⟨h,g,d,t,os⟩):
 wpAny (model prog w) A (Builtin.«object.__getattribute__» ⟨[.ref a,.str name tk],[]⟩) Q E ⟨h,g,d,t,os⟩:=by
 have L0:=I.type (M:=model prog w);have L2:=looks_find (M:=model prog w) X I hf;unfold Builtin.«object.__getattribute__»
 repeat (any_goals (first|assumption|(with_reducible refine YJ (L0.at ?_))|(with_reducible refine YJ (L2.at ?_))|wp_step))
theorem qQk{tk:Tok}{R:Result->Shared->Prop}(c:ExcK K D)(X:K.In h)(I:InstAt h a ox D (some o))(hf:findObj K D (some o) name=some (.value v))(hq:R (.ok (.ret v)) ⟨h,g,d,t,os⟩):
 codeAny (model prog w) A (.call (.builtin "BaseException.__getattribute__") ⟨[.ref a,.str name tk],[]⟩) R ⟨h,g,d,t,os⟩:=by
 refine codeAny_call_builtin F.attr_ValueError.ga.plain F.entry_bexc_ga ?_;have bkd:builtinKind "BaseException.__getattribute__"=some .slot:=by decide+kernel
 have hsp:splitId "BaseException.__getattribute__"=some ("BaseException","__getattribute__"):=by decide+kernel
 have ha:=F.args_bexc_ga (.ref a) (.str name tk);have L0:=I.type (M:=model prog w);have L1:Looks (model prog w) h (isInstance (.ref a) (.type "BaseException")) true:=L0.andThen (looks_mroIn X c.mb);simp only[checkBuiltinCall,bkd,hsp];refine YJ (L1.at ?_)
 repeat (first|assumption|(with_reducible refine qN0 X I hf ?_)|exact hq|wp_step)
theorem qUx{tk:Tok}{fill ex:Bool}{Q:Value->Shared->Prop}(c:ExcK K D)(X:K.In h)(I:InstAt h a ox D (some o))(hf:findObj K D (some o) name=some (.value v))(hv:handedIn v=true)(hq:Q v ⟨h,g,d,t,os⟩):
 wpAny (model prog w) A (getAttrBy (.ref a) (.str name tk) fill ex) Q E ⟨h,g,d,t,os⟩:=by
 have L0:=I.type (M:=model prog w);have L1:=looks_findIn (M:=model prog w) X c.ga;have L2:=looks_findIn (M:=model prog w) X c.gt;have f3:=F.attr_ValueError.ga.bind (.ref a);have no2:(Value.builtin "BaseException.__getattribute__"==Value.builtin "object.__getattribute__")=false:=by decide+kernel
 have no1:(onTheHeap (Value.ref D) && Value.builtin "BaseException.__getattribute__"==Value.builtin "object.__getattribute__")=false:=by rw[no2];rfl
 have hho:=handedOut_of hv
 repeat (any_goals (first|assumption|(with_reducible refine YJ (L0.at ?_))|(with_reducible refine YJ (L1.at ?_))|(with_reducible refine YJ (L2.at ?_))|(with_reducible refine L1.at ?_)|(with_reducible refine L2.at ?_)|wp_step))
 have no3:(ex && onTheHeap (Value.builtin "BaseException.__getattribute__"))=false:=by rw[show onTheHeap (Value.builtin "BaseException.__getattribute__")=false from rfl,Bool.and_false]
 rw[YA (by rw[no3];decide)]
 repeat (any_goals (first|assumption|(with_reducible refine YJ (L0.at ?_))|(with_reducible refine YJ (L1.at ?_))|(with_reducible refine YJ (L2.at ?_))|(with_reducible refine L1.at ?_)|(with_reducible refine L2.at ?_)|wp_step))
 refine qQk c X I hf ?_;show wpAny _ _ (handedOut v) Q E _;rw[hho];exact YK hq
end
end L3
namespace L3
open PySem PySem.Spec PyProof.Rows L2
theorem qQ0{o:Obj}{es:Array DictEntry}{ep:Nat}{name:Str}{v:Value}(hd:o.data=.dict es ep)(hf:nsFind es name=some v):PySem.W.lookIn name o=some (some v):=by
 unfold PySem.W.lookIn;rw[hd];dsimp only;unfold nsFind findBy at hf;rw[<-Array.find?_toList]at hf;cases he:es.toList.find? (λe=>e.key.isStr name)with
 |none=>rw[he]at hf;cases hf
 |some en=>
  rw[he]at hf;have:en.val=v:=by simpa using hf
  subst this;rfl
inductive qWg(K:PySem.W.Frag)(f:Str)(Q:VK)(x:V)(H1:Hp):Prop
|mk a D dx fs i (_:x=.ref a) (_:H1 a=some (qE4 a (.ref D,some dx))) (_:H1 dx=some (.xd fs)) (_:fs.lookup f=some (.int i)) (_:ExcK K D) (_:PySem.W.hasDictIn K D=true) (_:PySem.W.findIn K (.ref D) f=some none) (_:Q (.int i) H1)
def qXe(K:PySem.W.Frag)(ta:TE)(f:Str):TE:=λσ H Q=>ta σ H λx H1=>qWg K f Q x H1
theorem qVb{X:Cx}{e:Expr}{f:Str}{pos:Pos}{ta:TE}(he:PE X e ta)(hb:attributeBase e f X.env (eval e X.env)=eval e X.env:=by rfl):PE X (.Attribute e f pos) (qXe X.K ta f):=by
 intro pins s σ H Q I h;refine qT5 hb (thn (he pins s σ H _ I h) λu s1 ⟨x,H1,I1,rx,a,D,dx,fs,i,ex,ea,ed,el,c,hh,hn,q⟩=>?_);subst ex;obtain rfl:u=Value.ref a:=rx;obtain⟨⟨vs,sl,qe⟩,_⟩:=I1.hok a _ ea;obtain⟨mA,⟨o,es,ep,eo,hd,_,_,hm⟩,r⟩:=I1.hok dx _ ed;have J:PySem.W.InstAt s1.heap a {cls:=.ref D,dict:=some dx,data:=.fields vs,slots:=sl} D (some o):=⟨qe,rfl,rfl,eo⟩;have rf:=r f;rw[el]at rf;cases hmf:mA f with
 |none=>rw[hmf]at rf;exact False.elim rf
 |some u=>
  rw[hmf]at rf;obtain⟨tk,rfl⟩:RelV (.int i) u:=rf;have hl:=qQ0 hd ((hm f).trans hmf);have hf:PySem.W.findObj X.K D (some o) f=some (.value (.int i tk)):=PySem.W.findObj_own hh hn rfl hl;unfold getAttr;obtain⟨hp,g,d,t,os⟩:=s1;refine YJ ?_;refine wpAny_mkText ?_;refine qUx c I1.kIn J hf rfl ?_;exact⟨.int i,H1,I1.tok _,⟨_,O⟩,q⟩
inductive PHs(X:Cx):List ExceptHandler->List (Addr×Option Nat×TS)->Prop where
 |nil:PHs X [] []
 |cons {x:Str} {np hpos:Pos} {nm:Option Str} {i:Option Nat} {b₀:Stmt} {suite:List Stmt} {C:Addr} {ts:TS} {hs:List ExceptHandler} {cs:List (Addr×Option Nat×TS)} (hcl:qI1 X nm i) (hg:Gl X x) (hm:X.mg x=some (.ref C))
  (h:∀l ea,PSs (hdX (pnX X l) ea).nox (b₀::suite) ts) (r:PHs X hs cs) (hdb:(x==("__debug__":Str))=false:=by decide):PHs X (.ExceptHandler (some (.Name x np)) nm (b₀::suite) hpos::hs) ((C,i,ts)::cs)
def qTv(K:PySem.W.Frag)(D:qN2)(ea:Addr)(B:EC)(σ':L2.St)(H':Hp):List (Addr×Option Nat×TS)->Prop
 |[]=>False
 |(C,i,ts)::cs=> ∃b,PySem.W.exmOne K B.1 (.ref C)=some b/\if b=true then ts (qOq D i) (qV6 i ea σ') (upd H' ea (qE4 ea B))else qTv K D ea B σ' H' cs
def qXw(K:PySem.W.Frag)(Ex:Value->Option Addr->Hp->Prop)(cs:List (Addr×Option Nat×TS))(tb:TS):TS:=λD σ H=>tb D σ H/\∀(ea:Addr) (B:EC) (σ':L2.St) (H':Hp),Ex B.1 B.2 H'->H' ea=none->σ'.length=σ.length->qTv K D ea B σ' H' cs
theorem qVa{X:Cx}{body:List Stmt}{h₀:ExceptHandler}{hs:List ExceptHandler}{cs:List (Addr×Option Nat×TS)}{pos:Pos}{tb:TS}(Ex:Value->Option Addr->Hp->Prop)(hN:X.N.Nodup)
 (hb:∀l,PSs ((pnX X l).wish (XE (pnX X l) Ex)) body tb) (hh:PHs X (h₀::hs) cs)
 (hstk:X.stack=X.env::X.outer:=by rfl) (hfr:X.env.frame=some X.env.locals:=by rfl) (hex:X.ex=[]:=by rfl):
 PS X (.Try body (h₀::hs) [] [] pos) (qXw X.K Ex cs tb):=by
 rintro pins s σ H D I ⟨h1,h2⟩;have I0:=qTi I;refine wpAny_Try_except (YL (hb (X.pn++pins) [] s σ H D (I0.wish _) h1) (λf s1 q=>?_) λe s1 q=>?_)
 . have q:=q.unwish
   cases f with
   |next=>
    obtain⟨σ',H',J,z⟩:=q;exact wpAny_execs_nil ⟨σ',H',zJ J,z⟩
   |brk=>
    obtain⟨σ',H',J,z⟩:=q;exact⟨σ',H',zJ J,z⟩
   |cont=>
    obtain⟨σ',H',J,z⟩:=q;exact⟨σ',H',zJ J,z⟩
   |ret u=>
    obtain⟨v,σ',H',J,r,z⟩:=q;exact⟨v,σ',H',zJ J,r,z⟩
 . obtain⟨ea,B,σ',H',rfl,I1,⟨n1,hd,r,n3⟩,ex⟩:=q
   have hlen:σ'.length=σ.length:=I1.len.trans I.len.symm;have ht:=h2 ea B σ' H' ex n1.2.1 hlen;have fr:X.A.frames=some (X.env::X.outer):=by rw[<-hstk];exact I.ok.frames
   have ff:s1.heap.FunFrames X.base (X.env::X.outer):=by have z:=I1.stack;rw[show (pnX X (X.pn++pins)).stack=X.env::X.outer from hstk]at z;exact z
   refine qK9 fr ff hfr r λh' N'=>?_;have N':Noted (frs X.stack) ea hd B s1.heap h':=by rw[hstk];exact N'
   obtain⟨I2,n1,hd2,r2,n3⟩:=xx I1 hex r n1 n3 N';clear h2;generalize h₀::hs=hl0 at hh
   induction hh with
   |nil=>exact False.elim ht
   | @cons x np hpos nm i b₀ suite C ts hs cs hcl hg hm hs' r' hdb ih=>
    obtain⟨b,hx,ht⟩:=ht;refine wpAny_handleBy_cons (codeAny_handlers_test (qAs (X:=hdX (pnX X (X.pn++pins)) ea) (qGc I2) hg hm ?_ hdb)) (by intro z;cases z);have LT:PySem.W.Looks (model X.prog X.w) h' (typeOf (.ref ea)) B.1:=by obtain⟨vs,sl,qe,_⟩:=r2;exact(PySem.W.Looks.ld qe).andThen .now
    refine(PySem.W.exm_one (M:=model X.prog X.w) I2.kIn LT hx).here ?_;cases b with
    |false=>
     rw[YA (by decide)]at ht;exact ih ht
    |true=>
     rw[YB rfl]at ht;show codeAny _ _ _ _ _;obtain⟨T,rfl,r3⟩:∃T,hd2=some T/\vM h' ea B (some T):=by
      obtain⟨T,_,_⟩:=N'.ent;cases hd2 with
      |some T=>exact⟨T,rfl,r2⟩
      |none=>
       obtain⟨T,_,rT⟩:=N'.ent;obtain⟨vs,sl,q1,q2⟩:=r2;obtain⟨vs',sl',q1',q2',_⟩:=rT;rw[q1]at q1';cases q1';rw[q2]at q2';cases q2'
     have run:∀(s4:Shared) (σ4:L2.St) (Q:Flow->Shared->Prop) (E:Value->Shared->Prop),Inv (hdX (pnX X (X.pn++pins)) ea) [] σ4 (upd H' ea (qE4 ea B)) s4->ts (qOq D i) σ4 (upd H' ea (qE4 ea B))->
      (∀f s5,SP (hdX (pnX X (X.pn++pins)) ea) [] (qOq D i) f s5->Q f s5)->wpAny (model X.prog X.w) (X.A.mark (some (.ref ea))) (execs (b₀::suite) X.env) Q E s4:=λs4 σ4 Q E I4 z k=>
      YL (hs' (X.pn++pins) ea [] s4 σ4 _ _ (I4.wish _) z) (λf s5 q=>k f s5 q.unwish) λ_ _ z=>z.elim
     have hdn:(pnX X (X.pn++pins)).calm=true->(pnX X (X.pn++pins)).A.handled=none:=I2.ok.hd;cases hcl with
     |none=>
      refine codeAny_handlers_suite (v8 r3 λh3 N3=>?_);obtain⟨I3,n1,hd3,r4,n3⟩:=xx I2 hex r3 n1 n3 (N3 _);refine run _ _ _ _ (qGc (qBe I3 hex n1 r4)) ht λf s5 q=>?_;cases f with
      |next=>obtain⟨σ5,H5,J,z⟩:=q;exact⟨σ5,H5,zJ (wQ J hdn),z⟩
      |brk=>obtain⟨σ5,H5,J,z⟩:=q;exact⟨σ5,H5,zJ (wQ J hdn),z⟩
      |cont=>obtain⟨σ5,H5,J,z⟩:=q;exact⟨σ5,H5,zJ (wQ J hdn),z⟩
      |ret u=>obtain⟨v,σ5,H5,J,rv,z⟩:=q;exact⟨v,σ5,H5,zJ (wQ J hdn),rv,z⟩
     |some hi hl=>
      refine codeAny_handlers_suite_as (v8 r3 λh3 N3=>?_);obtain⟨I3,n1,hd3,r4,n3⟩:=xx I2 hex r3 n1 n3 (N3 _);refine kT (X:=hdX (pnX X (X.pn++pins)) ea) (v:=.ref ea) (qGc (qBe I3 hex n1 r4)) hN hi (.inl hl) rfl (λs4 I4=>?_) (.inr hl);refine run _ _ _ _ I4 ht λf s5 q=>?_;cases f with
      |next=>obtain⟨σ5,H5,J,z⟩:=q;exact x9 (X:=pnX X (X.pn++pins)) (wQ J hdn) hN hi hl λs6 J6=>⟨_,H5,zJ J6,z⟩
      |brk=>obtain⟨σ5,H5,J,z⟩:=q;exact x9 (X:=pnX X (X.pn++pins)) (wQ J hdn) hN hi hl λs6 J6=>⟨_,H5,zJ J6,z⟩
      |cont=>obtain⟨σ5,H5,J,z⟩:=q;exact x9 (X:=pnX X (X.pn++pins)) (wQ J hdn) hN hi hl λs6 J6=>⟨_,H5,zJ J6,z⟩
      |ret u=>obtain⟨v,σ5,H5,J,rv,z⟩:=q;exact x9 (X:=pnX X (X.pn++pins)) (wQ J hdn) hN hi hl λs6 J6=>⟨v,_,H5,zJ J6,rv,z⟩
section
variable{X:Cx}
theorem qMu{bs:List Bool}{its:List Value}{P:Program}{w:World}{A:Around}(r:Vals (bs.map V.bl) its):TruthOf P w A (λi v=>its.toArray[i]?=some v) (λi=>(bs[i]?).getD false):=by
 intro i v s Q E hv hq;have hv':its[i]?=some v:=by simpa using hv
 have hl:=r.length;have hi:i<bs.length:=by have:=(Ya.mp hv').1;rw[YS]at hl;omega
 obtain⟨u,e1,q1⟩:=r.get (i:=i) (x:=.bl bs[i]) (by rw[Yj,YD hi];rfl);rw[hv']at e1;cases e1;cases q1;have e:(bs[i]?).getD false=bs[i]:=by rw[YD hi];rfl
 have hq':Q ((bs[i]?).getD false) s:=hq;rw[e]at hq';exact wpAny_truthy_bool hq'
theorem qQa(bs:List Bool):(List.range bs.length).all (λi=>(bs[i]?).getD false)=bs.all id:=by
 rw[Yv,List.all_eq_true,List.all_eq_true];constructor
 . intro h x hx
   obtain⟨i,hi,e⟩:=ZF.mp hx;have:=h i (by simpa using hi);rw[YD hi,e]at this;exact this
 . intro h i hi
   have hi:i<bs.length:=by simpa using hi
   rw[YD hi];exact h _ (List.getElem_mem hi)
theorem qRh(bs:List Bool):(List.range bs.length).any (λi=>(bs[i]?).getD false)=bs.any id:=by
 rw[Yv,List.any_eq_true,List.any_eq_true];constructor
 . rintro⟨i,hi,h⟩
   have hi:i<bs.length:=by simpa using hi
   rw[YD hi]at h;exact⟨_,List.getElem_mem hi,h⟩
 . rintro⟨x,hx,h⟩
   obtain⟨i,hi,e⟩:=ZF.mp hx;exact⟨i,by simpa using hi,by rw[YD hi,e];exact h⟩
theorem qIv(hc:X.calm=true):wu X (.builtin "all") (λxs H Q=> ∃(p:Addr) (bs:List Bool),xs=[.ref p]/\SqL X.K H p (bs.map V.bl)/\Q (.bl (bs.all id)) H):=by
 intro pins s σ H xs us Q I r h;obtain⟨p,bs,rfl,hq,q⟩:=h;obtain⟨u,rfl,rx⟩:=qKc r;cases rx;obtain⟨its,rv,pl,hz⟩:=I.list hq;have hp:p≠s.heap.objs.size:=by obtain⟨o,n,e,_⟩:=pl;exact Yo (YV e)
 have hh:X.A.in1.handled=none:=I.ok.hd hc;have hl:its.toArray.size=bs.length:=by rw[YG,<-rv.length,YS]
 refine call_all_walk (wpAny_pyIter_list pl.isList ?_);refine⟨s.heap.objs.size,_,_,_,_,_,_,O,Walks.list hh _ p hp its.toArray,⟨⟨_,Yn _ rfl,O,O⟩,pl.isList.at λo e=>YM _ e⟩,qMu rv,λh' tk hk=>?_⟩;rw[hl,qQa];refine⟨.bl _,H,I.kept λb o e=>hk b o (λz=>?_) (YM _ e),O,q⟩;have z':b=s.heap.objs.size:=by simpa using z
 exact YC (YV e) (by rw[z'];exact Nat.lt_irrefl _)
theorem qPh(hc:X.calm=true):wu X (.builtin "any") (λxs H Q=> ∃(p:Addr) (bs:List Bool),xs=[.ref p]/\SqL X.K H p (bs.map V.bl)/\Q (.bl (bs.any id)) H):=by
 intro pins s σ H xs us Q I r h;obtain⟨p,bs,rfl,hq,q⟩:=h;obtain⟨u,rfl,rx⟩:=qKc r;cases rx;obtain⟨its,rv,pl,hz⟩:=I.list hq;have hp:p≠s.heap.objs.size:=by obtain⟨o,n,e,_⟩:=pl;exact Yo (YV e)
 have hh:X.A.in1.handled=none:=I.ok.hd hc;have hl:its.toArray.size=bs.length:=by rw[YG,<-rv.length,YS]
 refine call_any_walk (wpAny_pyIter_list pl.isList ?_);refine⟨s.heap.objs.size,_,_,_,_,_,_,O,Walks.list hh _ p hp its.toArray,⟨⟨_,Yn _ rfl,O,O⟩,pl.isList.at λo e=>YM _ e⟩,qMu rv,λh' tk hk=>?_⟩;rw[hl,qRh];refine⟨.bl _,H,I.kept λb o e=>hk b o (λz=>?_) (YM _ e),O,q⟩;have z':b=s.heap.objs.size:=by simpa using z
 exact YC (YV e) (by rw[z'];exact Nat.lt_irrefl _)
theorem qWz:OpR X (compareOp .In) (λx y H Q=> ∃(a b:Str),x=.str a/\y=.str b/\Q (.bl (!(Builtin.Str.occurrences b a 0 b.length 1).isEmpty)) H):=by intro pins s σ H x y v u Q I rx ry h;obtain⟨a,b,rfl,rfl,q⟩:=h;obtain⟨t,rfl⟩:=rx;obtain⟨t',rfl⟩:=ry;exact P.in_str ⟨.bl _,H,I,O,q⟩
noncomputable def Its(z:Str):It:=⟨λi _=>i<z.cps.size,λi H x H'=>H'=H/\∃c,z.cps[i]?=some c/\x=.str ⟨#[c]⟩,λi _=>z.cps.size<=i⟩
theorem qQ5{P:Program}{w:World}{K:PySem.W.Frag}{tg:Expr}(it:Addr)(z:Str)(t:Tok)(ty:String)(hty:ty="str_ascii_iterator"\/ty="str_iterator"):
 qVs P w K tg (Its z) [it] it (λi h=>h.IsStrIter it ty z t i/\i<=z.cps.size) where
 mem:=by simp
 obj:=λi h st b hb=>by
  have e:b=it:=by simpa using hb
  subst e;obtain⟨⟨o,e,c,d⟩,_⟩:=st;exact⟨o,e,λv z=>by rw[d]at z;cases z⟩
 keep:=λi h h' st k=>⟨let ⟨o,ho,r⟩:=st.1;⟨o,k it (by simp) o ho,r⟩,st.2⟩
 item:=by
  intro X hP hw hK hc i pins s σ H E I hf st hg;subst hP hw hK;have hi:i<z.cps.size:=hg;have hx:z.cps[i]?=some z.cps[i]:=by simp[hi]
  obtain⟨f0,f1,f2,f3,f4,f5⟩:=hf it (by simp);have fin:∀h',h'.IsStrIter it ty z t (i+1)->Heap.SameBut it s.heap h'->∃u,some (Value.str ⟨#[z.cps[i]]⟩ s.toks)=some u/\wpAny (model X.prog X.w) X.A (letOwnedTupleGo tg (.ref it) u) (λ_ s2=> ∃x H',Inv X pins σ H' s2/\RelV x u/\(Its z).yld i H x H'/\(s2.heap.IsStrIter it ty z t (i+1)/\i+1<=z.cps.size)/\∀b∈[it],H' b=none) E {s with heap:=h',toks:=s.toks+1}:=λh' st' sb=>by have I1:Inv X pins σ H {s with heap:=h',toks:=s.toks+1}:=I.turned (t':=s.toks+1) (λb o hb e=>(sb.2 b hb).trans e) f0 f1 f3 f4 f5;obtain⟨o,e,c,d⟩:=id st';refine⟨_,rfl,qR2 (s:={s with heap:=h',toks:=s.toks+1}) e c d (by rcases hty with rfl|rfl <;> decide) ⟨.str ⟨#[z.cps[i]]⟩,H,I1,⟨_,rfl⟩,⟨rfl,_,hx,rfl⟩,⟨st',hi⟩,λb hb=>(hf b hb).1⟩⟩
  rcases hty with rfl|rfl
  . exact wpAny_pyNext_ascii_item st.1 hx fin
  . exact wpAny_pyNext_wide_item st.1 hx fin
 done:=by
  intro X hP hw hK hc i pins s σ H E I hf st hg;subst hP hw hK;have hi:z.cps.size<=i:=hg;have hx:z.cps[i]?=none:=by simp[hi]
  obtain⟨f0,f1,f2,f3,f4,f5⟩:=hf it (by simp);rcases hty with rfl|rfl
  . exact wpAny_pyNext_ascii_end (I.ok.hd hc) st.1 hx λh' eb=>⟨O,I.turned (t':=s.toks) (λb o hb e=>eb b o hb e) f0 f1 f3 f4 f5⟩
  . exact wpAny_pyNext_wide_end (I.ok.hd hc) st.1 hx λh' eb=>⟨O,I.turned (t':=s.toks) (λb o hb e=>eb b o hb e) f0 f1 f3 f4 f5⟩
 self:=λ_ _ _ _ _ st h=>by
  rcases hty with rfl|rfl
  . exact wpAny_pyIter_striter_ascii st.1 h
  . exact wpAny_pyIter_striter_wide st.1 h
def qZu(tl:TE):TI:=λσ H R=>tl σ H λx H1=> ∃z,x=.str z/\R (Its z) H1
theorem qV2{tg l:Expr}{tl:TE}(hl:PE X l tl):PI X tg l (qZu tl):=by
 intro pins s σ H R I h;refine thn (hl pins s σ H _ I h) λv s1 ⟨x,H1,I1,r1,q1⟩=>?_;obtain⟨z,e,q⟩:=q1;subst e;obtain⟨t,rfl⟩:=r1;have key:∀ty:String,(ty="str_ascii_iterator"\/ty="str_iterator")->PIE X pins σ tg R (.ref s1.heap.objs.size) {s1 with heap:=s1.heap.push {cls:=.type ty,data:=.fields #[.str z t,.int 0 0]}}:=λty hty=>by
  refine⟨s1.heap.objs.size,[s1.heap.objs.size],_,_,H1,O,I1.kept (t':=s1.toks) λb o e=>YM _ e,qQ5 _ z t ty hty,⟨⟨_,Yn _ rfl,O,O⟩,ZT _⟩,λb hb=>?_,q⟩;have e:b=s1.heap.objs.size:=by simpa using hb
  subst e;exact I1.fpOk (YI _) (I1.hok.fresh (YI _))
 cases ha:z.cps.all (· <128)
 . exact wpAny_pyIter_wide ha (key _ (.inr rfl))
 . exact wpAny_pyIter_ascii ha (key _ (.inl rfl))
theorem qSh{z:Str}{js:List Nat}{te:TE}{σ:L2.St}{H:Hp}{Q:VK}(Pv:Nat->List V->Hp->Prop)(h0:Pv 0 [] H)(hl:∀i acc H,i<=z.cps.size->Pv i acc H->acc.length<sizeLine)
 (hs:∀i c acc H,i<z.cps.size->z.cps[i]?=some c->Pv i acc H->te (some (.str ⟨#[c]⟩)::qCq js σ) H λv H'=>Nxt z.cps.size i (Pv (i+1) (acc++[v]) H')) (hd:∀acc H,Pv z.cps.size acc H->∀D,H D=none->Q (.ref D) (upd H D (.lst acc))):CompEnd js te σ Q (Its z) H:=by
 refine⟨λi m acc H=>m=z.cps.size-i/\i<=z.cps.size/\Pv i acc H,⟨z.cps.size,by simp,ZT _,h0⟩,?_⟩;rintro i m acc H2 ⟨rfl,hi,p⟩;refine⟨hl i acc H2 hi p,?_⟩;by_cases hlt:i<z.cps.size
 . refine .inr ⟨hlt,λx H3 y=>?_⟩
   obtain⟨e,c,hc,rfl⟩:=y;subst e;exact hs i c acc _ hlt hc p
 . have e:i=z.cps.size:=by omega
   subst e;exact .inl ⟨YI _,hd acc H2 p⟩
end
theorem qC7{X:Cx}{K:PySem.W.Frag}(h:X.K=K):wu X (.builtin "isinstance") (λxs H Q=> ∃x c t b,xs=[x,c]/\qNc K H x t/\
 (∃n,c=.ty n/\PySem.W.kitOne K t (.type n)=some b\/∃a,c=.ref a/\PySem.W.kitOne K t (.ref a)=some b)/\Q (.bl b) H):=h ▸ jh
inductive D where
 |leaf (v:V)
 |tup (xs:List D)
 |lst (xs:List D)
mutual
def Rep(K:PySem.W.Frag)(H:Hp):D->V->Prop
 |.leaf v,x=>x=v/\kY v=true
 |.tup ds,x=> ∃p xs,x=.ref p/\SqT K H p xs/\Reps K H ds xs
 |.lst ds,x=> ∃p xs,x=.ref p/\SqL K H p xs/\Reps K H ds xs
def Reps(K:PySem.W.Frag)(H:Hp):List D->List V->Prop
 |[],[]=>True
 |d::ds,x::xs=>Rep K H d x/\Reps K H ds xs
 |_,_=>False
end
mutual
noncomputable def eqD:D->D->Bool
 |.leaf v,.leaf w=>eqV v w
 |.tup xs,.tup ys=>wE xs ys
 |.lst xs,.lst ys=>wE xs ys
 |_,_=>false
noncomputable def wE:List D->List D->Bool
 |[],[]=>true
 |x::xs,y::ys=>eqD x y && wE xs ys
 |_,_=>false
end
mutual
noncomputable def dep:D->Nat
 |.leaf _=>0
 |.tup xs=>qDe xs+1
 |.lst xs=>qDe xs+1
noncomputable def qDe:List D->Nat
 |[]=>0
 |x::xs=>max (dep x) (qDe xs)
end
theorem Reps.length{K:PySem.W.Frag}{H:Hp}:∀{ds:List D} {xs:List V},Reps K H ds xs->ds.length=xs.length
 |[],[],_=>rfl
 |_::_,_::_,h=>by unfold Reps at h;rw[YE,YE,h.2.length]
 |[],_::_,h=>by unfold Reps at h;exact h.elim
 |_::_,[],h=>by unfold Reps at h;exact h.elim
theorem qRz{v:V}(h:kY v=true):eqV v v=true:=by cases v <;> simp_all[kY,eqV]
theorem qDt:∀{xs ys:List D},wE xs ys=true->xs.length=ys.length
 |[],[],_=>rfl
 |x::xs,y::ys,h=>by unfold wE at h;rw[Yl]at h;rw[YE,YE,qDt h.2]
 |[],_::_,h=>by simp[wE]at h
 |_::_,[],h=>by simp[wE]at h
noncomputable def itE(xs ys:List D)(j:Nat):Bool:=match xs[j]?,ys[j]? with
 |some a,some b=>eqD a b
 |_,_=>false
theorem qJy:∀(xs ys:List D),((List.range (min xs.length ys.length)).all (itE xs ys) && xs.length==ys.length)=wE xs ys
 |[],[]=>by simp[wE]
 |[],y::ys=>by simp[wE]
 |x::xs,[]=>by simp[wE]
 |x::xs,y::ys=>by
  have ih:=qJy xs ys;have e:min (x::xs).length (y::ys).length=min xs.length ys.length+1:=by simp only[YE];omega
  rw[e,List.range_succ_eq_map,List.all_cons,List.all_map];have e2:(itE (x::xs) (y::ys)) ∘ Nat.succ=itE xs ys:=by funext j;simp[itE]
  have e3:itE (x::xs) (y::ys) 0=eqD x y:=by simp[itE]
  have e4:((x::xs).length==(y::ys).length)=(xs.length==ys.length):=by rw[Yv];simp
  rw[e2,e3,e4,Bool.and_assoc,ih]
  conv=>rhs;unfold wE
theorem qLg{xs ys:List D}(h:xs.length=ys.length):(List.range xs.length).all (itE xs ys)=wE xs ys:=by have:=qJy xs ys;rw[<-h,Nat.min_self]at this;simpa using this
section
variable{X:Cx}{pins:List (Addr×Obj)}{σ:L2.St}{H:Hp}{s:Shared}
mutual
theorem qHz(I:Inv X pins σ H s):∀(d e:D) {x:V},Rep X.K H d x->Rep X.K H e x->eqD d e=true
 |.leaf v,.leaf w,x,h1,h2=>by unfold Rep at h1 h2;obtain⟨rfl,f⟩:=h1;obtain⟨rfl,_⟩:=h2;unfold eqD;exact qRz f
 |.leaf v,.tup ds,x,h1,h2=>by unfold Rep at h1 h2;obtain⟨rfl,f⟩:=h1;obtain⟨p,xs,rfl,_⟩:=h2;cases f
 |.leaf v,.lst ds,x,h1,h2=>by unfold Rep at h1 h2;obtain⟨rfl,f⟩:=h1;obtain⟨p,xs,rfl,_⟩:=h2;cases f
 |.tup ds,.leaf w,x,h1,h2=>by unfold Rep at h1 h2;obtain⟨rfl,f⟩:=h2;obtain⟨p,xs,rfl,_⟩:=h1;cases f
 |.lst ds,.leaf w,x,h1,h2=>by unfold Rep at h1 h2;obtain⟨rfl,f⟩:=h2;obtain⟨p,xs,rfl,_⟩:=h1;cases f
 |.tup ds,.tup es,x,h1,h2=>by unfold Rep at h1 h2;obtain⟨p,xs,rfl,t1,r1⟩:=h1;obtain⟨q,ys,e,t2,r2⟩:=h2;cases e;rw[I.tuple_inj t1 t2]at r1;unfold eqD;exact qE3 I ds es r1 r2
 |.lst ds,.lst es,x,h1,h2=>by unfold Rep at h1 h2;obtain⟨p,xs,rfl,t1,r1⟩:=h1;obtain⟨q,ys,e,t2,r2⟩:=h2;cases e;rw[I.list_inj t1 t2]at r1;unfold eqD;exact qE3 I ds es r1 r2
 |.tup ds,.lst es,x,h1,h2=>by unfold Rep at h1 h2;obtain⟨p,xs,rfl,t1,r1⟩:=h1;obtain⟨q,ys,e,t2,r2⟩:=h2;cases e;obtain⟨_,_,i1,_⟩:=I.tuple t1;obtain⟨_,_,i2,_⟩:=I.list t2;exact(SeqAt.ne_of_list_tuple i2.isList i1 rfl).elim
 |.lst ds,.tup es,x,h1,h2=>by unfold Rep at h1 h2;obtain⟨p,xs,rfl,t1,r1⟩:=h1;obtain⟨q,ys,e,t2,r2⟩:=h2;cases e;obtain⟨_,_,i1,_⟩:=I.list t1;obtain⟨_,_,i2,_⟩:=I.tuple t2;exact(SeqAt.ne_of_list_tuple i1.isList i2 rfl).elim
theorem qE3(I:Inv X pins σ H s):∀(ds es:List D) {xs:List V},Reps X.K H ds xs->Reps X.K H es xs->wE ds es=true
 |[],[],_,_,_=>by simp[wE]
 |d::ds,e::es,[],h1,_=>by unfold Reps at h1;exact h1.elim
 |d::ds,e::es,x::xs,h1,h2=>by unfold Reps at h1 h2;unfold wE;rw[qHz I d e h1.1 h2.1,qE3 I ds es h1.2 h2.2];rfl
 |[],e::es,[],_,h2=>by unfold Reps at h2;exact h2.elim
 |[],e::es,_::_,h1,_=>by unfold Reps at h1;exact h1.elim
 |d::ds,[],[],h1,_=>by unfold Reps at h1;exact h1.elim
 |d::ds,[],_::_,_,h2=>by unfold Reps at h2;exact h2.elim
end
theorem wJ{A:Around}{x:V}{u:Value}{p:Addr}{its:Array Value}(f:kY x=true)(r:RelV x u)(hu:A.units<cLine)(h:s.heap.IsTuple p its\/s.heap.IsList p its):SeqAt.EqAt A s u (.ref p) false/\SeqAt.EqAt A s (.ref p) u false:=by
 cases x with
 |non=>cases r;rcases h with h|h <;> exact⟨by first|exact SeqAt.EqAt.none_tuple h hu|exact SeqAt.EqAt.none_list h hu,by first|exact SeqAt.EqAt.tuple_none h hu|exact SeqAt.EqAt.list_none h hu⟩
 |bl b=>cases r;rcases h with h|h <;> exact⟨by first|exact SeqAt.EqAt.bool_tuple _ h hu|exact SeqAt.EqAt.bool_list _ h hu,by first|exact SeqAt.EqAt.tuple_bool _ h hu|exact SeqAt.EqAt.list_bool _ h hu⟩
 |int i=>obtain⟨t,rfl⟩:=r;rcases h with h|h <;> exact⟨by first|exact SeqAt.EqAt.int_tuple _ _ h hu|exact SeqAt.EqAt.int_list _ _ h hu,by first|exact SeqAt.EqAt.tuple_int _ _ h hu|exact SeqAt.EqAt.list_int _ _ h hu⟩
 |str i=>obtain⟨t,rfl⟩:=r;rcases h with h|h <;> exact⟨by first|exact SeqAt.EqAt.str_tuple _ _ h hu|exact SeqAt.EqAt.str_list _ _ h hu,by first|exact SeqAt.EqAt.tuple_str _ _ h hu|exact SeqAt.EqAt.list_str _ _ h hu⟩
 |_=>cases f
theorem Reps.get{K:PySem.W.Frag}{H:Hp}:∀{ds:List D} {xs:List V},Reps K H ds xs->∀(j:Nat) (d:D),ds[j]?=some d->∃x,xs[j]?=some x/\Rep K H d x
 |[],[],_,j,d,e=>by simp at e
 |a::ds,x::xs,h,0,d,e=>by
  unfold Reps at h;have:a=d:=by simpa using e
  subst this;exact⟨x,O,h.1⟩
 |a::ds,x::xs,h,j+1,d,e=>by unfold Reps at h;exact h.2.get j d (by simpa using e)
 |[],_::_,h,_,_,_=>by unfold Reps at h;exact h.elim
 |_::_,[],h,_,_,_=>by unfold Reps at h;exact h.elim
theorem qGv:∀{ds:List D} {j:Nat} {d:D},ds[j]?=some d->dep d<=qDe ds
 |a::ds,0,d,e=>by
  have:a=d:=by simpa using e
  subst this;unfold qDe;exact Nat.le_max_left _ _
 |a::ds,j+1,d,e=>by have:=qGv (ds:=ds) (j:=j) (d:=d) (by simpa using e);unfold qDe;exact ZD this (Nat.le_max_right _ _)
 |[],_,_,e=>by simp at e
theorem qQ4{A:Around}{ds es:List D}{xs ys:List V}{us ws:List Value}(r1:Reps X.K H ds xs)(r2:Reps X.K H es ys)(v1:Vals xs us)(v2:Vals ys ws)
 (ih:∀d e x y u w,d∈ds->Rep X.K H d x->Rep X.K H e y->RelV x u->RelV y w->SeqAt.EqAt A s u w (eqD d e)):
 ∀j (h1:j<us.toArray.size) (h2:j<ws.toArray.size),SeqAt.EqAt A s us.toArray[j] ws.toArray[j] (itE ds es j):=by
 intro j h1 h2;have l1:=v1.length;have l2:=v2.length;have m1:=r1.length;have m2:=r2.length;rw[YG]at h1 h2;have g1:ds[j]?=some ds[j]:=YD (by omega);have g2:es[j]?=some es[j]:=YD (by omega);obtain⟨x,ex,rx⟩:=r1.get j _ g1;obtain⟨y,ey,ry⟩:=r2.get j _ g2;obtain⟨u,eu,qu⟩:=v1.get ex;obtain⟨w,ew,qw⟩:=v2.get ey;have c1:us.toArray[j]=u:=by have:=(Ya.mp eu).2;simpa using this
 have c2:ws.toArray[j]=w:=by have:=(Ya.mp ew).2;simpa using this
 have e:itE ds es j=eqD ds[j] es[j]:=by unfold itE;rw[g1,g2]
 rw[c1,c2,e];exact ih _ _ _ _ _ _ (List.getElem_mem _) rx ry qu qw
theorem qXa(I:Inv X pins σ H s):∀(n:Nat) (A:Around) (d e:D) (x y:V) (u w:Value),dep d<=n->A.units+n<cLine->Rep X.K H d x->Rep X.K H e y->RelV x u->RelV y w->SeqAt.EqAt A s u w (eqD d e):=by
 intro n
 induction n with
 |zero=>
  intro A d e x y u w hd hu r1 r2 q1 q2;cases d with
  |leaf v=>
   unfold Rep at r1;obtain⟨rfl,f1⟩:=r1;cases e with
   |leaf v'=>
    unfold Rep at r2;obtain⟨rfl,f2⟩:=r2;unfold eqD;exact qMk q1 q2 f1 f2
   |tup es=>
    unfold Rep at r2;obtain⟨p,ys,rfl,t,_⟩:=r2;cases q2;obtain⟨_,_,i,_⟩:=I.tuple t;unfold eqD;exact(wJ f1 q1 hu (.inl i)).1
   |lst es=>
    unfold Rep at r2;obtain⟨p,ys,rfl,t,_⟩:=r2;cases q2;obtain⟨_,_,i,_⟩:=I.list t;unfold eqD;exact(wJ f1 q1 hu (.inr i.isList)).1
  |tup ds=>unfold dep at hd;omega
  |lst ds=>unfold dep at hd;omega
 |succ n ih=>
  intro A d e x y u w hd hu r1 r2 q1 q2;have hu0:A.units<cLine:=by omega
  have hu1:A.in1.units+n<cLine:=by show A.units+1+n<cLine;omega
  cases d with
  |leaf v=>
   unfold Rep at r1;obtain⟨rfl,f1⟩:=r1;cases e with
   |leaf v'=>
    unfold Rep at r2;obtain⟨rfl,f2⟩:=r2;unfold eqD;exact qMk q1 q2 f1 f2
   |tup es=>
    unfold Rep at r2;obtain⟨p,ys,rfl,t,_⟩:=r2;cases q2;obtain⟨_,_,i,_⟩:=I.tuple t;unfold eqD;exact(wJ f1 q1 hu0 (.inl i)).1
   |lst es=>
    unfold Rep at r2;obtain⟨p,ys,rfl,t,_⟩:=r2;cases q2;obtain⟨_,_,i,_⟩:=I.list t;unfold eqD;exact(wJ f1 q1 hu0 (.inr i.isList)).1
  |tup ds=>
   have r1':=r1;unfold Rep at r1;obtain⟨p,xs,rfl,t1,s1⟩:=r1;cases q1;obtain⟨us,v1,i1,_⟩:=I.tuple t1;cases e with
   |leaf v'=>
    unfold Rep at r2;obtain⟨rfl,f2⟩:=r2;unfold eqD;exact(wJ f2 q2 hu0 (.inl i1)).2
   |lst es=>
    unfold Rep at r2;obtain⟨q,ys,rfl,t2,_⟩:=r2;cases q2;obtain⟨_,_,i2,_⟩:=I.list t2;unfold eqD;exact SeqAt.EqAt.tuple_list i1 i2.isList hu0
   |tup es=>
    have r2':=r2;unfold Rep at r2;obtain⟨q,ys,rfl,t2,s2⟩:=r2;cases q2;by_cases pq:p=q
    . subst pq
      rw[qHz I _ _ r1' r2'];exact SeqAt.EqAt.same _
    obtain⟨ws,v2,i2,_⟩:=I.tuple t2;have hdd:qDe ds<=n:=by unfold dep at hd;omega
    have:=SeqAt.EqAt.of_refs pq (SeqAt.RcAt.tuples i1 i2 hu0 (qQ4 s1 s2 v1 v2 λd e x y u w hm ra rb qa qb=>by obtain⟨j,hj,ej⟩:=ZF.mp hm;have hde:dep d<=qDe ds:=qGv (j:=j) (by rw[YD hj,ej]);exact ih A.in1 d e x y u w (by omega) hu1 ra rb qa qb))
    rw[YG,YG,<-v1.length,<-v2.length,<-s1.length,<-s2.length,qJy]at this;unfold eqD;exact this
  |lst ds=>
   have r1':=r1;unfold Rep at r1;obtain⟨p,xs,rfl,t1,s1⟩:=r1;cases q1;obtain⟨us,v1,i1,_⟩:=I.list t1;cases e with
   |leaf v'=>
    unfold Rep at r2;obtain⟨rfl,f2⟩:=r2;unfold eqD;exact(wJ f2 q2 hu0 (.inr i1.isList)).2
   |tup es=>
    unfold Rep at r2;obtain⟨q,ys,rfl,t2,_⟩:=r2;cases q2;obtain⟨_,_,i2,_⟩:=I.tuple t2;unfold eqD;exact SeqAt.EqAt.list_tuple i1.isList i2 hu0
   |lst es=>
    have r2':=r2;unfold Rep at r2;obtain⟨q,ys,rfl,t2,s2⟩:=r2;cases q2;by_cases pq:p=q
    . subst pq
      rw[qHz I _ _ r1' r2'];exact SeqAt.EqAt.same _
    obtain⟨ws,v2,i2,_⟩:=I.list t2;have hdd:qDe ds<=n:=by unfold dep at hd;omega
    unfold eqD;by_cases hl:ds.length=es.length
    . have hsz:us.toArray.size=ws.toArray.size:=by rw[YG,YG,<-v1.length,<-v2.length,<-s1.length,<-s2.length];exact hl
      have:=SeqAt.EqAt.of_refs pq (SeqAt.RcAt.lists i1.isList i2.isList hsz hu0 (qQ4 s1 s2 v1 v2 λd e x y u w hm ra rb qa qb=>by obtain⟨j,hj,ej⟩:=ZF.mp hm;have hde:dep d<=qDe ds:=qGv (j:=j) (by rw[YD hj,ej]);exact ih A.in1 d e x y u w (by omega) hu1 ra rb qa qb))
      rw[YG,<-v1.length,<-s1.length,qLg hl]at this;exact this
    . have hsz:(us.toArray.size != ws.toArray.size)=true:=by rw[YG,YG,<-v1.length,<-v2.length,<-s1.length,<-s2.length];simpa using hl
      have e:wE ds es=false:=by rw[Bool.eq_false_iff];intro z;exact hl (qDt z)
      rw[e];exact SeqAt.EqAt.of_refs pq (SeqAt.RcAt.lists_lengths i1.isList i2.isList hsz hu0)
noncomputable def kin:D->D->Bool
 |.tup _,.tup _=>true
 |.lst _,.lst _=>true
 |_,_=>false
inductive qVu(K:PySem.W.Frag)(neg:Bool)(x:V)(y:V)(H:Hp)(Q:VK):Prop
|mk (d e:D) (_:Rep K H d x) (_:Rep K H e y) (_:kin d e=true) (_:dep d<=60) (_:Q (.bl (if neg then !eqD d e else eqD d e)) H)
theorem wL{A:Around}(I:Inv X pins σ H s)(hu:A.units+64<cLine){ds es:List D}{xs ys:List V}{us ws:List Value}(hd:qDe ds<=60)(s1:Reps X.K H ds xs)(s2:Reps X.K H es ys)(v1:Vals xs us)(v2:Vals ys ws):
 ∀j (h1:j<us.toArray.size) (h2:j<ws.toArray.size),SeqAt.EqAt A.in1 s us.toArray[j] ws.toArray[j] (itE ds es j):=
 qQ4 s1 s2 v1 v2 λd e x y u w hm ra rb qa qb=>by obtain⟨j,hj,ej⟩:=ZF.mp hm;have hde:dep d<=qDe ds:=qGv (j:=j) (by rw[YD hj,ej]);exact qXa I 60 A.in1 d e x y u w (by omega) (by show A.units+1+60<cLine;omega) ra rb qa qb
theorem qTk(hu:X.A.units+64<cLine):OpR X (compareOp .Eq) (qVu X.K false):=by
 intro pins s σ H x y v u Q I rx ry h;obtain⟨d,e,r1,r2,hk,hd,q⟩:=h;have hu0:X.A.units<cLine:=by omega
 cases d with
 |leaf a=>cases e <;> cases hk
 |tup ds=>
  cases e with
  |leaf b=>cases hk
  |lst es=>cases hk
  |tup es=>
   unfold Rep at r1 r2;obtain⟨p,xs,rfl,t1,s1⟩:=r1;obtain⟨p',ys,rfl,t2,s2⟩:=r2;cases rx;cases ry;obtain⟨us,v1,i1,_⟩:=I.tuple t1;obtain⟨ws,v2,i2,_⟩:=I.tuple t2;refine SeqAt.eq_tupleAt i1 i2 hu0 (wL I hu (by unfold dep at hd;omega) s1 s2 v1 v2) ?_;rw[YG,YG,<-v1.length,<-v2.length,<-s1.length,<-s2.length,qJy];refine⟨.bl _,H,I,O,?_⟩;unfold eqD at q;exact q
 |lst ds=>
  cases e with
  |leaf b=>cases hk
  |tup es=>cases hk
  |lst es=>
   unfold Rep at r1 r2;obtain⟨p,xs,rfl,t1,s1⟩:=r1;obtain⟨p',ys,rfl,t2,s2⟩:=r2;cases rx;cases ry;obtain⟨us,v1,i1,_⟩:=I.list t1;obtain⟨ws,v2,i2,_⟩:=I.list t2;unfold eqD at q;by_cases hl:ds.length=es.length
   . have hsz:us.toArray.size=ws.toArray.size:=by rw[YG,YG,<-v1.length,<-v2.length,<-s1.length,<-s2.length];exact hl
     refine SeqAt.eq_listAt i1.isList i2.isList hsz hu0 (wL I hu (by unfold dep at hd;omega) s1 s2 v1 v2) ?_;rw[YG,<-v1.length,<-s1.length,qLg hl];exact⟨.bl _,H,I,O,q⟩
   . have hsz:(us.toArray.size != ws.toArray.size)=true:=by rw[YG,YG,<-v1.length,<-v2.length,<-s1.length,<-s2.length];simpa using hl
     have e:wE ds es=false:=by rw[Bool.eq_false_iff];intro z;exact hl (qDt z)
     rw[e]at q;exact SeqAt.eq_list_lengthsAt i1.isList i2.isList hsz hu0 ⟨.bl _,H,I,O,q⟩
theorem qPf(hu:X.A.units+64<cLine):OpR X (compareOp .NotEq) (qVu X.K true):=by
 intro pins s σ H x y v u Q I rx ry h;obtain⟨d,e,r1,r2,hk,hd,q⟩:=h;have hu0:X.A.units<cLine:=by omega
 cases d with
 |leaf a=>cases e <;> cases hk
 |tup ds=>
  cases e with
  |leaf b=>cases hk
  |lst es=>cases hk
  |tup es=>
   unfold Rep at r1 r2;obtain⟨p,xs,rfl,t1,s1⟩:=r1;obtain⟨p',ys,rfl,t2,s2⟩:=r2;cases rx;cases ry;obtain⟨us,v1,i1,_⟩:=I.tuple t1;obtain⟨ws,v2,i2,_⟩:=I.tuple t2;refine SeqAt.RcNeAt.tuples i1 i2 hu0 (wL I hu (by unfold dep at hd;omega) s1 s2 v1 v2) _ _ _ _ ?_;rw[YG,YG,<-v1.length,<-v2.length,<-s1.length,<-s2.length,qJy];refine⟨.bl _,H,I,O,?_⟩;unfold eqD at q;exact q
 |lst ds=>
  cases e with
  |leaf b=>cases hk
  |tup es=>cases hk
  |lst es=>
   unfold Rep at r1 r2;obtain⟨p,xs,rfl,t1,s1⟩:=r1;obtain⟨p',ys,rfl,t2,s2⟩:=r2;cases rx;cases ry;obtain⟨us,v1,i1,_⟩:=I.list t1;obtain⟨ws,v2,i2,_⟩:=I.list t2;unfold eqD at q;by_cases hl:ds.length=es.length
   . have hsz:us.toArray.size=ws.toArray.size:=by rw[YG,YG,<-v1.length,<-v2.length,<-s1.length,<-s2.length];exact hl
     refine SeqAt.RcNeAt.lists i1.isList i2.isList hsz hu0 (wL I hu (by unfold dep at hd;omega) s1 s2 v1 v2) _ _ _ _ ?_;rw[YG,<-v1.length,<-s1.length,qLg hl];exact⟨.bl _,H,I,O,q⟩
   . have hsz:(us.toArray.size != ws.toArray.size)=true:=by rw[YG,YG,<-v1.length,<-v2.length,<-s1.length,<-s2.length];simpa using hl
     have e:wE ds es=false:=by rw[Bool.eq_false_iff];intro z;exact hl (qDt z)
     rw[e]at q;exact SeqAt.RcNeAt.lists_lengths i1.isList i2.isList hsz hu0 _ _ _ _ ⟨.bl _,H,I,O,q⟩
end
end L3
namespace L3
open PySem PySem.Spec PyProof.Rows L2
def CompEndF(js:List Nat)(tc:TT)(te:TE)(σ:L2.St)(Q:VK)(J:It)(H1:Hp):Prop:= ∃W:Nat->Nat->List V->Hp->Prop,(∃m,W 0 m [] H1)/\∀i m acc H2,W i m acc H2->
 acc.length<sizeLine/\((J.stop i H2/\∀D,H2 D=none->Q (.ref D) (upd H2 D (.lst acc)))\/
  (J.go i H2/\∀x H3,J.yld i H2 x H3->tc (some x::qCq js σ) H3 λok H4=>if ok=true then te (some x::qCq js σ) H4 λv H5=> ∃m',m'<m/\W (i+1) m' (acc++[v]) H5 else ∃m',m'<m/\W (i+1) m' acc H4))
def qWy(js:List Nat)(wi:TI)(tc:TT)(te:TE):TE:=λσ H Q=>wi σ H (CompEndF js tc te σ Q)
theorem CompEndF.g{js:List Nat}{tc:TT}{te:TE}(σ:L2.St)(Q:VK)(J:It)(H1:Hp):CompEndF js tc te σ Q J H1->qBf 1 js (qDd 0) tc te σ Q J H1:=λ⟨W,w0,st⟩=>
 ⟨W,w0,λi m acc H2 w=>⟨(st i m acc H2 w).1,(st i m acc H2 w).2.imp id λ⟨go,y⟩=>⟨go,λx H3 z=>⟨[some x],rfl,rfl,y x H3 z⟩⟩⟩⟩
theorem qGt{X:Cx}{elt iter cnd:Expr}{x:Str}{px:Pos}{scope:Scope}{cl:List (Str×Addr)}{pos:Pos}{wi:TI}{tc:TT}{te:TE}(ys:List Str)(js:List Nat)
 (hcm:X.calm=true) (hi:PI X (.Name x px) iter wi) (hc:∀C s H fp,PT (jz X scope cl C (x::ys) s H fp).nox cnd tc) (he:∀C s H fp,PE (jz X scope cl C (x::ys) s H fp).nox elt te) (hx:scope.names.lookup x=some .local:=by rfl) (hC:COk X scope cl iter [x] ys js:=by trivial):PE X (.ListComp elt [⟨.Name x px,iter,[cnd],0⟩] scope pos) (qWy js wi tc te):=
 qNi (xs:=[x]) (T:=CompEndF js tc te) hcm hi (λ_ _ _ _=>jX (i:=0) hC.nd rfl (.inl (lookup_relabel_local hx)) (.inr (lookup_relabel_local hx))) (λC s H fp=>qUa (hc C s H fp)) he hC CompEndF.g
theorem qGe{K:PySem.W.Frag}{a:Addr}{xs:List V}{js:List Nat}{tc:TT}{te:TE}{σ:L2.St}{H:Hp}{Q:VK}(Pv:Nat->List V->Hp->Prop)(h0:Pv 0 [] H)(hl:∀i acc H,i<=xs.length->Pv i acc H->SqL K H a xs/\acc.length<sizeLine)
 (hs:∀i x acc H,i<xs.length->xs[i]?=some x->Pv i acc H->tc (some x::qCq js σ) H λok H'=>if ok=true then te (some x::qCq js σ) H' λv H''=>Nxt xs.length i (Pv (i+1) (acc++[v]) H'')else Nxt xs.length i (Pv (i+1) acc H')) (hd:∀acc H,Pv xs.length acc H->∀D,H D=none->Q (.ref D) (upd H D (.lst acc))):CompEndF js tc te σ Q (Itl K a) H:=by
 refine⟨λi m acc H=>m=xs.length-i/\i<=xs.length/\Pv i acc H,⟨xs.length,by simp,ZT _,h0⟩,?_⟩;rintro i m acc H2 ⟨rfl,hi,p⟩;obtain⟨q,hz⟩:=hl i acc H2 hi p;refine⟨hz,?_⟩;by_cases hlt:i<xs.length
 . refine .inr ⟨⟨xs,xs[i],q,by simp[hlt]⟩,λx H3 y=>?_⟩
   obtain⟨e,y⟩:=y;subst e;exact hs i x acc _ hlt (y xs q) p
 . have e:i=xs.length:=by omega
   subst e;exact .inl ⟨⟨xs,q,YI _⟩,hd acc H2 p⟩
theorem qQq(n:Nat):sliceRange (sliceBounds none none (some (-1)) n).1 (sliceBounds none none (some (-1)) n).2.1 (sliceBounds none none (some (-1)) n).2.2=(List.range n).map λk=>n-1-k:=by
 have e1:(sliceBounds none none (some (-1)) n).1=(n:Int)-1:=by simp[sliceBounds]
 have e2:(sliceBounds none none (some (-1)) n).2.1=-1:=by simp[sliceBounds]
 have e3:(sliceBounds none none (some (-1)) n).2.2=-1:=by simp[sliceBounds]
 rw[e1,e2,e3];unfold sliceRange;have h0:¬((-1:Int)>0):=by decide
 have hc:(if (-1:Int)>0 then (if (n:Int)-1< -1 then (-1-((n:Int)-1)+ -1-1) / -1 else 0)else (if (n:Int)-1> -1 then ((n:Int)-1- -1- -1-1) / (- -1)else 0)).toNat=n:=by
  rw[YA h0];by_cases hn:(n:Int)-1> -1
  . rw[YB hn]
    have e:(- -1:Int)=1:=by decide
    rw[e,Int.ediv_one];omega
  . rw[YA hn]
    omega
 simp only[]at hc⊢;rw[hc];refine List.map_congr_left λk hk=>?_;have:=List.mem_range.mp hk;omega
theorem qS0(its:List Value):slicePick its.toArray none none (some (-1))=its.reverse.toArray:=by
 unfold slicePick;rw[qQq];congr 1;rw[List.filterMap_map];apply List.ext_getElem?;intro j;have key:∀n,n<=its.length->(List.range n).filterMap ((λx=>its.toArray[x]?) ∘ λk=>its.toArray.size-1-k)=its.reverse.take n:=by
  intro n
  induction n with
  |zero=>intro _;simp
  |succ n ih=>
   intro hn;rw[List.range_succ,List.filterMap_append,ih (by omega),Yt];have hi:its.length-1-n<its.length:=by omega
   have e:its.reverse[n]?=some its[its.length-1-n]:=by rw[List.getElem?_reverse (by omega),YD hi]
   rw[e];simp[hi]
 rw[YG]at key⊢;rw[key its.length (YI _),List.take_of_length_le (by simp)]
theorem Vals.rev{xs:List V}{us:List Value}(r:Vals xs us):Vals xs.reverse us.reverse:=by
 induction r with
 |nil=>exact .nil
 |cons h t ih=>
  rw[List.reverse_cons,List.reverse_cons];exact ih.append (.cons h .nil)
inductive qYj(K:PySem.W.Frag)(Q:VK)(x:V)(H1:Hp):Prop
|mk a xs (_:x=.ref a) (_:SqL K H1 a xs) (_:∀p,H1 p=none->Q (.ref p) (upd H1 p (.lst xs.reverse)))
def qZq(K:PySem.W.Frag)(te:TE):TE:=λσ H Q=>te σ H λx H1=>qYj K Q x H1
theorem qWw{X:Cx}{e:Expr}{te:TE}{j:Nat}{pc pu p2 pos:Pos}(he:PE X e te):PE X (.Subscript e (.Slice none none (some (.UnaryOp .USub (.Constant (.int 1) j pc) pu)) p2) pos) (qZq X.K te):=by intro pins s σ H Q I h;refine Subscript_ (thn (he pins s σ H _ I h) λv s1 ⟨x,H1,I1,r1,q1⟩=>?_);obtain⟨a,xs,rfl,hx,q⟩:=q1;cases r1;refine wpAny_Slice ?_;rw[evalPart_none];refine YK (YK ?_);have po:=(zZ (X:=X) (wS (X:=X) (pos:=pu) zI (qG (X:=X) (i:=1) (j:=j) (pos:=pc)))) pins s1 σ H1 (λi H2=>i=some (-1)/\H2=H1) I1 ⟨1,rfl,-1,rfl,rfl,rfl⟩;refine thn po λvs s3 h3=>?_;obtain⟨st,H3,I3,ps,rfl,rfl⟩:=h3;have I4:Inv X pins σ H3 {s3 with heap:=s3.heap.push {cls:=.type "slice",data:=.fields #[.none,.none,vs]}}:=I3.kept (t':=s3.toks) λb ob q=>YM _ q;obtain⟨its,r,ht,hz⟩:=I4.list hx;have hlen:=r.length;show wpAny (model X.prog X.w) X.A (subscriptTail e (.Slice none none (some (.UnaryOp .USub (.Constant (.int 1) j pc) pu)) p2) (.ref a) (.ref s3.heap.objs.size)) (EP X pins σ Q) X.xe {s3 with heap:=s3.heap.push {cls:=.type "slice",data:=.fields #[.none,.none,vs]}};refine tail_any (ops:=[.ref a,.ref s3.heap.objs.size]) ht.isList.typeIs slot_list_getitem.lookup ?_ (by with_unfolding_all rfl);refine wpAny_getItem_list_slice ht.isList (Heap.IsSliceOf.new ..) .none .none ps (by simp) ?_ (by rw[YG] <;> omega);rw[qS0];refine⟨.ref _,_,I4.laid (t':=s3.toks) (o:=.lst xs.reverse) (λb ob q=>YM _ q) (YI _) ?_,O,q _ (I4.hok.fresh (YI _))⟩;exact⟨by rw[List.length_reverse];exact hz,_,0,L3.Vals.rev r,Yn _ rfl⟩
theorem qVf{X:Cx}{pins:List (Addr×Obj)}{σ:L2.St}{H:Hp}{s:Shared}{h':Heap}{t':Nat}{ch:List Addr}(I:Inv X pins σ H s)(hf:∀b∈ch,qSr X pins H b)
 (k:∀b o,b∉ch->s.heap.get? b=some o->h'.get? b=some o):Inv X pins σ H {s with heap:=h',toks:=t'}:=by
 have nit:∀b u,H b=some u->b∉ch:=λb u e z=>by rw[(hf b z).1]at e;cases e
 refine I.step (g':=s.gens) (d':=s.drawn) (ch:=ch) (λb hb=>?_) (λb o _ _ hc e _=>k b o hc e) (λb o _ _ hc e _=>⟨o.slots,k b o hc e⟩) (λ_ _ _ _ n=>n)
  (λb o hc e=>⟨o,k b o hc e⟩) (λ_ _ e=>e) (λ_ _ _ e=>e) (λb ps e=>⟨#[],by rw[e];simp⟩) (λm hm=>?_) (λb u e=>?_) I.bare
 . obtain⟨_,f1,_,f3,f4,f5⟩:=hf b hb
   exact⟨f3,f1,f4,f5⟩
 . obtain⟨o,es,ep,ho,r⟩:=hm
   exact⟨o,es,ep,k _ o (λz=>(hf _ z).2.1 rfl) ho,r⟩
 . refine(I.hok b u e).stay (λc v hc q=>k c v ?_ q) (λ_ q=>q) λ_ _ q=>q
   rcases hc with z|z
   . rw[z];exact nit b u e
   . exact nit c _ z
theorem qWq{X:Cx}{pins:List (Addr×Obj)}{σ:L2.St}{H:Hp}{s:Shared}{h':Heap}{t':Nat}{ch:List Addr}{xs:List V}{us:Array Value}(I:Inv X pins σ H s)(hf:∀b∈ch,qSr X pins H b)(hlt:∀b∈ch,b<s.heap.objs.size)
 (k:∀b o,b∉ch->s.heap.get? b=some o->h'.get? b=some o) (hT:h'.get? s.heap.objs.size=some {cls:=.type "tuple",data:=.seq us}) (r:Vals xs us.toList) (hz:xs.length<=sizeLine):
 Inv X pins σ (upd H s.heap.objs.size (.tup xs)) {s with heap:=h',toks:=t'}/\∀b∈ch,upd H s.heap.objs.size (.tup xs) b=none:=by
 have hn:∀b∈ch,upd H s.heap.objs.size (.tup xs) b=none:=λb hb=>by rw[qg (Yo (hlt b hb))];exact(hf b hb).1
 have I1:Inv X pins σ (upd H s.heap.objs.size (.tup xs)) {s with heap:=s.heap.push {cls:=.type "tuple",data:=.seq us},toks:=t'}:=
  I.laid (t':=t') (λb o e=>YM _ e) (YI _) ⟨hz,us.toList,r,⟨_,Yn _ rfl,rfl,_,rfl⟩⟩
 have I2:=qVf (h':=h') (t':=t') (ch:=ch) I1 (λb hb=>⟨hn b hb,(hf b hb).2⟩) (λb o hb e=>?_)
 . exact⟨I2,hn⟩
 rcases Heap.get?_push_cases e with ⟨e1,e2⟩|e1
 . rw[e1,e2];exact hT
 . exact k b o hb e1
noncomputable def Ite(K:PySem.W.Frag)(a:Addr):It:=
 ⟨λi H=> ∃xs x,SqL K H a xs/\xs[i]?=some x,λi H x H'=> ∃p v,H p=none/\x=.ref p/\(∀xs,SqL K H a xs->xs[i]?=some v)/\H'=upd H p (.tup [.int i,v]),λi H=> ∃xs,SqL K H a xs/\xs.length<=i⟩
theorem qPk{P:Program}{w:World}{K:PySem.W.Frag}{elts:List Expr}{k1:Nat}{pos:Pos}(a e it:Addr)(hne:e≠it):
 qVs P w K (.Tuple elts k1 pos) (Ite K a) [e,it] e (λi h=>(∃old,IsEnum h e it (i:Nat) old)/\h.IsListIter it a i) where
 mem:=by simp
 obj:=λi h st b hb=>by
  obtain⟨⟨old,he⟩,o,ho,c,d⟩:=st;rcases YU.mp hb with rfl|hb
  . exact⟨_,he,λv z=>by cases z⟩
  . have e:b=it:=by simpa using hb
    subst e;exact⟨o,ho,λv z=>by rw[d]at z;cases z⟩
 keep:=λi h h' st k=>by obtain⟨⟨old,he⟩,hi⟩:=st;exact⟨⟨old,k e (by simp) _ he⟩,hi.at λo q=>k it (by simp) o q⟩
 item:=by
  intro X hP hw hK hc i pins s σ H E I hf st hg;subst hP hw hK;obtain⟨⟨old,he⟩,hit⟩:=st;obtain⟨xs,x,hq,hx⟩:=hg;obtain⟨its,rv,p,hz⟩:=I.list hq;obtain⟨u,hu,ru⟩:=rv.get hx;refine wpAny_pyNext_enum_item he hit p.isList (x:=u) (by simpa using hu) hne λh' heo hit' hT hsz hk=>?_;refine⟨_,O,wpAny_letOwnedTupleGo_enum heo λh'' he'' hs''=>?_⟩;have hel:e<s.heap.objs.size:=YV he;have hil:it<s.heap.objs.size:=by obtain⟨_,q,_⟩:=hit;exact YV q
  have T:=qWq (h':=h'') (t':=s.toks+1) (ch:=[e,it]) (xs:=[.int i,x]) (us:= #[.int i s.toks,u]) I hf (λb hb=>by
   rcases YU.mp hb with rfl|hb
   . exact hel
   . have z:b=it:=by simpa using hb
     subst z;exact hil)
   (λb o hb q=>(hs''.2 b (λz=>hb (by simp[z]))).trans (hk b o (λz=>hb (by simp[z])) (λz=>hb (by simp[z])) q))
   ((hs''.2 _ (Nat.ne_of_gt hel)).trans hT) (.cons ⟨_,rfl⟩ (.cons ru .nil)) (by show 2<=sizeLine;decide)
  refine⟨.ref s.heap.objs.size,_,T.1,O,⟨_,x,I.hok.fresh (YI _),O,λys hy=>by rw[I.list_inj hy hq];exact hx,O⟩,⟨⟨u,by simpa using he''⟩,hit'.at λo q=>(hs''.2 it hne.symm).trans q⟩,T.2⟩
 done:=by intro X hP hw hK hc i pins s σ H E I hf st hg;subst hP hw hK;obtain⟨⟨old,he⟩,hit⟩:=st;obtain⟨xs,hq,hx⟩:=hg;obtain⟨its,rv,p,hz⟩:=I.list hq;obtain⟨f0,f1,f2,f3,f4,f5⟩:=hf it (by simp);have hl:=rv.length;exact wpAny_pyNext_enum_end (I.ok.hd hc) he hit p.isList (by simp;omega) λh' eb=>⟨O,I.turned (t':=s.toks) (λb o hb e=>eb b o hb e) f0 f1 f3 f4 f5⟩
 self:=λ_ _ _ _ _ st h=>by obtain⟨⟨old,he⟩,_⟩:=st;exact wpAny_pyIter_enum he h
inductive qWv(K:PySem.W.Frag)(R:It->Hp->Prop)(vs:List V)(H1:Hp):Prop
|mk a (_:vs=[.ref a]) (_:(∃xs,SqL K H1 a xs)) (_:R (Ite K a) H1)
def qYk(K:PySem.W.Frag)(t:TA):TI:=λσ H R=>t σ H λvs H1=>qWv K R vs H1
theorem qT3{X:Cx}{l:Expr}{tl:TA}{elts:List Expr}{k1:Nat}{tpos p pos:Pos}(hg:Gl X "enumerate")(hm:X.mg "enumerate"=none)(hl:PA X [l] tl)(hs:starEach [l] X.env=[(false,eval l X.env)]:=by rfl):
 PI X (.Tuple elts k1 tpos) (.Call (.Name "enumerate" p) [l] [] pos) (qYk X.K tl):=by
 intro pins s σ H R I h;refine Call_ (qJz I hg hm boot_enumerate (PyProof.Rows.callWith_type1 (thn (hl pos pins s σ H _ I h) λus s1 ⟨vs,H1,I1,r1,q1⟩=>?_) hs rfl));obtain⟨a,e,⟨xs,hq⟩,q⟩:=q1;subst e;cases r1 with
 |cons r rr=>
  cases rr;cases r;obtain⟨its,rv,pl,hz⟩:=I1.list hq;refine call_enumerate_list pl.isList λh' he hit hsz hk=>?_;refine wpAny_pyIter_enum he ?_;refine⟨s1.heap.objs.size+1,[s1.heap.objs.size+1,s1.heap.objs.size],_,_,H1,O,I1.kept (t':=s1.toks) λb o e=>hk b o e,qPk a _ _ (Nat.succ_ne_self _),⟨⟨_,he⟩,hit⟩,λb hb=>?_,q⟩;rcases YU.mp hb with rfl|hb
  . exact I1.fpOk (Nat.le_succ _) (I1.hok.fresh (Nat.le_succ _))
  . have e:b=s1.heap.objs.size:=by simpa using hb
    subst e;exact I1.fpOk (YI _) (I1.hok.fresh (YI _))
theorem qRw{K:PySem.W.Frag}{a:Addr}{xs:List V}{g:TG}{tb:TS}{D:qN2}{σ:L2.St}{H:Hp}(Pv:Nat->L2.St->Hp->Prop)(h0:Pv 0 σ H)(hl:∀i σ H,i<=xs.length->Pv i σ H->SqL K H a xs)
 (hs:∀i x σ H p,xs[i]?=some x->Pv i σ H->H p=none->g (.ref p) σ (upd H p (.tup [.int i,x])) λσ2 H2=>tb {D with nx:=Pv (i+1),ct:=Pv (i+1),bk:=D.nx} σ2 H2) (hd:∀σ H,Pv xs.length σ H->D.nx σ H):
 ∃W:Nat->Nat->L2.St->Hp->Prop,(∃m,W 0 m σ H)/\∀i m σ H,W i m σ H->
  ((Ite K a).stop i H/\D.nx σ H)\/((Ite K a).go i H/\∃N:L2.St->Hp->Prop,(∀σ' H',N σ' H'->∃m',m'<m/\W (i+1) m' σ' H')/\∀x H',(Ite K a).yld i H x H'->g x σ H' λσ2 H2=>tb {D with nx:=N,ct:=N,bk:=D.nx} σ2 H2):=by
 refine⟨λi m σ H=>m=xs.length-i/\i<=xs.length/\Pv i σ H,⟨xs.length,by simp,ZT _,h0⟩,?_⟩;rintro i m σ H ⟨rfl,hi,p⟩;have q:=hl i σ H hi p;by_cases hlt:i<xs.length
 . refine .inr ⟨⟨xs,xs[i],q,by simp[hlt]⟩,Pv (i+1),λσ' H' p'=>⟨xs.length-(i+1),by omega,O,hlt,p'⟩,λx H' y=>?_⟩
   obtain⟨z,v,hz,rfl,y,rfl⟩:=y;exact hs i v σ _ z (y xs q) p hz
 . have e:i=xs.length:=by omega
   subst e;exact .inl ⟨⟨xs,q,YI _⟩,hd σ H p⟩
theorem qP2:∀{ns:List Int} {us:List Value},Vals (ns.map V.int) us->∃xs:List (Int×Tok),us.toArray=intItems xs.toArray/\xs.map (·.1)=ns
 |[],us,r=>by cases r;exact⟨[],by simp[intItems],rfl⟩
 |n::ns,us,r=>by
  rw[ZH]at r;cases r with
  |cons h t=>
   obtain⟨xs,e1,e2⟩:=qP2 t;obtain⟨tk,rfl⟩:=h;refine⟨(n,tk)::xs,?_,by rw[ZH,e2]⟩;have e3:=congrArg Array.toList e1;simp only[intItems,List.map_toArray]at e3⊢;rw[e3];rfl
theorem qPu{X:Cx}(hc:X.calm=true):wu X (.builtin "sum") (λxs H Q=> ∃(p:Addr) (ns:List Int),xs=[.ref p]/\SqL X.K H p (ns.map V.int)/\Q (.int ns.sum) H):=by
 intro pins s σ H xs us Q I r h;obtain⟨p,ns,rfl,hq,q⟩:=h;obtain⟨u,rfl,rx⟩:=qKc r;cases rx;obtain⟨its,rv,pl,hz⟩:=I.list hq;obtain⟨ys,e1,e2⟩:=qP2 rv;have pl':=pl.isList;rw[e1]at pl';refine sum_intListG (I.ok.hd hc) pl' λh' tk t' hk=>?_;rw[preSum_eq,List.take_of_length_le (by simp)];have e3:ys.toArray.toList.map (·.1)=ns:=by simpa using e2
 rw[e3];exact⟨.int ns.sum,H,I.kept λb o e=>hk b o e,⟨_,O⟩,q⟩
def jAa(t:TT):TT:=λσ H Q=> ∃R:Bool->Hp->Prop,t σ H R/\∀b H',R b H'->Q b H'
theorem qNe{X:Cx}{e:Expr}{t:TT}(h:PT X e t):PT X e (jAa t):=by rintro pins s σ H Q I ⟨R,ht,hR⟩;exact thn (h pins s σ H R I ht) λb s' ⟨H',I',r⟩=>⟨H',I',hR b H' r⟩
theorem qBi{X:Cx}{K:PySem.W.Frag}(h:X.K=K):wu X (.type "list") (λxs H Q=> ∃p ys,xs=[.ref p]/\(SqL K H p ys\/SqT K H p ys)/\∀l,H l=none->Q (.ref l) (upd H l (.lst ys))):=h ▸ xt
theorem qRs{K:PySem.W.Frag}{a:Addr}{xs:List V}{js:List Nat}{te:TE}{σ:L2.St}{H:Hp}{Q:VK}(Pv:Nat->List V->Hp->Prop)(h0:Pv 0 [] H)(hl:∀i acc H,i<=xs.length->Pv i acc H->SqT K H a xs/\acc.length<sizeLine)
 (hs:∀i x acc H,i<xs.length->xs[i]?=some x->Pv i acc H->te (some x::qCq js σ) H λv H'=>Nxt xs.length i (Pv (i+1) (acc++[v]) H')) (hd:∀acc H,Pv xs.length acc H->∀D,H D=none->Q (.ref D) (upd H D (.lst acc))):CompEnd js te σ Q (Itt K a) H:=by
 refine⟨λi m acc H=>m=xs.length-i/\i<=xs.length/\Pv i acc H,⟨xs.length,by simp,ZT _,h0⟩,?_⟩;rintro i m acc H2 ⟨rfl,hi,p⟩;obtain⟨q,hz⟩:=hl i acc H2 hi p;refine⟨hz,?_⟩;by_cases hlt:i<xs.length
 . refine .inr ⟨⟨xs,xs[i],q,by simp[hlt]⟩,λx H3 y=>?_⟩
   obtain⟨e,y⟩:=y;subst e;exact hs i x acc _ hlt (y xs q) p
 . have e:i=xs.length:=by omega
   subst e;exact .inl ⟨⟨xs,q,YI _⟩,hd acc H2 p⟩
theorem qNx{X:Cx}{K:PySem.W.Frag}(h:X.K=K):OpR X (compareOp .In) (rIn K false):=h ▸ jF
theorem qQ1{K:PySem.W.Frag}{a:Addr}{xs:List V}{js:List Nat}{tc:TT}{te:TE}{σ:L2.St}{H:Hp}{Q:VK}(Pv:Nat->List V->Hp->Prop)(h0:Pv 0 [] H)(hl:∀i acc H,i<=xs.length->Pv i acc H->SqT K H a xs/\acc.length<sizeLine)
 (hs:∀i x acc H,i<xs.length->xs[i]?=some x->Pv i acc H->tc (some x::qCq js σ) H λok H'=>if ok=true then te (some x::qCq js σ) H' λv H''=>Nxt xs.length i (Pv (i+1) (acc++[v]) H'')else Nxt xs.length i (Pv (i+1) acc H')) (hd:∀acc H,Pv xs.length acc H->∀D,H D=none->Q (.ref D) (upd H D (.lst acc))):CompEndF js tc te σ Q (Itt K a) H:=by
 refine⟨λi m acc H=>m=xs.length-i/\i<=xs.length/\Pv i acc H,⟨xs.length,by simp,ZT _,h0⟩,?_⟩;rintro i m acc H2 ⟨rfl,hi,p⟩;obtain⟨q,hz⟩:=hl i acc H2 hi p;refine⟨hz,?_⟩;by_cases hlt:i<xs.length
 . refine .inr ⟨⟨xs,xs[i],q,by simp[hlt]⟩,λx H3 y=>?_⟩
   obtain⟨e,y⟩:=y;subst e;exact hs i x acc _ hlt (y xs q) p
 . have e:i=xs.length:=by omega
   subst e;exact .inl ⟨⟨xs,q,YI _⟩,hd acc H2 p⟩
variable{X:Cx}
end L3
namespace L3
open PySem PySem.Spec PyProof.Rows L2 PySem.NumText PySem.Builtin.Str
theorem qRo{X:Cx}{K:PySem.W.Frag}{e:Expr}{f:Str}{pos:Pos}{ta:TE}(h:X.K=K)(he:PE X e ta)(hb:attributeBase e f X.env (eval e X.env)=eval e X.env:=by rfl):PE X (.Attribute e f pos) (qXe K ta f):=h ▸ qVb he hb
def XES(X:Cx)(Ex:Value->Option Addr->L2.St->Hp->Prop):Value->Shared->Prop:=λe s'=> ∃ea C σ H',e=.ref ea/\Inv X [] σ H' s'/\qTf X.s₀.heap H' X.pn s'.heap ea C/\Ex C.1 C.2 σ H'
def qWr(sp:Sp)(Ex:Value->Option Addr->L2.St->Hp->Prop)(t:TA):TE:=λσ H Q=>t σ H λvs H1=>sp (vs++[]) H1 Q λC od H'=>Ex C od σ H'
theorem qXl{X:Cx}{Ex:Value->Option Addr->L2.St->Hp->Prop}(hex:X.ex=[]){pins:List (Addr×Obj)}{σ:L2.St}{H:Hp}{s:Shared}{e:Value}{s':Shared}(I:Inv (X.wish (XES X Ex)) pins σ H s)
 (h:CXR X.prog X.w X.stack H s (λC od H'=>Ex C od σ H') e s'):XES X Ex e s':=by
 obtain⟨ea,C,H',rfl,os,bare,un,hok,⟨n1,hd,r,n3⟩,q⟩:=h;have I0:=I.unwish;have I1:Inv X pins σ H' s':=I0.call' (ch:=[]) os un hok bare λb z=>nomatch z
 have old:∀b,s.heap.get? b=none->X.s₀.heap.get? b=none:=λb z=>by
  cases w:X.s₀.heap.get? b with
  |none=>rfl
  |some o=>
   obtain⟨o',w'⟩:=I0.base.there b o w (by rw[hex];intro y;cases y);rw[z]at w';cases w'
 have pn:∀b,s.heap.get? b=none->∀p∈X.pn,p.1≠b:=λb z p hp w=>by have q:=(I0.pin p (Yq _ hp)).1;rw[w,z]at q;cases q
 exact⟨ea,C,σ,H',O,I1.pins_of (pins':=[]) λp hp=>(nomatch hp),⟨⟨old _ n1.1,n1.2.1,pn _ n1.1⟩,hd,r,λT e=>⟨old _ (n3 T e).1,(n3 T e).2.1,pn _ (n3 T e).1⟩⟩,q⟩
theorem qSq{X:Cx}{Ex:Value->Option Addr->L2.St->Hp->Prop}{k j:Nat}{x:Str}{st:Stmt}{ps:List Str}{f:Addr}{fd:FuncData}{sp:Sp}{e:Expr}{es:List Expr}{t:TA}{p pos:Pos}(D:Def X.K X.mg x st ps f fd)(F:FnOk X.prog X.w X.K X.mg X.base (CXR X.prog X.w) j f fd ps sp)(hr:Room k X.A)(hg:Gl X x)
 (ha:PA (X.wish (XES X Ex)) (e::es) t) (hj:j<=k:=by decide) (hex:X.ex=[]:=by rfl)
 (hdb:(x==("__debug__":Str))=false:=by decide) (he:starEach (e::es) X.env=(false,eval e X.env)::starEach es X.env:=by rfl) (hpl:(backTo pos (starEach es X.env)).any (·.1)=false:=by rfl):
 PE (X.wish (XES X Ex)) (.Call (.Name x p) (e::es) [] pos) (qWr sp Ex t):=by
 intro pins s σ H Q I h;refine wpAny_Call_Name_kw (qAs I hg D.m ?_ hdb);refine PySem.W.callWith_K (h₀:=X.base) I.ok.mod.kin D.F.kp (thn (ha pos pins s σ H _ I h) λus s1 ⟨vs,H1,I1,r,q⟩=>⟨I1.kIn,?_⟩) he hpl;have r2:Vals (vs++[]) (us++[]):=r.append .nil;have hl:(us++[]).length=ps.length:=by rw[<-r2.length];exact F.len _ _ _ _ q
 refine wpAny_call (codeAny_mono (F.run X.A X.stack s1 H1 ⟨us,[]⟩ (us++[]) (vs++[]) Q _ (hr.mono hj) I1.env0 (D.b s1 us I1.kIn hl) r2 q) λr s' hq=>?_);cases r with
 |error e=>exact qXl hex I1 hq
 |ok fl=>
  cases fl with
  |ret u=>exact I1.after hq
  |next=>exact False.elim hq
  |brk=>exact False.elim hq
  |cont=>exact False.elim hq
def qV9(K:PySem.W.Frag)(Ex:Value->Option Addr->L2.St->Hp->Prop)(C:Addr)(i:Option Nat)(tb ts:TS):TS:=λD σ H=>tb D σ H/\∀(ea:Addr) (B:EC) (σ':L2.St) (H':Hp),Ex B.1 B.2 σ' H'->H' ea=none->σ'.length=σ.length->
 PySem.W.exmOne K B.1 (.ref C)=some true/\ts (qOq D i) (qV6 i ea σ') (upd H' ea (qE4 ea B))
theorem qU1{X:Cx}{body:List Stmt}{b₀:Stmt}{suite:List Stmt}{x:Str}{C:Addr}{nm:Option Str}{i:Option Nat}{np hpos pos:Pos}{tb ts:TS}(Ex:Value->Option Addr->L2.St->Hp->Prop)
 (hcl:qI1 X nm i) (hN:X.N.Nodup) (hg:Gl X x) (hm:X.mg x=some (.ref C))
 (hb:∀l,PSs ((pnX X l).wish (XES (pnX X l) Ex)) body tb) (hs:∀l ea,PSs (hdX (pnX X l) ea).nox (b₀::suite) ts)
 (hstk:X.stack=X.env::X.outer:=by rfl) (hfr:X.env.frame=some X.env.locals:=by rfl) (hex:X.ex=[]:=by rfl) (hdb:(x==("__debug__":Str))=false:=by decide):
 PS X (.Try body [.ExceptHandler (some (.Name x np)) nm (b₀::suite) hpos] [] [] pos) (qV9 X.K Ex C i tb ts):=by
 rintro pins s σ H D I ⟨h1,h2⟩;have I0:=qTi I;refine wpAny_Try_except (YL (hb (X.pn++pins) [] s σ H D (I0.wish _) h1) (λf s1 q=>?_) λe s1 q=>?_)
 . have q:=q.unwish
   cases f with
   |next=>
    obtain⟨σ',H',J,z⟩:=q;exact wpAny_execs_nil ⟨σ',H',zJ J,z⟩
   |brk=>
    obtain⟨σ',H',J,z⟩:=q;exact⟨σ',H',zJ J,z⟩
   |cont=>
    obtain⟨σ',H',J,z⟩:=q;exact⟨σ',H',zJ J,z⟩
   |ret u=>
    obtain⟨v,σ',H',J,r,z⟩:=q;exact⟨v,σ',H',zJ J,r,z⟩
 . obtain⟨ea,B,σ',H',rfl,I1,⟨n1,hd,r,n3⟩,ex⟩:=q
   have hlen:σ'.length=σ.length:=I1.len.trans I.len.symm;obtain⟨hx,ht⟩:=h2 ea B σ' H' ex n1.2.1 hlen;have fr:X.A.frames=some (X.env::X.outer):=by rw[<-hstk];exact I.ok.frames
   have ff:s1.heap.FunFrames X.base (X.env::X.outer):=by have z:=I1.stack;rw[show (pnX X (X.pn++pins)).stack=X.env::X.outer from hstk]at z;exact z
   refine qK9 fr ff hfr r λh' N'=>?_;have N':Noted (frs X.stack) ea hd B s1.heap h':=by rw[hstk];exact N'
   obtain⟨I2,n1,hd2,r2,n3⟩:=xx I1 hex r n1 n3 N';refine wpAny_handleBy_cons (codeAny_handlers_test (qAs (X:=hdX (pnX X (X.pn++pins)) ea) (qGc I2) hg hm ?_ hdb)) (by intro z;cases z);have LT:PySem.W.Looks (model X.prog X.w) h' (typeOf (.ref ea)) B.1:=by obtain⟨vs,sl,qe,_⟩:=r2;exact(PySem.W.Looks.ld qe).andThen .now
   refine(PySem.W.exm_one (M:=model X.prog X.w) I2.kIn LT hx).here ?_;show codeAny _ _ _ _ _;obtain⟨T,rfl,r3⟩:∃T,hd2=some T/\vM h' ea B (some T):=by
    obtain⟨T,_,_⟩:=N'.ent;cases hd2 with
    |some T=>exact⟨T,rfl,r2⟩
    |none=>
     obtain⟨T,_,rT⟩:=N'.ent;obtain⟨vs,sl,q1,q2⟩:=r2;obtain⟨vs',sl',q1',q2',_⟩:=rT;rw[q1]at q1';cases q1';rw[q2]at q2';cases q2'
   have run:∀(s4:Shared) (σ4:L2.St) (Q:Flow->Shared->Prop) (E:Value->Shared->Prop),Inv (hdX (pnX X (X.pn++pins)) ea) [] σ4 (upd H' ea (qE4 ea B)) s4->ts (qOq D i) σ4 (upd H' ea (qE4 ea B))->
    (∀f s5,SP (hdX (pnX X (X.pn++pins)) ea) [] (qOq D i) f s5->Q f s5)->wpAny (model X.prog X.w) (X.A.mark (some (.ref ea))) (execs (b₀::suite) X.env) Q E s4:=λs4 σ4 Q E I4 z k=>
    YL (hs (X.pn++pins) ea [] s4 σ4 _ _ (I4.wish _) z) (λf s5 q=>k f s5 q.unwish) λ_ _ z=>z.elim
   have hdn:(pnX X (X.pn++pins)).calm=true->(pnX X (X.pn++pins)).A.handled=none:=I2.ok.hd;cases hcl with
   |none=>
    refine codeAny_handlers_suite (v8 r3 λh3 N3=>?_);obtain⟨I3,n1,hd3,r4,n3⟩:=xx I2 hex r3 n1 n3 (N3 _);refine run _ _ _ _ (qGc (qBe I3 hex n1 r4)) ht λf s5 q=>?_;cases f with
    |next=>obtain⟨σ5,H5,J,z⟩:=q;exact⟨σ5,H5,zJ (wQ J hdn),z⟩
    |brk=>obtain⟨σ5,H5,J,z⟩:=q;exact⟨σ5,H5,zJ (wQ J hdn),z⟩
    |cont=>obtain⟨σ5,H5,J,z⟩:=q;exact⟨σ5,H5,zJ (wQ J hdn),z⟩
    |ret u=>obtain⟨v,σ5,H5,J,rv,z⟩:=q;exact⟨v,σ5,H5,zJ (wQ J hdn),rv,z⟩
   |some hi hl=>
    refine codeAny_handlers_suite_as (v8 r3 λh3 N3=>?_);obtain⟨I3,n1,hd3,r4,n3⟩:=xx I2 hex r3 n1 n3 (N3 _);refine kT (X:=hdX (pnX X (X.pn++pins)) ea) (v:=.ref ea) (qGc (qBe I3 hex n1 r4)) hN hi (.inl hl) rfl (λs4 I4=>?_) (.inr hl);refine run _ _ _ _ I4 ht λf s5 q=>?_;cases f with
    |next=>obtain⟨σ5,H5,J,z⟩:=q;exact x9 (X:=pnX X (X.pn++pins)) (wQ J hdn) hN hi hl λs6 J6=>⟨_,H5,zJ J6,z⟩
    |brk=>obtain⟨σ5,H5,J,z⟩:=q;exact x9 (X:=pnX X (X.pn++pins)) (wQ J hdn) hN hi hl λs6 J6=>⟨_,H5,zJ J6,z⟩
    |cont=>obtain⟨σ5,H5,J,z⟩:=q;exact x9 (X:=pnX X (X.pn++pins)) (wQ J hdn) hN hi hl λs6 J6=>⟨_,H5,zJ J6,z⟩
    |ret u=>obtain⟨v,σ5,H5,J,rv,z⟩:=q;exact x9 (X:=pnX X (X.pn++pins)) (wQ J hdn) hN hi hl λs6 J6=>⟨v,_,H5,zJ J6,rv,z⟩
section
variable{X:Cx}
theorem qI{a:Expr}{ta:TE}{i:Int}{j}{p pos:Pos}(ha:PE X a ta):PE X (.Subscript a (.Constant (.int i) j p) pos) (tOp (qVt X.K) ta (tC (.int i))):=jP qF9 ha qG (λ_ _=>rfl)
theorem qZ(i:Nat){x:Str}{e:Expr}{te:TE}{pos pos':Pos}(hN:X.N.Nodup)(he:PE X e te)(hi:X.N[i]?=some x:=by rfl)(hx:Loc X.env.scope x:=by trivial)(hs:swapsWith e (some (.Name x pos')) pos.line X.env=pure false:=by rfl)(hf:X.fn x=true\/X.env.scope.names.lookup x=some .local:=by trivial):
 PS X (.Assign [.Name x pos'] e pos) (qWt te (qDd i)):=qMs hN hi hx he hs hf
end
end L3
namespace L3
open PySem PySem.Spec PyProof.Rows L2
def g5(K:PySem.W.Frag):TG:=qZm K 5 (qO0 (qDd 0) (qO0 (qDd 1) (qO0 (qDd 2) (qO0 (qDd 3) (qO0 (qDd 4) qY8)))))
variable{X:Cx}
end L3
namespace WS
open PySem PySem.Spec PyProof.Rows
section
variable{prog:Program}{w:World}{A:Around}{E:Value->Shared->Prop}{s:Shared}
section
variable{I S:Addr}{k i j ep:Nat}{os:Obj}{es:Array (Int×Value)}{t:SetTable}{x:Value}{Q:Option Value->Shared->Prop}(hS:s.heap.get? S=some os)(hd:os.data=.set es ep t)(hf:t.fits es.size=true)
include hS hd hf
end
end
section
variable{prog:Program}{w:World}{A:Around}{E:Value->Shared->Prop}{s:Shared}
section
variable{S:Addr}{k i ep:Nat}{os:Obj}{es:Array (Int×Value)}{t:SetTable}(hS:s.heap.get? S=some os)(hd:os.data=.set es ep t)(hf:t.fits es.size=true)
include hS hd hf
end
section
variable{I S:Addr}{ep:Nat}{es:Array (Int×Value)}{t:SetTable}(hf:t.fits es.size=true)(hne:S≠I)(hh:A.handled=none)
include hf hne hh
end
end
end WS
set_option linter.all false
set_option linter.all false
set_option linter.all false
set_option linter.all false
namespace Lw
open PySem L2 L3 Mt
seal L2.PSs L2.PS L2.PE L2.PA L2.PT L2.PW L2.PC L2.PI L2.PG L2.PGs L2.PO
variable {N A s p j b q r M lo to bo p' q' r' s' tb l' M' C:Int}{sc:Scope}{ns tie is:List Int}{n i c c' L:Nat}{cdv:Value}{H H':Hp}{σ:St}{xs:List V}{v x0 x1 x2 x3 x4:V}{Q:VK}{x y m m' x':Im}{st:Stmt}{f rd z dz tz:Addr}{fd:FuncData}{ps:List Str}{sp:Sp}{o:HO}{ms B ls rest U Z:List Im}{rl:Rls}{R:Im->Int->Im->Prop}{n':Str}{Pm:Im->Prop}{G:List Im->Prop}{O9:De->Prop}{cu:List (List Im)}
noncomputable def top(i:Nat):Stmt:=PySem.Challenge.pw_reelcut_k51_ways_back.main.body.getD i (.Pass ⟨0,0,0,0⟩)
theorem scA{N P:List Str}(h1:sc.kind=.function:=by rfl)(h2:sc.isCoroutine=false:=by rfl)(h3:sc.isGenerator=false:=by rfl)(h4:N.Nodup:=by decide+kernel)(h5:N.take P.length=P:=by rfl)(h6:∀x∈P,sc.names.lookup x=some .local\/sc.names.lookup x=some .cell:=by decide+kernel)(h7:∀y∈sc.names,y.2≠ .free:=by decide+kernel):qP N P sc:=⟨h1,h2,h3,h4,h5,h6,h7⟩
abbrev qCm:Stmt:=top 8
abbrev zH:Stmt:=top 9
abbrev kn:Stmt:=top 10
abbrev qB9:Stmt:=top 11
abbrev qGu:Stmt:=top 12
abbrev qD9:Stmt:=top 13
abbrev qBy:Stmt:=top 14
abbrev qCj:Stmt:=top 15
abbrev qAr:Stmt:=top 16
abbrev qBx:Stmt:=top 17
abbrev qD3:Stmt:=top 23
abbrev zk:Stmt:=top 24
abbrev qB4:Stmt:=top 25
abbrev vO:Stmt:=top 26
abbrev qB5:Stmt:=top 27
abbrev ve:Stmt:=top 28
abbrev qAi:Stmt:=top 29
abbrev qEg:Stmt:=top 30
abbrev zX:Stmt:=top 31
abbrev qAq:Stmt:=top 32
abbrev qAd:Stmt:=top 33
abbrev qAb:Stmt:=top 35
abbrev zj:Stmt:=top 36
abbrev vo:Stmt:=top 37
abbrev qB1:Stmt:=top 38
abbrev qAe:Stmt:=top 39
abbrev vt:Stmt:=top 40
abbrev qE5:Stmt:=top 41
abbrev qFb:Stmt:=top 42
abbrev vF:Stmt:=top 43
abbrev kF:Stmt:=top 44
abbrev zU:Stmt:=top 45
abbrev xn:Stmt:=top 46
abbrev kW:Stmt:=top 47
abbrev qAm:Stmt:=top 48
abbrev zY:Stmt:=top 49
abbrev vn:Stmt:=top 51
abbrev ke:Stmt:=top 52
abbrev qAo:Stmt:=top 53
abbrev zC:Stmt:=top 54
abbrev kG:Stmt:=top 55
abbrev qCk:Stmt:=top 56
abbrev kj:Stmt:=top 59
abbrev qBt:Stmt:=top 60
abbrev vT:Stmt:=top 61
abbrev zB:Stmt:=top 62
abbrev z0:Stmt:=top 63
abbrev qEv:Stmt:=top 64
abbrev kR:Stmt:=top 65
abbrev qAc:Stmt:=top 66
abbrev qAj:Stmt:=top 67
abbrev qEi:Stmt:=top 68
abbrev xR:Stmt:=top 69
abbrev v6:Stmt:=top 70
abbrev qHm:Stmt:=top 71
abbrev vw:Stmt:=top 77
abbrev qEk:Stmt:=top 78
abbrev kC:Stmt:=top 79
abbrev zD:Stmt:=top 80
abbrev zV:Stmt:=top 81
abbrev vB:Stmt:=top 82
abbrev kX:Stmt:=top 83
abbrev zy:Stmt:=top 84
abbrev z7:Stmt:=top 85
abbrev qCc:Stmt:=top 86
abbrev qHg:Stmt:=top 87
abbrev qLt:Stmt:=top 88
abbrev qFc:Stmt:=top 89
abbrev qGj:Stmt:=top 90
abbrev qE0:Stmt:=top 91
abbrev wv:Stmt:=top 92
abbrev qLy:Stmt:=top 94
abbrev vf:Stmt:=top 95
abbrev kP:Stmt:=top 96
abbrev z8:Stmt:=top 97
abbrev xm:Stmt:=top 98
abbrev qE6:Stmt:=top 99
abbrev kB:Stmt:=top 101
abbrev vD:Stmt:=top 102
abbrev vA:Stmt:=top 103
abbrev vE:Stmt:=top 104
abbrev vQ:Stmt:=top 105
abbrev vv:Stmt:=top 106
abbrev vd:Stmt:=top 107
abbrev vZ:Stmt:=top 108
abbrev vC:Stmt:=top 109
abbrev ze:Stmt:=top 110
abbrev qAg:Stmt:=top 111
abbrev qCf:Stmt:=top 112
abbrev vY:Stmt:=top 113
abbrev qVq:Stmt:=top 114
theorem qK3:qP ["x"] ["x"] (qH qCm):=scA
theorem xB:qP ["one","other","rest"] ["one","other"] (qH zH):=scA
theorem qFw:qP ["x"] ["x"] (qH kn):=scA
theorem qAn:qP ["top","bottom","divisor"] ["top","bottom"] (qH qB9):=scA
theorem qQd:qP ["one","other"] ["one","other"] (qH qGu):=scA
theorem qN1:qP ["one","other"] ["one","other"] (qH qD9):=scA
theorem qKm:qP ["one","other"] ["one","other"] (qH qBy):=scA
theorem qKo:qP ["one","other"] ["one","other"] (qH qCj):=scA
theorem qJ5:qP ["one","other"] ["one","other"] (qH qAr):=scA
theorem qLr:qP ["one"] ["one"] (qH qBx):=scA
theorem qOf:qP ["thing"] ["thing"] (qH qD3):=scA
theorem qDk:qP ["item"] ["item"] (qH zk):=scA
theorem qK2:qP ["clip","k"] ["clip","k"] (qH qB4):=scA
theorem qH2:qP ["clip","k"] ["clip","k"] (qH vO):=scA
theorem qLn:qP ["picture","many"] ["picture","many"] (qH qB5):=scA
theorem qBd:qP ["item","reels","many"] ["item","reels"] (qH ve):=scA
theorem qIn:qP ["clip","low","high"] ["clip","low","high"] (qH qAi):=scA
theorem qOt:qP ["one","other"] ["one","other"] (qH qEg):=scA
theorem zG:qP ["first","step","many","room"] ["first","step","many"] (qH zX):=scA
theorem qIq:qP ["clip","reels"] ["clip","reels"] (qH qAq):=scA
theorem qKj:qP ["clip","reels"] ["clip","reels"] (qH qAd):=scA
theorem qJj:qP ["thing"] ["thing"] (qH qAb):=scA
theorem qC6:qP ["item"] ["item"] (qH zj):=scA
theorem qHc:qP ["item"] ["item"] (qH vo):=scA
theorem xp:qP ["some","track","waiting","item"] ["some"] (qH qB1):=scA
theorem qIi:qP ["track"] ["track"] (qH qAe):=scA
theorem ka:qP ["track","borders","item"] ["track"] (qH vt):=scA
theorem zP:qP ["track","moment","begin","place","item","end"] ["track","moment"] (qH qE5):=scA
theorem qOh:qP ["track","place"] ["track","place"] (qH qFb):=scA
theorem qFx:qP ["track","place"] ["track","place"] (qH vF):=scA
theorem qE7:qP ["track","place"] ["track","place"] (qH kF):=scA
theorem vL:qP ["track","moment","found"] ["track","moment"] (qH zU):=scA
theorem zr:qP ["track","moment","places"] ["track","moment"] (qH xn):=scA
theorem we:qP ["track","moment","found"] ["track","moment"] (qH kW):=scA
theorem qJc:qP ["item","low","high"] ["item","low","high"] (qH qAm):=scA
theorem jC:qP ["track","low","high","parts","begin","item","end","first","last"] ["track","low","high"] (qH zY):=scA
theorem qHl:qP ["length"] ["length"] (qH vn):=scA
theorem qF3:qP ["length"] ["length"] (qH ke):=scA
theorem xw:qP ["track","spans","border","item"] ["track"] (qH qAo):=scA
theorem qCl:qP ["track","place"] ["track","place"] (qH zC):=scA
theorem qEe:qP ["track","place"] ["track","place"] (qH kG):=scA
theorem xo:qP ["track","moment","reels","places","ahead","behind","most_ahead","most_behind"] ["track","moment","reels"] (qH qCk):=scA
theorem qF1:qP ["table","number","moment"] ["table","number","moment"] (qH kj):=scA
theorem qL1:qP ["by"] ["by"] (qH qBt):=scA
theorem qA0:qP ["track","moment","found"] ["track","moment"] (qH vT):=scA
theorem j9:qP ["track","moment","found","left","right"] ["track","moment"] (qH zB):=scA
theorem qEy:qP ["track","deed"] ["track","deed"] (qH z0):=scA
theorem qNu:qP ["track","place"] ["track","place"] (qH qEv):=scA
theorem qFm:qP ["most","by"] ["most","by"] (qH kR):=scA
theorem qJh:qP ["clip","by","reels"] ["clip","by","reels"] (qH qAc):=scA
theorem qIm:qP ["left","right","by","reels"] ["left","right","by","reels"] (qH qAj):=scA
theorem qCh:qP ["track","place","by","reels","clip","changed"] ["track","place","by","reels"] (qH qEi):=scA
theorem jg:qP ["track","first","last","by","reels","left","right","changed"] ["track","first","last","by","reels"] (qH xR):=scA
theorem qBc:qP ["table","number","track","tracks"] ["table","number","track"] (qH v6):=scA
theorem qDw:qP ["table","deed","reels","track","places"] ["table","deed","reels"] (qH qHm):=scA
theorem qHn:qP ["deed"] ["deed"] (qH vw):=scA
theorem qN9:qP ["deed"] ["deed"] (qH qEk):=scA
theorem qFj:qP ["deed"] ["deed"] (qH kC):=scA
theorem qCn:qP ["table","deed"] ["table","deed"] (qH zD):=scA
theorem qC2:qP ["deed"] ["deed"] (qH zV):=scA
theorem wl:qP ["track","low","high","span"] ["track","low","high"] (qH vB):=scA
theorem z9:qP ["table","deed","stretch","number"] ["table","deed"] (qH kX):=scA
theorem qEh:qP ["table","deed","reels"] ["table","deed","reels"] (qH zy):=scA
theorem qEf:qP ["one","other"] ["one","other"] (qH z7):=scA
theorem qAf:qP ["track","places","one","other"] ["track","places"] (qH qCc):=scA
theorem vz:qP ["table","deed","track","places","one","whole"] ["table","deed"] (qH qHg):=scA
theorem qDr:qP ["table","deed","reels","track","places","most"] ["table","deed","reels"] (qH qLt):=scA
theorem qCi:qP ["table","deed","track","places"] ["table","deed"] (qH qFc):=scA
theorem qI4:qP ["track","low","high","laid","filling"] ["track","low","high","laid"] (qH qGj):=scA
theorem zQ:qP ["table","deed","stretch","told","number","laid"] ["table","deed"] (qH qE0):=scA
theorem qJb:qP ["table","deed","reels"] ["table","deed","reels"] (qH wv):=scA
theorem qS3:qP ["table","number","moments"] ["table","number","moments"] (qH qLy):=scA
theorem xS:qP ["table","number","low","high","deeds","moment","item"] ["table","number","low","high"] (qH vf):=scA
theorem kA:qP ["table","deed","track","places"] ["table","deed"] (qH kP):=scA
theorem xO:qP ["table","deed","length","deeds","number"] ["table","deed"] (qH z8):=scA
theorem j3:qP ["table","deed","stretch","deeds","number"] ["table","deed"] (qH xm):=scA
theorem qOl:qP ["table","deed","reels"] ["table","deed","reels"] (qH qE6):=scA
theorem qFg:qP ["_law_script","_law_k"] ["_law_script","_law_k"] (qH kB):=scA
theorem jN:qP ["_law_cell","_law_size","_law_found","_law_rest","_law_k","_law_number"] ["_law_cell","_law_size"] (qH vD):=scA
theorem xq:qP ["_law_top","_law_bottom","_law_one","_law_other"] ["_law_top","_law_bottom"] (qH vA):=scA
theorem jB:qP ["_law_xs","_law_reels_here","_law_size","_law_reel","_law_length","_law_top","_law_bottom","_law_far_here","_law_low","_law_rest","_law_start"] ["_law_xs","_law_reels_here","_law_size"] (qH vE):=scA
theorem zM:qP ["_law_xs","_law_reels_here","_law_size","_law_track_here","_law_k","_law_form"] ["_law_xs","_law_reels_here","_law_size"] (qH vQ):=scA
theorem qHp:qP ["_law_cell"] ["_law_cell"] (qH vv):=scA
theorem jb:qP ["_law_table_here","_law_reels_here","_law_cell","_law_number","_law_moment","_law_most"] ["_law_table_here","_law_reels_here","_law_cell"] (qH vd):=scA
theorem zL:qP ["_law_cell","_law_reels_here","_law_tracks","_law_size","_law_xs","_law_tied","_law_table_here"] ["_law_cell","_law_reels_here","_law_tracks","_law_size"] (qH vZ):=scA
theorem qFy:qP ["_law_table_here"] ["_law_table_here"] (qH vC):=scA
theorem jA:qP ["_law_xs","_law_table_here","_law_reels_here","_law_number","_law_marks","_law_word","_law_low","_law_moment"] ["_law_xs","_law_table_here","_law_reels_here"] (qH ze):=scA
theorem jf:qP ["_law_table_here","_law_deed","_law_reels_here","_law_back","_law_found","e"] ["_law_table_here","_law_deed","_law_reels_here","_law_back"] (qH qAg):=scA
theorem qL2:qP ["_law_track_here","_law_far_here"] ["_law_track_here","_law_far_here"] (qH qCf):=scA
theorem qBn:qP ["_law_row","_law_some"] ["_law_row"] (qH vY):=scA
theorem vS:qP ["_law_script","_law_reels_here","_law_table_here","_law_copy","_law_cell","_law_deed","_law_behind","_law_row","_law_one"] ["_law_script"] (qH qVq):=scA
abbrev wH:Stmt:=qU4 (top 6) 0
theorem qRl:qP ["self","most"] ["self","most"] (qH wH):=⟨rfl,rfl,rfl,by decide+kernel,rfl,by decide+kernel,by decide+kernel⟩
set_option genInjectivity false
set_option genSizeOf false
structure Ads where
 A0:Addr
 B0:FuncData
 A1:Addr
 B1:FuncData
 A2:Addr
 B2:FuncData
 A3:Addr
 B3:FuncData
 A4:Addr
 B4:FuncData
 A5:Addr
 B5:FuncData
 A6:Addr
 B6:FuncData
 A7:Addr
 B7:FuncData
 A8:Addr
 B8:FuncData
 A9:Addr
 B9:FuncData
 A10:Addr
 B10:FuncData
 A11:Addr
 B11:FuncData
 A12:Addr
 B12:FuncData
 A13:Addr
 B13:FuncData
 A14:Addr
 B14:FuncData
 A15:Addr
 B15:FuncData
 A16:Addr
 B16:FuncData
 A17:Addr
 B17:FuncData
 A18:Addr
 B18:FuncData
 A19:Addr
 B19:FuncData
 A20:Addr
 B20:FuncData
 A21:Addr
 B21:FuncData
 A22:Addr
 B22:FuncData
 A23:Addr
 B23:FuncData
 A24:Addr
 B24:FuncData
 A25:Addr
 B25:FuncData
 A26:Addr
 B26:FuncData
 A27:Addr
 B27:FuncData
 A28:Addr
 B28:FuncData
 A29:Addr
 B29:FuncData
 A30:Addr
 B30:FuncData
 A31:Addr
 B31:FuncData
 A32:Addr
 B32:FuncData
 A33:Addr
 B33:FuncData
 A34:Addr
 B34:FuncData
 A35:Addr
 B35:FuncData
 A36:Addr
 B36:FuncData
 A37:Addr
 B37:FuncData
 A38:Addr
 B38:FuncData
 A39:Addr
 B39:FuncData
 A40:Addr
 B40:FuncData
 A41:Addr
 B41:FuncData
 A42:Addr
 B42:FuncData
 A43:Addr
 B43:FuncData
 A44:Addr
 B44:FuncData
 A45:Addr
 B45:FuncData
 A46:Addr
 B46:FuncData
 A47:Addr
 B47:FuncData
 A48:Addr
 B48:FuncData
 A49:Addr
 B49:FuncData
 A50:Addr
 B50:FuncData
 A51:Addr
 B51:FuncData
 A52:Addr
 B52:FuncData
 A53:Addr
 B53:FuncData
 A54:Addr
 B54:FuncData
 A55:Addr
 B55:FuncData
 A56:Addr
 B56:FuncData
 A57:Addr
 B57:FuncData
 A58:Addr
 B58:FuncData
 A59:Addr
 B59:FuncData
 A60:Addr
 B60:FuncData
 A61:Addr
 B61:FuncData
 A62:Addr
 B62:FuncData
 A63:Addr
 B63:FuncData
 A64:Addr
 B64:FuncData
 A65:Addr
 B65:FuncData
 A66:Addr
 B66:FuncData
 A67:Addr
 B67:FuncData
 A68:Addr
 B68:FuncData
 A69:Addr
 B69:FuncData
 A70:Addr
 B70:FuncData
 A71:Addr
 B71:FuncData
 A72:Addr
 B72:FuncData
 A73:Addr
 B73:FuncData
 A74:Addr
 B74:FuncData
 A75:Addr
 B75:FuncData
 A76:Addr
 B76:FuncData
 A77:Addr
 B77:FuncData
 A78:Addr
 B78:FuncData
 A79:Addr
 B79:FuncData
 A80:Addr
 B80:FuncData
 A81:Addr
 B81:FuncData
 A82:Addr
 B82:FuncData
 A83:Addr
 B83:FuncData
 A84:Addr
 B84:FuncData
 A85:Addr
 B85:FuncData
 A86:Addr
 B86:FuncData
 A87:Addr
 B87:FuncData
 A88:Addr
 B88:FuncData
 A89:Addr
 B89:FuncData
 A90:Addr
 B90:FuncData
 k_CutError:Addr
 k_NoNumber:Addr
 k_NoClip:Addr
 k_NoPlace:Addr
 k_Mixed:Addr
 k_Short:Addr
 t_LETTERS:Tok
 t_LONGEST_NAME:Tok
 t_MOST_ROOM:Tok
 n_NOUGHT:Addr
 t_MOST_BY:Tok
 n_ROLLS:Addr
 n_LAYS:Addr
 n_PUSHES:Addr
 n_CHANGES:Addr
 fi_Short:Addr
 gi_Short:FuncData
structure Tx(K:PySem.W.Frag)(mg:Str->Option Value)(a:Ads):Prop where
 D0:L3.Def K mg "is_whole" qCm ["x"] a.A0 a.B0
 D1:L3.Def K mg "common_divisor" zH ["one","other"] a.A1 a.B1
 D2:L3.Def K mg "is_fraction" kn ["x"] a.A2 a.B2
 D3:L3.Def K mg "fraction" qB9 ["top","bottom"] a.A3 a.B3
 D4:L3.Def K mg "sum_of" qGu ["one","other"] a.A4 a.B4
 D5:L3.Def K mg "less_by" qD9 ["one","other"] a.A5 a.B5
 D6:L3.Def K mg "times_of" qBy ["one","other"] a.A6 a.B6
 D7:L3.Def K mg "quotient" qCj ["one","other"] a.A7 a.B7
 D8:L3.Def K mg "is_before" qAr ["one","other"] a.A8 a.B8
 D9:L3.Def K mg "floor_of" qBx ["one"] a.A9 a.B9
 D10:L3.Def K mg "is_name" qD3 ["thing"] a.A10 a.B10
 D11:L3.Def K mg "has_clip_form" zk ["item"] a.A11 a.B11
 D12:L3.Def K mg "place_at" qB4 ["clip","k"] a.A12 a.B12
 D13:L3.Def K mg "picture_at" vO ["clip","k"] a.A13 a.B13
 D14:L3.Def K mg "is_there" qB5 ["picture","many"] a.A14 a.B14
 D15:L3.Def K mg "check_clip" ve ["item","reels"] a.A15 a.B15
 D16:L3.Def K mg "clip_part" qAi ["clip","low","high"] a.A16 a.B16
 D17:L3.Def K mg "goes_on" qEg ["one","other"] a.A17 a.B17
 D18:L3.Def K mg "moments_there" zX ["first","step","many"] a.A18 a.B18
 D19:L3.Def K mg "head_room" qAq ["clip","reels"] a.A19 a.B19
 D20:L3.Def K mg "tail_room" qAd ["clip","reels"] a.A20 a.B20
 D21:L3.Def K mg "is_length" qAb ["thing"] a.A21 a.B21
 D22:L3.Def K mg "has_nest_form" zj ["item"] a.A22 a.B22
 D23:L3.Def K mg "moments_of" vo ["item"] a.A23 a.B23
 D24:L3.Def K mg "one_form" qB1 ["some"] a.A24 a.B24
 D25:L3.Def K mg "length_of" qAe ["track"] a.A25 a.B25
 D26:L3.Def K mg "borders_of" vt ["track"] a.A26 a.B26
 D27:L3.Def K mg "item_at" qE5 ["track","moment"] a.A27 a.B27
 D28:L3.Def K mg "kind_at" qFb ["track","place"] a.A28 a.B28
 D29:L3.Def K mg "place_ahead" vF ["track","place"] a.A29 a.B29
 D30:L3.Def K mg "place_behind" kF ["track","place"] a.A30 a.B30
 D31:L3.Def K mg "neighbours_at" zU ["track","moment"] a.A31 a.B31
 D32:L3.Def K mg "clips_at_border" xn ["track","moment"] a.A32 a.B32
 D33:L3.Def K mg "lies_within" kW ["track","moment"] a.A33 a.B33
 D34:L3.Def K mg "item_part" qAm ["item","low","high"] a.A34 a.B34
 D35:L3.Def K mg "part_of_track" zY ["track","low","high"] a.A35 a.B35
 D36:L3.Def K mg "part_ahead" vn ["length"] a.A36 a.B36
 D37:L3.Def K mg "part_behind" ke ["length"] a.A37 a.B37
 D38:L3.Def K mg "mix_spans" qAo ["track"] a.A38 a.B38
 D39:L3.Def K mg "taken_at_begin" zC ["track","place"] a.A39 a.B39
 D40:L3.Def K mg "taken_at_end" kG ["track","place"] a.A40 a.B40
 D41:L3.Def K mg "most_mix" qCk ["track","moment","reels"] a.A41 a.B41
 D42:L3.Def K mg "check_place" kj ["table","number","moment"] a.A42 a.B42
 D43:L3.Def K mg "check_by" qBt ["by"] a.A43 a.B43
 D44:L3.Def K mg "clip_there" vT ["track","moment"] a.A44 a.B44
 D45:L3.Def K mg "clip_and_sides" zB ["track","moment"] a.A45 a.B45
 D46:L3.Def K mg "places_named" z0 ["track","deed"] a.A46 a.B46
 D47:L3.Def K mg "has_mix" qEv ["track","place"] a.A47 a.B47
 D48:L3.Def K mg "check_short" kR ["most","by"] a.A48 a.B48
 D49:L3.Def K mg "most_slip" qAc ["clip","by","reels"] a.A49 a.B49
 D50:L3.Def K mg "most_roll" qAj ["left","right","by","reels"] a.A50 a.B50
 D51:L3.Def K mg "slipped" qEi ["track","place","by","reels"] a.A51 a.B51
 D52:L3.Def K mg "with_rolled_ends" xR ["track","first","last","by","reels"] a.A52 a.B52
 D53:L3.Def K mg "table_with" v6 ["table","number","track"] a.A53 a.B53
 D54:L3.Def K mg "rolled" qHm ["table","deed","reels"] a.A54 a.B54
 D55:L3.Def K mg "stretch_of" vw ["deed"] a.A55 a.B55
 D56:L3.Def K mg "laid_by" qEk ["deed"] a.A56 a.B56
 D57:L3.Def K mg "laid_on_tied" kC ["deed"] a.A57 a.B57
 D58:L3.Def K mg "tracks_changed" zD ["table","deed"] a.A58 a.B58
 D59:L3.Def K mg "check_numbers" zV ["deed"] a.A59 a.B59
 D60:L3.Def K mg "touches_mix" vB ["track","low","high"] a.A60 a.B60
 D61:L3.Def K mg "check_mixes" kX ["table","deed"] a.A61 a.B61
 D62:L3.Def K mg "check_change" zy ["table","deed","reels"] a.A62 a.B62
 D63:L3.Def K mg "nest_goes_on" z7 ["one","other"] a.A63 a.B63
 D64:L3.Def K mg "can_heal" qCc ["track","places"] a.A64 a.B64
 D65:L3.Def K mg "healed" qHg ["table","deed"] a.A65 a.B65
 D66:L3.Def K mg "mixed" qLt ["table","deed","reels"] a.A66 a.B66
 D67:L3.Def K mg "unmixed" qFc ["table","deed"] a.A67 a.B67
 D68:L3.Def K mg "relaid" qGj ["track","low","high","laid"] a.A68 a.B68
 D69:L3.Def K mg "changed" qE0 ["table","deed"] a.A69 a.B69
 D70:L3.Def K mg "deed_done" wv ["table","deed","reels"] a.A70 a.B70
 D71:L3.Def K mg "heals" qLy ["table","number","moments"] a.A71 a.B71
 D72:L3.Def K mg "laid_again" vf ["table","number","low","high"] a.A72 a.B72
 D73:L3.Def K mg "back_of_mix" kP ["table","deed"] a.A73 a.B73
 D74:L3.Def K mg "back_of_room" z8 ["table","deed"] a.A74 a.B74
 D75:L3.Def K mg "back_of_stretch" xm ["table","deed"] a.A75 a.B75
 D76:L3.Def K mg "back_of" qE6 ["table","deed","reels"] a.A76 a.B76
 D77:L3.Def K mg "_law_cell_at" kB ["_law_script","_law_k"] a.A77 a.B77
 D78:L3.Def K mg "_law_stream" vD ["_law_cell","_law_size"] a.A78 a.B78
 D79:L3.Def K mg "_law_lowest" vA ["_law_top","_law_bottom"] a.A79 a.B79
 D80:L3.Def K mg "_law_clip" vE ["_law_xs","_law_reels_here","_law_size"] a.A80 a.B80
 D81:L3.Def K mg "_law_track" vQ ["_law_xs","_law_reels_here","_law_size"] a.A81 a.B81
 D82:L3.Def K mg "_law_reels" vv ["_law_cell"] a.A82 a.B82
 D83:L3.Def K mg "_law_mixed" vd ["_law_table_here","_law_reels_here","_law_cell"] a.A83 a.B83
 D84:L3.Def K mg "_law_table" vZ ["_law_cell","_law_reels_here","_law_tracks","_law_size"] a.A84 a.B84
 D85:L3.Def K mg "_law_copied" vC ["_law_table_here"] a.A85 a.B85
 D86:L3.Def K mg "_law_any_deed" ze ["_law_xs","_law_table_here","_law_reels_here"] a.A86 a.B86
 D87:L3.Def K mg "_law_done" qAg ["_law_table_here","_law_deed","_law_reels_here","_law_back"] a.A87 a.B87
 D88:L3.Def K mg "_law_far" qCf ["_law_track_here","_law_far_here"] a.A88 a.B88
 D89:L3.Def K mg "_law_words" vY ["_law_row"] a.A89 a.B89
 D90:L3.Def K mg "law" qVq ["_law_script"] a.A90 a.B90
 c_CutError:mg "CutError"=some (.ref a.k_CutError)
 c_NoNumber:mg "NoNumber"=some (.ref a.k_NoNumber)
 c_NoClip:mg "NoClip"=some (.ref a.k_NoClip)
 c_NoPlace:mg "NoPlace"=some (.ref a.k_NoPlace)
 c_Mixed:mg "Mixed"=some (.ref a.k_Mixed)
 c_Short:mg "Short"=some (.ref a.k_Short)
 b_isinstance:mg "isinstance"=none
 b_int:mg "int"=none
 b_bool:mg "bool"=none
 b_abs:mg "abs"=none
 b_tuple:mg "tuple"=none
 b_len:mg "len"=none
 b_all:mg "all"=none
 b_str:mg "str"=none
 b_min:mg "min"=none
 b_sum:mg "sum"=none
 b_enumerate:mg "enumerate"=none
 b_max:mg "max"=none
 b_list:mg "list"=none
 b_any:mg "any"=none
 b_range:mg "range"=none
 g_LETTERS:mg "LETTERS"=some (.str "abcdefghijklmnopqrstuvwxyz" a.t_LETTERS)
 g_LONGEST_NAME:mg "LONGEST_NAME"=some (.int 8 a.t_LONGEST_NAME)
 g_MOST_ROOM:mg "MOST_ROOM"=some (.int 1000000 a.t_MOST_ROOM)
 g_NOUGHT:mg "NOUGHT"=some (.ref a.n_NOUGHT)
 sq_NOUGHT:∀H,SqT K H a.n_NOUGHT [.int 0,.int 1]
 g_MOST_BY:mg "MOST_BY"=some (.int 1000000 a.t_MOST_BY)
 g_ROLLS:mg "ROLLS"=some (.ref a.n_ROLLS)
 sq_ROLLS:∀H,SqT K H a.n_ROLLS [.str "roll",.str "slip",.str "slide"]
 g_LAYS:mg "LAYS"=some (.ref a.n_LAYS)
 sq_LAYS:∀H,SqT K H a.n_LAYS [.str "lay_in",.str "lay_over"]
 g_PUSHES:mg "PUSHES"=some (.ref a.n_PUSHES)
 sq_PUSHES:∀H,SqT K H a.n_PUSHES [.str "lay_in",.str "open",.str "close"]
 g_CHANGES:mg "CHANGES"=some (.ref a.n_CHANGES)
 sq_CHANGES:∀H,SqT K H a.n_CHANGES [.str "cut",.str "lay_in",.str "open",.str "close",.str "lift",.str "lay_over"]
 x_NoPlace:L3.OwnX K a.k_NoPlace
 x_Mixed:L3.OwnX K a.k_Mixed
 yPP:PySem.W.exmOne K (.ref a.k_NoPlace) (.ref a.k_NoPlace)=some true
 yMM:PySem.W.exmOne K (.ref a.k_Mixed) (.ref a.k_Mixed)=some true
 yMP:PySem.W.exmOne K (.ref a.k_Mixed) (.ref a.k_NoPlace)=some false
 ySP:PySem.W.exmOne K (.ref a.k_Short) (.ref a.k_NoPlace)=some false
 ySM:PySem.W.exmOne K (.ref a.k_Short) (.ref a.k_Mixed)=some false
 ySS:PySem.W.exmOne K (.ref a.k_Short) (.ref a.k_Short)=some true
 e_Short:L3.ExcK K a.k_Short
 f_most:PySem.W.findIn K (.ref a.k_Short) "most"=some none
 i_Short:Fun K "__init__" "Short.__init__" wH a.fi_Short a.gi_Short
 ib_Short:Binds K a.gi_Short ["self","most"] []
 m_Short:L3.XMk K a.k_Short a.k_CutError a.fi_Short
 tk_Short:PySem.W.takerIn K a.k_Short "most"=some none
inductive qSm(K:PySem.W.Frag)(vs:List V)(H:Hp)(Q:VK)(_:XK):Prop
|mk (a:Addr) (ns:List Int) (_:vs=[.ref a]) (_:SqL K H a (ns.map V.int)) (_:ns.length<=63) (_:∀H',Q (.bl true) H')
def qS2(H:Hp)(Q:VK)(p q:Int):Prop:= ∀z,H z=none->Q (.ref z) (upd H z (.tup [.int p,.int q]))
theorem jV{CX:CXT}{P:Program}{w:World}{K:PySem.W.Frag}{mg:Str->Option Value}{base:Heap}{ns:List Str}{n:Str}{ad:Addr}{A:Around}{outer:List Env}{s:Shared}{E:XK}:(qOr CX P w K mg base ns n sc ad cdv A outer s H E).K=K:=rfl
theorem qk{CX:CXT}{P:Program}{w:World}{K:PySem.W.Frag}{mg:Str->Option Value}{base:Heap}{ns:List Str}{n:Str}{ad:Addr}{A:Around}{outer:List Env}{s:Shared}{E:XK}:(qOr CX P w K mg base ns n sc ad cdv A outer s H E).nox.K=K:=rfl
theorem sL0:(0:Nat)<=sizeLine:=by decide
theorem sL1:(1:Nat)<=sizeLine:=by decide
theorem sL2:(2:Nat)<=sizeLine:=by decide
theorem sL3:(3:Nat)<=sizeLine:=by decide
theorem sL4:(4:Nat)<=sizeLine:=by decide
theorem sL5:(5:Nat)<=sizeLine:=by decide
theorem glt{α:Type}{xs:List α}{x:α}(h:xs[i]?=some x):i<xs.length:=(Ya.mp h).1
theorem ixT{K:PySem.W.Frag}{p:Addr}{i:Int}(h:SqT K H p xs)(a:atI xs i=some v)(q:Q v H):tC (.int i) σ H (λy H2=>qVt K (.ref p) y H2 Q):=⟨p,xs,i,v,rfl,rfl,h,a,q⟩
theorem z6{K:PySem.W.Frag}{p:Addr}{i:Int}{j:Nat}(e:σ[j]?=some (some (.ref p)))(h:SqT K H p xs)(a:atI xs i=some v)(q:Q v H):tOp (qVt K) (qXo j) (tC (.int i)) σ H Q:=⟨.ref p,e,p,xs,i,v,rfl,rfl,h,a,q⟩
theorem ixO{K:PySem.W.Frag}{p:Addr}{i:Int}{j:Nat}(h:H p=some (.tup xs))(a:atI xs i=some v)(q:Q v H)(e:σ[j]?=some (some (.ref p)):=by rfl):tOp (qVt K) (qXo j) (tC (.int i)) σ H Q:=z6 e (SqT.of h) a q
section
variable{P:Program}{w:World}{K:W.Frag}{mg:Str->Option Value}{base:Heap}{a:Ads}
theorem oL{x qual:Str}{N:List Str}{k:Nat}(F:Fun K x qual st f fd)(S:qP N ps (qH st))
 (hb:∀(cdv:Value) (A:Around) (outer:List Env) (s:Shared) (H:Hp) (vs:List V) (Q:VK) (E:XK),Room k (A.deeper (PyProof.Rows.envOfC qual (qH st) s.heap.objs.size f cdv))->sp vs H Q E->
   ∀X:Prop,((∃t,PSs (qOr CX0 P w K mg base N qual (qH st) f cdv A outer s H E).nox (zE st) t/\t {nx:=λ_ H'=>Q .non H',rt:=Q} (qEd N vs) H)->X)->X)
 (len:∀vs H Q E,sp vs H Q E->vs.length=ps.length:=by trivial):FnOk P w K mg base CX0 (k+1) f fd ps sp:=
 F.ok S len λcdv A outer s H vs Q E hr h=>hb cdv A outer s H vs Q E hr h _ id
theorem oX{x qual:Str}{N:List Str}{k:Nat}(F:Fun K x qual st f fd)(S:qP N ps (qH st))
 (hb:∀(cdv:Value) (A:Around) (outer:List Env) (s:Shared) (H:Hp) (vs:List V) (Q:VK) (E:XK),Room k (A.deeper (PyProof.Rows.envOfC qual (qH st) s.heap.objs.size f cdv))->sp vs H Q E->
   ∀X:Prop,((∃t,PSs ((qOr (CXR P w) P w K mg base N qual (qH st) f cdv A outer s H E).wish (XE (qOr (CXR P w) P w K mg base N qual (qH st) f cdv A outer s H E) E)) (zE st) t/\t {nx:=λ_ H'=>Q .non H',rt:=Q} (qEd N vs) H)->X)->X)
 (len:∀vs H Q E,sp vs H Q E->vs.length=ps.length:=by trivial):FnOk P w K mg base (CXR P w) (k+1) f fd ps sp:=
 okX F S len λcdv A outer s H vs Q E hr h=>hb cdv A outer s H vs Q E hr h _ id
inductive qLp(vs:List V)(H:Hp)(Q:VK)(_:XK):Prop
|mk (i:Int) (_:vs=[.int i]) (_:Q (.bl true) H)
theorem jG(T:Tx K mg a):FnOk P w K mg base CX0 1 a.A0 a.B0 ["x"] qLp:=by
 refine oL T.D0.F qK3 λ_ _ _ _ H vs Q _ hr h _ Y=>?_;obtain⟨i,rfl,q⟩:=h;apply Y;refine⟨_,(qF (qM (zq (qd jh rfl T.b_isinstance rfl (qA (pv 0) (qA (qGm rfl T.b_int rfl) qB))) (vK (qXm (qd jh rfl T.b_isinstance rfl (qA (pv 0) (qA (qGm rfl T.b_bool rfl) qB)))))))),?_⟩
 try dsimp only[jV,qk]
 refine⟨_,O,_,_,_,true,O,.int i,⟨_,.inl ⟨O,O⟩⟩,true,O,j5 ?_⟩;refine⟨_,O,_,_,_,false,O,.int i,⟨_,.inl ⟨O,by kernel_rfl⟩⟩,false,O,?_⟩;exact q
inductive qB7(vs:List V)(H:Hp)(Q:VK)(_:XK):Prop
|mk (i j:Int) (_:vs=[.int i,.int j]) (_:Q (.int ((Int.gcd i j:Nat):Int)) H)
theorem kJ(T:Tx K mg a):FnOk P w K mg base CX0 1 a.A1 a.B1 ["one","other"] qB7:=by
 refine oL T.D1.F xB λ_ _ _ s H _ _ _ hr h _ Y=>?_;obtain⟨i,j,rfl,q⟩:=h;apply Y;refine⟨_,(qD (qM3 PassesOwn.never (qL kD (pv 1) qG (qR _)) (qD (qZ 2 xB.nd (qQ qq (pv 0) (pv 1)))
  (qD (qZ 0 xB.nd (pv 1))
  (qF (qZ 1 xB.nd (pv 2))))))
  (qF (qM (qd qAw rfl T.b_abs rfl (qA (pv 0) qB))))),?_⟩
 try dsimp only[jV,qk]
 refine qNh (λσ H'=>H'=H/\∃(x y:Int) (v:Option V),σ=[some (.int x),some (.int y),v]/\Int.gcd x y=Int.gcd i j)
  (λσ _=>match σ with|[_,some (.int y),_]=>y.natAbs|_=>0) ⟨rfl,i,j,none,rfl,rfl⟩ ?_ ?_
 . rintro σ H1 ⟨rfl,x,y,v,rfl,e⟩
   refine⟨_,O,O,_,O,?_⟩;refine je (λc=>?_) (λc=>?_)
   . have hy:y≠0:=by simpa using c
     refine⟨_,O,_,O,_,_,O,O,hy,_,O,_,O,⟨O,y,x.fmod y,_,O,?_⟩,?_⟩
     . rw[qL9];exact e
     . exact qQo x y hy
   . have hy:y=0:=by simpa using c
     subst hy;refine⟨_,O,x,O,?_⟩;have e2:(if x<0 then-x else x)=((Int.gcd i j:Nat):Int):=by rw[<-e,Int.gcd_zero_right];split <;> omega
     rw[e2];exact q
 . rintro σ H1 Q1 Q2 hq h
   refine qS λ_ Y=>?_;obtain⟨v,e,s,k,hk,z⟩:=h;apply Y;exact⟨v,e,s,k,hk,hq _ _ z⟩
theorem qM6{t:Int}(h:b≠0)(hb:b.natAbs<2 ^ 8000):CDivB t (sg t b)/\CDivB b (sg t b):=by
 have h1:=qYh (t:=t) h;have h2:(sg t b).natAbs<2 ^ 8000:=by rw[qMw];exact Yd (Nat.le_of_dvd (by omega) (Int.gcd_dvd_natAbs_right ..)) hb
 exact⟨⟨h1,h2⟩,⟨h1,h2⟩⟩
inductive qKx(vs:List V)(H:Hp)(Q:VK)(_:XK):Prop
|mk (t b:Int) (_:vs=[.int t,.int b]) (_:b≠0) (_:b.natAbs<2 ^ 8000) (_:qS2 H Q (xI t b) (jq t b))
theorem xl(T:Tx K mg a):FnOk P w K mg base CX0 2 a.A3 a.B3 ["top","bottom"] qKx:=by
 refine oL T.D3.F qAn λ_ _ _ _ H _ Q _ hr h _ Y=>?_;obtain⟨t,b,rfl,hb,hs,q⟩:=h;apply Y;refine⟨_,(qD (qc (PW.pt (xh (jr (jO (qJ T.D0 (jG T) hr rfl (qA (pv 0) qB)))) (ju (jr (jO (qJ T.D0 (jG T) hr rfl (qA (pv 1) qB))))))) xE qO)
  (qD (qc (qL jW (pv 1) qG (qR _)) xE qO)
  (qD (qZ 2 qAn.nd (qJ T.D1 (kJ T) hr rfl (qA (pv 0) (qA (pv 1) qB))))
  (qD (qc (qL wN (pv 1) qG (qR _)) (qF (qZ 2 qAn.nd (wS zI (pv 2)))) qO)
  (qF (qM (qh (qA (qQ qj (pv 0) (pv 2)) (qA (qQ qj (pv 1) (pv 2)) qB))))))))),?_⟩
 try dsimp only[jV,qk]
 refine⟨_,O,t,O,true,O,jH ?_⟩;refine⟨_,O,b,O,true,O,jH ?_⟩;refine⟨_,O,O,_,O,?_⟩;refine je (λc=>YC (by simpa using c) hb) (λ_=>?_);refine⟨_,O,_,O,t,b,O,?_⟩;refine⟨_,O,_,_,O,O,_,O,?_⟩;obtain⟨d1,d2⟩:=qM6 (t:=t) hb hs;refine je (λc=>?_) (λc=>?_)
 . have c':b<0:=by simpa using c
   have e: -((Int.gcd t b:Nat):Int)=sg t b:=by unfold sg;rw[YB c']
   have q':qS2 H Q (t.fdiv (-((Int.gcd t b:Nat):Int))) (b.fdiv (-((Int.gcd t b:Nat):Int))):=by rw[e];exact q
   exact⟨_,O,_,O,_,O,_,O,_,_,O,O,(by rw[e];exact d1),_,O,_,O,_,_,O,O,(by rw[e];exact d2),sL2,q'⟩
 . have c':¬b<0:=by simpa using c
   have e:((Int.gcd t b:Nat):Int)=sg t b:=by unfold sg;rw[YA c']
   have q':qS2 H Q (t.fdiv ((Int.gcd t b:Nat):Int)) (b.fdiv ((Int.gcd t b:Nat):Int)):=by rw[e];exact q
   exact⟨_,O,_,O,_,_,O,O,(by rw[e];exact d1),_,O,_,O,_,_,O,O,(by rw[e];exact d2),sL2,q'⟩
def Pr(K:W.Frag)(H:Hp)(v:V)(p q:Int):Prop:= ∃z,v=.ref z/\SqT K H z [.int p,.int q]
def Sm(i:Int):Prop:=i.natAbs<2 ^ 3000
theorem Sm.mul{i:Int}(h1:Sm i)(h2:Sm j):CMulB i j:=by unfold Sm at h1 h2;have:(2:Nat) ^ 3000<=2 ^ 60000:=Yh (by decide) (by decide);exact .inr ⟨by omega,by omega⟩
theorem Sm.prod{i:Int}(h1:Sm i)(h2:Sm j):(i*j).natAbs<2 ^ 8000:=by unfold Sm at h1 h2;rw[Int.natAbs_mul];have h3:i.natAbs*j.natAbs<2 ^ 3000*2 ^ 3000:=Nat.mul_lt_mul'' h1 h2;rw[<-Nat.pow_add]at h3;exact YR h3 (Yh (by decide) (by decide))
theorem at0{x y:V}:atI [x,y] 0=some x:=rfl
theorem at1{x y:V}:atI [x,y] 1=some y:=rfl
inductive qPb(K:W.Frag)(vs:List V)(H:Hp)(Q:VK)(_:XK):Prop
|mk (x y:V) (p q r s:Int) (_:vs=[x,y]) (_:Pr K H x p q) (_:Pr K H y r s) (_:q≠0) (_:s≠0) (_:Sm p) (_:Sm q) (_:Sm r) (_:Sm s) (_:qS2 H Q (xI (p*s+r*q) (q*s)) (jq (p*s+r*q) (q*s)))
theorem qRd(T:Tx K mg a):FnOk P w K mg base CX0 3 a.A4 a.B4 ["one","other"] (qPb K):=by
 refine oL T.D4.F qQd λ_ _ _ _ H vs Q _ hr h _ Y=>?_;obtain⟨x,y,p,q,r,s',rfl,⟨z1,rfl,h1⟩,⟨z2,rfl,h2⟩,hq,hs,bp,bq,br,bs,k⟩:=h;apply Y;refine⟨_,(qF (qM (qJ T.D3 (xl T) hr rfl (qA (qQ qm (qQ jK (qI (pv 0)) (qI (pv 1))) (qQ jK (qI (pv 1)) (qI (pv 0)))) (qA (qQ jK (qI (pv 0)) (qI (pv 1))) qB))))),?_⟩
 try dsimp only[jV,qk]
 refine(z6 rfl h1 at0 (z6 rfl h2 at1 ⟨_,_,O,O,bp.mul bs,?_⟩));refine(z6 rfl h2 at0 (z6 rfl h1 at1 ⟨_,_,O,O,br.mul bq,_,_,O,O,?_⟩));refine(z6 rfl h1 at1 (z6 rfl h2 at1 ⟨_,_,O,O,bq.mul bs,?_⟩));exact⟨_,_,O,ZW hq hs,bq.prod bs,k⟩
inductive qKw(K:W.Frag)(vs:List V)(H:Hp)(Q:VK)(_:XK):Prop
|mk (x:V) (p q:Int) (_:vs=[x]) (_:Pr K H x p q) (_:q≠0) (_:q.natAbs<2 ^ 8000) (_:Q (.int (p.fdiv q)) H)
theorem kr(T:Tx K mg a):FnOk P w K mg base CX0 1 a.A9 a.B9 ["one"] (qKw K):=by
 refine oL T.D9.F qLr λ_ _ _ _ _ _ _ _ hr h _ Y=>?_;obtain⟨x,p,q,rfl,⟨z1,rfl,h1⟩,hq,bq,k⟩:=h;apply Y;refine⟨_,(qF (qM (qQ qj (qI (pv 0)) (qI (pv 0))))),?_⟩
 try dsimp only[jV,qk]
 exact(z6 rfl h1 at0 (z6 rfl h1 at1 ⟨_,_,O,O,⟨hq,bq⟩,k⟩))
theorem nz(h:j≠0:=by decide):j≠0:=h
theorem cdB{i:Int}(h0:j≠0)(h:j.natAbs<18446744073709551616):CDivB i j:=
 ⟨h0,YR h (ZD (by decide:18446744073709551616<=2 ^ 64) (Yh (by decide) (by decide)))⟩
theorem cmR{i:Int}(h1: -(18446744073709551616:Int)<j)(h2:j<18446744073709551616):CMulB i j:=.inl (.inr ⟨h1,h2⟩)
theorem cmL{i:Int}(h1: -(18446744073709551616:Int)<i)(h2:i<18446744073709551616):CMulB i j:=.inl (.inl ⟨h1,h2⟩)
theorem at2{x y:V}{i:Int}(h0:0<=i)(h1:i<2):∃v,atI [x,y] i=some v/\(v=x\/v=y):=by
 have:i=0\/i=1:=by omega
 rcases this with rfl|rfl
 . exact⟨x,O,.inl rfl⟩
 . exact⟨y,O,.inr rfl⟩
theorem fm(i:Int)(h:0<j):0<=i.fmod j/\i.fmod j<j:=⟨Int.fmod_nonneg_of_pos i h,Int.fmod_lt_of_pos i h⟩
theorem cpw(h:n<=1000000):qZe 10 (n:Int):=⟨by omega,by omega,by decide⟩
def qS6(n:Nat)(p q:Int):Prop:=0<q/\Int.gcd p q=1/\p.natAbs<2 ^ n/\q.natAbs<2 ^ n
theorem Sm.of200{i:Int}(h:i.natAbs<2 ^ 200):Sm i:=YR h (Yh (by decide) (by decide))
theorem qMb{t:Int}(hb:0<b)(h1:t.natAbs<2 ^ n)(h2:b.natAbs<2 ^ n):qS6 n (xI t b) (jq t b):=
 ⟨xD (by omega),qAa (by omega),Yd (qA1 (by omega)) h1,Yd (kh (by omega)) h2⟩
inductive qLz(K:W.Frag)(vs:List V)(H:Hp)(Q:VK)(_:XK):Prop
|mk (x y:V) (p q r s:Int) (_:vs=[x,y]) (_:Pr K H x p q) (_:Pr K H y r s) (_:q≠0) (_:s≠0) (_:Sm p) (_:Sm q) (_:Sm r) (_:Sm s) (_:qS2 H Q (xI (p*r) (q*s)) (jq (p*r) (q*s)))
theorem qK4(T:Tx K mg a):FnOk P w K mg base CX0 3 a.A6 a.B6 ["one","other"] (qLz K):=by
 refine oL T.D6.F qKm λ_ _ _ s H vs Q _ hr h _ Y=>?_;obtain⟨x,y,p,q,r,s',rfl,⟨z1,rfl,h1⟩,⟨z2,rfl,h2⟩,hq,hs,bp,bq,br,bs,k⟩:=h;apply Y;refine⟨_,(qF (qM (qJ T.D3 (xl T) hr rfl (qA (qQ jK (qI (pv 0)) (qI (pv 1))) (qA (qQ jK (qI (pv 0)) (qI (pv 1))) qB))))),?_⟩
 try dsimp only[jV,qk]
 refine(z6 rfl h1 at0 (z6 rfl h2 at0 ⟨_,_,O,O,bp.mul br,?_⟩));refine(z6 rfl h1 at1 (z6 rfl h2 at1 ⟨_,_,O,O,bq.mul bs,?_⟩));exact⟨_,_,O,ZW hq hs,bq.prod bs,k⟩
inductive qOk(K:W.Frag)(vs:List V)(H:Hp)(Q:VK)(_:XK):Prop
|mk (x y:V) (p q r s:Int) (_:vs=[x,y]) (_:Pr K H x p q) (_:Pr K H y r s) (_:q≠0) (_:s≠0) (_:Sm p) (_:Sm q) (_:Sm r) (_:Sm s) (_:qS2 H Q (xI (p*s-r*q) (q*s)) (jq (p*s-r*q) (q*s)))
theorem qCa(T:Tx K mg a):FnOk P w K mg base CX0 3 a.A5 a.B5 ["one","other"] (qOk K):=by
 refine oL T.D5.F qN1 λ_ _ _ s H vs Q _ hr h _ Y=>?_;obtain⟨x,y,p,q,r,s',rfl,⟨z1,rfl,h1⟩,⟨z2,rfl,h2⟩,hq,hs,bp,bq,br,bs,k⟩:=h;apply Y;refine⟨_,(qF (qM (qJ T.D3 (xl T) hr rfl (qA (qQ jR (qQ jK (qI (pv 0)) (qI (pv 1))) (qQ jK (qI (pv 1)) (qI (pv 0)))) (qA (qQ jK (qI (pv 0)) (qI (pv 1))) qB))))),?_⟩
 try dsimp only[jV,qk]
 refine(z6 rfl h1 at0 (z6 rfl h2 at1 ⟨_,_,O,O,bp.mul bs,?_⟩));refine(z6 rfl h2 at0 (z6 rfl h1 at1 ⟨_,_,O,O,br.mul bq,_,_,O,O,?_⟩));refine(z6 rfl h1 at1 (z6 rfl h2 at1 ⟨_,_,O,O,bq.mul bs,?_⟩));exact⟨_,_,O,ZW hq hs,bq.prod bs,k⟩
inductive qLu(K:W.Frag)(vs:List V)(H:Hp)(Q:VK)(_:XK):Prop
|mk (x y:V) (p q r s:Int) (_:vs=[x,y]) (_:Pr K H x p q) (_:Pr K H y r s) (_:q≠0) (_:r≠0) (_:Sm p) (_:Sm q) (_:Sm r) (_:Sm s) (_:qS2 H Q (xI (p*s) (q*r)) (jq (p*s) (q*r)))
theorem qDz(T:Tx K mg a):FnOk P w K mg base CX0 3 a.A7 a.B7 ["one","other"] (qLu K):=by
 refine oL T.D7.F qKo λ_ _ _ s H vs Q _ hr h _ Y=>?_;obtain⟨x,y,p,q,r,s',rfl,⟨z1,rfl,h1⟩,⟨z2,rfl,h2⟩,hq,hr',bp,bq,br,bs,k⟩:=h;apply Y;refine⟨_,(qF (qM (qJ T.D3 (xl T) hr rfl (qA (qQ jK (qI (pv 0)) (qI (pv 1))) (qA (qQ jK (qI (pv 0)) (qI (pv 1))) qB))))),?_⟩
 try dsimp only[jV,qk]
 refine(z6 rfl h1 at0 (z6 rfl h2 at1 ⟨_,_,O,O,bp.mul bs,?_⟩));refine(z6 rfl h1 at1 (z6 rfl h2 at0 ⟨_,_,O,O,bq.mul br,?_⟩));exact⟨_,_,O,ZW hq hr',bq.prod br,k⟩
inductive qKh(K:W.Frag)(vs:List V)(H:Hp)(Q:VK)(_:XK):Prop
|mk (x y:V) (p q r s:Int) (_:vs=[x,y]) (_:Pr K H x p q) (_:Pr K H y r s) (_:Sm p) (_:Sm q) (_:Sm r) (_:Sm s) (_:Q (.bl (decide (p*s<r*q))) H)
theorem qJx(T:Tx K mg a):FnOk P w K mg base CX0 1 a.A8 a.B8 ["one","other"] (qKh K):=by
 refine oL T.D8.F qJ5 λ_ _ _ s H _ _ _ hr h _ Y=>?_;obtain⟨x,y,p,q,r,s',rfl,⟨z1,rfl,h1⟩,⟨z2,rfl,h2⟩,bp,bq,br,bs,k⟩:=h;apply Y;refine⟨_,(qF (qM (jn wN (qQ jK (qI (pv 0)) (qI (pv 1))) (qQ jK (qI (pv 1)) (qI (pv 0))) (qR _)))),?_⟩
 try dsimp only[jV,qk]
 refine(z6 rfl h1 at0 (z6 rfl h2 at1 ⟨_,_,O,O,bp.mul bs,?_⟩));exact(z6 rfl h2 at0 (z6 rfl h1 at1 ⟨_,_,O,O,br.mul bq,_,_,O,O,k⟩))
structure Cp(K:W.Frag)(H:Hp)(v:V)(n:Str)(p q r s len:Int):Prop where
 ex:∃z z1 z2,v=.ref z/\SqT K H z [.str "clip",.str n,.ref z1,.ref z2,.int len]/\SqT K H z1 [.int p,.int q]/\SqT K H z2 [.int r,.int s]
theorem Cp.same{n:Str}{len:Int}(e:Same H H')(h:Cp K H v n p q r s len):Cp K H' v n p q r s len:=
 let ⟨z,z1,z2,h1,h2,h3,h4⟩:=h.ex;⟨z,z1,z2,h1,L3.Same.tup e h2,L3.Same.tup e h3,L3.Same.tup e h4⟩
theorem qVc:atI [x0,x1,x2,x3,x4] 2=some x2:=rfl
theorem qK7:atI [x0,x1,x2,x3,x4] 3=some x3:=rfl
theorem qR1{k:Int}(hq:0<q)(hs:0<s):
 xI (p*jq (k*r) (1*s)+xI (k*r) (1*s)*q) (q*jq (k*r) (1*s))=xI (p*s+k*r*q) (q*s)/\
 jq (p*jq (k*r) (1*s)+xI (k*r) (1*s)*q) (q*jq (k*r) (1*s))=jq (p*s+k*r*q) (q*s):=by
 rw[Int.one_mul];have c:=xy (k*r) s;have n0:=xD (t:=k*r) (b:=s) (by omega);generalize xI (k*r) s=m at c⊢;generalize jq (k*r) s=n at c n0⊢;have b1:q*s≠0:=ZW (by omega) (by omega);have b2:q*n≠0:=ZW (by omega) (by omega);refine qJo b2 (xD b1) (qAa b1) ?_;have e:=xy (p*s+k*r*q) (q*s);generalize xI (p*s+k*r*q) (q*s)=u at e⊢;generalize jq (p*s+k*r*q) (q*s)=v at e⊢;have h:(u*(q*n))*s=((p*n+m*q)*v)*s:=by
  calc (u*(q*n))*s=(u*(q*s))*n:=by rw[Yi,Yi,Yi,Yi,ZK n s]
   _=((p*s+k*r*q)*v)*n:=by rw[e]
   _=(p*n*s+(k*r*n)*q)*v:=by
    have h1:(p*s+k*r*q)*v*n=(p*s+k*r*q)*n*v:=by rw[Yi,ZK v n,<-Yi]
    have h2:(p*s+k*r*q)*n=p*n*s+k*r*n*q:=by rw[Int.add_mul,Yi p s n,ZK s n,<-Yi,Yi (k*r) q n,ZK q n,<-Yi]
    rw[h1,h2]
   _=(p*n*s+(m*s)*q)*v:=by rw[<-c]
   _=((p*n+m*q)*v)*s:=by
    have h3:p*n*s+m*s*q=(p*n+m*q)*s:=by rw[Int.add_mul,Yi m s q,ZK s q,<-Yi]
    rw[h3,Yi,ZK s v,<-Yi]
 exact ZX (by omega) h
def Sm2(i:Int):Prop:=i.natAbs<2 ^ 700
theorem Sm2.sm{i:Int}(h:Sm2 i):Sm i:=YR h (Yh (by decide) (by decide))
theorem j7{i:Int}{m:Nat}(h1:i.natAbs<2 ^ n)(h2:j.natAbs<2 ^ m):(i*j).natAbs<2 ^ (n+m):=by rw[Int.natAbs_mul,Nat.pow_add];exact Nat.mul_lt_mul'' h1 h2
inductive qLk(K:W.Frag)(vs:List V)(H:Hp)(Q:VK)(_:XK):Prop
|mk (v:V) (n:Str) (p q r s len k:Int) (_:vs=[v,.int k]) (_:Cp K H v n p q r s len) (_:0<q) (_:0<s) (_:Sm2 p) (_:Sm2 q) (_:Sm2 r) (_:Sm2 s) (_:Sm2 k) (_:∀z H',Same H H'->H' z=some (.tup [.int (xI (p*s+k*r*q) (q*s)),.int (jq (p*s+k*r*q) (q*s))])->Q (.ref z) H')
theorem zh(T:Tx K mg a):FnOk P w K mg base CX0 4 a.A12 a.B12 ["clip","k"] (qLk K):=by
 refine oL T.D12.F qK2 λ_ _ _ _ H _ _ _ hr h _ Y=>?_;obtain⟨v,n,p,q,r,s',len,k,rfl,⟨z,z1,z2,rfl,hc,h1,h2⟩,hq,hs,bp,bq,br,bs,bk,kk⟩:=h;apply Y;refine⟨_,(qF (qM (qJ T.D4 (qRd T) hr rfl (qA (qI (pv 0)) (qA (qJ T.D6 (qK4 T) hr rfl (qA (qJ T.D3 (xl T) hr rfl (qA (pv 1) (qA qG qB))) (qA (qI (pv 0)) qB))) qB))))),?_⟩
 try dsimp only[jV,qk]
 refine⟨_,O,z,_,_,_,O,O,hc,qVc,_,O,k,1,O,by decide,YR (m:=2 ^ 1) (by decide) (Yh (by decide) (by decide)),λy hy=>?_⟩;have s1:=qE hy (.tup [.int (xI k 1),.int (jq k 1)]);obtain⟨l1,l2⟩:=qMm (p:=k) (q:=1) (by decide) (Int.gcd_one_right ..);refine⟨_,O,z,_,_,_,O,O,L3.Same.tup s1 hc,qK7,?_⟩;have one:Sm 1:=YR (m:=2 ^ 1) (by decide) (Yh (by decide) (by decide));refine⟨_,_,k,1,r,s',O,⟨y,O,?_⟩,⟨z2,O,L3.Same.tup s1 h2⟩,by decide,by omega,bk.sm,one,br.sm,bs.sm,λx hx=>?_⟩
 . have e:SqT K (upd H y (.tup [.int (xI k 1),.int (jq k 1)])) y [.int (xI k 1),.int (jq k 1)]:=SqT.of qC
   rw[l1,l2]at e⊢;exact e
 have s2:=s1.trans (qE hx (.tup [.int (xI (k*r) (1*s')),.int (jq (k*r) (1*s'))]));have b1:(1*s')≠0:=by omega
 have n0:=xD (t:=k*r) b1;have bm:Sm (xI (k*r) (1*s')):=by refine Yd (qA1 b1) (YR (j7 bk br) (Yh (by decide) (by decide)))
 have bn:Sm (jq (k*r) (1*s')):=by refine Yd (kh b1) ?_;rw[Int.one_mul];exact bs.sm
 refine⟨_,_,p,q,_,_,O,⟨z1,O,L3.Same.tup s2 h1⟩,⟨x,O,SqT.of qC⟩,by omega,by omega,bp.sm,bq.sm,bm,bn,λu hu=>?_⟩;obtain⟨e1,e2⟩:=qR1 (p:=p) (r:=r) (k:=k) hq hs;refine kk u _ (s2.trans (qE hu _)) ?_;rw[qC,e1,e2]
theorem qEr{t:Int}(hb:0<b):(xI t b).fdiv (jq t b)=t.fdiv b:=by
 have e1:=qSd t b;have e2:=qOu t b;have sp:0<sg t b:=by have g:=qCp (t:=t) (b:=b) (by omega);unfold sg;rw[YA (by omega)];omega
 have q0:=xD (t:=t) (b:=b) (by omega);obtain⟨h1,h2⟩:=qz (p:=xI t b) q0;obtain⟨h3,h4⟩:=qz (p:=t) hb;generalize (xI t b).fdiv (jq t b)=f at h1 h2⊢;generalize t.fdiv b=g at h3 h4⊢;generalize xI t b=u at e1 h1 h2;generalize jq t b=v at e2 h1 h2 q0;generalize sg t b=w at e1 e2 sp;subst e1 e2;have k1:g*v<=u:=by rw[<-Yi]at h3;exact Int.le_of_mul_le_mul_right h3 sp
 have k2:u<(g+1)*v:=by rw[<-Yi]at h4;exact Yr h4 (by omega)
 have k3:f<g+1:=Yr (a:=v) (by omega) (by omega);have k4:g<f+1:=Yr (a:=v) (by omega) (by omega);omega
inductive qH6(K:W.Frag)(vs:List V)(H:Hp)(Q:VK)(_:XK):Prop
|mk (v:V) (n:Str) (p q r s len k:Int) (_:vs=[v,.int k]) (_:Cp K H v n p q r s len) (_:0<q) (_:0<s) (_:Sm2 p) (_:Sm2 q) (_:Sm2 r) (_:Sm2 s) (_:Sm2 k) (_:∀H',Same H H'->Q (.int ((p*s+k*r*q).fdiv (q*s))) H')
theorem qA4(T:Tx K mg a):FnOk P w K mg base CX0 5 a.A13 a.B13 ["clip","k"] (qH6 K):=by
 refine oL T.D13.F qH2 λ_ _ _ _ _ _ _ _ hr h _ Y=>?_;obtain⟨v,n,p,q,r,s',len,k,rfl,hc,hq,hs,bp,bq,br,bs,bk,kk⟩:=h;apply Y;refine⟨_,(qF (qM (qJ T.D9 (kr T) hr rfl (qA (qJ T.D12 (zh T) hr rfl (qA (pv 0) (qA (pv 1) qB))) qB)))),?_⟩
 try dsimp only[jV,qk]
 refine⟨_,O,_,O,v,n,p,q,r,s',len,k,O,hc,hq,hs,bp,bq,br,bs,bk,λz H' sH hz=>?_⟩;have b1:q*s'≠0:=ZW (by omega) (by omega);refine⟨_,_,_,O,⟨z,O,SqT.of hz⟩,?_,?_,?_⟩
 . have:=xD (t:=p*s'+k*r*q) b1;omega
 . exact Yd (kh b1) (YR (j7 bq bs) (Yh (by decide) (by decide)))
 . rw[qEr (Yu hq hs)]
   exact kk H' sH
theorem qW2:atI [x0,x1,x2,x3,x4] 0=some x0:=rfl
theorem qIz:atI [x0,x1,x2,x3,x4] 1=some x1:=rfl
theorem qC4:atI [x0,x1,x2,x3,x4] 4=some x4:=rfl
theorem eq2(a b c d:Int):qJ7 [.int a,.int b] [.int c,.int d]=(a==c && b==d):=by simp[qJ7,eqV,List.range_succ]
structure Bn(n:Nat)(p q r s:Int):Prop where
 q0:0<q
 s0:0<s
 bp:p.natAbs<2 ^ n
 bq:q.natAbs<2 ^ n
 br:r.natAbs<2 ^ n
 bs:s.natAbs<2 ^ n
theorem qAu{i:Int}{m:Nat}(h:i.natAbs<2 ^ n)(l:n<=m:=by decide):i.natAbs<2 ^ m:=YR h (Yh (by decide) l)
theorem Bn.mono{m:Nat}(h:Bn n p q r s)(l:n<=m:=by decide):Bn m p q r s:=⟨h.q0,h.s0,qAu h.bp l,qAu h.bq l,qAu h.br l,qAu h.bs l⟩
theorem Bn.part{k:Int}(h:Bn 110 p q r s)(hk:k.natAbs<2 ^ 30):Bn 340 (plP p q r s k) (plQ p q r s k) r s:=by
 obtain⟨hq,hs,bp,bq,br,bs⟩:=h;refine⟨qF5 hq hs,hs,Yd (qU7 hq hs) ?_,Yd (qVi hq hs) (qAu (j7 bq bs)),qAu br,qAu bs⟩;have h1:=j7 bp bs;have h2:=j7 (j7 hk br) bq;have e:(2:Nat) ^ (110+110)+2 ^ (30+110+110)<=2 ^ 340:=by decide
 omega
theorem qS8{i:Int}(h:i.natAbs<2 ^ n)(l:n<=8000:=by decide):i.natAbs<2 ^ 8000:=qAu h l
inductive qE8(K:W.Frag)(vs:List V)(H:Hp)(Q:VK)(_:XK):Prop
|mk (z:Addr) (ns:List Int) (i:Int) (_:vs=[.ref z,.int i]) (_:SqL K H z (ns.map V.int)) (_:ns.length<=63) (_:0<=i) (_:∀c:Int,Q (.int c) H)
theorem xP(T:Tx K mg a):FnOk P w K mg base CX0 1 a.A77 a.B77 ["_law_script","_law_k"] (qE8 K):=by
 refine oL T.D77.F qFg λ_ _ _ _ _ _ _ _ hr h _ Y=>?_;obtain⟨z,ns,i,rfl,hS,hl,h0,k⟩:=h;apply Y;refine⟨_,(qD (qc (qL wN (pv 1) (qd jM rfl T.b_len rfl (qA (pv 0) qB)) (qR _)) (qF (qM (jP qo (pv 0) (pv 1) (λ_ _=>rfl)))) qO)
  (qF (qM qG))),?_⟩
 try dsimp only[jV,qk]
 have hml:(ns.map V.int).length=ns.length:=YS _;refine⟨_,O,_,O,z,_,O,.inl hS,_,_,O,O,_,O,?_⟩;refine je (λc=>?_) (λ_=>?_)
 . have c':i<((ns.map V.int).length:Int):=ZM c
   rw[hml]at c';have hi:i.toNat<ns.length:=by omega
   have e:i=((i.toNat:Nat):Int):=by omega
   have hat:atI (ns.map V.int) ((i.toNat:Nat):Int)=some (.int ns[i.toNat]):=q8 (by rw[Yj,YD hi];rfl);rw[<-e]at hat;exact⟨_,O,_,O,z,_,_,.int ns[i.toNat],O,O,hS,hat,k _⟩
 . exact k 0
noncomputable def thB(i m:Int):Bool:=decide (0<=i) && decide (i<m)
theorem qQ6{D m:Int}(hD:0<D):thB (N.fdiv D) m=true↔InR N D m:=by rw[qEp hD];simp[thB]
inductive qL4(vs:List V)(H:Hp)(Q:VK)(_:XK):Prop
|mk (i m:Int) (_:vs=[.int i,.int m]) (_:Q (.bl (thB i m)) H)
theorem qAp(T:Tx K mg a):FnOk P w K mg base CX0 1 a.A14 a.B14 ["picture","many"] qL4:=by
 refine oL T.D14.F qLn λ_ _ _ _ _ _ _ _ hr h _ Y=>?_;obtain⟨i,m,rfl,q⟩:=h;apply Y;refine⟨_,(qF (qM (zq (jn qSi qG (pv 0) (qR _)) (vK (jn wN (pv 0) (pv 1) (qR _)))))),?_⟩
 try dsimp only[jV,qk]
 refine⟨_,O,_,_,O,O,_,O,?_⟩;unfold thB at q;by_cases h0:0<=i
 . rw[YX h0]at q⊢
   exact j5 ⟨_,O,_,O,_,_,O,O,q⟩
 . rw[YW h0]at q⊢
   exact jH q
noncomputable def qXv(c:Nat):Bool:=!(Builtin.Str.occurrences "abcdefghijklmnopqrstuvwxyz" ⟨#[c]⟩ 0 ("abcdefghijklmnopqrstuvwxyz":Str).length 1).isEmpty
noncomputable def qKf(z:Str):Bool:=decide (1<=z.length/\z.length<=8) && z.cps.toList.all qXv
theorem qH9{c d:Int}(hd:0<d)(g:Int.gcd c d=1):xI (0*d-c*1) (1*d)=-c/\jq (0*d-c*1) (1*d)=d:=by
 refine qJo (by omega) hd (by rw[Int.neg_gcd];exact g) ?_
 grind
inductive qDg(K:W.Frag)(vs:List V)(H:Hp)(Q:VK)(_:XK):Prop
|mk (x y:V) (A B c d m:Int) (_:vs=[x,y,.int m]) (_:Pr K H x A B) (_:Pr K H y c d) (_:0<B) (_:0<d) (_:Int.gcd c d=1) (_:A.natAbs<2 ^ 700) (_:B.natAbs<2 ^ 700) (_:c.natAbs<2 ^ 700) (_:d.natAbs<2 ^ 700) (_:m.natAbs<2 ^ 700) (_:∀H',Same H H'->Q (.int (zl (A*d) (c*B) (B*d) m)) H')
theorem vJ(T:Tx K mg a):FnOk P w K mg base CX0 4 a.A18 a.B18 ["first","step","many"] (qDg K):=by
 refine oL T.D18.F zG λ_ _ _ _ H _ Q _ hr h _ Y=>?_;obtain⟨x,y,A',B,c,d,m,rfl,⟨z1,rfl,h1⟩,⟨z2,rfl,h2⟩,hB,hd,hg,bA,bB,bc,bd,bm,kk⟩:=h;apply Y;have hu:=hr.units0;refine⟨_,(qD (qc (qL (qTr hu) (pv 1) (xY (v:=.ref a.n_NOUGHT) rfl T.g_NOUGHT rfl) (qR _)) (qF (qM (xY (v:=.int 1000000) rfl T.g_MOST_ROOM ⟨_,O⟩))) qO)
  (qD (qc (jr (jO (qJ T.D14 (qAp T) hr rfl (qA (qJ T.D9 (kr T) hr rfl (qA (pv 0) qB)) (qA (pv 2) qB))))) (qF (qM qG)) qO)
  (qD (xV (qc (jO (qJ T.D8 (qJx T) hr rfl (qA (pv 1) (qA (xY (v:=.ref a.n_NOUGHT) rfl T.g_NOUGHT rfl) qB)))) (qF (qZ 3 zG.nd (qQ qm (qJ T.D9 (kr T) hr rfl (qA (qJ T.D7 (qDz T) hr rfl (qA (pv 0) (qA (qJ T.D5 (qCa T) hr rfl (qA (xY (v:=.ref a.n_NOUGHT) rfl T.g_NOUGHT rfl) (qA (pv 1) qB))) qB))) qB)) qG))) (qF (qZ 3 zG.nd (wS zI (qJ T.D9 (kr T) hr rfl (qA (qJ T.D7 (qDz T) hr rfl (qA (qJ T.D5 (qCa T) hr rfl (qA (pv 0) (qA (qJ T.D3 (xl T) hr rfl (qA (pv 2) (qA qG qB))) qB))) (qA (pv 1) qB))) qB)))))))
  (qF (qM (qd (zf rfl) rfl T.b_min rfl (qA (pv 3) (qA (xY (v:=.int 1000000) rfl T.g_MOST_ROOM ⟨_,rfl⟩) qB)))))))),?_⟩
 try dsimp only[jV,qk]
 have S:∀{i:Int},i.natAbs<2 ^ 700->Sm i:=λh=>qAu h;have one:Sm 1:=Sm.of200 (by decide);have nul:Sm 0:=Sm.of200 (by decide);have hBd:=Yu hB hd;have H1:∀{H':Hp},Same H H'->SqT K H' z1 [.int A',.int B]:=λe=>L3.Same.tup e h1;have H2:∀{H':Hp},Same H H'->SqT K H' z2 [.int c,.int d]:=λe=>L3.Same.tup e h2;refine⟨_,O,_,_,_,_,O,O,h2,T.sq_NOUGHT _,O,O,_,O,?_⟩;rw[YA (by decide:¬(false=true)),eq2];by_cases hc:c=0
 . have d1:d=1:=by subst hc;rw[Int.gcd_zero_left]at hg;omega
   rw[show (c==0 && d==1)=true by simp[hc,d1]];refine j5 ?_;have:=kk H (Same.refl _);unfold zl at this;rw[YB (by rw[hc,Int.zero_mul])]at this;exact this
 rw[show (c==0 && d==1)=false by simp[hc]];refine jH ?_;have hcB:¬(c*B=0):=ZW hc (by omega);have ef:A'.fdiv B=(A'*d).fdiv (B*d):=qBv hB hBd (by grind);refine⟨_,O,_,A',B,O,⟨z1,O,h1⟩,by omega,qS8 bB,_,O,_,_,O,_,O,?_⟩;by_cases ht:0<=A'.fdiv B/\A'.fdiv B<m
 rotate_left
 . rw[show thB (A'.fdiv B) m=false by unfold thB;rw[Bool.eq_false_iff];simpa using ht]
   refine j5 ?_;have:=kk H (Same.refl _);unfold zl at this;rw[YA hcB,YB (by rw[<-ef];exact ht)]at this;exact this
 rw[show thB (A'.fdiv B) m=true by simp[thB,ht]];refine jH ?_;have res:∀H',Same H H'->Q (.int (if 1000000<(if c*B<0 then (A'*d).fdiv (-(c*B))+1 else-((A'*d-m*(B*d)).fdiv (c*B)))then 1000000 else (if c*B<0 then (A'*d).fdiv (-(c*B))+1 else-((A'*d-m*(B*d)).fdiv (c*B))))) H':=λH' e=>by have:=kk H' e;unfold zl at this;rw[YA hcB,YA (by rw[<-ef];simpa using ht)]at this;exact this
 generalize hgg:(if c*B<0 then (A'*d).fdiv (-(c*B))+1 else-((A'*d-m*(B*d)).fdiv (c*B)))=g at res;refine⟨λσ' H'=>σ'=[some (.ref z1),some (.ref z2),some (.int m),some (.int g)]/\Same H H',?_,?_⟩
 . refine⟨_,O,_,_,c,d,0,1,O,⟨z2,O,h2⟩,⟨_,O,T.sq_NOUGHT _⟩,S bc,S bd,nul,one,_,O,?_⟩
   by_cases hn:c*1<0*d
   . rw[YX hn]
     refine j5 ?_;have c0:c<0:=by omega
     refine⟨_,O,_,O,_,_,0,1,c,d,O,⟨_,O,T.sq_NOUGHT _⟩,⟨z2,O,h2⟩,by decide,by omega,nul,one,S bc,S bd,λu hu'=>?_⟩;rw[(qH9 hd hg).1,(qH9 hd hg).2];have w1:=qE hu' (.tup [.int (-c),.int d]);have bnc:(-c).natAbs<2 ^ 700:=by rw[Int.natAbs_neg];exact bc
     have hpos:0<B*(-c):=Yu hB (by omega);refine⟨_,_,A',B,-c,d,O,⟨z1,O,H1 w1⟩,⟨u,O,SqT.of qC⟩,by omega,by omega,S bA,S bB,S bnc,S bd,λv hv=>?_⟩;have w2:=w1.trans (qE hv (.tup [.int (xI (A'*d) (B*(-c))),.int (jq (A'*d) (B*(-c)))]));have lq:=xD (t:=A'*d) (b:=B*(-c)) (by omega);refine⟨_,_,_,O,⟨v,O,SqT.of qC⟩,by omega,Yd (kh (by omega)) (qS8 (j7 bB bnc)),?_⟩;rw[qEr hpos];refine⟨_,_,O,O,?_,w2⟩;have e:g=(A'*d).fdiv (B* -c)+1:=by rw[<-hgg,YB (by have:=Int.mul_neg_of_neg_of_pos c0 hB;exact this)];rw[show-(c*B)=B* -c by grind]
     rw[e];rfl
   . rw[YW hn]
     refine jH ?_;have c0:0<c:=by omega
     obtain⟨l1,l2⟩:=qMm (p:=m) (q:=1) (by decide) (Int.gcd_one_right ..);refine⟨_,O,_,O,m,1,O,by decide,qS8 (n:=1) (by decide),λu hu'=>?_⟩;rw[l1,l2];have w1:=qE hu' (.tup [.int m,.int 1]);refine⟨_,_,A',B,m,1,O,⟨z1,O,H1 w1⟩,⟨u,O,SqT.of qC⟩,by omega,by decide,S bA,S bB,S bm,one,λv hv=>?_⟩;have hb1:B*1≠0:=by omega
     have cr:=xy (A'*1-m*B) (B*1);have lq:=xD (t:=A'*1-m*B) hb1;have aP:=qA1 (t:=A'*1-m*B) hb1;have aQ:=kh (t:=A'*1-m*B) hb1;have w2:=w1.trans (qE hv (.tup [.int (xI (A'*1-m*B) (B*1)),.int (jq (A'*1-m*B) (B*1))]));have ev:=qC (H:=upd H u (.tup [.int m,.int 1])) (a:=v) (o:=.tup [.int (xI (A'*1-m*B) (B*1)),.int (jq (A'*1-m*B) (B*1))]);generalize upd (upd H u (.tup [.int m,.int 1])) v (.tup [.int (xI (A'*1-m*B) (B*1)),.int (jq (A'*1-m*B) (B*1))])=H3 at w2 ev⊢;generalize xI (A'*1-m*B) (B*1)=P' at cr aP ev⊢;generalize jq (A'*1-m*B) (B*1)=Q' at cr aQ lq ev⊢;have sP:Sm P':=by
      have t:=j7 bm bB;have:(A'*1-m*B).natAbs<2 ^ 1500:=by
       have e:(2:Nat) ^ 700+2 ^ (700+700)<=2 ^ 1500:=by decide
       rw[Int.mul_one];exact YR (Yd (Int.natAbs_sub_le _ _) (Nat.add_lt_add bA t)) e
      exact Yd aP (qAu this)
     have bQ:Q'.natAbs<2 ^ 700:=by rw[Int.mul_one]at aQ;omega
     refine⟨_,O,_,_,P',Q',c,d,O,⟨v,O,SqT.of ev⟩,⟨z2,O,H2 w2⟩,by omega,hc,sP,S bQ,S bc,S bd,λx hx=>?_⟩;have hpos:0<Q'*c:=Yu lq c0;have w3:=w2.trans (qE hx (.tup [.int (xI (P'*d) (Q'*c)),.int (jq (P'*d) (Q'*c))]));have lq2:=xD (t:=P'*d) (b:=Q'*c) (by omega);refine⟨_,_,_,O,⟨x,O,SqT.of qC⟩,by omega,Yd (kh (by omega)) (qS8 (j7 bQ bc)),?_⟩;rw[qEr hpos];refine⟨_,O,?_,w3⟩;have e:g=-(P'*d).fdiv (Q'*c):=by have hcB':=Yu c0 hB;rw[<-hgg,YA (by omega)];rw[qBv hcB' hpos (by grind:(A'*d-m*(B*d))*(Q'*c)=P'*d*(c*B))]
     rw[e];rfl
 rintro σ' H' ⟨rfl,sH⟩;exact⟨_,O,_,_,O,res H' sH⟩
theorem qPo(e:Same H H'){a:Addr}{u:HO}(h:Rd H a u):Rd H' a u:=by
 rcases h with h|⟨o,h⟩
 . exact .inl (e _ _ h)
 . exact .inr ⟨o,e _ _ h⟩
def Reel(H:Hp)(rd:Addr)(n:Str)(m:Int):Prop:= ∃kvs,Rd H rd (.dK kvs)/\qRm kvs (Sum.inr n)=some (.int m)
theorem Reel.same{n:Str}{m:Int}(e:Same H H')(h:Reel H rd n m):Reel H' rd n m:=let ⟨k,h1,h2⟩:=h;⟨k,qPo e h1,h2⟩
theorem Reel.get{n:Str}{m:Int}(h:Reel H rd n m):qSx H rd (.str n) (some (.int m)):=let ⟨k,h1,h2⟩:=h;.inl ⟨k,Sum.inr n,h1,rfl,h2.symm⟩
noncomputable def Vk(p q r s k:Int):Int:=p*s+k*r*q
structure Ch(H:Hp)(z:Addr)(n:Str)(p q r s len:Int):Prop where
 ex:∃z1 z2,H z=some (.tup [.str "clip",.str n,.ref z1,.ref z2,.int len])/\H z1=some (.tup [.int p,.int q])/\H z2=some (.tup [.int r,.int s])
theorem Ch.same{n:Str}{len:Int}(e:Same H H')(h:Ch H z n p q r s len):Ch H' z n p q r s len:=let ⟨z1,z2,h1,h2,h3⟩:=h.ex;⟨z1,z2,e _ _ h1,e _ _ h2,e _ _ h3⟩
theorem Ch.cp{n:Str}{len:Int}(h:Ch H z n p q r s len):Cp K H (.ref z) n p q r s len:=let ⟨z1,z2,h1,h2,h3⟩:=h.ex;⟨z,z1,z2,rfl,SqT.of h1,SqT.of h2,SqT.of h3⟩
theorem qBu{k0 e m:Int}(hq:0<q)(hs:0<s)(he:e=1\/e=-1)(h0:r=0->InR (Vk p q r s 0) (q*s) m):
 let g:=zl (plP p q r s k0*s) (e*r*plQ p q r s k0) (plQ p q r s k0*s) m
 0<=g/\g<=1000000/\(∀j,0<=j->j<g->InR (Vk p q r s (k0+e*j)) (q*s) m)/\(g<1000000->¬InR (Vk p q r s (k0+e*g)) (q*s) m)/\(r=0->g=1000000):=by
 intro g;have c:=qDq p q r s k0;have hb:=qF5 (p:=p) (r:=r) (k:=k0) hq hs;have hbs:=Yu hb hs;have hqs:=Yu hq hs;have cross:∀j:Int,InR (plP p q r s k0*s+j*(e*r*plQ p q r s k0)) (plQ p q r s k0*s) m↔InR (Vk p q r s (k0+e*j)) (q*s) m:=λj=>by
  refine qD2 hbs hqs ?_;unfold Vk;generalize plP p q r s k0=u at c⊢;generalize plQ p q r s k0=v at c⊢
  grind
 have key:=qUw (N:=plP p q r s k0*s) (R:=e*r*plQ p q r s k0) (D:=plQ p q r s k0*s) (m:=m) hbs (λz=>by
  have r0:r=0:=by
   rcases Int.mul_eq_zero.mp z with z|z
   . rcases Int.mul_eq_zero.mp z with z|z
     . omega
     . exact z
   . omega
  have:=h0 r0;have e0:=(cross 0).mpr (by
   have e:Vk p q r s (k0+e*0)=Vk p q r s 0:=by unfold Vk;rw[r0];grind
   rw[e];exact this)
  rw[Int.zero_mul,Yc]at e0;exact e0)
 obtain⟨k1,k2,k3,k4,k5⟩:=key;refine⟨k1,k2,λj a b=>(cross j).mp (k3 j a b),λz w=>k4 z ((cross _).mpr w),λz=>k5 ?_⟩;rw[z]
 grind
inductive qJ6(K:W.Frag)(vs:List V)(H:Hp)(Q:VK)(_:XK):Prop
|mk (v:V) (n:Str) (p q r s len m:Int) (rd:Addr) (_:vs=[v,.ref rd]) (_:Cp K H v n p q r s len) (_:qS6 110 p q) (_:qS6 110 r s) (_:Reel H rd n m) (_:m.natAbs<2 ^ 700) (_:∀H',Same H H'->Q (.int (zl (plP p q r s (-1)*s) (-1*r*plQ p q r s (-1)) (plQ p q r s (-1)*s) m)) H')
theorem wC(T:Tx K mg a):FnOk P w K mg base CX0 5 a.A19 a.B19 ["clip","reels"] (qJ6 K):=by
 refine oL T.D19.F qIq λ_ _ _ s H vs Q _ hr h _ Y=>?_;obtain⟨v,n,p,q,r,s',len,m,rd,rfl,hc,g1,g2,hrd,bm,kk⟩:=h;apply Y;have hu1:=qUl hr;refine⟨_,(qF (qM (qJ T.D18 (vJ T) hr rfl (qA (qJ T.D12 (zh T) hr rfl (qA (pv 0) (qA (wS zI qG) qB))) (qA (qJ T.D5 (qCa T) hr rfl (qA (xY (v:=.ref a.n_NOUGHT) rfl T.g_NOUGHT rfl) (qA (qI (pv 0)) qB))) (qA (qD8 hu1 (pv 1) (qI (pv 0)) (λ_ _=>rfl)) qB)))))),?_⟩
 try dsimp only[jV,qk]
 have hb:Bn 110 p q r s':=⟨g1.1,g2.1,g1.2.2.1,g1.2.2.2,g2.2.2.1,g2.2.2.2⟩;have hb7:=hb.mono (m:=700);have hp:=(hb.part (k:= -1) (by decide)).mono (m:=700);refine⟨_,O,_,O,v,n,p,q,r,s',len,-1,O,hc,hb7.q0,hb7.s0,hb7.bp,hb7.bq,hb7.br,hb7.bs,qAu (n:=30) (by decide),λy H1 s1 e1=>?_⟩;refine qS λ_ Y=>?_;obtain⟨z,z1,z2,e,h0,h1,h2⟩:=(hc.same s1).ex;subst e;apply Y;have S:∀{i:Int},i.natAbs<2 ^ 700->Sm i:=λh=>qAu h;refine(z6 rfl h0 qK7 ?_);refine⟨_,_,0,1,r,s',rfl,⟨_,rfl,T.sq_NOUGHT _⟩,⟨z2,rfl,h2⟩,by decide,by have:=hb.s0;omega,Sm.of200 (by decide),Sm.of200 (by decide),S hb7.br,S hb7.bs,λu hu'=>?_⟩;rw[(qH9 hb.s0 g2.2.1).1,(qH9 hb.s0 g2.2.1).2];have w1:=qE hu' (.tup [.int (-r),.int s']);refine⟨_,O,_,O,z,_,_,_,O,O,L3.Same.tup w1 h0,qIz,rd,_,O,(hrd.same (s1.trans w1)).get,?_⟩;refine⟨_,_,_,_,-r,s',m,O,⟨y,O,SqT.of (w1 _ _ e1)⟩,⟨u,O,SqT.of qC⟩,hp.q0,hb.s0,by rw[Int.neg_gcd];exact g2.2.1,hp.bp,hp.bq,by rw[Int.natAbs_neg];exact hb7.br,hb7.bs,bm,λH' sH=>?_⟩;have:=kk H' (s1.trans (w1.trans sH));rw[show-1*r*plQ p q r s' (-1)=-r*plQ p q r s' (-1) by grind]at this;exact this
inductive qIu(K:W.Frag)(vs:List V)(H:Hp)(Q:VK)(_:XK):Prop
|mk (v:V) (n:Str) (p q r s len m:Int) (rd:Addr) (_:vs=[v,.ref rd]) (_:Cp K H v n p q r s len) (_:qS6 110 p q) (_:qS6 110 r s) (_:len.natAbs<2 ^ 30) (_:Reel H rd n m) (_:m.natAbs<2 ^ 700) (_:∀H',Same H H'->Q (.int (zl (plP p q r s len*s) (1*r*plQ p q r s len) (plQ p q r s len*s) m)) H')
theorem vc(T:Tx K mg a):FnOk P w K mg base CX0 5 a.A20 a.B20 ["clip","reels"] (qIu K):=by
 refine oL T.D20.F qKj λ_ _ _ _ _ _ _ _ hr h _ Y=>?_;obtain⟨v,n,p,q,r,s',len,m,rd,rfl,hc,g1,g2,bl,hrd,bm,kk⟩:=h;apply Y;have hu1:=qUl hr;refine⟨_,(qF (qM (qJ T.D18 (vJ T) hr rfl (qA (qJ T.D12 (zh T) hr rfl (qA (pv 0) (qA (qI (pv 0)) qB))) (qA (qI (pv 0)) (qA (qD8 hu1 (pv 1) (qI (pv 0)) (λ_ _=>rfl)) qB)))))),?_⟩
 try dsimp only[jV,qk]
 have hb:Bn 110 p q r s':=⟨g1.1,g2.1,g1.2.2.1,g1.2.2.2,g2.2.2.1,g2.2.2.2⟩;have hb7:=hb.mono (m:=700);have hp:=(hb.part (k:=len) bl).mono (m:=700);have hc0:=hc;refine qS λ_ Y=>?_;obtain⟨z,z1,z2,e,h0,h1,h2⟩:=hc0.ex;subst e;apply Y;refine⟨_,O,z6 rfl h0 qC4 ⟨_,n,p,q,r,s',len,len,O,hc,hb7.q0,hb7.s0,hb7.bp,hb7.bq,hb7.br,hb7.bs,qAu bl,λy H1 s1 e1=>?_⟩⟩;refine⟨_,O,z,_,_,_,O,O,L3.Same.tup s1 h0,qK7,?_⟩;refine⟨_,O,_,O,z,_,_,_,O,O,L3.Same.tup s1 h0,qIz,rd,_,O,(hrd.same s1).get,?_⟩;refine⟨_,_,_,_,r,s',m,O,⟨y,O,SqT.of e1⟩,⟨z2,O,L3.Same.tup s1 h2⟩,hp.q0,hb.s0,g2.2.1,hp.bp,hp.bq,hb7.br,hb7.bs,bm,λH' sH=>?_⟩;have:=kk H' (s1.trans sH);rw[Int.one_mul]at this;exact this
theorem qSn(ns:List Int)(lo hi:Option Int):∃ms:List Int,zd (ns.map V.int) lo hi=ms.map V.int/\ms.length<=ns.length:=by
 refine⟨(ns.drop (HT.sIx (ns.map V.int).length 0 lo)).take (HT.sIx (ns.map V.int).length (ns.map V.int).length hi-HT.sIx (ns.map V.int).length 0 lo),?_,?_⟩
 . unfold zd
   rw[List.map_take,List.map_drop]
 . rw[Yk,ZV];omega
inductive Im where
 |clip (n:Str) (p q r s l:Int)
 |nest (n:Str) (b l:Int)
 |gap (l:Int)
 |mix (l:Int)
noncomputable def Im.d:Im->D
 |.clip n p q r s l=>.tup [.leaf (.str "clip"),.leaf (.str n),.tup [.leaf (.int p),.leaf (.int q)],.tup [.leaf (.int r),.leaf (.int s)],.leaf (.int l)]
 |.nest n b l=>.tup [.leaf (.str "nest"),.leaf (.str n),.leaf (.int b),.leaf (.int l)]
 |.gap l=>.tup [.leaf (.str "gap"),.leaf (.int l)]
 |.mix l=>.tup [.leaf (.str "mix"),.leaf (.int l)]
noncomputable def Im.wd:Im->Str
 |.clip .. =>"clip"
 |.nest .. =>"nest"
 |.gap _=>"gap"
 |.mix _=>"mix"
noncomputable def Im.l:Im->Int
 |.clip _ _ _ _ _ l=>l
 |.nest _ _ l=>l
 |.gap l=>l
 |.mix l=>l
def TS(H H':Hp):Prop:= ∀b xs,H b=some (.tup xs)->H' b=some (.tup xs)
theorem qV(e:Same H H'):TS H H':=λ_ _ h=>e _ _ h
theorem jx{l:Addr}(h:H l=some (.lst xs)):TS H (upd H l o):=λb ys hb=>by rw[qg (qQv hb h (by intro z;cases z))];exact hb
theorem jQ{y:Addr}(e:Same H H')(h:H y=none):Same H (upd H' y o):=λb u hb=>by rw[qg (qW hb h)];exact e b u hb
def IsI(H:Hp):Im->V->Prop
 |.clip n p q r s l,v=> ∃z x y:Addr,v=.ref z/\H z=some (.tup [.str "clip",.str n,.ref x,.ref y,.int l])/\H x=some (.tup [.int p,.int q])/\H y=some (.tup [.int r,.int s])
 |.nest n b l,v=> ∃z:Addr,v=.ref z/\H z=some (.tup [.str "nest",.str n,.int b,.int l])
 |.gap l,v=> ∃z:Addr,v=.ref z/\H z=some (.tup [.str "gap",.int l])
 |.mix l,v=> ∃z:Addr,v=.ref z/\H z=some (.tup [.str "mix",.int l])
theorem isG{l:Int}(h:H z=some (.tup [.str "gap",.int l])):IsI H (.gap l) (.ref z):=⟨z,rfl,h⟩
theorem isM{l:Int}(h:H z=some (.tup [.str "mix",.int l])):IsI H (.mix l) (.ref z):=⟨z,rfl,h⟩
theorem isN{n:Str}{l:Int}(h:H z=some (.tup [.str "nest",.str n,.int b,.int l])):IsI H (.nest n b l) (.ref z):=⟨z,rfl,h⟩
theorem isC{x y:Addr}{n:Str}{l:Int}(h:H z=some (.tup [.str "clip",.str n,.ref x,.ref y,.int l]))(hx:H x=some (.tup [.int p,.int q]))(hy:H y=some (.tup [.int r,.int s])):IsI H (.clip n p q r s l) (.ref z):=⟨z,x,y,rfl,h,hx,hy⟩
theorem IsI.ts(e:TS H H'):∀{m:Im} {v:V},IsI H m v->IsI H' m v
 |.clip ..,_,⟨z,x,y,h,hz,hx,hy⟩=>⟨z,x,y,h,e _ _ hz,e _ _ hx,e _ _ hy⟩
 |.nest ..,_,⟨z,h,hz⟩=>⟨z,h,e _ _ hz⟩
 |.gap _,_,⟨z,h,hz⟩=>⟨z,h,e _ _ hz⟩
 |.mix _,_,⟨z,h,hz⟩=>⟨z,h,e _ _ hz⟩
theorem IsI.opn(h:IsI H m v):∃(z:Addr) (xs:List V),v=.ref z/\H z=some (.tup xs)/\atI xs 0=some (.str m.wd)/\atI xs (-1)=some (.int m.l):=by
 cases m with
 |clip n p q r s l=>obtain⟨z,x,y,h,hz,_⟩:=h;exact⟨z,_,h,hz,rfl,rfl⟩
 |nest n b l=>obtain⟨z,h,hz⟩:=h;exact⟨z,_,h,hz,rfl,rfl⟩
 |gap l=>obtain⟨z,h,hz⟩:=h;exact⟨z,_,h,hz,rfl,rfl⟩
 |mix l=>obtain⟨z,h,hz⟩:=h;exact⟨z,_,h,hz,rfl,rfl⟩
theorem qG3{H:Hp}:∀{xs:List V},xs.all kY=true->Reps K H (xs.map D.leaf) xs
 |[],_=>by simp[Reps]
 |x::xs,h=>by rw[List.all_cons,Yl]at h;rw[ZH];unfold Reps Rep;exact⟨⟨O,h.1⟩,qG3 h.2⟩
theorem qAx(hz:H z=some (.tup xs))(h:xs.all kY=true):Rep K H (.tup (xs.map D.leaf)) (.ref z):=by unfold Rep;exact⟨z,xs,O,SqT.of hz,qG3 h⟩
theorem IsI.rep:∀{m:Im} {v:V},IsI H m v->Rep K H m.d v
 |.clip n p q r s l,_,⟨z,x,y,h,hz,hx,hy⟩=>by
  subst h;have h1:Rep K H (.tup [.leaf (.int p),.leaf (.int q)]) (.ref x):=qAx hx rfl;have h2:Rep K H (.tup [.leaf (.int r),.leaf (.int s)]) (.ref y):=qAx hy rfl;unfold Im.d Rep;refine⟨z,_,O,SqT.of hz,?_⟩;unfold Reps Reps Reps Reps Reps Reps;refine⟨?_,?_,h1,h2,?_,trivial⟩
  . unfold Rep;exact⟨rfl,rfl⟩
  . unfold Rep;exact⟨rfl,rfl⟩
  . unfold Rep;exact⟨rfl,rfl⟩
 |.nest n b l,_,⟨z,h,hz⟩=>by subst h;exact qAx hz rfl
 |.gap l,_,⟨z,h,hz⟩=>by subst h;exact qAx hz rfl
 |.mix l,_,⟨z,h,hz⟩=>by subst h;exact qAx hz rfl
theorem qSe(m:Im):eqD m.d m.d=true:=by cases m <;> simp[Im.d,eqD,wE,eqV]
theorem qY2(m:Im):dep m.d<=2:=by cases m <;> simp[Im.d,dep,qDe]
def IsIs(H:Hp):List Im->List V->Prop
 |[],[]=>True
 |m::ms,v::vs=>IsI H m v/\IsIs H ms vs
 |_,_=>False
theorem IsIs.len{H:Hp}:∀{ms:List Im} {vs:List V},IsIs H ms vs->vs.length=ms.length
 |[],[],_=>rfl
 |_::_,_::_,h=>by rw[YE,YE,IsIs.len h.2]
 |[],_::_,h=>h.elim
 |_::_,[],h=>h.elim
theorem IsIs.ts{H H':Hp}(e:TS H H'):∀{ms:List Im} {vs:List V},IsIs H ms vs->IsIs H' ms vs
 |[],[],_=>trivial
 |_::_,_::_,h=>⟨IsI.ts e h.1,IsIs.ts e h.2⟩
 |[],_::_,h=>h.elim
 |_::_,[],h=>h.elim
theorem IsIs.get{H:Hp}:∀{ms:List Im} {vs:List V} {i:Nat} {v:V},IsIs H ms vs->vs[i]?=some v->∃m,ms[i]?=some m/\IsI H m v
 |[],[],_,_,_,h=>by simp at h
 |m::_,x::_,0,v,h,e=>by
  have e':x=v:=by simpa using e
  subst e';exact⟨m,O,h.1⟩
 |_::ms,_::vs,i+1,v,h,e=>by obtain⟨m,h1,h2⟩:=IsIs.get (i:=i) h.2 (by simpa using e);exact⟨m,by simpa using h1,h2⟩
 |[],_::_,_,_,h,_=>h.elim
 |_::_,[],_,_,h,_=>h.elim
theorem IsIs.get'{vs:List V}(h:IsIs H ms vs)(e:ms[i]?=some m):∃v,vs[i]?=some v/\IsI H m v:=by
 have hi:i<vs.length:=by rw[h.len];exact(glt e)
 have ev:vs[i]?=some vs[i]:=YD hi;obtain⟨m',h1,h2⟩:=h.get ev;rw[e]at h1;cases h1;exact⟨_,ev,h2⟩
theorem IsIs.app{H:Hp}:∀{ms:List Im} {vs:List V} {ms':List Im} {vs':List V},IsIs H ms vs->IsIs H ms' vs'->IsIs H (ms++ms') (vs++vs')
 |[],[],_,_,_,h'=>h'
 |_::_,_::_,_,_,h,h'=>⟨h.1,h.2.app h'⟩
 |[],_::_,_,_,h,_=>h.elim
 |_::_,[],_,_,h,_=>h.elim
theorem IsIs.one(h:IsI H m v):IsIs H [m] [v]:=⟨h,trivial⟩
theorem IsIs.rep{H:Hp}:∀{ms:List Im} {vs:List V},IsIs H ms vs->Reps K H (ms.map Im.d) vs
 |[],[],_=>by unfold List.map Reps;trivial
 |_::_,_::_,h=>by unfold List.map Reps;exact⟨h.1.rep,h.2.rep⟩
 |[],_::_,h=>h.elim
 |_::_,[],h=>h.elim
theorem qD5:∀ms:List Im,wE (ms.map Im.d) (ms.map Im.d)=true
 |[]=>by simp[wE]
 |m::ms=>by unfold List.map wE;rw[qSe,qD5 ms];rfl
theorem qJd:∀ms:List Im,qDe (ms.map Im.d)<=2
 |[]=>by simp[qDe]
 |m::ms=>by have h1:=qY2 m;have h2:=qJd ms;unfold List.map qDe;omega
def Tr(H:Hp)(z:Addr)(ms:List Im):Prop:= ∃vs,H z=some (.lst vs)/\IsIs H ms vs
theorem Tr.same(e:Same H H')(h:Tr H z ms):Tr H' z ms:=let ⟨vs,h1,h2⟩:=h;⟨vs,e _ _ h1,h2.ts (qV e)⟩
theorem Tr.rep{H:Hp}{z:Addr}{ms:List Im}(h:Tr H z ms):Rep K H (.lst (ms.map Im.d)) (.ref z):=by obtain⟨vs,h1,h2⟩:=h;unfold Rep;exact⟨z,vs,O,SqL.of h1,h2.rep⟩
theorem eqTr{x y:Addr}(h1:Tr H x ms)(h2:Tr H y ms)(q:Q (.bl true) H):qVu K false (.ref x) (.ref y) H Q:=by
 refine⟨_,_,h1.rep,h2.rep,rfl,by have:=qJd ms;unfold dep;omega,?_⟩;have e:eqD (.lst (ms.map Im.d)) (.lst (ms.map Im.d))=true:=by unfold eqD;exact qD5 ms
 rw[e];exact q
theorem qXd{x y:Addr}(h1:Tr H x ms)(h2:H y=some (.lst []))(q:Q (.bl ms.isEmpty) H):qVu K false (.ref x) (.ref y) H Q:=by
 refine⟨_,.lst [],h1.rep,?_,rfl,by have:=qJd ms;unfold dep;omega,?_⟩
 . unfold Rep;exact⟨y,[],rfl,SqL.of h2,by unfold Reps;trivial⟩
 . have e:eqD (.lst (ms.map Im.d)) (.lst [])=ms.isEmpty:=by cases ms <;> simp[eqD,wE]
   rw[e];exact q
theorem qXz{x y:Addr}(h1:Tr H x ms)(h2:H y=some (.lst []))(q:Q (.bl (!ms.isEmpty)) H):qVu K true (.ref x) (.ref y) H Q:=by
 refine⟨_,.lst [],h1.rep,?_,rfl,by have:=qJd ms;unfold dep;omega,?_⟩
 . unfold Rep;exact⟨y,[],rfl,SqL.of h2,by unfold Reps;trivial⟩
 . have e:eqD (.lst (ms.map Im.d)) (.lst [])=ms.isEmpty:=by cases ms <;> simp[eqD,wE]
   rw[e];exact q
theorem qTa{x:Addr}(h:H x=some (.lst (ns.map V.int))):Rep K H (.lst ((ns.map V.int).map D.leaf)) (.ref x):=by unfold Rep;exact⟨x,_,rfl,SqL.of h,qG3 (by rw[List.all_map,List.all_eq_true];intro _ _;rfl)⟩
theorem qNj:∀ns:List Int,wE ((ns.map V.int).map D.leaf) ((ns.map V.int).map D.leaf)=true
 |[]=>by simp[wE]
 |n::ns=>by have ih:=qNj ns;simp only[ZH];unfold wE;rw[ih];simp[eqD,eqV]
theorem qKb:∀vs:List V,qDe (vs.map D.leaf)=0
 |[]=>by simp[qDe]
 |n::ns=>by have ih:=qKb ns;simp only[ZH];unfold qDe;rw[ih];simp[dep]
theorem IsIs.dl{H:Hp}:∀{ms:List Im} {vs:List V},IsIs H ms vs->IsIs H ms.dropLast vs.dropLast
 |[],[],_=>trivial
 |[_],[_],_=>trivial
 |_::_::_,_::_::_,h=>⟨h.1,IsIs.dl h.2⟩
 |[],_::_,h=>h.elim
 |_::_,[],h=>h.elim
 |[_],_::_::_,h=>h.2.elim
 |_::_::_,[_],h=>h.2.elim
theorem xc(h:m.wd="gap"):∃l,m=.gap l:=by
 cases m with
 |gap l=>exact⟨l,rfl⟩
 |clip=>exact YC (show ("clip":Str)="gap" from h) (by decide+kernel)
 |nest=>exact YC (show ("nest":Str)="gap" from h) (by decide+kernel)
 |mix=>exact YC (show ("mix":Str)="gap" from h) (by decide+kernel)
noncomputable def qx:Int->List Im->List Im
 |_,[]=>[]
 |w,.gap l::ms=>qx (w+l) ms
 |w,.clip n p q r s l::ms=>if 0<w then .gap w:: .clip n p q r s l::qx 0 ms else .clip n p q r s l::qx 0 ms
 |w,.nest n b l::ms=>if 0<w then .gap w:: .nest n b l::qx 0 ms else .nest n b l::qx 0 ms
 |w,.mix l::ms=>if 0<w then .gap w:: .mix l::qx 0 ms else .mix l::qx 0 ms
theorem qU(h:m.wd≠"gap")(w:Int)(ms:List Im):qx w (m::ms)=if 0<w then .gap w::m::qx 0 ms else m::qx 0 ms:=by
 cases m with
 |gap l=>exact YC rfl h
 |_=>rw[qx]
theorem qBk(j:Int):∀(w:Int) (ms:List Im),qx w (ms++[.gap j])=qx w ms
 |_,[]=>rfl
 |w,m::ms=>by
  by_cases h:m.wd="gap"
  . obtain⟨l,rfl⟩:=xc h
    rw[YT,qx,qx];exact qBk j _ ms
  . rw[YT,qU h,qU h,qBk j 0 ms]
inductive qLe(vs:List V)(H:Hp)(Q:VK)(_:XK):Prop
|mk (z:Addr) (ms:List Im) (_:vs=[.ref z]) (_:Tr H z ms) (_:ms.length<=300) (_:∀(y:Addr) (H':Hp),Same H H'->H y=none->Tr H' y (qx 0 ms)->Q (.ref y) H')
theorem qLv(T:Tx K mg a):FnOk P w K mg base CX0 1 a.A24 a.B24 ["some"] qLe:=by
 refine oL T.D24.F xp λ_ _ _ _ H vs _ _ hr h _ Y=>?_;obtain⟨z,ms,rfl,⟨xs,hz,his⟩,hl,kk⟩:=h;apply Y;refine⟨_,(qD (qZ 1 xp.nd (q9 qB))
  (qD (qZ 2 xp.nd qG)
  (qD (xj PassesOwn.never rfl (jc (pv 0)) (jX (i:=3) xp.nd rfl (Or.inl rfl)) (qF (qc (qL jW (qI (pv 3)) qN (qR _)) (qF (qZ 2 xp.nd (qQ qm (pv 2) (qI (pv 3))))) (qD (qc (qL wM (pv 2) qG (qR _)) (qF (jD (wT F.plainAttrs_list F.slot_list_append F.type_list_append jZ (pv 1) (qA (qh (qA qN (qA (pv 2) qB))) qB)))) qO)
  (qD (qZ 2 xp.nd qG)
  (qF (jD (wT F.plainAttrs_list F.slot_list_append F.type_list_append jZ (pv 1) (qA (pv 3) qB)))))))))
  (qF (qM (pv 1)))))),?_⟩
 try dsimp only[jV,qk]
 refine⟨sL0,λy hy=>?_⟩;refine⟨_,O,z,O,⟨_,SqL.of ((qE hy _) _ _ hz)⟩,j8 (K:=K) (a:=z) (xs:=xs) (λi σ H'=> ∃(w:Int) (as:List Im) (o:Option V) (vs:List V),σ=[some (.ref z),some (.ref y),some (.int w),o]/\H' y=some (.lst vs)/\IsIs H' as vs/\as.length<=2*i/\as++qx w (ms.drop i)=qx 0 ms/\Same H H')
  ⟨0,[],none,[],rfl,qC,trivial,by simp,rfl,qE hy _⟩ ?_ ?_ ?_⟩
 . rintro i σ H' hi ⟨w,as,o,vs,rfl,_,_,_,_,e⟩
   exact SqL.of (e _ _ hz)
 . rintro i x σ H' hx ⟨w,as,o,vs,rfl,hv,hiv,hal,hap,e⟩
   refine qS λ_ Y=>?_;obtain⟨m,hm,hIx⟩:=his.get hx;have hI:=hIx.ts (qV e);have hi:i<ms.length:=(glt hm);have hd:ms.drop i=m::ms.drop (i+1):=by rw[List.drop_eq_getElem_cons hi];rw[YD hi]at hm;cases hm;rfl
   have hvl:vs.length<=2*i:=by rw[hiv.len];exact hal
   obtain⟨zi,xi,rfl,hzi,h0,h1⟩:=hI.opn;apply Y;refine⟨_,O,zi,xi,_,_,O,O,SqT.of hzi,h0,O,_,O,je (λc=>?_) (λc=>?_)⟩
   . obtain⟨l,rfl⟩:=xc (by simpa using c)
     refine qS λ_ Y=>?_;obtain⟨z2,e2,hz2⟩:=hI;cases e2;apply Y;refine⟨_,O,ixO hz2 at1 ⟨_,_,O,O,w+l,as,_,vs,O,hv,hiv,by omega,?_,e⟩⟩;rw[hd,qx]at hap;exact hap
   . have hne:m.wd≠"gap":=by simpa using c
     rw[hd,qU hne]at hap;refine⟨_,O,_,_,O,O,_,O,je (λc=>?_) (λc=>?_)⟩
     . have c':0<w:=by simpa using c
       rw[YB c']at hap;refine⟨_,O,.inl ⟨O,_,SqL.of hv⟩,_,O,sL2,λg hg=>?_⟩;have w1:=qE hg (.tup [.str "gap",.int w]);refine⟨y,_,_,O,O,w1 _ _ hv,qi (by omega),?_⟩;have t2:TS (upd H' g (.tup [.str "gap",.int w])) (upd (upd H' g (.tup [.str "gap",.int w])) y (.lst (vs++[.ref g]))):=jx (w1 _ _ hv);have k2:IsIs (upd (upd H' g (.tup [.str "gap",.int w])) y (.lst (vs++[.ref g]))) (as++[.gap w]) (vs++[.ref g]):=((hiv.ts (qV w1)).app (.one (isG qC))).ts t2;have k1:IsI (upd (upd H' g (.tup [.str "gap",.int w])) y (.lst (vs++[.ref g]))) m (.ref zi):=(hI.ts (qV w1)).ts t2;have e2:Same H (upd (upd H' g (.tup [.str "gap",.int w])) y (.lst (vs++[.ref g]))):=jQ (e.trans w1) hy;have hv2:(upd (upd H' g (.tup [.str "gap",.int w])) y (.lst (vs++[.ref g]))) y=some (.lst (vs++[.ref g])):=qC;generalize upd (upd H' g (.tup [.str "gap",.int w])) y (.lst (vs++[.ref g]))=H2 at k1 k2 e2 hv2⊢;refine⟨_,O,.inl ⟨O,_,SqL.of hv2⟩,_,O,y,_,_,O,O,hv2,qi (by rw[YN];simp;omega),?_⟩;refine⟨0,as++[.gap w]++[m],_,_,O,qC,(k2.app (.one k1)).ts (jx hv2),by simp;omega,?_,jQ e2 hy⟩;rw[<-hap];simp
     . have c':¬0<w:=by simpa using c
       rw[YA c']at hap;refine⟨_,O,.inl ⟨O,_,SqL.of hv⟩,_,O,y,_,_,O,O,hv,qi (by omega),?_⟩;refine⟨0,as++[m],_,_,O,qC,(hiv.app (.one hI)).ts (jx hv),by simp;omega,?_,jQ e hy⟩;rw[<-hap];simp
 . rintro σ H' ⟨w,as,o,vs,rfl,hv,hiv,_,hap,e⟩
   refine⟨_,O,kk y H' e hy ⟨vs,hv,?_⟩⟩;rw[his.len,ZJ,qx,Ye]at hap;rw[<-hap];exact hiv
noncomputable def Im.mo:Im->Int
 |.mix _=>0
 |.clip _ _ _ _ _ l=>l
 |.nest _ _ l=>l
 |.gap l=>l
theorem qM7{α:Type}{xs:List α}{v:α}(h:xs[xs.length-1]?=some v):atI xs (-1)=some v:=by
 have hl:0<xs.length:=by have:=(glt h);omega
 have e:ixN xs.length (-1)=some (xs.length-1):=by unfold ixN;rw[YA (by decide),YB (by omega)];congr 1;omega
 unfold atI;rw[e];exact h
theorem jw(h:m.wd="mix"):∃l,m=.mix l:=by
 cases m with
 |mix l=>exact⟨l,rfl⟩
 |clip=>exact YC (show ("clip":Str)="mix" from h) (by decide+kernel)
 |nest=>exact YC (show ("nest":Str)="mix" from h) (by decide+kernel)
 |gap=>exact YC (show ("gap":Str)="mix" from h) (by decide+kernel)
theorem qYz(h:m.wd≠"mix"):m.mo=m.l:=by
 cases m with
 |mix l=>exact YC rfl h
 |_=>rfl
theorem qVv{x y:Str}:decide (V.str x=V.str y)=decide (x=y):=by rw[Yv];simp
inductive qIb(vs:List V)(H:Hp)(Q:VK)(_:XK):Prop
|mk (v:V) (m:Im) (_:vs=[v]) (_:IsI H m v) (_:Q (.int m.mo) H)
theorem jI(T:Tx K mg a):FnOk P w K mg base CX0 1 a.A23 a.B23 ["item"] qIb:=by
 refine oL T.D23.F qHc λ_ _ _ _ H vs Q _ hr h _ Y=>?_;obtain⟨v,m,rfl,hI,kk⟩:=h;apply Y;refine⟨_,(qF (qM (zw (qL jW (qI (pv 0)) qN (qR _)) qG (jP qF9 (pv 0) (wS zI qG) (λ_ _=>rfl))))),?_⟩
 try dsimp only[jV,qk]
 refine qS λ_ Y=>?_;obtain⟨z,xs,rfl,hz,h0,h1⟩:=hI.opn;apply Y;refine⟨_,O,z,xs,_,_,O,O,SqT.of hz,h0,O,_,O,je (λc=>?_) (λc=>?_)⟩
 . obtain⟨l,rfl⟩:=jw (by simpa using c)
   exact kk
 . rw[qYz (by simpa using c)]at kk
   exact⟨_,O,_,O,z,xs,_,_,O,O,SqT.of hz,h1,kk⟩
inductive qJe(vs:List V)(H:Hp)(Q:VK)(_:XK):Prop
|mk (z:Addr) (ms:List Im) (_:vs=[.ref z]) (_:Tr H z ms) (_:ms.length<=300) (_:∀H',Same H H'->Q (.int (ms.map Im.mo).sum) H')
theorem qCw(T:Tx K mg a):FnOk P w K mg base CX0 3 a.A25 a.B25 ["track"] qJe:=by
 refine oL T.D25.F qIi λ_ _ _ _ H _ _ _ hr h _ Y=>?_;obtain⟨z,ms,rfl,⟨xs,hz,his⟩,hl,kk⟩:=h;apply Y;refine⟨_,(qF (qM (qd (qPu rfl) rfl T.b_sum rfl (qA (vq [] [] rfl (jc (pv 0)) (λ_ _ _ _=>(qJ T.D23 (jI T) hr rfl (qA (pv 0) qB)))) qB)))),?_⟩
 try dsimp only[jV,qk]
 refine⟨_,O,z,O,⟨_,SqL.of hz⟩,kI (K:=K) (a:=z) (xs:=xs) (λi acc H'=>H'=H/\acc=((ms.take i).map Im.mo).map V.int) ⟨O,O⟩ ?_ ?_ ?_⟩
 . rintro i acc H' hi ⟨rfl,rfl⟩
   exact⟨SqL.of hz,qi (by simp;omega)⟩
 . rintro i x acc H' hi hx ⟨rfl,rfl⟩
   refine qS λ_ Y=>?_;obtain⟨m,hm,hI⟩:=his.get hx;apply Y;refine⟨_,O,x,m,O,hI,Nxt.mk hi ⟨O,?_⟩⟩;rw[Yt,hm];simp
 . rintro acc H' ⟨rfl,rfl⟩ d hd
   refine⟨d,(ms.map Im.mo),O,?_,kk _ (qE hd _)⟩;rw[his.len,Yx];exact SqL.of qC
noncomputable def jy:Int->List Im->List Int
 |_,[]=>[]
 |b,.mix _::ms=>jy b ms
 |b,.clip _ _ _ _ _ l::ms=>(b+l)::jy (b+l) ms
 |b,.nest _ _ l::ms=>(b+l)::jy (b+l) ms
 |b,.gap l::ms=>(b+l)::jy (b+l) ms
theorem qAh(h:m.wd≠"mix")(b:Int)(ms:List Im):jy b (m::ms)=(b+m.l)::jy (b+m.l) ms:=by
 cases m with
 |mix l=>exact YC rfl h
 |_=>rfl
theorem qEt:∀(b:Int) (ms:List Im),(jy b ms).length<=ms.length
 |_,[]=>by simp[jy]
 |b,m::ms=>by
  by_cases h:m.wd="mix"
  . obtain⟨l,rfl⟩:=jw h
    have:=qEt b ms;rw[jy,YE];omega
  . have:=qEt (b+m.l) ms
    rw[qAh h,YE,YE];omega
def qZ8(H:Hp)(Q:VK)(ms:List Im):Prop:= ∀(y:Addr) (H':Hp),Same H H'->H y=none->H' y=some (.lst ((0::jy 0 ms).map V.int))->Q (.ref y) H'
inductive qHw(vs:List V)(H:Hp)(Q:VK)(_:XK):Prop
|mk (z:Addr) (ms:List Im) (_:vs=[.ref z]) (_:Tr H z ms) (_:ms.length<=300) (_:qZ8 H Q ms)
theorem qBh(T:Tx K mg a):FnOk P w K mg base CX0 3 a.A26 a.B26 ["track"] qHw:=by
 refine oL T.D26.F ka λ_ _ _ _ H _ Q _ hr h _ Y=>?_;obtain⟨z,ms,rfl,⟨xs,hz,his⟩,hl,kk⟩:=h;apply Y;refine⟨_,(qD (qZ 1 ka.nd (q9 (qA qG qB)))
  (qD (xj PassesOwn.never rfl (jc (pv 0)) (jX (i:=2) ka.nd rfl (Or.inl rfl)) (qF (qc (qL kD (qI (pv 2)) qN (qR _)) (qF (jD (wT F.plainAttrs_list F.slot_list_append F.type_list_append jZ (pv 1) (qA (qQ qm (jP qo (pv 1) (wS zI qG) (λ_ _=>rfl)) (qJ T.D23 (jI T) hr rfl (qA (pv 2) qB))) qB)))) qO)))
  (qF (qM (pv 1))))),?_⟩
 try dsimp only[jV,qk]
 refine⟨sL1,λy hy=>?_⟩;refine⟨_,O,z,O,⟨_,SqL.of ((qE hy _) _ _ hz)⟩,j8 (K:=K) (a:=z) (xs:=xs) (λi σ H'=> ∃(b:Int) (as:List Int) (o:Option V),σ=[some (.ref z),some (.ref y),o]/\H' y=some (.lst ((as++[b]).map V.int))/\as.length<=i/\as++[b]++jy b (ms.drop i)=0::jy 0 ms/\Same H H')
  ⟨0,[],none,rfl,qC,by simp,rfl,qE hy _⟩ ?_ ?_ ?_⟩
 . rintro i σ H' hi ⟨b,as,o,rfl,_,_,_,e⟩
   exact SqL.of (e _ _ hz)
 . rintro i x σ H' hx ⟨b,as,o,rfl,hv,hal,hap,e⟩
   refine qS λ_ Y=>?_;obtain⟨m,hm,hIx⟩:=his.get hx;have hI:=hIx.ts (qV e);have hi:i<ms.length:=(glt hm);have hd:ms.drop i=m::ms.drop (i+1):=by rw[List.drop_eq_getElem_cons hi];rw[YD hi]at hm;cases hm;rfl
   obtain⟨zi,xi,rfl,hzi,h0,h1⟩:=hI.opn;apply Y;rw[hd]at hap;refine⟨_,O,zi,xi,_,_,O,O,SqT.of hzi,h0,O,_,O,je (λc=>?_) (λc=>?_)⟩
   . have hne:m.wd≠"mix":=by simpa using c
     rw[qAh hne]at hap;have hb:atI ((as++[b]).map V.int) (-1)=some (.int b):=by rw[Ys];exact qRr _ _
     refine⟨_,O,.inl ⟨O,_,SqL.of hv⟩,_,O,_,O,y,_,_,_,O,O,SqL.of hv,hb,?_⟩;refine⟨_,O,_,m,O,hI,?_⟩;rw[qYz hne];refine⟨_,_,O,O,y,_,_,O,O,hv,qi (by simp;omega),?_⟩;refine⟨b+m.l,as++[b],_,O,?_,by simp;omega,?_,jQ e hy⟩
     . rw[qC];simp
     . rw[<-hap];simp
   . obtain⟨l,rfl⟩:=jw (by simpa using c)
     rw[jy]at hap;exact⟨b,as,_,O,hv,by omega,hap,e⟩
 . rintro σ H' ⟨b,as,o,rfl,hv,hal,hap,e⟩
   rw[his.len,ZJ,jy,Ye]at hap;rw[hap]at hv;exact⟨_,O,kk y H' e hy hv⟩
noncomputable def jt:Int->Nat->List Im->Int->Option (Nat×Int)
 |_,_,[],_=>none
 |b,i,m::ms,t=>if b<=t/\t<b+m.mo then some (i,t-b)else jt (b+m.mo) (i+1) ms t
def AtR(H:Hp)(Q:VK)(r:Option (Nat×Int)):Prop:=match r with
 |none=> ∀H',Same H H'->Q .non H'
 |some (i,d)=> ∀(p:Addr) (H':Hp),Same H H'->H' p=some (.tup [.int (i:Int),.int d])->Q (.ref p) H'
theorem xT{α:Type}{xs:List α}{x:α}(h:xs[i]?=some x):xs.drop i=x::xs.drop (i+1):=by have hi:i<xs.length:=(glt h);rw[List.drop_eq_getElem_cons hi];rw[YD hi]at h;cases h;rfl
inductive qOx(vs:List V)(H:Hp)(Q:VK)(_:XK):Prop
|mk (z:Addr) (ms:List Im) (t:Int) (_:vs=[.ref z,.int t]) (_:Tr H z ms) (_:AtR H Q (jt 0 0 ms t))
theorem qBz(T:Tx K mg a):FnOk P w K mg base CX0 3 a.A27 a.B27 ["track","moment"] qOx:=by
 refine oL T.D27.F zP λ_ _ _ _ H _ _ _ hr h _ Y=>?_;obtain⟨z,ms,t,rfl,⟨xs,hz,his⟩,kk⟩:=h;apply Y;refine⟨_,(qD (qZ 2 zP.nd qG)
  (qD (xj PassesOwn.never rfl (qT3 rfl T.b_enumerate (qA (pv 0) qB)) (qVx rfl (qMl (jX (i:=3) zP.nd rfl (Or.inl rfl)) (qMl (jX (i:=4) zP.nd rfl (Or.inl rfl)) qUg))) (qD (qZ 5 zP.nd (qQ qm (pv 2) (qJ T.D23 (jI T) hr rfl (qA (pv 4) qB))))
  (qD (qc (PW.pt (zn (qL qSi (pv 2) (pv 1) (qR _)) (xX (qL wN (pv 1) (pv 5) (qR _))))) (qF (qM (qh (qA (pv 3) (qA (qQ jR (pv 1) (pv 2)) qB))))) qO)
  (qF (qZ 2 zP.nd (pv 5))))))
  (qF (qM qBa)))),?_⟩
 try dsimp only[jV,qk]
 refine⟨_,O,z,O,⟨_,SqL.of hz⟩,qRw (K:=K) (a:=z) (xs:=xs) (λi σ H'=> ∃(b:Int) (o1 o2 o3:Option V),σ=[some (.ref z),some (.int t),some (.int b),o1,o2,o3]/\jt b i (ms.drop i) t=jt 0 0 ms t/\Same H H')
  ⟨0,none,none,none,rfl,rfl,Same.refl _⟩ ?_ ?_ ?_⟩
 . rintro i σ H' hi ⟨b,o1,o2,o3,rfl,_,e⟩
   exact SqL.of (e _ _ hz)
 . rintro i x σ H' p hx ⟨b,o1,o2,o3,rfl,hap,e⟩ hp
   refine qS λ_ Y=>?_;obtain⟨m,hm,hIx⟩:=his.get hx;apply Y;have w1:=qE hp (.tup [.int (i:Int),x]);have e1:=e.trans w1;have hI:=hIx.ts (qV e1);rw[xT hm,jt]at hap;refine⟨p,_,O,SqT.of qC,O,_,_,O,_,_,O,O,?_⟩;generalize upd H' p (.tup [.int (i:Int),x])=H1 at e1 hI⊢;refine⟨_,O,_,O,x,m,O,hI,_,_,O,O,?_⟩;refine⟨_,O,_,O,_,_,O,O,_,O,?_⟩;refine je (λc1=>?_) (λc1=>?_)
   . refine⟨_,O,_,O,_,_,O,O,_,O,?_⟩
     refine je (λc2=>?_) (λc2=>?_)
     . rw[YB ⟨by simpa using c1,by simpa using c2⟩]at hap
       rw[<-hap]at kk;refine⟨_,O,_,O,_,O,_,_,O,O,sL2,λq hq=>?_⟩;exact kk q _ (e1.trans (qE hq _)) qC
     . rw[YA (λc=>c2 (by simpa using c.2))]at hap
       exact⟨_,O,_,_,_,_,O,hap,e1⟩
   . rw[YA (λc=>c1 (by simpa using c.1))]at hap
     exact jH ⟨_,O,_,_,_,_,O,hap,e1⟩
 . rintro σ H' ⟨b,o1,o2,o3,rfl,hap,e⟩
   rw[his.len,ZJ,jt]at hap;rw[<-hap]at kk;exact kk H' e
noncomputable def qt(ms:List Im)(i:Int):Str:=if i<0 then "" else match ms[i.toNat]? with
 |some m=>m.wd
 |none=>""
theorem jp(h:ms[i]?=some m){k:Int}(hk:k=(i:Int)):qt ms k=m.wd:=by
 subst hk;unfold qt;rw[YA (by omega)];have e:((i:Int)).toNat=i:=by omega
 rw[e,h]
inductive qN5(vs:List V)(H:Hp)(Q:VK)(_:XK):Prop
|mk (z:Addr) (ms:List Im) (i:Int) (_:vs=[.ref z,.int i]) (_:Tr H z ms) (_:Q (.str (qt ms i)) H)
theorem jY(T:Tx K mg a):FnOk P w K mg base CX0 1 a.A28 a.B28 ["track","place"] qN5:=by
 refine oL T.D28.F qOh λ_ _ _ _ _ vs _ _ hr h _ Y=>?_;obtain⟨z,ms,i,rfl,⟨vs,hz,his⟩,q⟩:=h;apply Y;refine⟨_,(qD (qc (PW.pt (xh (qL wN (pv 1) qG (qR _)) (ju (qL qG5 (pv 1) (qd jM rfl T.b_len rfl (qA (pv 0) qB)) (qR _))))) (qF (qM qN)) qO)
  (qF (qM (qI (jP qo (pv 0) (pv 1) (λ_ _=>rfl)))))),?_⟩
 try dsimp only[jV,qk]
 have hl:=his.len;refine⟨_,O,_,_,O,O,_,O,?_⟩;by_cases h0:i<0
 . rw[YX h0]
   have e:qt ms i="":=by unfold qt;rw[YB h0]
   rw[e]at q;exact j5 (j5 q)
 rw[YW h0];refine jH ⟨_,O,_,O,z,_,O,.inl (SqL.of hz),_,_,O,O,_,O,?_⟩;by_cases h1:((vs.length:Nat):Int)<=i
 . rw[YX (show i ≥ ((vs.length:Nat):Int)from h1)]
   have e:qt ms i="":=by unfold qt;rw[YA h0,List.getElem?_eq_none (by omega)]
   rw[e]at q;exact j5 q
 . rw[YW (show ¬i ≥ ((vs.length:Nat):Int)from h1)]
   refine jH ?_;have hi:i.toNat<ms.length:=by omega
   have hm:ms[i.toNat]?=some ms[i.toNat]:=YD hi;refine qS λ_ Y=>?_;obtain⟨v,hv,hI⟩:=his.get' hm;obtain⟨zi,xi,rfl,hzi,q0,_⟩:=hI.opn;apply Y;have ei:i=((i.toNat:Nat):Int):=by omega
   have hat:atI vs i=some (.ref zi):=by rw[ei];exact q8 hv
   have e:qt ms i=ms[i.toNat].wd:=jp hm ei;rw[e]at q;exact⟨_,O,_,O,z,_,_,_,O,O,SqL.of hz,hat,zi,xi,_,_,O,O,SqT.of hzi,q0,q⟩
inductive qFu(vs:List V)(H:Hp)(Q:VK)(_:XK):Prop
|mk (z:Addr) (ms:List Im) (i:Int) (_:vs=[.ref z,.int i]) (_:Tr H z ms) (_:Q (.int (if qt ms (i-1)="mix" then i-2 else i-1)) H)
theorem wn(T:Tx K mg a):FnOk P w K mg base CX0 2 a.A29 a.B29 ["track","place"] qFu:=by
 refine oL T.D29.F qFx λ_ _ _ _ H vs Q _ hr h _ Y=>?_;obtain⟨z,ms,i,rfl,tT,q⟩:=h;apply Y;refine⟨_,(qF (qM (zw (qL jW (qJ T.D28 (jY T) hr rfl (qA (pv 0) (qA (qQ jR (pv 1) qG) qB))) qN (qR _)) (qQ jR (pv 1) qG) (qQ jR (pv 1) qG)))),?_⟩
 try dsimp only[jV,qk]
 refine⟨_,O,_,O,_,_,O,O,z,ms,_,O,tT,O,_,O,je (λc=>?_) (λc=>?_)⟩
 . rw[YB (by simpa using c)]at q
   exact⟨_,O,_,_,O,O,q⟩
 . rw[YA (by simpa using c)]at q
   exact⟨_,O,_,_,O,O,q⟩
noncomputable def nbF(ms:List Im)(t:Int):Option (Int×Int):=match jt 0 0 ms t with
 |some (i,d)=>if d≠0\/(i:Int)=0 then none else some (if qt ms ((i:Int)-1)="mix" then (i:Int)-2 else (i:Int)-1,(i:Int))
 |none=>none
noncomputable def cbF(ms:List Im)(t:Int):Option (Int×Int):=match nbF ms t with
 |some (i,j)=>if qt ms i="clip"/\qt ms j="clip" then some (i,j)else none
 |none=>none
def PrR(H:Hp)(Q:VK)(r:Option (Int×Int)):Prop:=match r with
 |none=> ∀H',Same H H'->Q .non H'
 |some (i,j)=> ∀(p:Addr) (H':Hp),Same H H'->H' p=some (.tup [.int i,.int j])->Q (.ref p) H'
inductive qDc(vs:List V)(H:Hp)(Q:VK)(_:XK):Prop
|mk (z:Addr) (ms:List Im) (t:Int) (_:vs=[.ref z,.int t]) (_:Tr H z ms) (_:PrR H Q (nbF ms t))
theorem vI(T:Tx K mg a):FnOk P w K mg base CX0 4 a.A31 a.B31 ["track","moment"] qDc:=by
 refine oL T.D31.F vL λ_ _ _ _ H vs Q _ hr h _ Y=>?_;obtain⟨z,ms,t,rfl,tT,kk⟩:=h;apply Y;refine⟨_,(qD (qZ 2 vL.nd (qJ T.D27 (qBz T) hr rfl (qA (pv 0) (qA (pv 1) qB))))
  (qD (qc (PW.pt (xh (wZ (qA7 (pv 2))) (xh (qL kD (qI (pv 2)) qG (qR _)) (ju (qL jW (qI (pv 2)) qG (qR _)))))) (qF (qM qBa)) qO)
  (qF (qM (qh (qA (qJ T.D29 (wn T) hr rfl (qA (pv 0) (qA (qI (pv 2)) qB))) (qA (qI (pv 2)) qB))))))),?_⟩
 try dsimp only[jV,qk]
 refine⟨_,O,_,O,z,ms,_,O,tT,?_⟩;unfold nbF at kk;cases hit:jt 0 0 ms t with
 |none=>
  rw[hit]at kk;intro H1 e1;exact⟨_,O,_,O,j5 (kk H1 e1)⟩
 |some x=>
  obtain⟨i,d⟩:=x;rw[hit]at kk;dsimp only at kk;intro p H1 e1 hp;refine⟨_,O,_,O,je (λc=>YC c (by simp)) (λ_=>?_)⟩;refine(ixO hp at1 ?_);refine⟨O,_,O,je (λc=>?_) (λc=>?_)⟩
  . rw[YB (.inl (by simpa using c))]at kk
    exact kk H1 e1
  . refine(ixO hp at0 ?_)
    refine⟨O,_,O,je (λc2=>?_) (λc2=>?_)⟩
    . rw[YB (.inr (by simpa using c2))]at kk
      exact kk H1 e1
    . rw[YA (λz=>z.elim (λz=>c (by simpa using z)) (λz=>c2 (by simpa using z)))]at kk
      refine⟨_,O,ixO hp at0 ⟨z,ms,_,O,tT.same e1,?_⟩⟩;refine(ixO hp at0 ⟨sL2,λq hq=>?_⟩);exact kk q _ (e1.trans (qE hq _)) qC
inductive qBq(vs:List V)(H:Hp)(Q:VK)(_:XK):Prop
|mk (z:Addr) (ms:List Im) (t:Int) (_:vs=[.ref z,.int t]) (_:Tr H z ms) (_:PrR H Q (cbF ms t))
theorem ja(T:Tx K mg a):FnOk P w K mg base CX0 5 a.A32 a.B32 ["track","moment"] qBq:=by
 refine oL T.D32.F zr λ_ _ _ _ H vs _ _ hr h _ Y=>?_;obtain⟨z,ms,t,rfl,tT,kk⟩:=h;apply Y;refine⟨_,(qD (qZ 2 zr.nd (qJ T.D31 (vI T) hr rfl (qA (pv 0) (qA (pv 1) qB))))
  (qD (qc (PW.pt (xh (wZ (qA7 (pv 2))) (xh (qL kD (qJ T.D28 (jY T) hr rfl (qA (pv 0) (qA (qI (pv 2)) qB))) qN (qR _)) (ju (qL kD (qJ T.D28 (jY T) hr rfl (qA (pv 0) (qA (qI (pv 2)) qB))) qN (qR _)))))) (qF (qM qBa)) qO)
  (qF (qM (pv 2))))),?_⟩
 try dsimp only[jV,qk]
 refine⟨_,O,_,O,z,ms,_,O,tT,?_⟩;unfold cbF at kk;cases hit:nbF ms t with
 |none=>
  rw[hit]at kk;intro H1 e1;exact⟨_,O,_,O,j5 (kk H1 e1)⟩
 |some x=>
  obtain⟨i,j⟩:=x;rw[hit]at kk;dsimp only at kk;intro p H1 e1 hp;refine⟨_,O,_,O,je (λc=>YC c (by simp)) (λ_=>?_)⟩;refine⟨_,O,ixO hp at0 ⟨z,ms,_,O,tT.same e1,?_⟩⟩;refine⟨O,_,O,je (λc=>?_) (λc=>?_)⟩
  . rw[YA (λz=>YC c (by simpa using z.1))]at kk
    exact kk H1 e1
  . refine⟨_,O,ixO hp at1 ⟨z,ms,_,O,tT.same e1,?_⟩⟩
    refine⟨O,_,O,je (λc2=>?_) (λc2=>?_)⟩
    . rw[YA (λz=>YC c2 (by simpa using z.2))]at kk
      exact kk H1 e1
    . rw[YB ⟨by simpa using c,by simpa using c2⟩]at kk
      exact⟨_,O,kk p H1 e1 hp⟩
def TrsAt(H:Hp):List (List Im)->List V->Prop
 |[],[]=>True
 |ms::r,v::vs=>(∃z:Addr,v=.ref z/\Tr H z ms)/\TrsAt H r vs
 |_,_=>False
theorem TrsAt.same{H H':Hp}(e:Same H H'):∀{ts:List (List Im)} {vs:List V},TrsAt H ts vs->TrsAt H' ts vs
 |[],[],_=>trivial
 |_::_,_::_,⟨⟨z,h1,h2⟩,h⟩=>⟨⟨z,h1,h2.same e⟩,TrsAt.same e h⟩
 |[],_::_,h=>h.elim
 |_::_,[],h=>h.elim
theorem TrsAt.len{H:Hp}:∀{ts:List (List Im)} {vs:List V},TrsAt H ts vs->vs.length=ts.length
 |[],[],_=>rfl
 |_::_,_::_,h=>by rw[YE,YE,TrsAt.len h.2]
 |[],_::_,h=>h.elim
 |_::_,[],h=>h.elim
theorem TrsAt.get{H:Hp}:∀{ts:List (List Im)} {vs:List V} {i:Nat} {v:V},TrsAt H ts vs->vs[i]?=some v->∃(ms:List Im) (z:Addr),ts[i]?=some ms/\v=.ref z/\Tr H z ms
 |[],[],_,_,_,h=>by simp at h
 |ms::_,u::_,0,v,h,e=>by
  have e':u=v:=by simpa using e
  subst e';obtain⟨⟨z,h1,h2⟩,_⟩:=h;exact⟨ms,z,O,h1,h2⟩
 |_::_,_::_,i+1,v,h,e=>by obtain⟨ms,z,h1,h2⟩:=TrsAt.get (i:=i) h.2 (by simpa using e);exact⟨ms,z,by simpa using h1,h2⟩
 |[],_::_,_,_,h,_=>h.elim
 |_::_,[],_,_,h,_=>h.elim
theorem qGx{n:Str}{l:Int}(h:IsI H (.clip n p q r s l) v):Cp K H v n p q r s l:=by obtain⟨z,x,y,h0,hz,hx,hy⟩:=h;exact⟨z,x,y,h0,SqT.of hz,SqT.of hx,SqT.of hy⟩
def TabF(H:Hp)(v:V)(ts:List (List Im))(tie:List Int):Prop:= ∃(tt tl ti:Addr) (zs:List V),v=.ref tt/\H tt=some (.tup [.ref tl,.ref ti])/\H tl=some (.lst zs)/\TrsAt H ts zs/\H ti=some (.lst (tie.map V.int))
theorem TabF.same{H H':Hp}(e:Same H H'){v:V}{ts:List (List Im)}{tie:List Int}(h:TabF H v ts tie):TabF H' v ts tie:=
 let ⟨tt,tl,ti,zs,h1,h2,h3,h4,h5⟩:=h;⟨tt,tl,ti,zs,h1,e _ _ h2,e _ _ h3,h4.same e,e _ _ h5⟩
noncomputable def tabD(ts:List (List Im))(tie:List Int):D:=.tup [.lst (ts.map λms=>.lst (ms.map Im.d)),.lst ((tie.map V.int).map D.leaf)]
theorem TrsAt.rep{H:Hp}:∀{ts:List (List Im)} {vs:List V},TrsAt H ts vs->Reps K H (ts.map λms=>.lst (ms.map Im.d)) vs
 |[],[],_=>by unfold List.map Reps;trivial
 |_::_,_::_,⟨⟨z,h1,h2⟩,r⟩=>by unfold List.map Reps;subst h1;exact⟨h2.rep,r.rep⟩
 |[],_::_,h=>h.elim
 |_::_,[],h=>h.elim
theorem TabF.rep{H:Hp}{v:V}{ts:List (List Im)}{tie:List Int}(h:TabF H v ts tie):Rep K H (tabD ts tie) v:=by obtain⟨tt,tl,ti,zs,rfl,h2,h3,h4,h5⟩:=h;unfold tabD Rep;refine⟨tt,_,O,SqT.of h2,?_⟩;unfold Reps Reps Reps;refine⟨?_,qTa h5,trivial⟩;unfold Rep;exact⟨tl,zs,O,SqL.of h3,h4.rep⟩
theorem qM8:∀ts:List (List Im),wE (ts.map λms=>.lst (ms.map Im.d)) (ts.map λms=>.lst (ms.map Im.d))=true
 |[]=>by simp[wE]
 |ms::r=>by
  unfold List.map wE;rw[qM8 r];have:eqD (.lst (ms.map Im.d)) (.lst (ms.map Im.d))=true:=by unfold eqD;exact qD5 ms
  rw[this];rfl
theorem qQt:∀ts:List (List Im),qDe (ts.map λms=>.lst (ms.map Im.d))<=3
 |[]=>by simp[qDe]
 |ms::r=>by
  have h1:=qQt r;have h2:dep (.lst (ms.map Im.d))<=3:=by have:=qJd ms;unfold dep;omega
  unfold List.map qDe;omega
theorem qL7(ts:List (List Im))(tie:List Int):eqD (tabD ts tie) (tabD ts tie)=true/\dep (tabD ts tie)<=50:=by
 constructor
 . unfold tabD eqD wE wE wE
   have h1:eqD (.lst (ts.map λms=>.lst (ms.map Im.d))) (.lst (ts.map λms=>.lst (ms.map Im.d)))=true:=by unfold eqD;exact qM8 ts
   have h2:eqD (.lst ((tie.map V.int).map D.leaf)) (.lst ((tie.map V.int).map D.leaf))=true:=by unfold eqD;exact qNj tie
   rw[h1,h2];rfl
 . have h1:=qQt ts
   have h2:=qKb (tie.map V.int);unfold tabD dep qDe qDe qDe dep;omega
theorem qEc{H:Hp}:∀{ts:List (List Im)} {vs:List V} {ms:List Im} {z:Addr},TrsAt H ts vs->Tr H z ms->TrsAt H (ts++[ms]) (vs++[.ref z])
 |[],[],_,z,_,h=>⟨⟨z,rfl,h⟩,trivial⟩
 |_::_,_::_,_,_,⟨h1,h2⟩,h=>⟨h1,qEc h2 h⟩
 |[],_::_,_,_,h,_=>h.elim
 |_::_,[],_,_,h,_=>h.elim
theorem qAl{b:Bool}{A B:Prop}(h:b=false)(q:B):if b=true then A else B:=by subst h;exact q
theorem qAk{b:Bool}{A B:Prop}(h:b=true)(q:A):if b=true then A else B:=by subst h;exact q
inductive qNq(vs:List V)(H:Hp)(Q:VK)(_:XK):Prop
|mk (z:Str) (_:vs=[.str z]) (_:qKf z=true) (_:∀H',Same H H'->Q (.bl true) H')
theorem qGd(T:Tx K mg a):FnOk P w K mg base CX0 1 a.A10 a.B10 ["thing"] qNq:=by
 refine oL T.D10.F qOf λ_ _ _ _ H vs Q _ hr h _ Y=>?_;obtain⟨z,rfl,hn,kk⟩:=h;apply Y;refine⟨_,(qD (qc (jr (jO (qd jh rfl T.b_isinstance rfl (qA (pv 0) (qA (qGm rfl T.b_str rfl) qB))))) (qF (qM kL)) qO)
  (qD (qc (PW.pt (xh (qL wN (qd qCz rfl T.b_len rfl (qA (pv 0) qB)) qG (qR _)) (ju (qL wM (qd qCz rfl T.b_len rfl (qA (pv 0) qB)) (xY (v:=.int 8) rfl T.g_LONGEST_NAME ⟨_,rfl⟩) (qR _))))) (qF (qM kL)) qO)
  (qF (qM (qd (qIv rfl) rfl T.b_all rfl (qA (vq [] [] rfl (qV2 (pv 0)) (λ_ _ _ _=>(jn qWz (pv 0) (xY (v:=.str "abcdefghijklmnopqrstuvwxyz") rfl T.g_LETTERS ⟨_,rfl⟩) rfl))) qB)))))),?_⟩
 try dsimp only[jV,qk]
 unfold qKf at hn;obtain⟨h1,h2⟩:=Yl _ _ ▸ hn;have h1:=ZM h1;have hsz:z.length<=sizeLine:=Nat.le_of_lt (qi (by omega));refine⟨_,O,_,_,_,true,O,.str z,⟨_,.inl ⟨O,by kernel_rfl⟩⟩,true,O,jH ?_⟩;refine⟨_,O,z,O,hsz,_,_,O,O,_,O,qAl (YW (by omega)) ⟨_,O,z,O,hsz,_,_,O,O,_,O,qAl (YW (by show ¬(8:Int)<_;omega)) ?_⟩⟩;refine⟨_,O,z,O,qSh (λi acc H'=>H'=H/\acc=((z.cps.toList.take i).map qXv).map V.bl) ⟨O,O⟩ ?_ ?_ ?_⟩
 . rintro i acc H' hi ⟨_,rfl⟩
   rw[YS,YS,Yk];exact qi (by have:z.cps.size=z.length:=rfl;omega)
 . rintro i c acc H' hi hc ⟨rfl,rfl⟩
   refine⟨_,O,_,_,O,O,Nxt.mk hi ⟨O,?_⟩⟩;have hc':z.cps.toList[i]?=some c:=by simpa using hc
   rw[List.take_succ,hc',Ys,Ys];rfl
 . rintro acc H' ⟨rfl,rfl⟩ D hD
   refine⟨D,_,O,SqL.of qC,?_⟩;rw[List.take_of_length_le (by simp),List.all_map,show (z.cps.toList.all (id ∘ qXv))=true from h2];exact kk _ (qE hD _)
inductive qFv(vs:List V)(H:Hp)(Q:VK)(_:XK):Prop
|mk (z:Addr) (p q:Int) (_:vs=[.ref z]) (_:H z=some (.tup [.int p,.int q])) (_:1<=q) (_:Int.gcd p q=1) (_:Q (.bl true) H)
theorem wa(T:Tx K mg a):FnOk P w K mg base CX0 2 a.A2 a.B2 ["x"] qFv:=by
 refine oL T.D2.F qFw λ_ _ _ s H vs Q _ hr h _ Y=>?_;obtain⟨z,p,q,rfl,hz,hq,hg,k⟩:=h;apply Y;have h1:SqT K H z [.int p,.int q]:=SqT.of hz;refine⟨_,(qD (qc (PW.pt (xh (jr (jO (qd jh rfl T.b_isinstance rfl (qA (pv 0) (qA (qGm rfl T.b_tuple rfl) qB))))) (ju (qL kD (qd jM rfl T.b_len rfl (qA (pv 0) qB)) qG (qR _))))) (qF (qM kL)) qO)
  (qD (qc (PW.pt (xh (jr (jO (qJ T.D0 (jG T) hr rfl (qA (qI (pv 0)) qB)))) (ju (jr (jO (qJ T.D0 (jG T) hr rfl (qA (qI (pv 0)) qB))))))) (qF (qM kL)) qO)
  (qF (qM (zq (jn qG5 (qI (pv 0)) qG (qR _)) (vK (jn jW (qJ T.D1 (kJ T) hr rfl (qA (qI (pv 0)) (qA (qI (pv 0)) qB))) qG (qR _)))))))),?_⟩
 try dsimp only[jV,qk]
 refine⟨_,O,_,_,_,true,O,.tup hz,⟨_,.inl ⟨O,by kernel_rfl⟩⟩,true,O,jH ?_⟩;refine⟨_,O,_,_,O,.inr h1,O,_,O,jH ?_⟩;refine(z6 rfl h1 at0 ⟨p,O,true,O,jH ?_⟩);refine(z6 rfl h1 at1 ⟨q,O,true,O,jH ?_⟩);refine(z6 rfl h1 at1 ⟨_,_,O,O,true,?_,j5 ?_⟩)
 . have:decide (1<=q)=true:=YX hq
   rw[<-this]
 refine(z6 rfl h1 at0 (z6 rfl h1 at1 ⟨p,q,O,O,?_⟩));rw[hg];exact k
structure GF(n:Str)(p q r s len:Int):Prop where
 hn:qKf n=true
 hl:n.length<=1000
 hb:Bn 700 p q r s
 gq:Int.gcd p q=1
 gs:Int.gcd r s=1
 l1:1<=len
 bl:len.natAbs<2 ^ 30
inductive qC1(vs:List V)(H:Hp)(Q:VK)(_:XK):Prop
|mk (z:Addr) (n:Str) (p q r s len:Int) (_:vs=[.ref z]) (_:Ch H z n p q r s len) (_:qKf n=true) (_:1<=q) (_:Int.gcd p q=1) (_:1<=s) (_:Int.gcd r s=1) (_:1<=len) (_:∀H',Same H H'->Q (.bl true) H')
theorem qC5(T:Tx K mg a):FnOk P w K mg base CX0 3 a.A11 a.B11 ["item"] qC1:=by
 refine oL T.D11.F qDk λ_ _ _ s H vs Q _ hr h _ Y=>?_;obtain⟨z,n,p,q,r,s',len,rfl,⟨z1,z2,e0,e1,e2⟩,hn,hq,gq,hs,gs,l1,kk⟩:=h;apply Y;refine⟨_,(qD (qc (PW.pt (xh (jr (jO (qd jh rfl T.b_isinstance rfl (qA (pv 0) (qA (qGm rfl T.b_tuple rfl) qB))))) (ju (qL kD (qd jM rfl T.b_len rfl (qA (pv 0) qB)) qG (qR _))))) (qF (qM kL)) qO)
  (qD (qc (PW.pt (xh (qL kD (qI (pv 0)) qN (qR _)) (ju (jr (jO (qJ T.D10 (qGd T) hr rfl (qA (qI (pv 0)) qB))))))) (qF (qM kL)) qO)
  (qD (qc (PW.pt (xh (jr (jO (qJ T.D2 (wa T) hr rfl (qA (qI (pv 0)) qB)))) (ju (jr (jO (qJ T.D2 (wa T) hr rfl (qA (qI (pv 0)) qB))))))) (qF (qM kL)) qO)
  (qF (qM (zq (qJ T.D0 (jG T) hr rfl (qA (qI (pv 0)) qB)) (vK (jn qG5 (qI (pv 0)) qG (qR _))))))))),?_⟩
 try dsimp only[jV,qk]
 have h0:∀{H':Hp},Same H H'->SqT K H' z [.str "clip",.str n,.ref z1,.ref z2,.int len]:=λe=>SqT.of (e _ _ e0);refine⟨_,O,_,_,_,true,O,.tup e0,⟨_,.inl ⟨O,by kernel_rfl⟩⟩,true,O,jH ?_⟩;refine⟨_,O,_,_,O,.inr (h0 (Same.refl _)),O,_,O,jH ?_⟩;refine⟨_,O,_,_,_,_,O,O,h0 (Same.refl _),qW2,O,_,O,qXf rfl ?_⟩;refine⟨_,O,_,_,_,_,O,O,h0 (Same.refl _),qIz,n,O,hn,λH1 s1=>⟨true,O,jH ?_⟩⟩;refine⟨_,O,_,_,_,_,O,O,h0 s1,qVc,z1,p,q,O,s1 _ _ e1,hq,gq,true,O,jH ?_⟩;refine⟨_,O,_,_,_,_,O,O,h0 s1,qK7,z2,r,s',O,s1 _ _ e2,hs,gs,true,O,jH ?_⟩;refine⟨_,O,_,_,_,_,O,O,h0 s1,qC4,len,O,true,O,j5 ?_⟩;refine⟨_,O,_,_,_,_,O,O,h0 s1,qC4,_,_,O,O,?_⟩;have z:=kk H1 s1;rw[<-YX l1]at z;exact z
inductive qHt(K:W.Frag)(vs:List V)(H:Hp)(Q:VK)(_:XK):Prop
|mk (v:V) (rd:Addr) (n:Str) (p q r s l N:Int) (_:vs=[v,.ref rd]) (_:IsI H (.clip n p q r s l) v) (_:GF n p q r s l) (_:Reel H rd n N) (_:InR (Vk p q r s 0) (q*s) N) (_:InR (Vk p q r s (l-1)) (q*s) N) (_:∀H',Same H H'->Q .non H')
theorem qGr(T:Tx K mg a):FnOk P w K mg base CX0 6 a.A15 a.B15 ["item","reels"] (qHt K):=by
 refine oL T.D15.F qBd λ_ _ _ _ H _ _ _ hr h _ Y=>?_;obtain⟨v,rd,n,p,q,r,s',len,m,rfl,⟨z,x,y,rfl,hz,hx,hy⟩,⟨hn,hl,hb,gq,gs,l1,bl⟩,hrd,i0,i1,kg⟩:=h;apply Y;have hc:Ch H z n p q r s' len:=⟨⟨x,y,hz,hx,hy⟩⟩;have hu1:=qUl hr;refine⟨_,(qD (qc (jr (jO (qJ T.D11 (qC5 T) hr rfl (qA (pv 0) qB)))) xE qO)
  (qD (qc (wZ (qQ3 hu1 (qI (pv 0)) (pv 1))) xE qO)
  (qD (qZ 2 qBd.nd (qD8 hu1 (pv 1) (qI (pv 0)) (λ_ _=>rfl)))
  (qF (qc (PW.pt (xh (jr (jO (qJ T.D14 (qAp T) hr rfl (qA (qJ T.D13 (qA4 T) hr rfl (qA (pv 0) (qA qG qB))) (qA (pv 2) qB))))) (ju (jr (jO (qJ T.D14 (qAp T) hr rfl (qA (qJ T.D13 (qA4 T) hr rfl (qA (pv 0) (qA (qQ jR (qI (pv 0)) qG) qB))) (qA (pv 2) qB)))))))) xE qO))))),?_⟩
 try dsimp only[jV,qk]
 have hqs:=Yu hb.q0 hb.s0;have h0:∀{H':Hp},Same H H'->∃z1 z2,SqT K H' z [.str "clip",.str n,.ref z1,.ref z2,.int len]:=λe=>let ⟨z1,z2,h1,_,_⟩:=(hc.same e).ex;⟨z1,z2,SqT.of h1⟩
 refine⟨_,O,z,n,p,q,r,s',len,O,hc,hn,hb.q0,gq,hb.s0,gs,l1,λH1 s1=>⟨true,O,jH ?_⟩⟩;refine qS λ_ Y=>?_;obtain⟨z1,z2,t1⟩:=h0 s1;apply Y;refine⟨_,O,z,_,_,_,O,O,t1,qIz,_,O,rd,_,O,(hrd.same s1).get,_,O,jH ?_⟩;refine⟨_,O,_,O,z,_,_,_,O,O,t1,qIz,rd,_,O,(hrd.same s1).get,?_⟩;refine⟨_,O,_,n,p,q,r,s',len,0,O,(hc.same s1).cp,hb.q0,hb.s0,hb.bp,hb.bq,hb.br,hb.bs,qAu (n:=30) (by decide),λH2 s2=>?_⟩;have s2:=s1.trans s2;refine⟨_,O,_,m,O,_,O,?_⟩;have e:thB ((p*s'+0*r*q).fdiv (q*s')) m=true:=(qQ6 hqs).mpr i0;rw[e];refine jH ?_;refine qS λ_ Y=>?_;obtain⟨z1,z2,t2⟩:=h0 s2;apply Y;have bl1:(len-1).natAbs<2 ^ 700:=by exact YR (show _<2 ^ 31 by omega) (Yh (by decide) (by decide))
 refine⟨_,O,_,O,z,_,_,_,O,O,t2,qC4,_,_,O,O,_,n,p,q,r,s',len,len-1,O,(hc.same s2).cp,hb.q0,hb.s0,hb.bp,hb.bq,hb.br,hb.bs,bl1,λH3 s3=>?_⟩;have s3:=s2.trans s3;refine⟨_,O,_,m,O,_,O,?_⟩;have e:thB ((p*s'+(len-1)*r*q).fdiv (q*s')) m=true:=(qQ6 hqs).mpr i1;rw[e];exact jH (kg H3 s3)
abbrev Rls:=Str->Option Int
def ReelsAt(H:Hp)(rd:Addr)(rl:Rls):Prop:= ∀n N,rl n=some N->Reel H rd n N
theorem ReelsAt.same{H H':Hp}{rd:Addr}{rl:Rls}(e:Same H H')(h:ReelsAt H rd rl):ReelsAt H' rd rl:=λn N q=>(h n N q).same e
theorem qBl(T:Tx K mg a):FnOk P w K mg base CX0 1 a.fi_Short a.gi_Short ["self","most"] (qL5 a.k_Short "most"):=by
 refine T.i_Short.ok qRl (λvs H Q E h=>?_) (λcdv A outer s H vs Q E hr h=>?_)
 . obtain⟨e,v,rfl,_⟩:=h
   rfl
 refine qS λ_ Y=>?_;obtain⟨e,v,rfl,he,kk⟩:=h;apply Y;refine⟨_,qF (qUh (pv 0) (pv 1)),?_⟩;exact⟨_,O,_,O,e,_,_,O,he,T.m_Short.ov,T.m_Short.hd,T.m_Short.sa,T.tk_Short,kk⟩
inductive qFt(vs:List V)(H:Hp)(Q:VK)(_:XK):Prop
|mk (tz tl td:Addr) (zs:List V) (n t:Int) (_:vs=[.ref tz,.int n,.int t]) (_:H tz=some (.tup [.ref tl,.ref td])) (_:H tl=some (.lst zs)) (_:0<=n) (_:n<(zs.length:Int)) (_:0<=t) (_:Q .non H)
theorem wp(T:Tx K mg a):FnOk P w K mg base CX0 2 a.A42 a.B42 ["table","number","moment"] qFt:=by
 refine oL T.D42.F qF1 λ_ _ _ _ H vs Q _ hr h _ Y=>?_;obtain⟨tz,tl,td,zs,n,t,rfl,htz,htl,h0,h1,h2,kg⟩:=h;apply Y;refine⟨_,(qD (qc (PW.pt (xh (jr (jO (qJ T.D0 (jG T) hr rfl (qA (pv 1) qB)))) (xh (qL wN (pv 1) qG (qR _)) (ju (qL qG5 (pv 1) (qd jM rfl T.b_len rfl (qA (qI (pv 0)) qB)) (qR _)))))) xE qO)
  (qF (qc (PW.pt (xh (jr (jO (qJ T.D0 (jG T) hr rfl (qA (pv 2) qB)))) (ju (qL wN (pv 2) qG (qR _))))) xE qO))),?_⟩
 try dsimp only[jV,qk]
 refine⟨_,O,n,O,true,O,jH ⟨_,O,_,_,O,O,_,O,qAl (YW (by omega)) ?_⟩⟩;refine⟨_,O,ixO htz at0 ⟨tl,_,O,.inl (SqL.of htl),_,_,O,O,_,O,qAl (YW (by omega)) ?_⟩⟩;exact⟨_,O,t,O,true,O,jH ⟨_,O,_,_,O,O,_,O,qAl (YW (by omega)) kg⟩⟩
inductive qK1(vs:List V)(H:Hp)(Q:VK)(_:XK):Prop
|mk (b:Int) (_:vs=[.int b]) (_:b.natAbs<=1000000) (_:Q .non H)
theorem qL0(T:Tx K mg a):FnOk P w K mg base CX0 2 a.A43 a.B43 ["by"] qK1:=by
 refine oL T.D43.F qL1 λ_ _ _ _ H vs Q _ hr h _ Y=>?_;obtain⟨b,rfl,hb,kg⟩:=h;apply Y;refine⟨_,(qF (qc (PW.pt (xh (jr (jO (qJ T.D0 (jG T) hr rfl (qA (pv 0) qB)))) (ju (qL wM (qd qAw rfl T.b_abs rfl (qA (pv 0) qB)) (xY (v:=.int 1000000) rfl T.g_MOST_BY ⟨_,O⟩) (qR _))))) xE qO)),?_⟩
 try dsimp only[jV,qk]
 refine⟨_,O,b,O,true,O,jH ⟨_,O,b,O,_,_,O,O,_,O,qAl (YW ?_) kg⟩⟩;split <;> omega
noncomputable def hmB(ms:List Im)(i:Int):Bool:=decide (qt ms (i-1)="mix") || decide (qt ms (i+1)="mix")
inductive qOv(vs:List V)(H:Hp)(Q:VK)(_:XK):Prop
|mk (z:Addr) (ms:List Im) (i:Int) (_:vs=[.ref z,.int i]) (_:Tr H z ms) (_:Q (.bl (hmB ms i)) H)
theorem qNm(T:Tx K mg a):FnOk P w K mg base CX0 2 a.A47 a.B47 ["track","place"] qOv:=by
 refine oL T.D47.F qNu λ_ _ _ _ H vs Q E hr h _ Y=>?_;obtain⟨z,ms,i,rfl,tT,q⟩:=h;apply Y;refine⟨_,(qF (qM (qYq (jn jW (qJ T.D28 (jY T) hr rfl (qA (pv 0) (qA (qQ jR (pv 1) qG) qB))) qN (qR _)) (vK (jn jW (qJ T.D28 (jY T) hr rfl (qA (pv 0) (qA (qQ qm (pv 1) qG) qB))) qN (qR _)))))),?_⟩
 try dsimp only[jV,qk]
 refine⟨_,O,_,O,_,_,O,O,z,ms,_,O,tT,O,_,O,?_⟩;unfold hmB at q;rw[qVv];by_cases h1:qt ms (i-1)="mix"
 . rw[YX h1]at q⊢
   exact j5 q
 rw[YW h1]at q⊢;refine jH ⟨_,O,_,O,_,_,O,O,z,ms,_,O,tT,O,?_⟩;rw[qVv];exact q
noncomputable def wb(b:Int):Int:=if b<0 then-b else b
noncomputable def sgM(b m:Int):Int:=if 0<b then m else-m
inductive qFa(S:Addr)(vs:List V)(H:Hp)(Q:VK)(E:XK):Prop
|mk (m b:Int) (_:vs=[.int m,.int b]) (_:(wb b<=m->Q .non H)) (_:(¬wb b<=m->∀(dx:Addr) (H':Hp),Same H H'->H' dx=some (.xd [("most",.int (sgM b m))])->E (.ref S) (some dx) H'))
theorem vP(T:Tx K mg a):FnOk P w K mg base (CXR P w) 3 a.A48 a.B48 ["most","by"] (qFa a.k_Short):=by
 refine oX T.D48.F qFm λ_ _ _ s H vs Q _ hr h _ Y=>?_;obtain⟨m,b,rfl,kg,kb⟩:=h;apply Y;refine⟨_,(qF (qc (qL wM (qd qAw rfl T.b_abs rfl (qA (pv 1) qB)) (pv 0) (qR _)) (qF (qJa T.m_Short (qBl T) T.ib_Short (hr.mono (by decide)) rfl rfl T.c_Short (qA (zw (qL wM (pv 1) qG (qR _)) (pv 0) (wS zI (pv 0))) qB))) qO)),?_⟩
 try dsimp only[jV,qk]
 refine⟨_,O,b,O,_,O,_,_,O,O,_,O,je (λc=>?_) (λc=>?_)⟩
 . have c':¬wb b<=m:=by
    have:(if b<0 then-b else b)>m:=by simpa using c
    unfold wb;omega
   refine⟨_,O,_,_,O,O,_,O,je (λcb=>?_) (λcb=>?_)⟩
   . have e:sgM b m=m:=by unfold sgM;exact YB (by simpa using cb)
     rw[e]at kb;exact⟨_,O,_,O,λdx hdx=>kb c' dx _ (qE hdx _) qC⟩
   . have e:sgM b m=-m:=by unfold sgM;exact YA (by simpa using cb)
     rw[e]at kb;exact⟨_,O,_,O,_,O,λdx hdx=>kb c' dx _ (qE hdx _) qC⟩
 . refine kg ?_
   have:¬(if b<0 then-b else b)>m:=by simpa using c
   unfold wb;omega
inductive qJp(K:W.Frag)(vs:List V)(H:Hp)(Q:VK)(_:XK):Prop
|mk (v:V) (n:Str) (p q r s len lo hi:Int) (_:vs=[v,.int lo,.int hi]) (_:IsI H (.clip n p q r s len) v) (_:Bn 700 p q r s) (_:lo.natAbs<2 ^ 700) (_:∀(u:V) (H':Hp),Same H H'->IsI H' (.clip n (plP p q r s lo) (plQ p q r s lo) r s (hi-lo)) u->Q u H')
theorem zo(T:Tx K mg a):FnOk P w K mg base CX0 5 a.A16 a.B16 ["clip","low","high"] (qJp K):=by
 refine oL T.D16.F qIn λ_ _ _ s _ _ _ _ hr h _ Y=>?_;obtain⟨v,n,p,q,r,s',len,lo,hi,rfl,hI,⟨hq,hs,bp,bq,br,bs⟩,bl,kk⟩:=h;apply Y;refine⟨_,(qF (qM (qh (qA qN (qA (qI (pv 0)) (qA (qJ T.D12 (zh T) hr rfl (qA (pv 0) (qA (pv 1) qB))) (qA (qI (pv 0)) (qA (qQ jR (pv 2) (pv 1)) qB)))))))),?_⟩
 try dsimp only[jV,qk]
 refine qS λ_ Y=>?_;obtain⟨z,z1,z2,rfl,h0,h1,h2⟩:=id hI;apply Y;refine(ixO h0 qIz ⟨_,O,_,O,_,n,p,q,r,s',len,lo,O,qGx hI,hq,hs,bp,bq,br,bs,bl,λy H1 s1 e1=>?_⟩);refine(ixO (s1 _ _ h0) qK7 ⟨_,O,_,O,_,_,O,O,sL5,λt ht=>?_⟩);have s2:=qE ht (.tup [.str "clip",.str n,.ref y,.ref z2,.int (hi-lo)]);exact kk _ _ (s1.trans s2) ⟨t,y,z2,O,qC,s2 _ _ e1,s2 _ _ (s1 _ _ h2)⟩
noncomputable def xK(p q r s l N:Int):Int:=zl (plP p q r s l*s) (1*r*plQ p q r s l) (plQ p q r s l*s) N
noncomputable def xL(p q r s N:Int):Int:=zl (plP p q r s (-1)*s) (-1*r*plQ p q r s (-1)) (plQ p q r s (-1)*s) N
structure Rc(n:Str)(p q r s l:Int)(rl:Rls)(N:Int):Prop where
 g1:qS6 110 p q
 g2:qS6 110 r s
 bl:l.natAbs<2 ^ 30
 l1:1<=l
 rn:rl n=some N
 bN:N.natAbs<2 ^ 700
theorem Rc.bn{n:Str}{l:Int}(h:Rc n p q r s l rl N):Bn 110 p q r s:=⟨h.g1.1,h.g2.1,h.g1.2.2.1,h.g1.2.2.2,h.g2.2.2.1,h.g2.2.2.2⟩
noncomputable def qB0(b tl hd l l':Int):Int:=if 0<b then (if l'-1<tl then l'-1 else tl)else (if hd<l-1 then hd else l-1)
inductive qJv(K:W.Frag)(vs:List V)(H:Hp)(Q:VK)(_:XK):Prop
|mk (v u:V) (b:Int) (rd:Addr) (rl:Rls) (n n':Str) (p q r s l N p' q' r' s' l' N':Int) (_:vs=[v,u,.int b,.ref rd]) (_:IsI H (.clip n p q r s l) v) (_:IsI H (.clip n' p' q' r' s' l') u) (_:Rc n p q r s l rl N) (_:Rc n' p' q' r' s' l' rl N') (_:ReelsAt H rd rl) (_:∀H',Same H H'->Q (.int (qB0 b (xK p q r s l N) (xL p' q' r' s' N') l l')) H')
theorem qIr(T:Tx K mg a):FnOk P w K mg base CX0 6 a.A50 a.B50 ["left","right","by","reels"] (qJv K):=by
 refine oL T.D50.F qIm λ_ _ _ _ _ _ _ _ hr h _ Y=>?_;obtain⟨v,u,b,rd,rl,n,n',p,q,r,s1,l,N,p',q',r',s2,l',N',rfl,hv,hu,c1,c2,hrl,kk⟩:=h;apply Y;refine⟨_,(qD (qc (qL wM (pv 2) qG (qR _)) (qF (qM (qd (zf rfl) rfl T.b_min rfl (qA (qJ T.D20 (vc T) hr rfl (qA (pv 0) (qA (pv 3) qB))) (qA (qQ jR (qI (pv 1)) qG) qB))))) qO)
  (qF (qM (qd (zf rfl) rfl T.b_min rfl (qA (qQ jR (qI (pv 0)) qG) (qA (qJ T.D19 (wC T) hr rfl (qA (pv 1) (qA (pv 3) qB))) qB)))))),?_⟩
 try dsimp only[jV,qk]
 unfold qB0 at kk;refine⟨_,O,_,_,O,O,_,O,je (λc=>?_) (λc=>?_)⟩
 . rw[YB (by simpa using c)]at kk
   refine qS λ_ Y=>?_;obtain⟨zu,xu,yu,rfl,hzu,_⟩:=id hu;apply Y;refine⟨_,O,_,O,v,n,p,q,r,s1,l,N,rd,O,qGx hv,c1.g1,c1.g2,c1.bl,hrl _ _ c1.rn,c1.bN,λH1 e1=>?_⟩;exact(ixO (e1 _ _ hzu) qC4 ⟨_,_,O,O,_,_,O,kk H1 e1⟩)
 . rw[YA (by simpa using c)]at kk
   refine qS λ_ Y=>?_;obtain⟨zv,xv,yv,rfl,hzv,_⟩:=id hv;apply Y;refine(ixO hzv qC4 ⟨_,_,O,O,?_⟩);refine⟨_,O,_,O,u,n',p',q',r',s2,l',N',rd,O,qGx hu,c2.g1,c2.g2,hrl _ _ c2.rn,c2.bN,λH1 e1=>?_⟩;exact⟨_,_,O,kk H1 e1⟩
theorem IsIs.set{H:Hp}:∀{ms:List Im} {vs:List V} {i:Nat} {m:Im} {v:V},IsIs H ms vs->IsI H m v->IsIs H (ms.set i m) (vs.set i v)
 |[],[],_,_,_,_,_=>trivial
 |_::_,_::_,0,_,_,h,h'=>⟨h',h.2⟩
 |_::_,_::_,_+1,_,_,h,h'=>⟨h.1,h.2.set h'⟩
 |[],_::_,_,_,_,h,_=>h.elim
 |_::_,[],_,_,_,h,_=>h.elim
theorem qHi(h:i<n):ixN n (i:Int)=some i:=by unfold ixN;rw[YB (by omega),YB (by omega)];congr 1
noncomputable def qOa(ms:List Im)(i j:Nat)(b:Int)(n:Str)(p q r s l:Int)(n':Str)(p' q' r' s' l':Int):List Im:=(ms.set i (.clip n p q r s (l+b))).set j (.clip n' (plP p' q' r' s' b) (plQ p' q' r' s' b) r' s' (l'-b))
inductive wY(S:Addr)(vs:List V)(H:Hp)(Q:VK)(E:XK):Prop
|mk (z rd:Addr) (ms:List Im) (i j:Nat) (b:Int) (rl:Rls) (n n':Str) (p q r s l N p' q' r' s' l' N':Int) (_:vs=[.ref z,.int (i:Int),.int (j:Int),.int b,.ref rd]) (_:Tr H z ms) (_:ms.length<=300) (_:ms[i]?=some (.clip n p q r s l)) (_:ms[j]?=some (.clip n' p' q' r' s' l')) (_:Rc n p q r s l rl N) (_:Rc n' p' q' r' s' l' rl N') (_:ReelsAt H rd rl) (_:b.natAbs<=1000000) (_:(wb b<=qB0 b (xK p q r s l N) (xL p' q' r' s' N') l l'->∀(y:Addr) (H':Hp),Same H H'->H y=none->Tr H' y (qOa ms i j b n p q r s l n' p' q' r' s' l')->Q (.ref y) H')) (_:(¬wb b<=qB0 b (xK p q r s l N) (xL p' q' r' s' N') l l'->∀(dx:Addr) (H':Hp),Same H H'->H' dx=some (.xd [("most",.int (sgM b (qB0 b (xK p q r s l N) (xL p' q' r' s' N') l l')))])->E (.ref S) (some dx) H'))
theorem wP(T:Tx K mg a):FnOk P w K mg base (CXR P w) 7 a.A52 a.B52 ["track","first","last","by","reels"] (wY a.k_Short):=by
 refine oX T.D52.F jg λ_ _ _ _ H vs _ _ hr h _ Y=>?_;obtain⟨z,rd,ms,i,j,b,rl,n,n',p,q,r,s1,l,N,p',q',r',s2,l',N',rfl,tT,hln,hi,hj,c1,c2,hrl,hb,kg,kb⟩:=h;apply Y;refine⟨_,(qD (qZ 5 jg.nd (jP qo (pv 0) (pv 1) (λ_ _=>rfl)))
  (qD (qZ 6 jg.nd (jP qo (pv 0) (pv 2) (λ_ _=>rfl)))
  (qD (jD (xM T.D48 (vP T) hr rfl (qA (qJ T.D50 (qIr T) hr rfl (qA (pv 5) (qA (pv 6) (qA (pv 3) (qA (pv 4) qB))))) (qA (pv 3) qB))))
  (qD (qZ 7 jg.nd (zg xt rfl T.b_list rfl (qA (pv 0) qB)))
  (qD (qM5 (qJ T.D16 (zo T) hr rfl (qA (pv 5) (qA qG (qA (qQ qm (qI (pv 5)) (pv 3)) qB)))) (qMo (pv 7) (pv 1) qDo))
  (qD (qM5 (qJ T.D16 (zo T) hr rfl (qA (pv 6) (qA (pv 3) (qA (qI (pv 6)) qB)))) (qMo (pv 7) (pv 2) qDo))
  (qF (qM (pv 7))))))))),?_⟩
 try dsimp only[jV,qk]
 refine qS λ_ Y=>?_;obtain⟨vs,hz,his⟩:=id tT;obtain⟨va,hva,Ia⟩:=his.get' hi;obtain⟨vb,hvb,Ib⟩:=his.get' hj;apply Y;have hlv:=his.len;have li:i<vs.length:=(glt hva);have lj:j<vs.length:=(glt hvb);refine⟨_,O,_,O,z,_,_,_,O,O,SqL.of hz,q8 hva,?_⟩;refine⟨_,O,_,O,z,_,_,_,O,O,SqL.of hz,q8 hvb,?_⟩;refine⟨_,O,_,O,_,O,_,O,va,vb,b,rd,rl,n,n',p,q,r,s1,l,N,p',q',r',s2,l',N',O,Ia,Ib,c1,c2,hrl,λH1 e1=>?_⟩;refine⟨_,O,_,b,O,λhc=>?_,λhc dx H' e' hdx=>kb hc dx H' (e1.trans e') hdx⟩;refine⟨_,O,z,vs,O,.inl (SqL.of (e1 _ _ hz)),λy hy=>?_⟩;have w2:=qE hy (.lst vs);have e2:=e1.trans w2;have hy0:H y=none:=by
  cases q0:H y with
  |none=>rfl
  |some o=>rw[e1 _ _ q0]at hy;cases hy
 refine qS λ_ Y=>?_;obtain⟨za,xa,ya,rfl,hza,hxa,hya⟩:=id Ia;apply Y;have b1:=c1.bn.mono (m:=700);have b2:=c2.bn.mono (m:=700);have bb7:b.natAbs<2 ^ 700:=Yd hb (by decide);have hy2:upd H1 y (.lst vs) y=some (.lst vs):=qC;generalize upd H1 y (.lst vs)=H2 at w2 e2 hy2⊢;refine⟨_,O,ixO (e2 _ _ hza) qC4 ⟨_,O,_,_,O,O,_,n,p,q,r,s1,l,0,_,O,Ia.ts (qV e2),b1,by decide,λu H3 e3 I3=>?_⟩⟩;rw[(qBw c1.bn.q0 c1.bn.s0 c1.g1.2.1).1,(qBw c1.bn.q0 c1.bn.s0 c1.g1.2.1).2,ZU]at I3;refine⟨_,O,_,O,y,vs,_,i,O,O,e3 _ _ hy2,qHi li,?_⟩;have e4:Same H (upd H3 y (.lst (vs.set i u))):=jQ (e2.trans e3) hy0;have t4:TS H3 (upd H3 y (.lst (vs.set i u))):=jx (e3 _ _ hy2);have hy4:upd H3 y (.lst (vs.set i u)) y=some (.lst (vs.set i u)):=qC;have I4:=I3.ts t4;have is4:=(his.ts (qV e4)).set (i:=i) I4;generalize upd H3 y (.lst (vs.set i u))=H4 at e4 hy4 I4 is4⊢;refine qS λ_ Y=>?_;obtain⟨zb,xb,yb,rfl,hzb,hxb,hyb⟩:=id Ib;apply Y;refine⟨_,O,_,O,ixO (e4 _ _ hzb) qC4 ⟨_,n',p',q',r',s2,l',b,_,O,Ib.ts (qV e4),b2,bb7,λu' H5 e5 I5=>?_⟩⟩;refine⟨_,O,_,O,y,_,_,j,O,O,e5 _ _ hy4,qHi (by rw[ZN];exact lj),?_⟩;have e6:Same H (upd H5 y (.lst ((vs.set i u).set j u'))):=jQ (e4.trans e5) hy0;have t6:TS H5 (upd H5 y (.lst ((vs.set i u).set j u'))):=jx (e5 _ _ hy4);exact⟨_,O,kg hc y _ e6 hy0 ⟨_,qC,((is4.ts (qV e5)).ts t6).set (I5.ts t6)⟩⟩
theorem TrsAt.set{H:Hp}:∀{ts:List (List Im)} {vs:List V} {i:Nat} {ms:List Im} {z:Addr},TrsAt H ts vs->Tr H z ms->TrsAt H (ts.set i ms) (vs.set i (.ref z))
 |[],[],_,_,_,_,_=>trivial
 |_::_,_::_,0,_,z,h,h'=>⟨⟨z,rfl,h'⟩,h.2⟩
 |_::_,_::_,_+1,_,_,h,h'=>⟨h.1,h.2.set h'⟩
 |[],_::_,_,_,_,h,_=>h.elim
 |_::_,[],_,_,_,h,_=>h.elim
inductive qG4(vs:List V)(H:Hp)(Q:VK)(_:XK):Prop
|mk (tz y:Addr) (n:Nat) (ts:List (List Im)) (tie:List Int) (ms:List Im) (_:vs=[.ref tz,.int (n:Int),.ref y]) (_:TabF H (.ref tz) ts tie) (_:Tr H y ms) (_:n<ts.length) (_:ts.length<=300) (_:∀(t:Addr) (H':Hp),Same H H'->TabF H' (.ref t) (ts.set n ms) tie->Q (.ref t) H')
theorem j6(T:Tx K mg a):FnOk P w K mg base CX0 1 a.A53 a.B53 ["table","number","track"] qG4:=by
 refine oL T.D53.F qBc λ_ _ _ _ H _ _ _ hr h _ Y=>?_;obtain⟨tz,y,n,ts,tie,ms,rfl,⟨tt,tl,ti,zs,e0,h2,h3,h4,h5⟩,hy,hn,hl,kk⟩:=h;cases e0;apply Y;have hzl:=h4.len;refine⟨_,(qD (qT7 (i:=3) [] [] qBc.nd rfl rfl rfl (jc (qI (pv 0))) (λ_ _ _ _=>(zg (qBi (K:=K) rfl) rfl T.b_list rfl (qA (pv 0) qB))))
  (qD (qM5 (pv 2) (qMo (pv 3) (pv 1) qDo))
  (qF (qM (qh (qA (pv 3) (qA (zg xt rfl T.b_list rfl (qA (qI (pv 0)) qB)) qB))))))),?_⟩
 try dsimp only[jV,qk]
 refine(ixO h2 at0 ⟨tl,O,⟨_,SqL.of h3⟩,kI (K:=K) (a:=tl) (xs:=zs) (λj acc H2=>TrsAt H2 (ts.take j) acc/\Same H H2) ⟨trivial,Same.refl _⟩ ?_ ?_ ?_⟩)
 . rintro j acc H2 hj ⟨ht,e2⟩
   exact⟨SqL.of (e2 _ _ h3),qi (by rw[ht.len,Yk];omega)⟩
 . rintro j x acc H2 hj hx ⟨ht,e2⟩
   refine qS λ_ Y=>?_;obtain⟨ms1,z,hms,rfl,us,hz,his⟩:=h4.get hx;apply Y;refine⟨_,O,z,us,O,.inl (SqL.of (e2 _ _ hz)),λl hl'=>Nxt.mk hj ⟨?_,e2.trans (qE hl' _)⟩⟩;have w3:=qE hl' (.lst us);have etk:ts.take (j+1)=ts.take j++[ms1]:=by rw[Yt,hms];rfl
   rw[etk];exact qEc (ht.same w3) ⟨us,qC,his.ts (qV (e2.trans w3))⟩
 rintro acc H2 ⟨ht,e2⟩ d hd;rw[hzl,Yx]at ht;refine⟨_,O,_,O,_,O,d,acc,_,n,O,O,qC,qHi (by rw[ht.len];exact hn),?_⟩;rw[qHb];have w4:=qE hd (.lst (acc.set n (.ref y)));have e4:=e2.trans w4;refine⟨_,O,ixO (e4 _ _ h2) at1 ⟨ti,_,O,.inl (SqL.of (e4 _ _ h5)),λl hl'=>⟨sL2,λt ht'=>?_⟩⟩⟩;have w5:=qE hl' (.lst (tie.map V.int));have w6:=qE ht' (.tup [.ref d,.ref l]);have w56:=w5.trans w6;exact kk t _ (e4.trans w56) ⟨t,d,l,_,O,qC,w56 _ _ qC,((ht.same w4).set (hy.same e4)).same w56,w6 _ _ qC⟩
theorem qBp:atI [x0,x1,x2,x3] 0=some x0:=rfl
theorem qC0:atI [x0,x1,x2,x3] 1=some x1:=rfl
theorem wO:atI [x0,x1,x2,x3] 2=some x2:=rfl
theorem kf:atI [x0,x1,x2,x3] 3=some x3:=rfl
theorem qYs:atI [x0,x1,x2] 0=some x0:=rfl
theorem qRp:atI [x0] 0=some x0:=rfl
inductive qEl(vs:List V)(H:Hp)(Q:VK)(_:XK):Prop
|mk (z:Addr) (ms:List Im) (i:Int) (_:vs=[.ref z,.int i]) (_:Tr H z ms) (_:Q (.int (if qt ms (i+1)="mix" then i+2 else i+1)) H)
theorem qFf(T:Tx K mg a):FnOk P w K mg base CX0 2 a.A30 a.B30 ["track","place"] qEl:=by
 refine oL T.D30.F qE7 λ_ _ _ s H vs Q _ hr h _ Y=>?_;obtain⟨z,ms,i,rfl,tT,q⟩:=h;apply Y;refine⟨_,(qF (qM (zw (qL jW (qJ T.D28 (jY T) hr rfl (qA (pv 0) (qA (qQ qm (pv 1) qG) qB))) qN (qR _)) (qQ qm (pv 1) qG) (qQ qm (pv 1) qG)))),?_⟩
 try dsimp only[jV,qk]
 refine⟨_,O,_,O,_,_,O,O,z,ms,_,O,tT,O,_,O,je (λc=>?_) (λc=>?_)⟩
 . rw[YB (by simpa using c)]at q
   exact⟨_,O,_,_,O,O,q⟩
 . rw[YA (by simpa using c)]at q
   exact⟨_,O,_,_,O,O,q⟩
inductive qJf(K:W.Frag)(vs:List V)(H:Hp)(Q:VK)(_:XK):Prop
|mk (v:V) (b:Int) (rd:Addr) (rl:Rls) (n:Str) (p q r s l N:Int) (_:vs=[v,.int b,.ref rd]) (_:IsI H (.clip n p q r s l) v) (_:Rc n p q r s l rl N) (_:ReelsAt H rd rl) (_:∀H',Same H H'->Q (.int (if 0<b then xK p q r s l N else xL p q r s N)) H')
theorem qJ8(T:Tx K mg a):FnOk P w K mg base CX0 6 a.A49 a.B49 ["clip","by","reels"] (qJf K):=by
 refine oL T.D49.F qJh λ_ _ _ s H vs Q E hr h _ Y=>?_;obtain⟨v,b,rd,rl,n,p,q,r,s1,l,N,rfl,hv,c1,hrl,kk⟩:=h;apply Y;refine⟨_,(qF (qM (zw (qL wM (pv 1) qG (qR _)) (qJ T.D20 (vc T) hr rfl (qA (pv 0) (qA (pv 2) qB))) (qJ T.D19 (wC T) hr rfl (qA (pv 0) (qA (pv 2) qB)))))),?_⟩
 try dsimp only[jV,qk]
 refine⟨_,O,_,_,O,O,_,O,je (λc=>?_) (λc=>?_)⟩
 . refine⟨_,O,_,O,v,n,p,q,r,s1,l,N,rd,O,qGx hv,c1.g1,c1.g2,c1.bl,hrl _ _ c1.rn,c1.bN,λH1 e1=>?_⟩
   have:=kk H1 e1;rw[YB (by simpa using c)]at this;exact this
 . refine⟨_,O,_,O,v,n,p,q,r,s1,l,N,rd,O,qGx hv,c1.g1,c1.g2,hrl _ _ c1.rn,c1.bN,λH1 e1=>?_⟩
   have:=kk H1 e1;rw[YA (by simpa using c)]at this;exact this
inductive qLc(S:Addr)(vs:List V)(H:Hp)(Q:VK)(E:XK):Prop
|mk (z rd:Addr) (ms:List Im) (i:Nat) (b:Int) (rl:Rls) (n:Str) (p q r s l N:Int) (_:vs=[.ref z,.int (i:Int),.int b,.ref rd]) (_:Tr H z ms) (_:ms.length<=300) (_:ms[i]?=some (.clip n p q r s l)) (_:Rc n p q r s l rl N) (_:ReelsAt H rd rl) (_:b.natAbs<=1000000) (_:(wb b<=(if 0<b then xK p q r s l N else xL p q r s N)->∀(y:Addr) (H':Hp),Same H H'->H y=none->Tr H' y (ms.set i (.clip n (plP p q r s b) (plQ p q r s b) r s l))->Q (.ref y) H')) (_:(¬wb b<=(if 0<b then xK p q r s l N else xL p q r s N)->∀(dx:Addr) (H':Hp),Same H H'->H' dx=some (.xd [("most",.int (sgM b (if 0<b then xK p q r s l N else xL p q r s N)))])->E (.ref S) (some dx) H'))
theorem qLs(T:Tx K mg a):FnOk P w K mg base (CXR P w) 7 a.A51 a.B51 ["track","place","by","reels"] (qLc a.k_Short):=by
 refine oX T.D51.F qCh λ_ _ _ _ H vs _ _ hr h _ Y=>?_;obtain⟨z,rd,ms,i,b,rl,n,p,q,r,s1,l,N,rfl,tT,hln,hi,c1,hrl,hb,kg,kb⟩:=h;apply Y;refine⟨_,(qD (qZ 4 qCh.nd (jP qo (pv 0) (pv 1) (λ_ _=>rfl)))
  (qD (jD (xM T.D48 (vP T) hr rfl (qA (qJ T.D49 (qJ8 T) hr rfl (qA (pv 4) (qA (pv 2) (qA (pv 3) qB)))) (qA (pv 2) qB))))
  (qD (qZ 5 qCh.nd (zg xt rfl T.b_list rfl (qA (pv 0) qB)))
  (qD (qM5 (qJ T.D16 (zo T) hr rfl (qA (pv 4) (qA (pv 2) (qA (qQ qm (pv 2) (qI (pv 4))) qB)))) (qMo (pv 5) (pv 1) qDo))
  (qF (qM (pv 5))))))),?_⟩
 try dsimp only[jV,qk]
 refine qS λ_ Y=>?_;obtain⟨vs,hz,his⟩:=id tT;obtain⟨va,hva,Ia⟩:=his.get' hi;apply Y;have hlv:=his.len;have li:i<vs.length:=(glt hva);refine⟨_,O,_,O,z,_,_,_,O,O,SqL.of hz,q8 hva,?_⟩;refine⟨_,O,_,O,_,O,va,b,rd,rl,n,p,q,r,s1,l,N,O,Ia,c1,hrl,λH1 e1=>?_⟩;refine⟨_,O,_,b,O,λhc=>?_,λhc dx H' e' hdx=>kb hc dx H' (e1.trans e') hdx⟩;refine⟨_,O,z,vs,O,.inl (SqL.of (e1 _ _ hz)),λy hy=>?_⟩;have w2:=qE hy (.lst vs);have e2:=e1.trans w2;have hy0:H y=none:=e1.free hy;refine qS λ_ Y=>?_;obtain⟨za,xa,ya,rfl,hza,hxa,hya⟩:=id Ia;apply Y;have b1:=c1.bn.mono (m:=700);have bb7:b.natAbs<2 ^ 700:=Yd hb (by decide);have hy2:upd H1 y (.lst vs) y=some (.lst vs):=qC;generalize upd H1 y (.lst vs)=H2 at w2 e2 hy2⊢;refine⟨_,O,_,O,_,O,ixO (e2 _ _ hza) qC4 ⟨_,_,O,O,_,n,p,q,r,s1,l,b,_,O,Ia.ts (qV e2),b1,bb7,λu H3 e3 I3=>?_⟩⟩;rw[show b+l-b=l by omega]at I3;refine⟨_,O,_,O,y,vs,_,i,O,O,e3 _ _ hy2,qHi li,?_⟩;have e4:Same H (upd H3 y (.lst (vs.set i u))):=jQ (e2.trans e3) hy0;have t4:TS H3 (upd H3 y (.lst (vs.set i u))):=jx (e3 _ _ hy2);exact⟨_,O,kg hc y _ e4 hy0 ⟨_,qC,(his.ts (qV e4)).set (i:=i) (I3.ts t4)⟩⟩
theorem qPq:(3:Nat)<=sizeLine:=by decide
theorem qJ4:(4:Nat)<=sizeLine:=by decide
noncomputable def paF(ms:List Im)(i:Int):Int:=if qt ms (i-1)="mix" then i-2 else i-1
noncomputable def pbF(ms:List Im)(i:Int):Int:=if qt ms (i+1)="mix" then i+2 else i+1
noncomputable def ctF(ms:List Im)(t:Int):Option Nat:=match jt 0 0 ms t with
 |some (i,_)=>if qt ms (i:Int)="clip" then some i else none
 |none=>none
noncomputable def csF(ms:List Im)(t:Int):Option (List Int):=match ctF ms t with
 |some i=>if qt ms (paF ms i)="clip"/\qt ms (pbF ms i)="clip" then some [paF ms i,(i:Int),pbF ms i]else none
 |none=>none
def qYf(H:Hp)(Q:VK)(r:Option (List Int)):Prop:=match r with
 |none=> ∀H',Same H H'->Q .non H'
 |some is=> ∀(p:Addr) (H':Hp),Same H H'->H' p=some (.tup (is.map V.int))->Q (.ref p) H'
noncomputable def plF(wd:Str)(ms:List Im)(t:Int):Option (List Int):=if wd="roll" then (cbF ms t).map (λp=>[p.1,p.2])else if wd="slip" then (ctF ms t).map (λi=>[(i:Int)])else csF ms t
inductive qId(vs:List V)(H:Hp)(Q:VK)(_:XK):Prop
|mk (z:Addr) (ms:List Im) (t:Int) (_:vs=[.ref z,.int t]) (_:Tr H z ms) (_:qYf H Q ((ctF ms t).map λi=>[(i:Int)]))
theorem qBb(T:Tx K mg a):FnOk P w K mg base CX0 4 a.A44 a.B44 ["track","moment"] qId:=by
 refine oL T.D44.F qA0 λ_ _ _ _ H vs Q _ hr h _ Y=>?_;obtain⟨z,ms,t,rfl,tT,kk⟩:=h;apply Y;refine⟨_,(qD (qZ 2 qA0.nd (qJ T.D27 (qBz T) hr rfl (qA (pv 0) (qA (pv 1) qB))))
  (qD (qc (PW.pt (xh (wZ (qA7 (pv 2))) (ju (qL kD (qJ T.D28 (jY T) hr rfl (qA (pv 0) (qA (qI (pv 2)) qB))) qN (qR _))))) (qF (qM qBa)) qO)
  (qF (qM (qh (qA (qI (pv 2)) qB)))))),?_⟩
 try dsimp only[jV,qk]
 refine⟨_,O,_,O,z,ms,_,O,tT,?_⟩;unfold ctF at kk;cases hit:jt 0 0 ms t with
 |none=>
  rw[hit]at kk;intro H1 e1;exact⟨_,O,_,O,qAk (by decide) (j5 (kk H1 e1))⟩
 |some r=>
  obtain⟨i,d⟩:=r;rw[hit]at kk;dsimp only at kk;intro p H1 e1 hp;refine⟨_,O,_,O,je (λc=>YC c (by simp)) (λ_=>?_)⟩;refine⟨_,O,ixO hp at0 ⟨z,ms,_,O,tT.same e1,O,_,O,je (λc=>?_) (λc=>?_)⟩⟩
  . have hk:¬qt ms (i:Int)="clip":=by simpa using c
    rw[YA hk]at kk;exact kk H1 e1
  . have hk:qt ms (i:Int)="clip":=by simpa using c
    rw[YB hk]at kk;refine(ixO hp at0 ⟨sL1,λq hq=>?_⟩);exact kk q _ (e1.trans (qE hq _)) qC
inductive qCd(vs:List V)(H:Hp)(Q:VK)(_:XK):Prop
|mk (z:Addr) (ms:List Im) (t:Int) (_:vs=[.ref z,.int t]) (_:Tr H z ms) (_:qYf H Q (csF ms t))
theorem qBs(T:Tx K mg a):FnOk P w K mg base CX0 5 a.A45 a.B45 ["track","moment"] qCd:=by
 refine oL T.D45.F j9 λ_ _ _ _ H vs Q _ hr h _ Y=>?_;obtain⟨z,ms,t,rfl,tT,kk⟩:=h;apply Y;refine⟨_,(qD (qZ 2 j9.nd (qJ T.D44 (qBb T) hr rfl (qA (pv 0) (qA (pv 1) qB))))
  (qD (qc (wZ (qA7 (pv 2))) (qF (qM qBa)) qO)
  (qD (qZ 3 j9.nd (qJ T.D29 (wn T) hr rfl (qA (pv 0) (qA (qI (pv 2)) qB))))
  (qD (qZ 4 j9.nd (qJ T.D30 (qFf T) hr rfl (qA (pv 0) (qA (qI (pv 2)) qB))))
  (qD (qc (PW.pt (xh (qL kD (qJ T.D28 (jY T) hr rfl (qA (pv 0) (qA (pv 3) qB))) qN (qR _)) (ju (qL kD (qJ T.D28 (jY T) hr rfl (qA (pv 0) (qA (pv 4) qB))) qN (qR _))))) (qF (qM qBa)) qO)
  (qF (qM (qh (qA (pv 3) (qA (qI (pv 2)) (qA (pv 4) qB))))))))))),?_⟩
 try dsimp only[jV,qk]
 refine⟨_,O,_,O,z,ms,_,O,tT,?_⟩;unfold csF at kk;cases hc:ctF ms t with
 |none=>
  rw[hc]at kk;intro H1 e1;exact⟨_,O,_,O,qAk (by decide) (kk H1 e1)⟩
 |some i=>
  rw[hc]at kk;dsimp only at kk;unfold paF pbF at kk;intro p H1 e1 hp1;refine⟨_,O,_,O,je (λc=>YC c (by simp)) (λ_=>?_)⟩;refine⟨_,O,ixO hp1 qRp ⟨z,ms,_,O,tT.same e1,?_⟩⟩;refine⟨_,O,ixO hp1 qRp ⟨z,ms,_,O,tT.same e1,?_⟩⟩;generalize (if qt ms ((i:Int)-1)="mix" then (i:Int)-2 else (i:Int)-1)=L at kk⊢;generalize (if qt ms ((i:Int)+1)="mix" then (i:Int)+2 else (i:Int)+1)=R at kk⊢;refine⟨_,O,_,O,z,ms,_,O,tT.same e1,O,_,O,je (λc=>?_) (λc=>?_)⟩
  . have hk:¬qt ms L="clip":=by simpa using c
    rw[YA (λz=>hk z.1)]at kk;exact j5 (kk H1 e1)
  have hk1:qt ms L="clip":=by simpa using c
  refine⟨_,O,_,O,z,ms,_,O,tT.same e1,O,_,O,je (λc=>?_) (λc=>?_)⟩
  . have hk:¬qt ms R="clip":=by simpa using c
    rw[YA (λz=>hk z.2)]at kk;exact kk H1 e1
  have hk2:qt ms R="clip":=by simpa using c
  rw[YB ⟨hk1,hk2⟩]at kk;refine⟨_,O,ixO hp1 qRp ⟨_,O,sL3,λq hq=>?_⟩⟩;exact kk q _ (e1.trans (qE hq _)) qC
def Wd3(wd:Str):Prop:=wd="roll"\/wd="slip"\/wd="slide"
inductive qFh(vs:List V)(H:Hp)(Q:VK)(_:XK):Prop
|mk (z dz:Addr) (ms:List Im) (n b:V) (t:Int) (wd:Str) (_:vs=[.ref z,.ref dz]) (_:Tr H z ms) (_:H dz=some (.tup [.str wd,n,.int t,b])) (_:Wd3 wd) (_:qYf H Q (plF wd ms t))
theorem qE9(T:Tx K mg a):FnOk P w K mg base CX0 6 a.A46 a.B46 ["track","deed"] qFh:=by
 refine oL T.D46.F qEy λ_ _ _ _ _ _ _ _ hr h _ Y=>?_;obtain⟨z,dz,ms,n,b,t,wd,rfl,tT,hd,hw,kk⟩:=h;apply Y;refine⟨_,(qD (qc (qL jW (qI (pv 1)) qN (qR _)) (qF (qM (qJ T.D32 (ja T) hr rfl (qA (pv 0) (qA (qI (pv 1)) qB))))) qO)
  (qD (qc (qL jW (qI (pv 1)) qN (qR _)) (qF (qM (qJ T.D44 (qBb T) hr rfl (qA (pv 0) (qA (qI (pv 1)) qB))))) qO)
  (qD (qc (qL jW (qI (pv 1)) qN (qR _)) (qF (qM (qJ T.D45 (qBs T) hr rfl (qA (pv 0) (qA (qI (pv 1)) qB))))) qO)
  (qF (qM qBa))))),?_⟩
 try dsimp only[jV,qk]
 unfold plF at kk;rcases hw with rfl|rfl|rfl
 . rw[YB rfl]at kk
   refine(ixO hd qBp ⟨O,_,O,j5 ?_⟩);refine⟨_,O,ixO hd wO ⟨z,ms,t,O,tT,?_⟩⟩;cases hc:cbF ms t with
   |none=>rw[hc]at kk;exact kk
   |some r=>obtain⟨i,j⟩:=r;rw[hc]at kk;exact kk
 . rw[YA (by decide+kernel),YB rfl]at kk
   refine(ixO hd qBp ⟨O,_,O,jH ?_⟩);refine(ixO hd qBp ⟨O,_,O,j5 ?_⟩);exact⟨_,O,ixO hd wO ⟨z,ms,t,O,tT,kk⟩⟩
 . rw[YA (by decide+kernel),YA (by decide+kernel)]at kk
   refine(ixO hd qBp ⟨O,_,O,jH ?_⟩);refine(ixO hd qBp ⟨O,_,O,jH ?_⟩);refine(ixO hd qBp ⟨O,_,O,j5 ?_⟩);exact⟨_,O,ixO hd wO ⟨z,ms,t,O,tT,kk⟩⟩
theorem xG{x:Int}(h:qt ms x="clip"):∃(i:Nat) (n:Str) (p q r s l:Int),x=(i:Int)/\ms[i]?=some (.clip n p q r s l):=by
 unfold qt at h;split at h
 . exact YC h (by decide+kernel)
 . rename_i h0
   cases hm:ms[x.toNat]? with
   |none=>rw[hm]at h;exact YC h (by decide+kernel)
   |some m=>
    rw[hm]at h;dsimp only at h;cases m with
    |clip n p q r s l=>exact⟨x.toNat,n,p,q,r,s,l,by omega,hm⟩
    |gap=>exact YC (show ("gap":Str)="clip" from h) (by decide+kernel)
    |nest=>exact YC (show ("nest":Str)="clip" from h) (by decide+kernel)
    |mix=>exact YC (show ("mix":Str)="clip" from h) (by decide+kernel)
noncomputable def jU(ms:List Im)(x:Int):Im:=(ms[x.toNat]?).getD (.gap 0)
noncomputable def qPz(rl:Rls)(m:Im)(b:Int):Int:=match m with
 |.clip n p q r s l=>(match rl n with
  |some N=>if 0<b then xK p q r s l N else xL p q r s N
  |none=>0)
 |_=>0
noncomputable def qPr(rl:Rls)(m m':Im)(b:Int):Int:=match m,m' with
 |.clip n p q r s l,.clip n' p' q' r' s' l'=>(match rl n,rl n' with
  |some N,some N'=>qB0 b (xK p q r s l N) (xL p' q' r' s' N') l l'
  |_,_=>0)
 |_,_=>0
noncomputable def qHd(rl:Rls)(ms:List Im)(wd:Str)(is:List Int)(b:Int):Int:=if wd="slip" then qPz rl (jU ms (is.headD 0)) b else qPr rl (jU ms (is.headD 0)) (jU ms (is.getLastD 0)) b
noncomputable def qB6(ms:List Im)(wd:Str)(is:List Int)(b:Int):List Im:=if wd="slip" then (match jU ms (is.headD 0)with
 |.clip n p q r s l=>ms.set (is.headD 0).toNat (.clip n (plP p q r s b) (plQ p q r s b) r s l)
 |_=>ms)
 else match jU ms (is.headD 0),jU ms (is.getLastD 0)with
  |.clip n p q r s l,.clip n' p' q' r' s' l'=>qOa ms (is.headD 0).toNat (is.getLastD 0).toNat b n p q r s l n' p' q' r' s' l'
  |_,_=>ms
theorem zK{t i:Int}(h:cbF ms t=some (i,j)):qt ms i="clip"/\qt ms j="clip":=by
 unfold cbF at h;split at h
 . split at h
   . rename_i c;cases h;exact c
   . cases h
 . cases h
theorem qX4{t i:Int}(h:cbF ms t=some (i,j)):i<j:=by
 unfold cbF at h;split at h
 . rename_i hn
   split at h
   . cases h
     unfold nbF at hn;split at hn
     . split at hn
       . cases hn
       . cases hn
         split <;> omega
     . cases hn
   . cases h
 . cases h
def qZc(rl:Rls)(ms:List Im)(w:Str)(is:List Int):Prop:=is.length<=3/\∃(i j:Nat) (n:Str) (p q r s l N:Int) (n':Str) (p' q' r' s' l' N':Int),i<j/\(i:Int)∈is/\(j:Int)∈is/\atI (is.map V.int) 0=some (.int (i:Int))/\atI (is.map V.int) (-1)=some (.int (j:Int))/\ms[i]?=some (.clip n p q r s l)/\ms[j]?=some (.clip n' p' q' r' s' l')/\rl n=some N/\rl n'=some N'/\
 ∀b,qHd rl ms w is b=qB0 b (xK p q r s l N) (xL p' q' r' s' N') l l'/\qB6 ms w is b=qOa ms i j b n p q r s l n' p' q' r' s' l'
theorem qWe{w:Str}{t:Int}(hc:∀n p q r s l,Im.clip n p q r s l∈ms->∃N,rl n=some N)(hw:Wd3 w)(hp:plF w ms t=some is):
 (w="slip"/\∃(i:Nat) (n:Str) (p q r s l N:Int),is=[(i:Int)]/\ms[i]?=some (.clip n p q r s l)/\rl n=some N/\∀b,qHd rl ms w is b=(if 0<b then xK p q r s l N else xL p q r s N)/\qB6 ms w is b=ms.set i (.clip n (plP p q r s b) (plQ p q r s b) r s l))\/
 (w≠"slip"/\qZc rl ms w is):=by
 have ec:∀{i:Nat} {m:Im},ms[i]?=some m->jU ms (i:Int)=m:=λh=>by unfold jU;rw[YQ,h];rfl
 have fin:∀x y:Int,w≠"slip"->is.length<=3->x<y->is.headD 0=x->is.getLastD 0=y->x∈is->y∈is->atI (is.map V.int) 0=some (.int x)->atI (is.map V.int) (-1)=some (.int y)->qt ms x="clip"->qt ms y="clip"->w≠"slip"/\qZc rl ms w is:=λx y ns h3 hlt hh hl m1 m2 a0 a1 hk hk'=>by
  obtain⟨i,n,p,q,r,s,l,rfl,hm⟩:=xG hk;obtain⟨j,n',p',q',r',s',l',rfl,hm'⟩:=xG hk';obtain⟨N,hN⟩:=hc _ _ _ _ _ _ (YF hm);obtain⟨N',hN'⟩:=hc _ _ _ _ _ _ (YF hm');refine⟨ns,h3,i,j,n,p,q,r,s,l,N,n',p',q',r',s',l',N',by omega,m1,m2,a0,a1,hm,hm',hN,hN',λb=>⟨?_,?_⟩⟩
  . unfold qHd
    rw[YA ns,hh,hl,ec hm,ec hm'];unfold qPr;dsimp only;rw[hN,hN']
  . unfold qB6
    rw[YA ns,hh,hl,ec hm,ec hm',YQ,YQ]
 have hp0:=hp;unfold plF at hp;rcases hw with rfl|rfl|rfl
 . rw[YB rfl]at hp
   cases hq:cbF ms t with
   |none=>rw[hq]at hp;cases hp
   |some x=>
    obtain⟨x,y⟩:=x;rw[hq]at hp;cases hp;obtain⟨k1,k2⟩:=zK hq;exact .inr (fin x y (by decide+kernel) (by show 2<=3;decide) (qX4 hq) rfl rfl (by simp) (by simp) rfl rfl k1 k2)
 . rw[YA (by decide+kernel),YB rfl]at hp
   cases hq:ctF ms t with
   |none=>rw[hq]at hp;cases hp
   |some x=>
    rw[hq]at hp;cases hp;have hk:qt ms (x:Int)="clip":=by
     unfold ctF at hq;split at hq
     . split at hq
       . rename_i c;cases hq;exact c
       . cases hq
     . cases hq
    obtain⟨i,n,p,q,r,s,l,e,hm⟩:=xG hk;have e:x=i:=by omega
    subst e;obtain⟨N,hN⟩:=hc _ _ _ _ _ _ (YF hm);refine .inl ⟨O,x,n,p,q,r,s,l,N,O,hm,hN,λb=>⟨?_,?_⟩⟩
    . unfold qHd
      rw[YB rfl];show qPz rl (jU ms (x:Int)) b=_;rw[ec hm];unfold qPz;dsimp only;rw[hN]
    . unfold qB6
      rw[YB rfl];show (match jU ms (x:Int)with|.clip n p q r s l=>ms.set ((x:Int)).toNat (.clip n (plP p q r s b) (plQ p q r s b) r s l)|_=>ms)=_;rw[ec hm,YQ]
 . rw[YA (by decide+kernel),YA (by decide+kernel)]at hp
   unfold csF at hp;cases hq:ctF ms t with
   |none=>rw[hq]at hp;cases hp
   |some i=>
    rw[hq]at hp;dsimp only at hp;split at hp
    . rename_i c
      cases hp;exact .inr (fin (paF ms i) (pbF ms i) (by decide+kernel) (by show 3<=3;decide) (by unfold paF pbF;split <;> split <;> omega) rfl rfl (by simp) (by simp) rfl rfl c.1 c.2)
    . cases hp
def ItR(rl:Rls)(m:Im):Prop:= ∀n p q r s l,m=.clip n p q r s l->∃N,Rc n p q r s l rl N
inductive qNy(N M S:Addr)(vs:List V)(H:Hp)(Q:VK)(E:XK):Prop
|mk (tz dz rd:Addr) (ts:List (List Im)) (tie:List Int) (wd:Str) (nt:Nat) (t b:Int) (ms:List Im) (rl:Rls) (_:vs=[.ref tz,.ref dz,.ref rd]) (_:TabF H (.ref tz) ts tie) (_:H dz=some (.tup [.str wd,.int (nt:Int),.int t,.int b])) (_:Wd3 wd) (_:ts[nt]?=some ms) (_:0<=t) (_:b.natAbs<=1000000) (_:ts.length<=300) (_:ms.length<=300) (_:(∀m∈ms,ItR rl m)) (_:ReelsAt H rd rl) (_:(plF wd ms t=none->∀H',Same H H'->E (.ref N) none H')) (_:∀is,plF wd ms t=some is->(is.any (hmB ms)=true->∀H',Same H H'->E (.ref M) none H')/\(is.any (hmB ms)=false->(wb b<=qHd rl ms wd is b->∀(t':Addr) (H':Hp),Same H H'->TabF H' (.ref t') (ts.set nt (qB6 ms wd is b)) tie->Q (.ref t') H')/\(¬wb b<=qHd rl ms wd is b->∀(dx:Addr) (H':Hp),Same H H'->H' dx=some (.xd [("most",.int (sgM b (qHd rl ms wd is b)))])->E (.ref S) (some dx) H')))
theorem qNp(T:Tx K mg a):FnOk P w K mg base (CXR P w) 8 a.A54 a.B54 ["table","deed","reels"] (qNy a.k_NoPlace a.k_Mixed a.k_Short):=by
 refine oX T.D54.F qDw λ_ _ _ s _ _ _ _ hr h _ Y=>?_;obtain⟨tz,dz,rd,ts,tie,wd,nt,t,b,ms,rl,rfl,hT,hd,hw,hms,t0,hbb,htl,hml,hmi,hre,k0,k1⟩:=h;apply Y;refine⟨_,(qD (jD (qJ T.D42 (wp T) hr rfl (qA (pv 0) (qA (qI (pv 1)) (qA (qI (pv 1)) qB)))))
  (qD (jD (qJ T.D43 (qL0 T) hr rfl (qA (qI (pv 1)) qB)))
  (qD (qMs (i:=3) qDw.nd rfl (Or.inr rfl) (jP qo (qI (pv 0)) (qI (pv 1)) (λ_ _=>rfl)))
  (qD (qZ 4 qDw.nd (qJ T.D46 (qE9 T) hr rfl (qA (pv 3) (qA (pv 1) qB))))
  (qD (qc (wZ (qA7 (pv 4))) (qF (zN rfl rfl T.c_NoPlace T.x_NoPlace (qA qN qB))) qO)
  (qD (qc (jO (qd (qPh rfl) rfl T.b_any rfl (qA (vq ["track"] [3] rfl (qT0 (pv 4)) (λ_ _ _ _=>(qJ T.D47 (qNm T) hr rfl (qA (pv 1) (qA (pv 0) qB))))) qB))) (qF (zN rfl rfl T.c_Mixed T.x_Mixed (qA qN qB))) qO)
  (qD (qc (qL jW (qI (pv 1)) qN (qR _)) (qF (qM (qJ T.D53 (j6 T) hr rfl (qA (pv 0) (qA (qI (pv 1)) (qA (xM T.D51 (qLs T) hr rfl (qA (pv 3) (qA (qI (pv 4)) (qA (qI (pv 1)) (qA (pv 2) qB))))) qB)))))) qO)
  (qF (qM (qJ T.D53 (j6 T) hr rfl (qA (pv 0) (qA (qI (pv 1)) (qA (xM T.D52 (wP T) hr rfl (qA (pv 3) (qA (qI (pv 4)) (qA (jP qF9 (pv 4) (wS zI qG) (λ_ _=>rfl)) (qA (qI (pv 1)) (qA (pv 2) qB)))))) qB))))))))))))),?_⟩
 try dsimp only[jV,qk]
 have one:(1:Nat)<=sizeLine:=by decide
 refine qS λ_ Y=>?_;obtain⟨tt,tl,ti,zs,e0,g2,g3,g4,g5⟩:=id hT;cases e0;apply Y;have hzl:=g4.len;have hnt:=(glt hms);refine⟨_,O,ixO hd qC0 (ixO hd wO ⟨tz,tl,ti,zs,_,_,O,g2,g3,by omega,by omega,t0,?_⟩)⟩;refine(ixO hd kf ⟨b,O,hbb,?_⟩);have ez:zs[nt]?=some zs[nt]:=YD (by omega);refine qS λ_ Y=>?_;obtain⟨ms1,z,hms1,ezz,tT⟩:=g4.get ez;rw[hms]at hms1;cases hms1;apply Y;rw[ezz]at ez;refine(ixO g2 at0 (ixO hd qC0 ⟨tl,_,_,_,O,O,SqL.of g3,q8 ez,?_⟩));refine⟨_,O,_,O,z,dz,ms,_,_,t,wd,O,tT,hd,hw,?_⟩;cases hpl:plF wd ms t with
 |none=>
  intro H1 e1;exact⟨_,O,_,O,qAk (by decide) ⟨one,k0 hpl H1 e1⟩⟩
 |some is=>
 obtain⟨k1,k2⟩:=k1 is hpl;intro pz H1 e1 hpz;refine⟨_,O,_,O,je (λc=>YC c (by simp)) (λ_=>?_)⟩;have hends:=qWe (λn p q r s l hm=>let ⟨N,c⟩:=hmi _ hm _ _ _ _ _ _ rfl;⟨N,c.rn⟩) hw hpl;have hisl:is.length<=3:=by
  rcases hends with ⟨_,x,_,_,_,_,_,_,_,rfl,_⟩|⟨_,h,_⟩
  . show 1<=3;decide
  . exact h
 refine⟨_,O,pz,O,⟨_,SqT.of hpz⟩,qRs (K:=K) (a:=pz) (xs:=is.map V.int) (λj acc H2=>acc=((is.take j).map (hmB ms)).map V.bl/\H2=H1) ⟨O,O⟩ ?_ ?_ ?_⟩
 . rintro j acc H2 hj ⟨rfl,rfl⟩
   exact⟨SqT.of hpz,by rw[YS,YS,Yk];exact qi (by omega)⟩
 . rintro j x acc H2 hj hx ⟨rfl,rfl⟩
   refine qS λ_ Y=>?_;obtain⟨k,hk,rfl⟩:∃k:Int,is[j]?=some k/\x=.int k:=by
    rw[Yj]at hx;cases hq:is[j]? with
    |none=>rw[hq]at hx;cases hx
    |some k=>rw[hq]at hx;cases hx;exact⟨k,rfl,rfl⟩
   apply Y;refine⟨_,O,_,O,z,ms,k,O,tT.same e1,Nxt.mk hj ⟨?_,O⟩⟩;rw[Yt,hk];simp
 rintro acc H2 ⟨rfl,rfl⟩ d hd';rw[YS,Yx];have w2:=qE hd' (.lst ((is.map (hmB ms)).map V.bl));have e2:=e1.trans w2;have hany:(is.map (hmB ms)).any id=is.any (hmB ms):=by rw[List.any_map];rfl
 refine⟨d,is.map (hmB ms),O,SqL.of qC,?_⟩;have hpz2:=w2 _ _ hpz;by_cases hmx:is.any (hmB ms)=true
 . exact⟨true,by rw[hany,hmx],j5 ⟨one,k1 hmx _ e2⟩⟩
 have hmx:=Bool.eq_false_iff.mpr hmx;obtain⟨kq,ks⟩:=k2 hmx;refine⟨false,by rw[hany,hmx],jH ?_⟩;generalize upd H2 d (.lst ((is.map (hmB ms)).map V.bl))=H3 at w2 e2 hpz2⊢;have hd3:=e2 _ _ hd;have rc:∀{i:Nat} {n:Str} {p q r s l N:Int},ms[i]?=some (.clip n p q r s l)->rl n=some N->Rc n p q r s l rl N:=λ{i n p q r s l N} hm hr=>by obtain⟨N',hc⟩:=hmi _ (YF hm) _ _ _ _ _ _ rfl;have:=hc.rn;rw[hr]at this;cases this;exact hc
 refine qS λ_ Y=>?_;rcases hends with ⟨rfl,i,nn,p,q,r,s',l,N,rfl,hm,hN,hv⟩|⟨hwn,_,i,j,nn,p,q,r,s',l,N,nn',p',q',r',s'',l',N',_,_,_,hx0,hy0,hm,hm',hN,hN',hv⟩
 . have hc:=rc hm hN
   rw[(hv b).1,(hv b).2]at kq;rw[(hv b).1]at ks;apply Y;refine(ixO hd3 qBp ⟨O,_,O,j5 ?_⟩);refine⟨_,O,ixO hd3 qC0 ?_⟩;refine⟨_,O,ixO hpz2 qRp (ixO hd3 kf ⟨_,O,?_⟩)⟩;refine⟨z,rd,ms,i,b,rl,_,_,_,_,_,_,_,O,tT.same e2,hml,hm,hc,hre.same e2,hbb,λhc y H4 e4 hy tY=>?_,λhc dx H4 e4 hdx=>ks hc dx H4 (e2.trans e4) hdx⟩;refine⟨tz,y,nt,ts,tie,_,O,hT.same (e2.trans e4),tY,hnt,htl,λt H5 e5 hN=>?_⟩;exact kq hc t H5 ((e2.trans e4).trans e5) hN
 . have hc:=rc hm hN
   have hc':=rc hm' hN';rw[(hv b).1,(hv b).2]at kq;rw[(hv b).1]at ks;have dw:decide (V.str wd=V.str "slip")=false:=by rw[qVv];exact YW hwn
   apply Y;refine(ixO hd3 qBp ⟨O,_,O,qAl dw ?_⟩);refine⟨_,O,ixO hd3 qC0 ?_⟩;refine⟨_,O,_,O,pz,_,_,_,O,O,SqT.of hpz2,hx0,_,O,1,O,pz,_,_,_,O,O,SqT.of hpz2,hy0,ixO hd3 kf ⟨_,O,?_⟩⟩;refine⟨z,rd,ms,i,j,b,rl,_,_,_,_,_,_,_,_,_,_,_,_,_,_,O,tT.same e2,hml,hm,hm',hc,hc',hre.same e2,hbb,λhc y H4 e4 hy tY=>?_,λhc dx H4 e4 hdx=>ks hc dx H4 (e2.trans e4) hdx⟩;refine⟨tz,y,nt,ts,tie,_,O,hT.same (e2.trans e4),tY,hnt,htl,λt H5 e5 hN=>?_⟩;exact kq hc t H5 ((e2.trans e4).trans e5) hN
theorem qTm{w:Str}:inV (.str w) [.str "clip",.str "nest"]=(decide (w="clip") || decide (w="nest")):=by
 unfold inV;rw[Yv];simp[eqV];constructor
 . rintro(h|h)
   . exact .inl h.symm
   . exact .inr h.symm
 . rintro(h|h)
   . exact .inl h.symm
   . exact .inr h.symm
noncomputable def qv(ms:List Im)(t:Int):Bool:=match jt 0 0 ms t with
 |some (i,d)=>decide (d>0) && (decide (qt ms (i:Int)="clip") || decide (qt ms (i:Int)="nest"))
 |none=>false
inductive qFo(vs:List V)(H:Hp)(Q:VK)(_:XK):Prop
|mk (z:Addr) (ms:List Im) (t:Int) (_:vs=[.ref z,.int t]) (_:Tr H z ms) (_:∀H',Same H H'->Q (.bl (qv ms t)) H')
theorem wo(T:Tx K mg a):FnOk P w K mg base CX0 4 a.A33 a.B33 ["track","moment"] qFo:=by
 refine oL T.D33.F we λ_ _ _ s H vs Q _ hr h _ Y=>?_;obtain⟨z,ms,t,rfl,tT,kk⟩:=h;apply Y;refine⟨_,(qD (qZ 2 we.nd (qJ T.D27 (qBz T) hr rfl (qA (pv 0) (qA (pv 1) qB))))
  (qF (qM (zq (qWl (qUq (pv 2))) (zq (jn wM (qI (pv 2)) qG (qR _)) (vK (jn jF (qJ T.D28 (jY T) hr rfl (qA (pv 0) (qA (qI (pv 2)) qB))) (qh (qA qN (qA qN qB))) rfl))))))),?_⟩
 try dsimp only[jV,qk]
 refine⟨_,O,_,O,z,ms,_,O,tT,?_⟩;unfold qv at kk;cases hit:jt 0 0 ms t with
 |none=>
  rw[hit]at kk;intro H1 e1;exact⟨_,O,_,O,jH (kk H1 e1)⟩
 |some x=>
  obtain⟨i,d⟩:=x;rw[hit]at kk;dsimp only at kk;intro p H1 e1 hp;refine⟨_,O,_,O,j5 ?_⟩;refine(ixO hp at1 ⟨_,_,O,O,_,O,je (λc=>?_) (λc=>?_)⟩)
  . have hd:d>0:=by simpa using c
    rw[YX hd,Bool.true_and]at kk;refine⟨_,O,ixO hp at0 ⟨z,ms,_,O,tT.same e1,sL2,λq hq=>?_⟩⟩;have:=kk _ (e1.trans (qE hq (.tup [.str "clip",.str "nest"])));rw[<-qTm]at this;exact⟨q,_,O,.inr (SqT.of qC),O,O,this⟩
  . have hd:¬d>0:=by simpa using c
    rw[YW hd,Bool.false_and]at kk;exact kk H1 e1
noncomputable def qp:Im->Int->Int->Im
 |.clip n p q r s _,lo,hi=>.clip n (plP p q r s lo) (plQ p q r s lo) r s (hi-lo)
 |.nest n b _,lo,hi=>.nest n (b+lo) (hi-lo)
 |.gap _,lo,hi=>.gap (hi-lo)
 |.mix _,lo,hi=>.gap (hi-lo)
def ImB(m:Im):Prop:=match m with
 |.clip _ p q r s _=>Bn 700 p q r s
 |_=>True
inductive qI6(vs:List V)(H:Hp)(Q:VK)(_:XK):Prop
|mk (v:V) (m:Im) (lo hi:Int) (_:vs=[v,.int lo,.int hi]) (_:IsI H m v) (_:ImB m) (_:lo.natAbs<2 ^ 700) (_:m.wd≠"mix") (_:∀(u:V) (H':Hp),Same H H'->IsI H' (qp m lo hi) u->Q u H')
theorem qIo(T:Tx K mg a):FnOk P w K mg base CX0 6 a.A34 a.B34 ["item","low","high"] qI6:=by
 refine oL T.D34.F qJc λ_ _ _ _ _ _ _ _ hr h _ Y=>?_;obtain⟨v,m,lo,hi,rfl,hI,hB,bl,hnm,kk⟩:=h;apply Y;refine⟨_,(qD (qc (qL jW (qI (pv 0)) qN (qR _)) (qF (qM (qJ T.D16 (zo T) hr rfl (qA (pv 0) (qA (pv 1) (qA (pv 2) qB)))))) qO)
  (qD (qc (qL jW (qI (pv 0)) qN (qR _)) (qF (qM (qh (qA qN (qA (qI (pv 0)) (qA (qQ qm (qI (pv 0)) (pv 1)) (qA (qQ jR (pv 2) (pv 1)) qB))))))) qO)
  (qF (qM (qh (qA qN (qA (qQ jR (pv 2) (pv 1)) qB))))))),?_⟩
 try dsimp only[jV,qk]
 cases m with
 |mix l=>exact YC rfl hnm
 |clip n p q r s1 l=>
  refine qS λ_ Y=>?_;obtain⟨z,x,y,rfl,hz,hx,hy⟩:=id hI;apply Y;refine(ixO hz qW2 ⟨O,_,O,j5 ?_⟩);exact⟨_,O,_,O,_,O,_,n,p,q,r,s1,l,lo,hi,O,hI,hB,bl,kk⟩
 |nest n b l=>
  refine qS λ_ Y=>?_;obtain⟨z,rfl,hz⟩:=id hI;apply Y;have a0:atI [V.str "nest",.str n,.int b,.int l] 0=some (.str "nest"):=rfl;have a1:atI [V.str "nest",.str n,.int b,.int l] 1=some (.str n):=rfl;have a2:atI [V.str "nest",.str n,.int b,.int l] 2=some (.int b):=rfl;refine(ixO hz a0 ⟨O,_,O,jH ?_⟩);refine(ixO hz a0 ⟨O,_,O,j5 ?_⟩);refine(ixO hz a1 (ixO hz a2 ⟨_,O,_,_,O,O,_,O,_,O,_,_,O,O,sL4,λt ht=>?_⟩));exact kk _ _ (qE ht _) (isN qC)
 |gap l=>
  refine qS λ_ Y=>?_;obtain⟨z,rfl,hz⟩:=id hI;apply Y;refine(ixO hz at0 ⟨O,_,O,jH ?_⟩);refine(ixO hz at0 ⟨O,_,O,jH ?_⟩);refine⟨_,O,_,O,_,_,O,O,sL2,λt ht=>?_⟩;exact kk _ _ (qE ht _) (isG qC)
noncomputable def xr(i j:Int):Int:=if j>i then j else i
noncomputable def qDm(i j:Int):Int:=if j<i then j else i
noncomputable def ji(lo hi:Int):Int->List Im->List Im
 |_,[]=>[]
 |b,m::r=>(if m.wd="mix" then (if lo<b/\b<hi then [m]else [])else if xr lo b<qDm hi (b+m.mo)then [qp m (xr lo b-b) (qDm hi (b+m.mo)-b)]else [])++ji lo hi (b+m.mo) r
theorem v9(lo hi:Int):∀(b:Int) (ms:List Im),(ji lo hi b ms).length<=ms.length
 |_,[]=>by simp[ji]
 |b,m::r=>by have:=v9 lo hi (b+m.mo) r;rw[ji,YN,YE];split <;> split <;> simp <;> omega
def MsB(ms:List Im):Prop:=(∀m∈ms,ImB m/\0<=m.mo)/\ms.length<=300
inductive qDb(vs:List V)(H:Hp)(Q:VK)(_:XK):Prop
|mk (z:Addr) (ms:List Im) (lo hi:Int) (_:vs=[.ref z,.int lo,.int hi]) (_:Tr H z ms) (_:MsB ms) (_:0<=lo) (_:lo<=2 ^ 500) (_:∀(y:Addr) (H':Hp),Same H H'->H y=none->Tr H' y (ji lo hi 0 ms)->Q (.ref y) H')
theorem zF(T:Tx K mg a):FnOk P w K mg base CX0 7 a.A35 a.B35 ["track","low","high"] qDb:=by
 refine oL T.D35.F jC λ_ _ _ _ H vs _ _ hr h _ Y=>?_;obtain⟨z,ms,lo,hi,rfl,⟨vs,hz,his⟩,⟨hB,hln⟩,h0,h1,kk⟩:=h;apply Y;refine⟨_,(qD (qZ 3 jC.nd (q9 qB))
  (qD (qZ 4 jC.nd qG)
  (qD (xj PassesOwn.never rfl (jc (pv 0)) (jX (i:=5) jC.nd rfl (Or.inl rfl)) (qD (qZ 6 jC.nd (qQ qm (pv 4) (qJ T.D23 (jI T) hr rfl (qA (pv 5) qB))))
  (qD (qZ 7 jC.nd (qd (qBm rfl) rfl T.b_max rfl (qA (pv 1) (qA (pv 4) qB))))
  (qD (qZ 8 jC.nd (qd (zf rfl) rfl T.b_min rfl (qA (pv 2) (qA (pv 6) qB))))
  (qD (qc (qL jW (qI (pv 5)) qN (qR _)) (qF (qc (PW.pt (zn (qL wN (pv 1) (pv 4) (qR _)) (xX (qL wN (pv 4) (pv 2) (qR _))))) (qF (jD (wT F.plainAttrs_list F.slot_list_append F.type_list_append jZ (pv 3) (qA (pv 5) qB)))) qO)) (qF (qc (qL wN (pv 7) (pv 8) (qR _)) (qF (jD (wT F.plainAttrs_list F.slot_list_append F.type_list_append jZ (pv 3) (qA (qJ T.D34 (qIo T) hr rfl (qA (pv 5) (qA (qQ jR (pv 7) (pv 4)) (qA (qQ jR (pv 8) (pv 4)) qB)))) qB)))) qO)))
  (qF (qZ 4 jC.nd (pv 6))))))))
  (qF (qM (pv 3)))))),?_⟩
 try dsimp only[jV,qk]
 refine⟨sL0,λy hy=>?_⟩;have w0:=qE hy (.lst []);have hvl:=his.len;refine⟨_,O,z,O,⟨_,SqL.of (w0 _ _ hz)⟩,j8 (K:=K) (a:=z) (xs:=vs) (λi σ H'=> ∃(o1 o2 o3 o4:Option V) (b:Int) (ps:List Im),σ=[some (.ref z),some (.int lo),some (.int hi),some (.ref y),some (.int b),o1,o2,o3,o4]/\Tr H' y ps/\ps++ji lo hi b (ms.drop i)=ji lo hi 0 ms/\ps.length<=i/\0<=b/\Same H H')
  ⟨none,none,none,none,0,[],rfl,⟨[],qC,trivial⟩,rfl,YI _,by decide,w0⟩ ?_ ?_ ?_⟩
 . rintro i σ H' hi' ⟨o1,o2,o3,o4,b,ps,rfl,_,_,_,_,e⟩
   exact SqL.of (e _ _ hz)
 . rintro i x σ H' hx ⟨o1,o2,o3,o4,b,ps,rfl,tP,hap,hpl,b0,e⟩
   refine qS λ_ Y=>?_;obtain⟨m,hm,hIx⟩:=his.get hx;have hI:=hIx.ts (qV e);have hin:i<ms.length:=(glt hm);obtain⟨hBm,hmo⟩:=hB m (YF hm);obtain⟨us,hyu,hisP⟩:=tP;apply Y;have hul:=hisP.len;rw[xT hm,ji]at hap;refine⟨_,O,_,O,x,m,O,hI,_,_,O,O,?_⟩;refine⟨_,O,_,O,_,_,O,?_⟩;refine⟨_,O,_,O,_,_,O,?_⟩;dsimp only;change qZf _ _ _ _ _;refine qS λ_ Y=>?_;obtain⟨zi,xi,rfl,hzi,a0,_⟩:=hI.opn;apply Y;have skip:∀(q:List Im),ps++([]++q)=ps++q:=λq=>by simp
   refine⟨_,O,zi,xi,_,_,O,O,SqT.of hzi,a0,O,_,O,je (λc=>?_) (λc=>?_)⟩
   . have hw:m.wd="mix":=by simpa using c
     rw[YB hw]at hap;refine⟨_,O,_,O,_,_,O,O,_,O,je (λc1=>?_) (λc1=>?_)⟩
     . refine⟨_,O,_,O,_,_,O,O,_,O,je (λc2=>?_) (λc2=>?_)⟩
       . rw[YB ⟨by simpa using c1,by simpa using c2⟩]at hap
         refine⟨_,O,.inl ⟨O,_,SqL.of hyu⟩,_,O,y,_,_,O,O,hyu,qi (by omega),?_⟩;exact⟨_,O,_,_,_,_,_,ps++[m],O,⟨_,qC,(hisP.app (.one hI)).ts (jx hyu)⟩,by rw[Yw];exact hap,by rw[YN];show ps.length+1<=i+1;omega,by omega,jQ e hy⟩
       . rw[YA (λz=>c2 (by simpa using z.2)),skip]at hap
         exact⟨_,O,_,_,_,_,_,ps,O,⟨_,hyu,hisP⟩,hap,by omega,by omega,e⟩
     . rw[YA (λz=>c1 (by simpa using z.1)),skip]at hap
       exact jH ⟨_,O,_,_,_,_,_,ps,O,⟨_,hyu,hisP⟩,hap,by omega,by omega,e⟩
   . have hw:m.wd≠"mix":=by simpa using c
     rw[YA hw]at hap;refine⟨_,O,_,O,_,_,O,O,_,O,je (λc1=>?_) (λc1=>?_)⟩
     . rw[YB (ZM (show decide (xr lo b<qDm hi (b+m.mo))=true from c1))]at hap
       refine⟨_,O,.inl ⟨O,_,SqL.of hyu⟩,_,O,_,O,_,O,_,_,O,O,_,O,_,O,_,_,O,O,_,m,xr lo b-b,qDm hi (b+m.mo)-b,O,hI,hBm,?_,hw,λu H5 e5 hI5=>?_⟩
       . have:(xr lo b-b).natAbs<=(2 ^ 500:Nat):=by
          have h1':lo.natAbs<=2 ^ 500:=by
           have:=Int.natAbs_of_nonneg h0;have h1'':((lo.natAbs:Nat):Int)<=((2 ^ 500:Nat):Int):=by rw[this];exact_mod_cast h1
           exact_mod_cast h1''
          refine ZD ?_ h1';unfold xr;split <;> omega
         exact Yd this (Nat.pow_lt_pow_right (by decide) (by decide))
       refine⟨y,_,_,O,O,e5 _ _ hyu,qi (by omega),?_⟩;exact⟨_,O,_,_,_,_,_,ps++[qp m (xr lo b-b) (qDm hi (b+m.mo)-b)],O,⟨_,qC,((hisP.ts (qV e5)).app (.one hI5)).ts (jx (e5 _ _ hyu))⟩,by rw[Yw];exact hap,by rw[YN];show ps.length+1<=i+1;omega,by omega,jQ (e.trans e5) hy⟩
     . rw[YA (λz=>c1 (show decide (xr lo b<qDm hi (b+m.mo))=true from YX z)),skip]at hap
       exact⟨_,O,_,_,_,_,_,ps,O,⟨_,hyu,hisP⟩,hap,by omega,by omega,e⟩
 . rintro σ H' ⟨o1,o2,o3,o4,b,ps,rfl,tP,hap,hpl,b0,e⟩
   rw[hvl,ZJ,ji,Ye]at hap;rw[hap]at tP;exact⟨_,O,kk y H' e hy tP⟩
inductive Dk where
 |cut (t:Int)
 |hel (t:Int)
 |opn (t l:Int)
 |cls (t u:Int)
 |lft (t u:Int)
 |lin (t:Int) (m:Im)
 |lov (t:Int) (m:Im)
noncomputable def Dk.wd:Dk->Str
 |.cut _=>"cut"
 |.hel _=>"heal"
 |.opn .. =>"open"
 |.cls .. =>"close"
 |.lft .. =>"lift"
 |.lin .. =>"lay_in"
 |.lov .. =>"lay_over"
noncomputable def Dk.t:Dk->Int
 |.cut t=>t
 |.hel t=>t
 |.opn t _=>t
 |.cls t _=>t
 |.lft t _=>t
 |.lin t _=>t
 |.lov t _=>t
noncomputable def Dk.hi:Dk->Int
 |.cut t=>t
 |.hel t=>t
 |.opn t _=>t
 |.cls _ u=>u
 |.lft _ u=>u
 |.lin t _=>t
 |.lov t m=>t+m.mo
noncomputable def Dk.laid:Dk->List Im
 |.opn _ l=>[.gap l]
 |.lft t u=>[.gap (u-t)]
 |.lin _ m=>[m]
 |.lov _ m=>[m]
 |_=>[]
noncomputable def Dk.push:Dk->Bool
 |.opn .. =>true
 |.cls .. =>true
 |.lin .. =>true
 |_=>false
def DAt(H:Hp)(dz:Addr)(n:Int):Dk->Prop
 |.cut t=>H dz=some (.tup [.str "cut",.int n,.int t])
 |.hel t=>H dz=some (.tup [.str "heal",.int n,.int t])
 |.opn t l=>H dz=some (.tup [.str "open",.int n,.int t,.int l])
 |.cls t u=>H dz=some (.tup [.str "close",.int n,.int t,.int u])
 |.lft t u=>H dz=some (.tup [.str "lift",.int n,.int t,.int u])
 |.lin t m=> ∃v,H dz=some (.tup [.str "lay_in",.int n,.int t,v])/\IsI H m v
 |.lov t m=> ∃v,H dz=some (.tup [.str "lay_over",.int n,.int t,v])/\IsI H m v
theorem DAt.same{n:Int}{d:Dk}(e:Same H H')(h:DAt H dz n d):DAt H' dz n d:=by
 cases d with
 |lin t m=>obtain⟨v,h1,h2⟩:=h;exact⟨v,e _ _ h1,h2.ts (qV e)⟩
 |lov t m=>obtain⟨v,h1,h2⟩:=h;exact⟨v,e _ _ h1,h2.ts (qV e)⟩
 |_=>exact e _ _ h
theorem DAt.opn{n:Int}{d:Dk}(h:DAt H dz n d):∃xs,H dz=some (.tup xs)/\atI xs 0=some (.str d.wd)/\atI xs 1=some (.int n)/\atI xs 2=some (.int d.t):=by
 cases d with
 |lin t m=>obtain⟨v,h1,_⟩:=h;exact⟨_,h1,rfl,rfl,rfl⟩
 |lov t m=>obtain⟨v,h1,_⟩:=h;exact⟨_,h1,rfl,rfl,rfl⟩
 |_=>exact⟨_,h,rfl,rfl,rfl⟩
theorem xf{w:Str}{ws:List V}{b:Bool}(h:inV (.str w) ws=b):V.bl (if false=true then !inV (.str w) ws else inV (.str w) ws)=V.bl b:=by rw[YA (by decide),h]
theorem qQg{w:Str}{ws:List V}{b:Bool}(h:inV (.str w) ws=b):V.bl (if true=true then !inV (.str w) ws else inV (.str w) ws)=V.bl (!b):=by rw[YB rfl,h]
inductive qIc(vs:List V)(H:Hp)(Q:VK)(_:XK):Prop
|mk (dz:Addr) (n:Int) (d:Dk) (_:vs=[.ref dz]) (_:DAt H dz n d) (_:∀(p:Addr) (H':Hp),Same H H'->H' p=some (.tup [.int d.t,.int d.hi])->Q (.ref p) H')
theorem kU(T:Tx K mg a):FnOk P w K mg base CX0 2 a.A55 a.B55 ["deed"] qIc:=by
 refine oL T.D55.F qHn λ_ _ _ _ H vs Q _ hr h _ Y=>?_;obtain⟨dz,n,d,rfl,hD,kk⟩:=h;apply Y;refine⟨_,(qD (qc (qL jF (qI (pv 0)) (qh (qA qN (qA qN qB))) rfl) (qF (qM (qh (qA (qI (pv 0)) (qA (qI (pv 0)) qB))))) qO)
  (qD (qc (qL jW (qI (pv 0)) qN (qR _)) (qF (qM (qh (qA (qI (pv 0)) (qA (qQ qm (qI (pv 0)) (qJ T.D23 (jI T) hr rfl (qA (qI (pv 0)) qB))) qB))))) qO)
  (qF (qM (qh (qA (qI (pv 0)) (qA (qI (pv 0)) qB))))))),?_⟩
 try dsimp only[jV,qk]
 refine qS λ_ Y=>?_;obtain⟨xs,hd,a0,a1,a2⟩:=hD.opn;apply Y;have two:(2:Nat)<=sizeLine:=by decide
 refine(ixO hd a0 ⟨two,λq hq=>?_⟩);have w1:=qE hq (.tup [.str "close",.str "lift"]);have hd1:=w1 _ _ hd;cases d with
 |cls t u=>
  refine⟨q,_,O,.inr (SqT.of qC),O,O,true,(xf (w:="close") (by decide+kernel)),j5 ?_⟩;exact(ixO (w1 _ _ hD) wO (ixO (w1 _ _ hD) kf ⟨two,λp hp=>kk p _ (w1.trans (qE hp _)) qC⟩))
 |lft t u=>
  refine⟨q,_,O,.inr (SqT.of qC),O,O,true,(xf (w:="lift") (by decide+kernel)),j5 ?_⟩;exact(ixO (w1 _ _ hD) wO (ixO (w1 _ _ hD) kf ⟨two,λp hp=>kk p _ (w1.trans (qE hp _)) qC⟩))
 |lov t m=>
  refine qS λ_ Y=>?_;obtain⟨v,hv,hI⟩:=hD;apply Y;refine⟨q,_,O,.inr (SqT.of qC),O,O,false,(xf (w:="lay_over") (by decide+kernel)),jH ?_⟩;refine(ixO hd1 a0 ⟨O,_,O,j5 ?_⟩);exact(ixO hd1 a2 (ixO hd1 a2 (ixO (w1 _ _ hv) kf ⟨v,m,O,hI.ts (qV w1),_,_,O,O,two,λp hp=>kk p _ (w1.trans (qE hp _)) qC⟩)))
 |cut t=>
  refine⟨q,_,O,.inr (SqT.of qC),O,O,false,(xf (w:="cut") (by decide+kernel)),jH ?_⟩;refine(ixO hd1 a0 ⟨O,_,O,jH ?_⟩);exact(ixO hd1 a2 (ixO hd1 a2 ⟨two,λp hp=>kk p _ (w1.trans (qE hp _)) qC⟩))
 |hel t=>
  refine⟨q,_,O,.inr (SqT.of qC),O,O,false,(xf (w:="heal") (by decide+kernel)),jH ?_⟩;refine(ixO hd1 a0 ⟨O,_,O,jH ?_⟩);exact(ixO hd1 a2 (ixO hd1 a2 ⟨two,λp hp=>kk p _ (w1.trans (qE hp _)) qC⟩))
 |opn t l=>
  refine⟨q,_,O,.inr (SqT.of qC),O,O,false,(xf (w:="open") (by decide+kernel)),jH ?_⟩;refine(ixO hd1 a0 ⟨O,_,O,jH ?_⟩);exact(ixO hd1 a2 (ixO hd1 a2 ⟨two,λp hp=>kk p _ (w1.trans (qE hp _)) qC⟩))
 |lin t m=>
  refine⟨q,_,O,.inr (SqT.of qC),O,O,false,(xf (w:="lay_in") (by decide+kernel)),jH ?_⟩;refine(ixO hd1 a0 ⟨O,_,O,jH ?_⟩);exact(ixO hd1 a2 (ixO hd1 a2 ⟨two,λp hp=>kk p _ (w1.trans (qE hp _)) qC⟩))
inductive qN7(vs:List V)(H:Hp)(Q:VK)(_:XK):Prop
|mk (dz:Addr) (n:Int) (d:Dk) (_:vs=[.ref dz]) (_:DAt H dz n d) (_:∀(y:Addr) (H':Hp),Same H H'->H y=none->Tr H' y d.laid->Q (.ref y) H')
theorem qF6(T:Tx K mg a):FnOk P w K mg base CX0 1 a.A56 a.B56 ["deed"] qN7:=by
 refine oL T.D56.F qN9 λ_ _ _ _ _ _ _ _ hr h _ Y=>?_;obtain⟨dz,n,d,rfl,hD,kk⟩:=h;apply Y;refine⟨_,(qD (qc (qL jF (qI (pv 0)) (xY (v:=.ref a.n_LAYS) rfl T.g_LAYS rfl) rfl) (qF (qM (q9 (qA (qI (pv 0)) qB)))) qO)
  (qD (qc (qL jW (qI (pv 0)) qN (qR _)) (qF (qM (q9 (qA (qh (qA qN (qA (qI (pv 0)) qB))) qB)))) qO)
  (qD (qc (qL jW (qI (pv 0)) qN (qR _)) (qF (qM (q9 (qA (qh (qA qN (qA (qQ jR (qI (pv 0)) (qI (pv 0))) qB))) qB)))) qO)
  (qF (qM (q9 qB)))))),?_⟩
 try dsimp only[jV,qk]
 refine qS λ_ Y=>?_;obtain⟨xs,hd,a0,a1,a2⟩:=hD.opn;apply Y;have one:(1:Nat)<=sizeLine:=by decide
 have two:(2:Nat)<=sizeLine:=by decide
 have zero:(0:Nat)<=sizeLine:=by decide
 refine(ixO hd a0 ⟨a.n_LAYS,_,O,.inr (T.sq_LAYS _),O,O,?_⟩);cases d with
 |lin t m=>
  refine qS λ_ Y=>?_;obtain⟨v,hv,hI⟩:=hD;apply Y;refine⟨true,(xf (w:="lay_in") (by decide+kernel)),j5 (ixO hv kf ⟨one,λp hp=>?_⟩)⟩;exact kk p _ (qE hp _) hp ⟨_,qC,hI.ts (qV (qE hp _)),trivial⟩
 |lov t m=>
  refine qS λ_ Y=>?_;obtain⟨v,hv,hI⟩:=hD;apply Y;refine⟨true,(xf (w:="lay_over") (by decide+kernel)),j5 (ixO hv kf ⟨one,λp hp=>?_⟩)⟩;exact kk p _ (qE hp _) hp ⟨_,qC,hI.ts (qV (qE hp _)),trivial⟩
 |opn t l=>
  refine⟨false,(xf (w:="open") (by decide+kernel)),jH ?_⟩;refine(ixO hd a0 ⟨O,_,O,j5 ?_⟩);refine(ixO hD kf ⟨two,λg hg=>⟨one,λp hp=>?_⟩⟩);exact kk p _ ((qE hg _).trans (qE hp _)) ((qE hg _).free hp) ⟨_,qC,isG ((qE hp _) _ _ qC),trivial⟩
 |lft t u=>
  refine⟨false,(xf (w:="lift") (by decide+kernel)),jH ?_⟩;refine(ixO hd a0 ⟨O,_,O,jH ?_⟩);refine(ixO hd a0 ⟨O,_,O,j5 ?_⟩);refine(ixO hD kf (ixO hD wO ⟨_,_,O,O,two,λg hg=>⟨one,λp hp=>?_⟩⟩));exact kk p _ ((qE hg _).trans (qE hp _)) ((qE hg _).free hp) ⟨_,qC,isG ((qE hp _) _ _ qC),trivial⟩
 |cut t=>
  refine⟨false,(xf (w:="cut") (by decide+kernel)),jH ?_⟩;refine(ixO hd a0 ⟨O,_,O,jH ?_⟩);refine(ixO hd a0 ⟨O,_,O,jH ?_⟩);exact⟨zero,λp hp=>kk p _ (qE hp _) hp ⟨[],qC,trivial⟩⟩
 |hel t=>
  refine⟨false,(xf (w:="heal") (by decide+kernel)),jH ?_⟩;refine(ixO hd a0 ⟨O,_,O,jH ?_⟩);refine(ixO hd a0 ⟨O,_,O,jH ?_⟩);exact⟨zero,λp hp=>kk p _ (qE hp _) hp ⟨[],qC,trivial⟩⟩
 |cls t u=>
  refine⟨false,(xf (w:="close") (by decide+kernel)),jH ?_⟩;refine(ixO hd a0 ⟨O,_,O,jH ?_⟩);refine(ixO hd a0 ⟨O,_,O,jH ?_⟩);exact⟨zero,λp hp=>kk p _ (qE hp _) hp ⟨[],qC,trivial⟩⟩
noncomputable def chF(tie:List Int)(n:Int)(push:Bool):List Int:=if push=true/\n∈tie then n::tie.filter (λx=>decide (x≠n))else [n]
theorem qR5{i:Int}{ps:List Int}:inV (.int i) (ps.map V.int)=decide (i∈ps):=by unfold inV;rw[Yv];simp[eqV]
theorem qNt(ps:List Int):(ps.map V.int).all kY=true:=by rw[List.all_map,List.all_eq_true];intro _ _;rfl
theorem Dk.push_in(d:Dk):inV (.str d.wd) [.str "lay_in",.str "open",.str "close"]=d.push:=by
 cases d with
 |cut t=>show inV (.str "cut") _=false;decide+kernel
 |hel t=>show inV (.str "heal") _=false;decide+kernel
 |opn t l=>show inV (.str "open") _=true;decide+kernel
 |cls t u=>show inV (.str "close") _=true;decide+kernel
 |lft t u=>show inV (.str "lift") _=false;decide+kernel
 |lin t m=>show inV (.str "lay_in") _=true;decide+kernel
 |lov t m=>show inV (.str "lay_over") _=false;decide+kernel
inductive qEx(vs:List V)(H:Hp)(Q:VK)(_:XK):Prop
|mk (dz:Addr) (n:Int) (d:Dk) (_:vs=[.ref dz]) (_:DAt H dz n d) (_:∀(y:Addr) (H':Hp),Same H H'->H y=none->Tr H' y (d.laid.map λm=>.gap m.mo)->Q (.ref y) H')
theorem Dk.laid_len(d:Dk):d.laid.length<=1:=by cases d <;> simp[Dk.laid]
theorem qEb(T:Tx K mg a):FnOk P w K mg base CX0 2 a.A57 a.B57 ["deed"] qEx:=by
 refine oL T.D57.F qFj λ_ _ _ _ H vs Q _ hr h _ Y=>?_;obtain⟨dz,n,d,rfl,hD,kk⟩:=h;apply Y;refine⟨_,(qF (qM (vq [] [] rfl (jc (qJ T.D56 (qF6 T) hr rfl (qA (pv 0) qB))) (λ_ _ _ _=>(qh (qA qN (qA (qJ T.D23 (jI T) hr rfl (qA (pv 0) qB)) qB))))))),?_⟩
 try dsimp only[jV,qk]
 refine⟨_,rfl,dz,n,d,rfl,hD,λl H1 e1 hl ⟨us,hlu,his⟩=>?_⟩;have hll:=d.laid_len;have hul:=his.len;refine⟨l,O,⟨_,SqL.of hlu⟩,kI (K:=K) (a:=l) (xs:=us) (λj acc H2=>IsIs H2 ((d.laid.take j).map λm=>.gap m.mo) acc/\Same H1 H2) ⟨trivial,Same.refl _⟩ ?_ ?_ ?_⟩
 . rintro j acc H2 hj ⟨ht,e2⟩
   exact⟨SqL.of (e2 _ _ hlu),qi (by rw[ht.len,YS,Yk];omega)⟩
 . rintro j x acc H2 hj hx ⟨ht,e2⟩
   refine qS λ_ Y=>?_;obtain⟨m,hm,hI⟩:=his.get hx;apply Y;refine⟨_,O,x,m,O,hI.ts (qV e2),sL2,λg hg=>Nxt.mk hj ⟨?_,e2.trans (qE hg _)⟩⟩;rw[Yt,hm,Ys];exact(ht.ts (qV (qE hg _))).app (.one (isG qC))
 rintro acc H2 ⟨ht,e2⟩ y hy;rw[hul,Yx]at ht;exact kk y _ ((e1.trans e2).trans (qE hy _)) ((e1.trans e2).free hy) ⟨_,qC,ht.ts (qV (qE hy _))⟩
inductive qCb(vs:List V)(H:Hp)(Q:VK)(_:XK):Prop
|mk (tz tl ti dz:Addr) (tie:List Int) (n:Int) (d:Dk) (_:vs=[.ref tz,.ref dz]) (_:H tz=some (.tup [.ref tl,.ref ti])) (_:H ti=some (.lst (tie.map V.int))) (_:tie.length<=300) (_:DAt H dz n d) (_:∀(y:Addr) (H':Hp),Same H H'->H y=none->H' y=some (.lst ((chF tie n d.push).map V.int))->Q (.ref y) H')
theorem xA(T:Tx K mg a):FnOk P w K mg base CX0 1 a.A58 a.B58 ["table","deed"] qCb:=by
 refine oL T.D58.F qCn λ_ _ _ _ H vs Q _ hr h _ Y=>?_;obtain⟨tz,tl,ti,dz,tie,n,d,rfl,htz,hti,htl,hD,kk⟩:=h;apply Y;refine⟨_,(qD (qc (PW.pt (xh (qL vh (qI (pv 1)) (xY (v:=.ref a.n_PUSHES) rfl T.g_PUSHES rfl) rfl) (ju (qL vh (qI (pv 1)) (qI (pv 0)) rfl)))) (qF (qM (q9 (qA (qI (pv 1)) qB)))) qO)
  (qF (qM (qQ vH (q9 (qA (qI (pv 1)) qB)) (qGt ["deed"] [1] rfl (jc (qI (pv 0))) (λ_ _ _ _=>(qL kD (pv 0) (jP (qHk (K:=K) rfl) (pv 1) qG (λ_ _=>rfl)) (qR _))) (λ_ _ _ _=>(pv 0))))))),?_⟩
 try dsimp only[jV,qk]
 refine qS λ_ Y=>?_;obtain⟨xs,hd,a0,a1,a2⟩:=hD.opn;apply Y;have one:(1:Nat)<=sizeLine:=by decide
 have fin1:¬(d.push=true/\n∈tie)->∀p,H p=none->Q (.ref p) (upd H p (.lst [.int n])):=λhc p hp=>by refine kk p _ (qE hp _) hp ?_;unfold chF;rw[YA hc,qC];rfl
 refine(ixO hd a0 ⟨a.n_PUSHES,_,O,.inr (T.sq_PUSHES _),O,O,!d.push,qQg d.push_in,?_⟩);cases hp:d.push with
 |false=>
  refine j5 (j5 (ixO hd a1 ⟨one,λp hp'=>fin1 (λz=>?_) p hp'⟩));rw[hp]at z;exact YC z.1 (by simp)
 |true=>
  refine jH (ixO hd a1 (ixO htz at1 ⟨ti,_,O,.inl (SqL.of hti),O,qNt tie,!decide (n∈tie),?_,?_⟩))
  . show V.bl (!inV (.int n) (tie.map V.int))=_
    rw[qR5]
  by_cases hm:n∈tie
  . rw[YX hm]
    refine jH (ixO hd a1 ⟨one,λl1 hl1=>?_⟩);have w1:=qE hl1 (.lst [.int n]);have k1:upd H l1 (.lst [.int n]) l1=some (.lst [.int n]):=qC;have hl10:=hl1;change _;generalize upd H l1 (.lst [.int n])=H1 at w1 k1;refine(ixO (w1 _ _ htz) at1 ⟨ti,O,⟨_,SqL.of (w1 _ _ hti)⟩,qGe (K:=K) (a:=ti) (xs:=tie.map V.int) (λj acc H2=>acc=((tie.take j).filter (λx=>decide (x≠n))).map V.int/\H2=H1) ⟨O,O⟩ ?_ ?_ ?_⟩)
    . rintro j acc H2 hj ⟨rfl,rfl⟩
      refine⟨SqL.of (w1 _ _ hti),qi ?_⟩;rw[YS];have:=List.length_filter_le (λx=>decide (x≠n)) (tie.take j);have:=List.length_take_le j tie;rw[Yk]at*;omega
    . rintro j x acc H2 hj hx ⟨rfl,rfl⟩
      refine qS λ_ Y=>?_;obtain⟨xi,hxi,rfl⟩:∃xi:Int,tie[j]?=some xi/\x=.int xi:=by
       rw[Yj]at hx;cases hq:tie[j]? with
       |none=>rw[hq]at hx;cases hx
       |some k=>rw[hq]at hx;cases hx;exact⟨k,rfl,rfl⟩
      apply Y;have etk:tie.take (j+1)=tie.take j++[xi]:=by rw[Yt,hxi];rfl
      refine⟨_,O,ixO (w1 _ _ hd) a1 ⟨O,_,O,je (λc=>?_) (λc=>?_)⟩⟩
      . have hne:xi≠n:=by simpa using c
        refine⟨_,O,Nxt.mk hj ⟨?_,O⟩⟩;rw[etk,List.filter_append,Ys];simp[hne]
      . have hne:xi=n:=by simpa using c
        refine Nxt.mk hj ⟨?_,O⟩;rw[etk,List.filter_append,Ys];simp[hne]
    rintro acc H2 ⟨rfl,rfl⟩ l2 hl2;rw[YS,Yx];have w2:=qE hl2 (.lst ((tie.filter (λx=>decide (x≠n))).map V.int));refine⟨l1,l2,_,_,O,O,w2 _ _ k1,qC,?_,λy hy=>?_⟩
    . have:=qi (n:=1+((tie.filter (λx=>decide (x≠n))).map V.int).length) (by rw[YS];have:=List.length_filter_le (λx=>decide (x≠n)) tie;omega)
      show 1+((tie.filter (λx=>decide (x≠n))).map V.int).length<=sizeLine;omega
    refine kk y _ ((w1.trans w2).trans (qE hy _)) ((w1.trans w2).free hy) ?_;unfold chF;rw[YB ⟨hp,hm⟩,qC];rfl
  . rw[YW hm]
    exact j5 (ixO hd a1 ⟨one,λp hp'=>fin1 (λz=>hm z.2) p hp'⟩)
inductive qGw(vs:List V)(H:Hp)(Q:VK)(_:XK):Prop
|mk (l:Int) (_:vs=[.int l]) (_:Q (.int (l.fdiv 2)) H)
theorem qAv(T:Tx K mg a):FnOk P w K mg base CX0 1 a.A36 a.B36 ["length"] qGw:=by
 refine oL T.D36.F qHl λ_ _ _ _ H vs Q _ hr h _ Y=>?_;obtain⟨l,rfl,kk⟩:=h;apply Y;refine⟨_,(qF (qM (qQ qj (pv 0) qG))),?_⟩
 try dsimp only[jV,qk]
 exact⟨_,O,_,_,O,O,cdB (by decide) (by decide),kk⟩
inductive qFp(vs:List V)(H:Hp)(Q:VK)(_:XK):Prop
|mk (l:Int) (_:vs=[.int l]) (_:Q (.int (l-l.fdiv 2)) H)
theorem wk(T:Tx K mg a):FnOk P w K mg base CX0 1 a.A37 a.B37 ["length"] qFp:=by
 refine oL T.D37.F qF3 λ_ _ _ _ _ _ _ _ hr h _ Y=>?_;obtain⟨l,rfl,kk⟩:=h;apply Y;refine⟨_,(qF (qM (qQ jR (pv 0) (qQ qj (pv 0) qG)))),?_⟩
 try dsimp only[jV,qk]
 exact⟨_,O,_,O,_,_,O,O,cdB (by decide) (by decide),_,_,O,O,kk⟩
noncomputable def ql:Int->List Im->List (Int×Int×Int)
 |_,[]=>[]
 |b,.mix l::ms=>(b-l.fdiv 2,b,b+(l-l.fdiv 2))::ql b ms
 |b,.clip _ _ _ _ _ l::ms=>ql (b+l) ms
 |b,.nest _ _ l::ms=>ql (b+l) ms
 |b,.gap l::ms=>ql (b+l) ms
theorem qr(h:m.wd≠"mix")(b:Int)(ms:List Im):ql b (m::ms)=ql (b+m.mo) ms:=by
 cases m with
 |mix l=>exact YC rfl h
 |_=>rfl
noncomputable def qYx:List Nat->List (Int×Int×Int)->Int->Option (Nat×Int)
 |p::ps,(x,_,z)::ss,t=>if x<=t/\t<z then some (p,t-x)else qYx ps ss t
 |_,_,_=>none
def SpAt(H:Hp):List (Int×Int×Int)->List V->Prop
 |[],[]=>True
 |(x,y,z)::ss,v::vs=>(∃p:Addr,v=.ref p/\H p=some (.tup [.int x,.int y,.int z]))/\SpAt H ss vs
 |_,_=>False
theorem SpAt.len{H:Hp}:∀{ss:List (Int×Int×Int)} {vs:List V},SpAt H ss vs->vs.length=ss.length
 |[],[],_=>rfl
 |(_,_,_)::_,_::_,h=>by rw[YE,YE,SpAt.len h.2]
 |[],_::_,h=>h.elim
 |(_,_,_)::_,[],h=>h.elim
theorem SpAt.ts{H H':Hp}(e:TS H H'):∀{ss:List (Int×Int×Int)} {vs:List V},SpAt H ss vs->SpAt H' ss vs
 |[],[],_=>trivial
 |(_,_,_)::_,_::_,⟨⟨p,h1,h2⟩,h⟩=>⟨⟨p,h1,e _ _ h2⟩,SpAt.ts e h⟩
 |[],_::_,h=>h.elim
 |(_,_,_)::_,[],h=>h.elim
theorem SpAt.app{H:Hp}:∀{ss:List (Int×Int×Int)} {vs:List V} {ss':List (Int×Int×Int)} {vs':List V},SpAt H ss vs->SpAt H ss' vs'->SpAt H (ss++ss') (vs++vs')
 |[],[],_,_,_,h'=>h'
 |(_,_,_)::_,_::_,_,_,h,h'=>⟨h.1,h.2.app h'⟩
 |[],_::_,_,_,h,_=>h.elim
 |(_,_,_)::_,[],_,_,h,_=>h.elim
theorem SpAt.one{x y z:Int}{p:Addr}(h:H p=some (.tup [.int x,.int y,.int z])):SpAt H [(x,y,z)] [.ref p]:=⟨⟨p,rfl,h⟩,trivial⟩
theorem SpAt.get{H:Hp}:∀{ss:List (Int×Int×Int)} {vs:List V} {i:Nat} {v:V},SpAt H ss vs->vs[i]?=some v->∃(x y z:Int) (p:Addr),ss[i]?=some (x,y,z)/\v=.ref p/\H p=some (.tup [.int x,.int y,.int z])
 |[],[],_,_,_,h=>by simp at h
 |(x,y,z)::_,u::_,0,v,h,e=>by
  have e':u=v:=by simpa using e
  subst e';obtain⟨⟨p,h1,h2⟩,_⟩:=h;exact⟨x,y,z,p,O,h1,h2⟩
 |(_,_,_)::ss,_::vs,i+1,v,h,e=>by obtain⟨x,y,z,p,h1,h2⟩:=SpAt.get (i:=i) h.2 (by simpa using e);exact⟨x,y,z,p,by simpa using h1,h2⟩
 |[],_::_,_,_,h,_=>h.elim
 |(_,_,_)::_,[],_,_,h,_=>h.elim
inductive qKg(vs:List V)(H:Hp)(Q:VK)(_:XK):Prop
|mk (z:Addr) (ms:List Im) (_:vs=[.ref z]) (_:Tr H z ms) (_:ms.length<=300) (_:∀(y:Addr) (us:List V) (H':Hp),Same H H'->H y=none->H' y=some (.lst us)->SpAt H' (ql 0 ms) us->Q (.ref y) H')
theorem qI5(T:Tx K mg a):FnOk P w K mg base CX0 2 a.A38 a.B38 ["track"] qKg:=by
 refine oL T.D38.F xw λ_ _ _ _ H vs Q _ hr h _ Y=>?_;obtain⟨z,ms,rfl,⟨xs,hz,his⟩,hl,kk⟩:=h;apply Y;refine⟨_,(qD (qZ 1 xw.nd (q9 qB))
  (qD (qZ 2 xw.nd qG)
  (qD (xj PassesOwn.never rfl (jc (pv 0)) (jX (i:=3) xw.nd rfl (Or.inl rfl)) (qD (qc (qL jW (qI (pv 3)) qN (qR _)) (qF (jD (wT F.plainAttrs_list F.slot_list_append F.type_list_append jZ (pv 1) (qA (qh (qA (qQ jR (pv 2) (qJ T.D36 (qAv T) hr rfl (qA (qI (pv 3)) qB))) (qA (pv 2) (qA (qQ qm (pv 2) (qJ T.D37 (wk T) hr rfl (qA (qI (pv 3)) qB))) qB)))) qB)))) qO)
  (qF (qZ 2 xw.nd (qQ qm (pv 2) (qJ T.D23 (jI T) hr rfl (qA (pv 3) qB)))))))
  (qF (qM (pv 1)))))),?_⟩
 try dsimp only[jV,qk]
 refine⟨sL0,λy hy=>?_⟩;refine⟨_,O,z,O,⟨_,SqL.of ((qE hy _) _ _ hz)⟩,j8 (K:=K) (a:=z) (xs:=xs) (λi σ H'=> ∃(b:Int) (as:List (Int×Int×Int)) (o:Option V) (us:List V),σ=[some (.ref z),some (.ref y),some (.int b),o]/\H' y=some (.lst us)/\SpAt H' as us/\as.length<=i/\as++ql b (ms.drop i)=ql 0 ms/\Same H H')
  ⟨0,[],none,[],rfl,qC,trivial,by simp,rfl,qE hy _⟩ ?_ ?_ ?_⟩
 . rintro i σ H' hi ⟨b,as,o,us,rfl,_,_,_,_,e⟩
   exact SqL.of (e _ _ hz)
 . rintro i x σ H' hx ⟨b,as,o,us,rfl,hv,hsp,hal,hap,e⟩
   refine qS λ_ Y=>?_;obtain⟨m,hm,hIx⟩:=his.get hx;have hI:=hIx.ts (qV e);have hi:i<ms.length:=(glt hm);rw[xT hm]at hap;obtain⟨zi,xi,rfl,hzi,h0,h1⟩:=hI.opn;apply Y;refine⟨_,O,zi,xi,_,_,O,O,SqT.of hzi,h0,O,_,O,je (λc=>?_) (λc=>?_)⟩
   . obtain⟨l,rfl⟩:=jw (by simpa using c)
     refine qS λ_ Y=>?_;obtain⟨z2,e2,hz2⟩:=id hI;cases e2;apply Y;rw[ql]at hap;refine⟨_,O,.inl ⟨O,_,SqL.of hv⟩,_,O,ixO hz2 at1 ⟨_,O,_,_,O,O,_,O,_,O,ixO hz2 at1 ⟨_,O,_,_,O,O,sL3,λg hg=>?_⟩⟩⟩;have w1:=qE hg (.tup [.int (b-l.fdiv 2),.int b,.int (b+(l-l.fdiv 2))]);refine⟨y,_,_,O,O,w1 _ _ hv,qi (by rw[hsp.len];omega),?_⟩;have t2:TS (upd H' g (.tup [.int (b-l.fdiv 2),.int b,.int (b+(l-l.fdiv 2))])) (upd (upd H' g (.tup [.int (b-l.fdiv 2),.int b,.int (b+(l-l.fdiv 2))])) y (.lst (us++[.ref g]))):=jx (w1 _ _ hv);refine⟨_,O,_,O,_,.mix l,O,(hI.ts (qV w1)).ts t2,_,_,O,O,b,as++[(b-l.fdiv 2,b,b+(l-l.fdiv 2))],some (.ref zi),us++[.ref g],?_,qC,((hsp.ts (qV w1)).app (.one qC)).ts t2,by simp;omega,?_,jQ (e.trans w1) hy⟩
     . show [some (V.ref z),some (V.ref y),some (V.int (b+0)),some (V.ref zi)]=_
       rw[Yc]
     . rw[<-hap];simp
   . have hne:m.wd≠"mix":=by simpa using c
     rw[qr hne]at hap;exact⟨_,O,_,O,_,m,O,hI,_,_,O,O,_,as,_,us,O,hv,hsp,by omega,hap,e⟩
 . rintro σ H' ⟨b,as,o,us,rfl,hv,hsp,hal,hap,e⟩
   rw[his.len,ZJ,ql,Ye]at hap;rw[hap]at hsp;exact⟨_,O,kk y us H' e hy hv hsp⟩
inductive qIg(vs:List V)(H:Hp)(Q:VK)(_:XK):Prop
|mk (i:Int) (_:vs=[.int i]) (_:1<=i) (_:Q (.bl true) H)
theorem qCy(T:Tx K mg a):FnOk P w K mg base CX0 2 a.A21 a.B21 ["thing"] qIg:=by
 refine oL T.D21.F qJj λ_ _ _ _ H vs Q _ hr h _ Y=>?_;obtain⟨i,rfl,hi,q⟩:=h;apply Y;refine⟨_,(qF (qM (zq (qJ T.D0 (jG T) hr rfl (qA (pv 0) qB)) (vK (jn qG5 (pv 0) qG (qR _)))))),?_⟩
 try dsimp only[jV,qk]
 rw[<-YX hi]at q;exact⟨_,O,i,O,true,O,j5 ⟨_,O,_,_,O,O,q⟩⟩
noncomputable def qYt:Im->Bool
 |.nest .. =>true
 |_=>false
def NeO:Im->Prop
 |.nest n b l=>qKf n=true/\0<=b/\1<=l
 |_=>True
inductive qDh(K:W.Frag)(vs:List V)(H:Hp)(Q:VK)(_:XK):Prop
|mk (v:V) (m:Im) (_:vs=[v]) (_:IsI H m v) (_:NeO m) (_:∀H',Same H H'->Q (.bl (qYt m)) H')
theorem qDa(T:Tx K mg a):FnOk P w K mg base CX0 3 a.A22 a.B22 ["item"] (qDh K):=by
 refine oL T.D22.F qC6 λ_ _ _ s H _ _ _ hr h _ Y=>?_;obtain⟨v,m,rfl,hI,hm,kk⟩:=h;apply Y;refine⟨_,(qD (qc (PW.pt (xh (jr (jO (qd jh rfl T.b_isinstance rfl (qA (pv 0) (qA (qGm rfl T.b_tuple rfl) qB))))) (ju (qL kD (qd jM rfl T.b_len rfl (qA (pv 0) qB)) qG (qR _))))) (qF (qM kL)) qO)
  (qD (qc (PW.pt (xh (qL kD (qI (pv 0)) qN (qR _)) (ju (jr (jO (qJ T.D10 (qGd T) hr rfl (qA (qI (pv 0)) qB))))))) (qF (qM kL)) qO)
  (qF (qM (zq (qJ T.D0 (jG T) hr rfl (qA (qI (pv 0)) qB)) (zq (jn qG5 (qI (pv 0)) qG (qR _)) (vK (qJ T.D21 (qCy T) hr rfl (qA (qI (pv 0)) qB))))))))),?_⟩
 try dsimp only[jV,qk]
 refine qS λ_ Y=>?_;obtain⟨z,xs,rfl,e,_⟩:=id hI.opn;apply Y;refine⟨_,O,_,_,_,true,O,.tup e,⟨_,.inl ⟨O,by kernel_rfl⟩⟩,true,O,jH ?_⟩;refine⟨_,O,_,_,O,.inr (SqT.of e),O,_,O,?_⟩;have k0:=kk H (Same.refl _);cases m with
 |nest n b l=>
  refine qS λ_ Y=>?_;obtain⟨h1,hb,hl⟩:=hm;obtain⟨z',e',hz⟩:=hI;cases e';rw[hz]at e;cases e;apply Y;refine jH (ixO hz qBp ⟨O,_,O,qXf rfl ?_⟩);refine(ixO hz qC0 ⟨n,O,h1,λH1 s1=>⟨true,O,jH ?_⟩⟩);have e1:=SqT.of (K:=K) (s1 _ _ hz);refine⟨_,O,_,_,_,_,O,O,e1,wO,b,O,true,O,j5 ⟨_,O,_,_,_,_,O,O,e1,wO,_,_,O,O,_,O,qAk (YX hb) ?_⟩⟩;exact⟨_,O,_,_,_,_,O,O,e1,kf,l,O,hl,kk H1 s1⟩
 |clip n p q r s l=>
  refine qS λ_ Y=>?_;obtain⟨z',x,y,e',hz,_⟩:=hI;cases e';rw[hz]at e;cases e;apply Y;exact j5 k0
 |gap l=>
  refine qS λ_ Y=>?_;obtain⟨z',e',hz⟩:=hI;cases e';rw[hz]at e;cases e;apply Y;exact j5 k0
 |mix l=>
  refine qS λ_ Y=>?_;obtain⟨z',e',hz⟩:=hI;cases e';rw[hz]at e;cases e;apply Y;exact j5 k0
def qXx(xs:List V)(w:Str)(t:Int):Prop:=atI xs 0=some (.str w)/\atI xs 2=some (.int t)/\(w="open"\/w="mix"->∃l:Int,atI xs 3=some (.int l)/\1<=l)/\(w="close"\/w="lift"->∃u:Int,atI xs 3=some (.int u)/\t<u)
theorem qZi{w x y:Str}:inV (.str w) [.str x,.str y]=decide (w=x\/w=y):=by unfold inV;rw[Yv];simp[eqV];exact⟨λh=>h.imp Eq.symm Eq.symm,λh=>h.imp Eq.symm Eq.symm⟩
inductive qC8(vs:List V)(H:Hp)(Q:VK)(_:XK):Prop
|mk (dz:Addr) (xs:List V) (w:Str) (t:Int) (_:vs=[.ref dz]) (_:H dz=some (.tup xs)) (_:qXx xs w t) (_:∀H',Same H H'->Q .non H')
theorem qC3(T:Tx K mg a):FnOk P w K mg base CX0 3 a.A59 a.B59 ["deed"] qC8:=by
 refine oL T.D59.F qC2 λ_ _ _ s H vs Q _ hr h _ Y=>?_;obtain⟨dz,xs,w,t,rfl,hd,⟨a0,a2,h1,h2⟩,kg⟩:=h;apply Y;refine⟨_,(qD (xV (qc (PW.pt (zn (qL jF (qI (pv 0)) (qh (qA qN (qA qN qB))) rfl) (xX (jr (jO (qJ T.D21 (qCy T) hr rfl (qA (qI (pv 0)) qB))))))) xE qO))
  (qF (qc (PW.pt (zn (qL jF (qI (pv 0)) (qh (qA qN (qA qN qB))) rfl) (xX (PW.pt (xh (jr (jO (qJ T.D0 (jG T) hr rfl (qA (qI (pv 0)) qB)))) (ju (qL qG5 (qI (pv 0)) (qI (pv 0)) (qR _)))))))) xE qO))),?_⟩
 try dsimp only[jV,qk]
 have two:(2:Nat)<=sizeLine:=by decide
 refine⟨λσ H1=>σ=[some (.ref dz)]/\Same H H1,?_,?_⟩
 . refine(ixO hd a0 ⟨two,λq hq=>⟨q,_,O,.inr (SqT.of qC),O,O,_,xf qZi,je (λc=>?_) (λ_=>jH ⟨O,qE hq _⟩)⟩⟩)
   refine qS λ_ Y=>?_;obtain⟨l,a3,hl⟩:=h1 (ZM c);apply Y;have e1:=qE hq (.tup [.str "open",.str "mix"]);exact(ixO (e1 _ _ hd) a3 ⟨l,O,hl,true,O,jH ⟨O,e1⟩⟩)
 rintro σ H1 ⟨rfl,e1⟩;refine(ixO (e1 _ _ hd) a0 ⟨two,λq hq=>⟨q,_,O,.inr (SqT.of qC),O,O,_,xf qZi,je (λc=>?_) (λ_=>jH (kg _ (e1.trans (qE hq _))))⟩⟩);refine qS λ_ Y=>?_;obtain⟨u,a3,hu⟩:=h2 (ZM c);apply Y;have e2:=e1.trans (qE hq (.tup [.str "close",.str "lift"]));have hd2:=e2 _ _ hd;exact(ixO hd2 a3 ⟨u,O,true,O,jH (ixO hd2 a2 (ixO hd2 a3 ⟨_,_,O,O,_,O,qAl (YW (by omega)) (kg _ e2)⟩))⟩)
noncomputable def qO8(lo hi:Int)(s:Int×Int×Int):Bool:=(decide (s.1<hi) && decide (lo<s.2.2)) || (decide (lo<=s.2.1) && decide (s.2.1<=hi))
noncomputable def jL(ms:List Im)(lo hi:Int):Bool:=(ql 0 ms).any (qO8 lo hi)
inductive qF0(vs:List V)(H:Hp)(Q:VK)(_:XK):Prop
|mk (z:Addr) (ms:List Im) (lo hi:Int) (_:vs=[.ref z,.int lo,.int hi]) (_:Tr H z ms) (_:ms.length<=300) (_:∀H',Same H H'->Q (.bl (jL ms lo hi)) H')
theorem qFn(T:Tx K mg a):FnOk P w K mg base CX0 3 a.A60 a.B60 ["track","low","high"] qF0:=by
 refine oL T.D60.F wl λ_ _ _ _ H _ _ _ hr h _ Y=>?_;obtain⟨z,ms,lo,hi,rfl,tT,hml,kk⟩:=h;apply Y;refine⟨_,(qD (xj PassesOwn.never rfl (jc (qJ T.D38 (qI5 T) hr rfl (qA (pv 0) qB))) (jX (i:=3) wl.nd rfl (Or.inl rfl)) (qF (qc (qNe (PW.pt (xh (PW.pt (zn (qL wN (qI (pv 3)) (pv 2) (qR _)) (xX (qL wN (pv 1) (qI (pv 3)) (qR _))))) (ju (PW.pt (zn (qL qSi (pv 1) (qI (pv 3)) (qR _)) (xX (qL qSi (qI (pv 3)) (pv 2) (qR _))))))))) (qF (qM kL)) qO)))
  (qF (qM kL))),?_⟩
 try dsimp only[jV,qk]
 unfold jL at kk;refine⟨_,O,z,ms,O,tT,hml,λy us H1 e1 hy hy1 hsp=>?_⟩;generalize ql 0 ms=ss at hsp kk;refine⟨y,O,⟨_,SqL.of hy1⟩,j8 (K:=K) (a:=y) (xs:=us) (λi σ H'=> ∃o:Option V,σ=[some (.ref z),some (.int lo),some (.int hi),o]/\H'=H1/\(ss.take i).any (qO8 lo hi)=false) ⟨none,O,O,O⟩ ?_ ?_ ?_⟩
 . rintro i σ H' hi ⟨o,rfl,rfl,_⟩
   exact SqL.of hy1
 . rintro i x σ H' hx ⟨o,rfl,rfl,hno⟩
   refine qS λ_ Y=>?_;obtain⟨x0,x1,x2,p,hs,rfl,hp⟩:=hsp.get hx;apply Y;have q:=SqT.of (K:=K) hp;have b0:atI [V.int x0,.int x1,.int x2] 0=some (.int x0):=rfl;have b1:atI [V.int x0,.int x1,.int x2] 1=some (.int x1):=rfl;have b2:atI [V.int x0,.int x1,.int x2] 2=some (.int x2):=rfl;refine⟨λt' H2=>H2=H'/\t'=qO8 lo hi (x0,x1,x2),?_,?_⟩
   . unfold qO8
     dsimp only;refine⟨_,O,p,_,_,_,O,O,q,b0,_,O,_,_,O,O,_,O,?_⟩;by_cases h1:x0<hi
     . rw[YX h1,Bool.true_and]
       refine j5 ⟨_,O,_,O,p,_,_,_,O,O,q,b2,_,_,O,O,_,O,?_⟩;by_cases h2:lo<x2
       . rw[YX h2,Bool.true_or]
         exact j5 ⟨O,O⟩
       rw[YW h2,Bool.false_or];refine jH ⟨_,O,_,O,p,_,_,_,O,O,q,b1,_,_,O,O,_,O,?_⟩;by_cases h3:lo<=x1
       . rw[YX h3,Bool.true_and]
         exact j5 ⟨_,O,p,_,_,_,O,O,q,b1,_,O,_,_,O,O,_,O,O,O⟩
       . rw[YW h3,Bool.false_and]
         exact jH ⟨O,O⟩
     . rw[YW h1,Bool.false_and,Bool.false_or]
       refine jH (jH ⟨_,O,_,O,p,_,_,_,O,O,q,b1,_,_,O,O,_,O,?_⟩);by_cases h3:lo<=x1
       . rw[YX h3,Bool.true_and]
         exact j5 ⟨_,O,p,_,_,_,O,O,q,b1,_,O,_,_,O,O,_,O,O,O⟩
       . rw[YW h3,Bool.false_and]
         exact jH ⟨O,O⟩
   rintro t' H2 ⟨rfl,rfl⟩;cases ht:qO8 lo hi (x0,x1,x2)with
   |true=>
    have:ss.any (qO8 lo hi)=true:=List.any_eq_true.mpr ⟨_,YF hs,ht⟩;rw[this]at kk;exact j5 (kk _ e1)
   |false=>
    refine jH ⟨_,O,O,?_⟩;rw[Yt,hs,List.any_append,hno];show (false || (qO8 lo hi (x0,x1,x2) || false))=false;rw[ht];rfl
 . rintro σ H' ⟨o,rfl,rfl,hno⟩
   rw[hsp.len,Yx]at hno;rw[hno]at kk;exact kk _ e1
structure TabG(H:Hp)(tz:Addr)(ts:List (List Im))(tie:List Int)(n:Nat):Prop where
 tab:TabF H (.ref tz) ts tie
 ok:∀ms∈ts,MsB ms/\ms.length<=100
 nt:n<ts.length
 len:ts.length<=8
 tl:tie.length<=8
 tin:∀x∈tie,∃k:Nat,x=(k:Int)/\k<ts.length
theorem TabG.same{H H':Hp}{tz:Addr}{ts:List (List Im)}{tie:List Int}{n:Nat}(e:Same H H')(h:TabG H tz ts tie n):TabG H' tz ts tie n:=⟨h.tab.same e,h.ok,h.nt,h.len,h.tl,h.tin⟩
theorem TabG.ch{ts:List (List Im)}(h:TabG H tz ts tie n)(push:Bool):(chF tie (n:Int) push).length<=10/\∀x∈chF tie (n:Int) push,∃k:Nat,x=(k:Int)/\k<ts.length:=by
 unfold chF;split
 . refine⟨?_,λx hx=>?_⟩
   . rw[YE]
     have:=List.length_filter_le (λx=>decide (x≠(n:Int))) tie;have:=h.tl;omega
   . rcases YU.mp hx with rfl|hx
     . exact⟨n,O,h.nt⟩
     . exact h.tin x (List.mem_filter.mp hx).1
 . refine⟨by show 1<=10;decide,λx hx=>?_⟩
   have:x=(n:Int):=by simpa using hx
   exact⟨n,this,h.nt⟩
noncomputable def jJ(ts:List (List Im))(ns:List Int)(lo hi:Int):Bool:=ns.any λk=>jL (ts.getD k.toNat []) lo hi
inductive qD1(M:Addr)(vs:List V)(H:Hp)(Q:VK)(E:XK):Prop
|mk (tz dz:Addr) (ts:List (List Im)) (tie:List Int) (n:Nat) (d:Dk) (_:vs=[.ref tz,.ref dz]) (_:TabG H tz ts tie n) (_:DAt H dz (n:Int) d) (_:(jJ ts (chF tie (n:Int) d.push) d.t d.hi=true->∀H',Same H H'->E (.ref M) none H')) (_:(jJ ts (chF tie (n:Int) d.push) d.t d.hi=false->∀H',Same H H'->Q .non H'))
theorem vx(T:Tx K mg a):FnOk P w K mg base (CXR P w) 4 a.A61 a.B61 ["table","deed"] (qD1 a.k_Mixed):=by
 refine oX T.D61.F z9 λ_ _ _ _ H vs Q _ hr h _ Y=>?_;obtain⟨tz,dz,ts,tie,n,d,rfl,hP,hD,kb,kg⟩:=h;apply Y;refine⟨_,(qD (qZ 2 z9.nd (qJ T.D55 (kU T) hr rfl (qA (pv 1) qB)))
  (qF (xj (qXt rfl rfl rfl rfl) rfl (jc (qJ T.D58 (xA T) hr rfl (qA (pv 0) (qA (pv 1) qB)))) (jX (i:=3) z9.nd rfl (Or.inl rfl)) (qF (qc (jO (qJ T.D60 (qFn T) hr rfl (qA (jP qo (qI (pv 0)) (pv 3) (λ_ _=>rfl)) (qA (qI (pv 2)) (qA (qI (pv 2)) qB))))) (qF (zN rfl rfl T.c_Mixed T.x_Mixed (qA qN qB))) qO))))),?_⟩
 try dsimp only[jV,qk]
 have one:(1:Nat)<=sizeLine:=by decide
 refine qS λ_ Y=>?_;obtain⟨tt,tl,ti,zs,e0,g2,g3,g4,g5⟩:=id hP.tab;cases e0;have hzl:=g4.len;obtain⟨hcl,hch⟩:=hP.ch d.push;apply Y;unfold jJ at kb kg;refine⟨_,O,dz,_,d,O,hD,λp H1 e1 hp=>?_⟩;refine⟨_,rfl,_,rfl,tz,tl,ti,dz,tie,_,d,rfl,e1 _ _ g2,e1 _ _ g5,by have:=hP.tl;omega,hD.same e1,λy H2 e2 hy hy2=>?_⟩;generalize chF tie (n:Int) d.push=ns at hy2 hcl hch kb kg;refine⟨y,O,⟨_,SqL.of hy2⟩,j8 (K:=K) (a:=y) (xs:=ns.map V.int) (λi σ H'=> ∃o:Option V,σ=[some (.ref tz),some (.ref dz),some (.ref p),o]/\Same H2 H'/\(ns.take i).any (λk=>jL (ts.getD k.toNat []) d.t d.hi)=false) ⟨none,O,Same.refl _,O⟩ ?_ ?_ ?_⟩
 . rintro i σ H' hi ⟨o,rfl,e,_⟩
   exact SqL.of (e _ _ hy2)
 . rintro i x σ H' hx ⟨o,rfl,e,hno⟩
   refine qS λ_ Y=>?_;obtain⟨xi,hxi,rfl⟩:∃xi:Int,ns[i]?=some xi/\x=.int xi:=by
    rw[Yj]at hx;cases hq:ns[i]? with
    |none=>rw[hq]at hx;cases hx
    |some k=>rw[hq]at hx;cases hx;exact⟨k,rfl,rfl⟩
   obtain⟨k,rfl,hk⟩:=hch xi (YF hxi);have e02:=e1.trans (e2.trans e);have ez:zs[k]?=some zs[k]:=YD (by omega);obtain⟨ms,z,hms,ezz,tT⟩:=g4.get ez;apply Y;rw[ezz]at ez;have egd:ts.getD ((k:Int)).toNat []=ms:=by rw[YQ,List.getD_eq_getElem?_getD,hms];rfl
   have hml:=(hP.ok ms (YF hms)).2;refine(ixO (e02 _ _ g2) at0 ⟨_,O,tl,_,_,_,O,O,SqL.of (e02 _ _ g3),q8 ez,z6 rfl (SqT.of ((e2.trans e) _ _ hp)) at0 (z6 rfl (SqT.of ((e2.trans e) _ _ hp)) at1 ⟨z,ms,_,_,O,tT.same e02,by omega,λH3 e3=>?_⟩)⟩);refine⟨_,O,?_⟩;cases ht:jL ms d.t d.hi with
   |true=>
    refine j5 ⟨one,kb ?_ _ (e02.trans e3)⟩;exact List.any_eq_true.mpr ⟨_,YF hxi,by rw[egd];exact ht⟩
   |false=>
    refine jH ⟨_,O,e.trans e3,?_⟩;rw[Yt,hxi,List.any_append,hno];show (false || (jL (ts.getD ((k:Int)).toNat []) d.t d.hi || false))=false;rw[egd,ht];rfl
 . rintro σ H' ⟨o,rfl,e,hno⟩
   rw[YS,Yx]at hno;exact kg hno H' (e1.trans (e2.trans e))
noncomputable def qY(ms:List Im):Int:=(ms.map Im.mo).sum
noncomputable def xC(ms:List Im)(lo hi:Int)(ls:List Im):List Im:=qx 0 (ji 0 lo 0 ms++[.gap (xr (lo-qY ms) 0)]++ls++ji hi (qY ms) 0 ms)
inductive qQ2(vs:List V)(H:Hp)(Q:VK)(_:XK):Prop
|mk (z l:Addr) (ms ls:List Im) (lo hi:Int) (_:vs=[.ref z,.int lo,.int hi,.ref l]) (_:Tr H z ms) (_:Tr H l ls) (_:MsB ms) (_:ms.length<=100) (_:ls.length<=10) (_:0<=hi) (_:hi<=2 ^ 500) (_:∀(y:Addr) (H':Hp),Same H H'->H y=none->Tr H' y (xC ms lo hi ls)->Q (.ref y) H')
theorem qP0(T:Tx K mg a):FnOk P w K mg base CX0 8 a.A68 a.B68 ["track","low","high","laid"] qQ2:=by
 refine oL T.D68.F qI4 λ_ _ _ s H _ _ _ hr h _ Y=>?_;obtain⟨z,l,ms,ls,lo,hi,rfl,tT,tL,hB,hl1,hl2,h0,h1,kk⟩:=h;apply Y;refine⟨_,(qD (qZ 4 qI4.nd (qh (qA qN (qA (qd (qBm rfl) rfl T.b_max rfl (qA (qQ jR (pv 1) (qJ T.D25 (qCw T) hr rfl (qA (pv 0) qB))) (qA qG qB))) qB))))
  (qF (qM (qJ T.D24 (qLv T) hr rfl (qA (qQ vH (qQ vH (qQ vH (qJ T.D35 (zF T) hr rfl (qA (pv 0) (qA qG (qA (pv 1) qB)))) (q9 (qA (pv 4) qB))) (pv 3)) (qJ T.D35 (zF T) hr rfl (qA (pv 0) (qA (pv 2) (qA (qJ T.D25 (qCw T) hr rfl (qA (pv 0) qB)) qB))))) qB))))),?_⟩
 try dsimp only[jV,qk]
 have two:(2:Nat)<=sizeLine:=by decide
 have one:(1:Nat)<=sizeLine:=by decide
 have sm:∀j:Nat,j<=1000->j<=sizeLine:=λj h=>by have:=qi (n:=j) (by omega);omega
 refine⟨_,O,_,O,z,ms,O,tT,by omega,λH1 e1=>?_⟩;refine⟨_,_,O,O,_,_,O,two,λg hg=>?_⟩;have w2:=qE hg (.tup [.str "gap",.int (if (0:Int)>lo-(ms.map Im.mo).sum then 0 else lo-(ms.map Im.mo).sum)]);have kg:upd H1 g (.tup [.str "gap",.int (if (0:Int)>lo-(ms.map Im.mo).sum then 0 else lo-(ms.map Im.mo).sum)]) g=some (.tup [.str "gap",.int (xr (lo-qY ms) 0)]):=qC;have e2:=e1.trans w2;change _;generalize upd H1 g (.tup [.str "gap",.int (if (0:Int)>lo-(ms.map Im.mo).sum then 0 else lo-(ms.map Im.mo).sum)])=H2 at w2 kg e2;refine⟨_,rfl,_,rfl,z,ms,0,lo,rfl,tT.same e2,hB,by decide,by decide,λy1 H3 e3 hy1 ⟨us1,k1,i1⟩=>?_⟩;have n1:=i1.len;have n1':=v9 0 lo 0 ms;refine⟨_,O,one,λl2 hl2=>?_⟩;have w4:=qE hl2 (.lst [.ref g]);refine⟨y1,l2,_,_,O,O,w4 _ _ k1,qC,sm _ (by show us1.length+1<=1000;omega),λy2 hy2=>?_⟩;have w5:=qE hy2 (.lst (us1++[.ref g]));have w45:=w4.trans w5;have e5:=(e2.trans e3).trans w45;have k2:(upd (upd H3 l2 (.lst [.ref g])) y2 (.lst (us1++[.ref g]))) y2=some (.lst (us1++[.ref g])):=qC;have i2:IsIs (upd (upd H3 l2 (.lst [.ref g])) y2 (.lst (us1++[.ref g]))) (ji 0 lo 0 ms++[.gap (xr (lo-qY ms) 0)]) (us1++[.ref g]):=(i1.ts (qV w45)).app (.one (isG ((e3.trans w45) _ _ kg)));change _;generalize upd (upd H3 l2 (.lst [.ref g])) y2 (.lst (us1++[.ref g]))=H5 at w45 e5 k2 i2;refine qS λ_ Y=>?_;obtain⟨ul,kl,il⟩:=tL.same e5;apply Y;have nl:=il.len;have n2:=i2.len;rw[YN,YN]at n2;refine⟨_,O,y2,l,_,_,O,O,k2,kl,sm _ (by rw[YN];show us1.length+1+ul.length<=1000;omega),λy3 hy3=>?_⟩;have w6:=qE hy3 (.lst (us1++[.ref g]++ul));have e6:=e5.trans w6;have k3:(upd H5 y3 (.lst (us1++[.ref g]++ul))) y3=some (.lst (us1++[.ref g]++ul)):=qC;have i3:IsIs (upd H5 y3 (.lst (us1++[.ref g]++ul))) (ji 0 lo 0 ms++[.gap (xr (lo-qY ms) 0)]++ls) (us1++[.ref g]++ul):=(i2.app il).ts (qV w6);change _;generalize upd H5 y3 (.lst (us1++[.ref g]++ul))=H6 at w6 e6 k3 i3;refine⟨_,O,_,O,_,O,z,ms,O,tT.same e6,by omega,λH7 e7=>?_⟩;refine⟨z,ms,hi,qY ms,rfl,tT.same (e6.trans e7),hB,h0,h1,λy4 H8 e8 hy4 ⟨us4,k4,i4⟩=>?_⟩;have n4:=i4.len;have n4':=v9 hi (qY ms) 0 ms;have e78:=e7.trans e8;have hlen:(us1++[V.ref g]++ul).length=us1.length+1+ul.length:=by rw[YN,YN];rfl
 refine⟨y3,y4,_,_,O,O,e78 _ _ k3,k4,sm _ (by omega),λy5 hy5=>?_⟩;have w9:=qE hy5 (.lst (us1++[.ref g]++ul++us4));have e9:=(e6.trans e78).trans w9;refine⟨y5,_,O,⟨_,qC,((i3.ts (qV e78)).app i4).ts (qV w9)⟩,?_,λy H10 e10 hy tY=>kk y H10 (e9.trans e10) (e9.free hy) tY⟩;rw[YN,YN,YN];show (ji 0 lo 0 ms).length+1+ls.length+(ji hi (qY ms) 0 ms).length<=300;omega
def LayOk(H:Hp)(rd:Addr):Im->Prop
 |.clip n p q r s l=> ∃N,Reel H rd n N/\GF n p q r s l/\InR (Vk p q r s 0) (q*s) N/\InR (Vk p q r s (l-1)) (q*s) N
 |.nest n b l=>qKf n=true/\0<=b/\1<=l
 |_=>False
theorem LayOk.same{H H':Hp}{rd:Addr}{m:Im}(e:Same H H')(h:LayOk H rd m):LayOk H' rd m:=by
 cases m with
 |clip n p q r s l=>obtain⟨N,h1,h2⟩:=h;exact⟨N,h1.same e,h2⟩
 |nest n b l=>exact h
 |gap=>exact h
 |mix=>exact h
def DOk(H:Hp)(rd:Addr)(ms:List Im):Dk->Prop
 |.cut t=>0<=t/\t<=2 ^ 400/\qv ms t=true
 |.hel _=>False
 |.opn t l=>0<=t/\t<=2 ^ 400/\1<=l
 |.cls t u=>0<=t/\t<u/\u<=2 ^ 400
 |.lft t u=>0<=t/\t<u/\u<=2 ^ 400
 |.lin t m=>0<=t/\t<=2 ^ 400/\LayOk H rd m
 |.lov t m=>0<=t/\t<=2 ^ 400/\LayOk H rd m/\0<=m.mo/\m.mo<=2 ^ 400
noncomputable def Dk.lay:Dk->Option Im
 |.lin _ m=>some m
 |.lov _ m=>some m
 |_=>none
theorem Dk.lay_in(d:Dk):inV (.str d.wd) [.str "lay_in",.str "lay_over"]=d.lay.isSome:=by
 cases d with
 |cut t=>show inV (.str "cut") _=false;decide+kernel
 |hel t=>show inV (.str "heal") _=false;decide+kernel
 |opn t l=>show inV (.str "open") _=false;decide+kernel
 |cls t u=>show inV (.str "close") _=false;decide+kernel
 |lft t u=>show inV (.str "lift") _=false;decide+kernel
 |lin t m=>show inV (.str "lay_in") _=true;decide+kernel
 |lov t m=>show inV (.str "lay_over") _=true;decide+kernel
theorem DAt.lay{H:Hp}{dz:Addr}{n:Int}{d:Dk}{m:Im}(h:DAt H dz n d)(hl:d.lay=some m):∃xs v,H dz=some (.tup xs)/\atI xs 3=some v/\IsI H m v:=by
 cases d with
 |lin t m'=>cases hl;obtain⟨v,h1,h2⟩:=h;exact⟨_,v,h1,rfl,h2⟩
 |lov t m'=>cases hl;obtain⟨v,h1,h2⟩:=h;exact⟨_,v,h1,rfl,h2⟩
 |_=>cases hl
theorem DOk.lay{H:Hp}{rd:Addr}{ms:List Im}{d:Dk}{m:Im}(h:DOk H rd ms d)(hl:d.lay=some m):LayOk H rd m:=by
 cases d with
 |lin t m'=>cases hl;exact h.2.2
 |lov t m'=>cases hl;exact h.2.2.1
 |_=>cases hl
theorem DOk.ch{d:Dk}(h:DOk H rd ms d):inV (.str d.wd) [.str "cut",.str "lay_in",.str "open",.str "close",.str "lift",.str "lay_over"]=true:=by
 cases d with
 |cut t=>show inV (.str "cut") _=true;decide+kernel
 |hel t=>exact h.elim
 |opn t l=>show inV (.str "open") _=true;decide+kernel
 |cls t u=>show inV (.str "close") _=true;decide+kernel
 |lft t u=>show inV (.str "lift") _=true;decide+kernel
 |lin t m=>show inV (.str "lay_in") _=true;decide+kernel
 |lov t m=>show inV (.str "lay_over") _=true;decide+kernel
theorem Dk.cut_wd{d:Dk}(h:d.wd="cut"):∃t,d=.cut t:=by
 cases d with
 |cut t=>exact⟨t,rfl⟩
 |hel t=>exact YC (show ("heal":Str)="cut" from h) (by decide+kernel)
 |opn t l=>exact YC (show ("open":Str)="cut" from h) (by decide+kernel)
 |cls t l=>exact YC (show ("close":Str)="cut" from h) (by decide+kernel)
 |lft t l=>exact YC (show ("lift":Str)="cut" from h) (by decide+kernel)
 |lin t l=>exact YC (show ("lay_in":Str)="cut" from h) (by decide+kernel)
 |lov t l=>exact YC (show ("lay_over":Str)="cut" from h) (by decide+kernel)
theorem DOk.same{H H':Hp}{rd:Addr}{ms:List Im}{d:Dk}(e:Same H H')(h:DOk H rd ms d):DOk H' rd ms d:=by
 cases d with
 |lin t m=>exact⟨h.1,h.2.1,h.2.2.same e⟩
 |lov t m=>exact⟨h.1,h.2.1,h.2.2.1.same e,h.2.2.2⟩
 |_=>exact h
inductive ChO(K:W.Frag)(H:Hp)(rd dz:Addr)(n:Nat)(ts:List (List Im))(tie:List Int)(ms:List Im):Nat->Prop where
 |cut0 {t:Int} (hd:H dz=some (.tup [.str "cut",.int (n:Int),.int t])) (h:qv ms t=false):ChO K H rd dz n ts tie ms 0
 |ok {d:Dk} {c:Nat} (hD:DAt H dz (n:Int) d) (hO:DOk H rd ms d) (hc:c=if jJ ts (chF tie (n:Int) d.push) d.t d.hi=true then 1 else 2):ChO K H rd dz n ts tie ms c
theorem ChO.same{H H':Hp}(e:Same H H'){rd dz:Addr}{n:Nat}{ts:List (List Im)}{tie:List Int}{ms:List Im}{c:Nat}(h:ChO K H rd dz n ts tie ms c):ChO K H' rd dz n ts tie ms c:=by
 cases h with
 |cut0 hd h=>exact .cut0 (e _ _ hd) h
 |ok hD hO hc=>exact .ok (hD.same e) (hO.same e) hc
inductive qDi(K:W.Frag)(N M:Addr)(vs:List V)(H:Hp)(Q:VK)(E:XK):Prop
|mk (tz dz rd:Addr) (ts:List (List Im)) (tie:List Int) (n:Nat) (ms:List Im) (c:Nat) (_:vs=[.ref tz,.ref dz,.ref rd]) (_:TabG H tz ts tie n) (_:ts[n]?=some ms) (_:ChO K H rd dz n ts tie ms c) (_:(c=0->∀H',Same H H'->E (.ref N) none H')) (_:(c=1->∀H',Same H H'->E (.ref M) none H')) (_:(c=2->∀H',Same H H'->Q .non H'))
theorem qDl(T:Tx K mg a):FnOk P w K mg base (CXR P w) 7 a.A62 a.B62 ["table","deed","reels"] (qDi K a.k_NoPlace a.k_Mixed):=by
 refine oX T.D62.F qEh λ_ _ _ s H vs Q _ hr h _ Y=>?_;obtain⟨tz,dz,rd,ts,tie,n,ms,c,rfl,hP,hms,hC,k0,k1,k2⟩:=h;apply Y;refine⟨_,(qD (qc (qL vh (qI (pv 1)) (xY (v:=.ref a.n_CHANGES) rfl T.g_CHANGES rfl) rfl) (qF (zN rfl rfl T.c_NoPlace T.x_NoPlace (qA qN qB))) qO)
  (qD (xV (qc (PW.pt (zn (qL jW (qI (pv 1)) qN (qR _)) (xX (jr (jO (qJ T.D33 (wo T) hr rfl (qA (jP qo (qI (pv 0)) (qI (pv 1)) (λ_ _=>rfl)) (qA (qI (pv 1)) qB)))))))) (qF (zN rfl rfl T.c_NoPlace T.x_NoPlace (qA qN qB))) qO))
  (qD (xV (qc (PW.pt (zn (qL jF (qI (pv 1)) (xY (v:=.ref a.n_LAYS) rfl T.g_LAYS rfl) rfl) (xX (jr (jO (qJ T.D22 (qDa T) hr rfl (qA (qI (pv 1)) qB))))))) (qF (jD (qJ T.D15 (qGr T) hr rfl (qA (qI (pv 1)) (qA (pv 2) qB))))) qO))
  (qF (jD (xM T.D61 (vx T) hr rfl (qA (pv 0) (qA (pv 1) qB)))))))),?_⟩
 try dsimp only[jV,qk]
 have one:(1:Nat)<=sizeLine:=by decide
 refine qS λ_ Y=>?_;obtain⟨tt,tl,ti,zs,e0,g2,g3,g4,g5⟩:=id hP.tab;cases e0;have hzl:=g4.len;have hnt:=hP.nt;have ez:zs[n]?=some (zs[n]'(by omega)):=YD (by omega);obtain⟨ms',z,hms',ezz,tT⟩:=g4.get ez;rw[hms]at hms';cases hms';apply Y;rw[ezz]at ez;cases hC with
 | @cut0 t hd h=>
  have a0:atI [V.str "cut",.int (n:Int),.int t] 0=some (.str "cut"):=rfl;have a1:atI [V.str "cut",.int (n:Int),.int t] 1=some (.int (n:Int)):=rfl;have a2:atI [V.str "cut",.int (n:Int),.int t] 2=some (.int t):=rfl;refine(ixO hd a0 ⟨a.n_CHANGES,_,O,.inr (T.sq_CHANGES _),O,O,false,qQg (b:=true) (by decide+kernel),jH ?_⟩);refine⟨λσ H1=>False,?_,λ_ _ h=>h.elim⟩;refine(ixO hd a0 ⟨O,_,O,qAk (by decide+kernel) ?_⟩);refine(ixO g2 at0 (ixO hd a1 ⟨tl,_,_,_,O,O,SqL.of g3,q8 ez,ixO hd a2 ⟨z,ms,t,O,tT,λH1 e1=>?_⟩⟩));rw[h];exact⟨false,O,j5 ⟨one,k0 rfl H1 e1⟩⟩
 | @ok d c hD hO hc=>
  refine qS λ_ Y=>?_;obtain⟨xs,hd,a0,a1,a2⟩:=hD.opn;apply Y;refine(ixO hd a0 ⟨a.n_CHANGES,_,O,.inr (T.sq_CHANGES _),O,O,false,qQg hO.ch,jH ?_⟩);refine⟨λσ H1=>σ=[some (.ref tz),some (.ref dz),some (.ref rd)]/\Same H H1,?_,?_⟩
  . refine(ixO hd a0 ⟨O,_,O,je (λc=>?_) (λc=>jH ⟨O,Same.refl _⟩)⟩)
    obtain⟨t,rfl⟩:=Dk.cut_wd (by simpa using c);refine(ixO g2 at0 (ixO hd a1 ⟨tl,_,_,_,O,O,SqL.of g3,q8 ez,ixO hd a2 ⟨z,ms,t,O,tT,λH1 e1=>?_⟩⟩));rw[hO.2.2];exact⟨true,O,jH ⟨O,e1⟩⟩
  rintro σ H1 ⟨rfl,e1⟩;refine⟨λσ H2=>σ=[some (.ref tz),some (.ref dz),some (.ref rd)]/\Same H H2,?_,?_⟩
  . refine(ixO (e1 _ _ hd) a0 ⟨a.n_LAYS,_,O,.inr (T.sq_LAYS _),O,O,d.lay.isSome,xf d.lay_in,?_⟩)
    cases hl:d.lay with
    |none=>exact jH (jH ⟨rfl,e1⟩)
    |some m=>
     refine qS λ_ Y=>?_;obtain⟨xs',v,hd',a3,hI⟩:=(hD.same e1).lay hl;apply Y;have hL:=(hO.lay hl).same e1;cases m with
     |nest nn b l=>
      exact j5 (ixO hd' a3 ⟨v,_,O,hI,hL,λH2 e2=>⟨true,O,jH ⟨O,e1.trans e2⟩⟩⟩)
     |gap l=>exact hL.elim
     |mix l=>exact hL.elim
     |clip nn p q r s1 l=>
      refine qS λ_ Y=>?_;obtain⟨N,hr1,hg,i0,i1⟩:=hL;apply Y;refine j5 (ixO hd' a3 ⟨v,_,O,hI,trivial,λH2 e2=>⟨false,O,j5 ?_⟩⟩);exact(ixO (e2 _ _ hd') a3 ⟨_,O,v,rd,_,_,_,_,_,_,N,O,hI.ts (qV e2),hg,hr1.same e2,i0,i1,λH3 e3=>⟨O,(e1.trans e2).trans e3⟩⟩)
  rintro σ H2 ⟨rfl,e2⟩;refine⟨_,O,_,O,tz,dz,ts,tie,n,d,O,hP.same e2,hD.same e2,λht H3 e3=>?_,λht H3 e3=>?_⟩
  . rw[ht,YB rfl]at hc
    exact k1 hc H3 (e2.trans e3)
  . rw[ht,YA (by decide)]at hc
    exact k2 hc H3 (e2.trans e3)
noncomputable def goB(n n':Str)(p q r s len p' q' r' s':Int):Bool:=decide (n=n') && ((r==r' && s==s') && (p'==plP p q r s len && q'==plQ p q r s len))
inductive qN8(K:W.Frag)(vs:List V)(H:Hp)(Q:VK)(_:XK):Prop
|mk (v u:V) (n n':Str) (p q r s len p' q' r' s' len':Int) (_:vs=[v,u]) (_:Cp K H v n p q r s len) (_:Cp K H u n' p' q' r' s' len') (_:Bn 700 p q r s) (_:len.natAbs<2 ^ 700) (_:∀H',Same H H'->Q (.bl (goB n n' p q r s len p' q' r' s')) H')
theorem qOi(T:Tx K mg a):FnOk P w K mg base CX0 5 a.A17 a.B17 ["one","other"] (qN8 K):=by
 refine oL T.D17.F qOt λ_ _ _ s H _ _ _ hr h _ Y=>?_;obtain⟨v,u,n,n',p,q,r,s,len,p',q',r',s',len',rfl,hc,hd,⟨hq,hs,bp,bq,br,bs⟩,bl,kk⟩:=h;apply Y;have hu:=hr.units0;refine⟨_,(qD (qc (PW.pt (xh (qL kD (qI (pv 0)) (qI (pv 1)) (qR _)) (ju (qL (qVw hu) (qI (pv 0)) (qI (pv 1)) (qR _))))) (qF (qM kL)) qO)
  (qF (qM (jn (qTr hu) (qI (pv 1)) (qJ T.D12 (zh T) hr rfl (qA (pv 0) (qA (qI (pv 0)) qB))) (qR _))))),?_⟩
 try dsimp only[jV,qk]
 have hc0:=hc;refine qS λ_ Y=>?_;obtain⟨z,z1,z2,e,h0,h1,h2⟩:=hc0.ex;subst e;obtain⟨y,y1,y2,e,d0,d1,d2⟩:=hd.ex;subst e;apply Y;refine(z6 rfl h0 qIz ⟨_,O,y,_,_,_,O,O,d0,qIz,O,_,O,?_⟩);by_cases en:n=n'
 rotate_left
 . have e:(!decide (V.str n=V.str n'))=true:=by simp[en]
   rw[e];refine j5 (j5 ?_);have g:goB n n' p q r s len p' q' r' s'=false:=by simp[goB,en]
   have:=kk H (Same.refl _);rw[g]at this;exact this
 have e:(!decide (V.str n=V.str n'))=false:=by simp[en]
 rw[e];refine jH ?_;refine(z6 rfl h0 qK7 ⟨_,O,y,_,_,_,O,O,d0,qK7,_,_,_,_,O,O,h2,d2,O,O,_,O,?_⟩);rw[eq2];by_cases er:(r==r' && s==s')=true
 rotate_left
 . have er':(r==r' && s==s')=false:=by simpa using er
   rw[er'];refine j5 ?_;have g:goB n n' p q r s len p' q' r' s'=false:=by unfold goB;rw[er'];simp
   have:=kk H (Same.refl _);rw[g]at this;exact this
 rw[er];refine jH ?_;refine⟨_,O,y,_,_,_,O,O,d0,qVc,_,O,z6 rfl h0 qC4 ⟨_,n,p,q,r,s,len,len,O,hc,hq,hs,bp,bq,br,bs,bl,λx H1 s1 e1=>?_⟩⟩;refine⟨_,_,_,_,O,O,L3.Same.tup s1 d1,SqT.of e1,O,O,?_⟩;have g:goB n n' p q r s len p' q' r' s'=(if false=true then !qJ7 [.int p',.int q'] [.int (xI (p*s+len*r*q) (q*s)),.int (jq (p*s+len*r*q) (q*s))]else qJ7 [.int p',.int q'] [.int (xI (p*s+len*r*q) (q*s)),.int (jq (p*s+len*r*q) (q*s))]):=by rw[YA (by decide),eq2];unfold goB;rw[er];simp[en,plP,plQ]
 rw[<-g];exact kk H1 s1
theorem qLi:atI [x0,x1,x2] 1=some x1:=rfl
theorem qOe:atI [x0,x1,x2] 2=some x2:=rfl
theorem qHu(vs:List V)(i:Nat):zd vs none (some (i:Int))=vs.take i:=by
 unfold zd;rw[HT.sIx_none,HT.sIx_nat,List.drop_zero,Nat.sub_zero];by_cases h:i<=vs.length
 . rw[Nat.min_eq_left h]
 . rw[Nat.min_eq_right (by omega),List.take_of_length_le (YI _),List.take_of_length_le (by omega)]
theorem qGs(vs:List V)(i:Nat):zd vs (some (i:Int)) none=vs.drop i:=by
 unfold zd;rw[HT.sIx_none,HT.sIx_nat];by_cases h:i<=vs.length
 . rw[Nat.min_eq_left h,List.take_of_length_le (by rw[ZV];omega)]
 . rw[Nat.min_eq_right (by omega),List.drop_of_length_le (by omega),List.drop_of_length_le (by omega)]
   simp
theorem IsIs.take{H:Hp}:∀{ms:List Im} {vs:List V} {i:Nat},IsIs H ms vs->IsIs H (ms.take i) (vs.take i)
 |[],[],_,_=>by simp[IsIs]
 |_::_,_::_,0,_=>trivial
 |_::_,_::_,_+1,h=>⟨h.1,h.2.take⟩
 |[],_::_,_,h=>h.elim
 |_::_,[],_,h=>h.elim
theorem IsIs.drop{H:Hp}:∀{ms:List Im} {vs:List V} {i:Nat},IsIs H ms vs->IsIs H (ms.drop i) (vs.drop i)
 |[],[],_,_=>by simp[IsIs]
 |_::_,_::_,0,h=>h
 |_::_,_::_,_+1,h=>h.2.drop (i:=_)
 |[],_::_,_,h=>h.elim
 |_::_,[],_,h=>h.elim
theorem DOk.hi{H:Hp}{rd:Addr}{ms:List Im}{d:Dk}(h:DOk H rd ms d):0<=d.t/\0<=d.hi/\d.hi<=2 ^ 500:=by
 have e:(2:Int) ^ 400+2 ^ 400<=2 ^ 500:=by decide
 have e2:(0:Int)<=2 ^ 400:=by decide
 generalize (2:Int) ^ 500=B at e⊢;cases d with
 |cut t=>obtain⟨h1,h2,_⟩:=h;exact⟨h1,h1,by show t<=B;omega⟩
 |hel t=>exact h.elim
 |opn t l=>obtain⟨h1,h2,_⟩:=h;exact⟨h1,h1,by show t<=B;omega⟩
 |cls t u=>obtain⟨h1,h2,h3⟩:=h;exact⟨h1,by show 0<=u;omega,by show u<=B;omega⟩
 |lft t u=>obtain⟨h1,h2,h3⟩:=h;exact⟨h1,by show 0<=u;omega,by show u<=B;omega⟩
 |lin t m=>obtain⟨h1,h2,_⟩:=h;exact⟨h1,h1,by show t<=B;omega⟩
 |lov t m=>obtain⟨h1,h2,h3,h4,h5⟩:=h;exact⟨h1,by show 0<=t+m.mo;omega,by show t+m.mo<=B;omega⟩
def qY5(ms:List Im)(t:Int):Prop:=cbF ms t=none\/∃i j:Int,cbF ms t=some (i,j)/\j≠i+1
structure TabD(H:Hp)(tz rd:Addr)(rl:Rls)(ts:List (List Im))(tie:List Int):Prop where
 tab:TabF H (.ref tz) ts tie
 ok:∀ms∈ts,MsB ms/\ms.length<=100/\∀m∈ms,ItR rl m
 len:ts.length<=8
 tl:tie.length<=8
 tin:∀x∈tie,∃k:Nat,x=(k:Int)/\k<ts.length
 re:ReelsAt H rd rl
theorem TabD.g{ts:List (List Im)}(h:TabD H tz rd rl ts tie)(hn:n<ts.length):TabG H tz ts tie n:=⟨h.tab,λms hm=>⟨(h.ok ms hm).1,(h.ok ms hm).2.1⟩,hn,h.len,h.tl,h.tin⟩
theorem TabD.same{H H':Hp}{tz rd:Addr}{rl:Rls}{ts:List (List Im)}{tie:List Int}(e:Same H H')(h:TabD H tz rd rl ts tie):TabD H' tz rd rl ts tie:=⟨h.tab.same e,h.ok,h.len,h.tl,h.tin,h.re.same e⟩
instance (w:Str):Decidable (Wd3 w):=by unfold Wd3;infer_instance
theorem qMi{w:Str}:inV (.str w) [.str "roll",.str "slip",.str "slide"]=decide (Wd3 w):=by
 by_cases h1:w="roll"
 . subst h1;decide+kernel
 by_cases h2:w="slip"
 . subst h2;decide+kernel
 by_cases h3:w="slide"
 . subst h3;decide+kernel
 have:¬Wd3 w:=by rintro(h|h|h);exact h1 h;exact h2 h;exact h3 h
 rw[YW this];simp[inV,eqV,h1,h2,h3,ZG h1,ZG h2,ZG h3]
noncomputable def j4(d:Dk)(n k:Int):List Im:=if k=n then d.laid else d.laid.map λm=>.gap m.mo
noncomputable def vN(ts0:List (List Im))(d:Dk)(n:Int)(ns:List Int):List (List Im):=ns.foldl (λts k=>ts.set k.toNat (xC (ts0.getD k.toNat []) d.t d.hi (j4 d n k))) ts0
theorem qD4(ts0:List (List Im))(d:Dk)(n:Int):∀ns:List Int,(vN ts0 d n ns).length=ts0.length:=λns=>by
 unfold vN;have:∀(ns:List Int) (ts:List (List Im)),(ns.foldl (λts k=>ts.set k.toNat (xC (ts0.getD k.toNat []) d.t d.hi (j4 d n k))) ts).length=ts.length:=λns=>by
  induction ns with
  |nil=>intro ts;rfl
  |cons k ns ih=>intro ts;rw[List.foldl_cons,ih,ZN]
 exact this ns ts0
theorem qR3(ts0:List (List Im))(d:Dk)(n:Int)(ns:List Int)(k:Int):vN ts0 d n (ns++[k])=(vN ts0 d n ns).set k.toNat (xC (ts0.getD k.toNat []) d.t d.hi (j4 d n k)):=by unfold vN;rw[List.foldl_append];rfl
inductive qKe(vs:List V)(H:Hp)(Q:VK)(_:XK):Prop
|mk (tz dz rd:Addr) (ts:List (List Im)) (tie:List Int) (n:Nat) (d:Dk) (ms:List Im) (_:vs=[.ref tz,.ref dz]) (_:TabG H tz ts tie n) (_:DAt H dz (n:Int) d) (_:DOk H rd ms d) (_:∀(t:Addr) (H':Hp),Same H H'->TabF H' (.ref t) (vN ts d (n:Int) (chF tie (n:Int) d.push)) tie->Q (.ref t) H')
theorem qIx(T:Tx K mg a):FnOk P w K mg base CX0 9 a.A69 a.B69 ["table","deed"] qKe:=by
 refine oL T.D69.F zQ λ_ _ _ _ _ _ _ _ hr h _ Y=>?_;obtain⟨tz,dz,rd,ts,tie,n,d,ms,rfl,hP,hD,hO,kk⟩:=h;apply Y;refine⟨_,(qD (qZ 2 zQ.nd (qJ T.D55 (kU T) hr rfl (qA (pv 1) qB)))
  (qD (qZ 3 zQ.nd (pv 0))
  (qD (xj PassesOwn.never rfl (jc (qJ T.D58 (xA T) hr rfl (qA (pv 0) (qA (pv 1) qB)))) (jX (i:=4) zQ.nd rfl (Or.inl rfl)) (qD (xV (qZ 5 zQ.nd (zw (qL jW (pv 4) (qI (pv 1)) (qR _)) (qJ T.D56 (qF6 T) hr rfl (qA (pv 1) qB)) (qJ T.D57 (qEb T) hr rfl (qA (pv 1) qB)))))
  (qF (qZ 3 zQ.nd (qJ T.D53 (j6 T) hr rfl (qA (pv 3) (qA (pv 4) (qA (qJ T.D68 (qP0 T) hr rfl (qA (jP qo (qI (pv 0)) (pv 4) (λ_ _=>rfl)) (qA (qI (pv 2)) (qA (qI (pv 2)) (qA (pv 5) qB))))) qB))))))))
  (qF (qM (pv 3)))))),?_⟩
 try dsimp only[jV,qk]
 refine qS λ_ Y=>?_;obtain⟨tt,tl,ti,zs,e0,g2,g3,g4,g5⟩:=id hP.tab;cases e0;have hzl:=g4.len;obtain⟨hcl,hch⟩:=hP.ch d.push;obtain⟨xs,hd,a0,a1,a2⟩:=hD.opn;obtain⟨ht0,hh0,hh1⟩:=hO.hi;apply Y;refine⟨_,O,dz,_,d,O,hD,λp H1 e1 hp=>?_⟩;refine⟨_,rfl,_,rfl,_,rfl,tz,tl,ti,dz,tie,_,d,rfl,e1 _ _ g2,e1 _ _ g5,by have:=hP.tl;omega,hD.same e1,λy H2 e2 hy hy2=>?_⟩;generalize chF tie (n:Int) d.push=ns at hy2 hcl hch kk;refine⟨y,O,⟨_,SqL.of hy2⟩,j8 (K:=K) (a:=y) (xs:=ns.map V.int) (λi σ H'=> ∃(o1 o2:Option V) (tt':Addr),σ=[some (.ref tz),some (.ref dz),some (.ref p),some (.ref tt'),o1,o2]/\TabF H' (.ref tt') (vN ts d (n:Int) (ns.take i)) tie/\Same H2 H') ⟨none,none,tz,O,(hP.tab.same e1).same e2,Same.refl _⟩ ?_ ?_ ?_⟩
 . rintro i σ H' hi ⟨o1,o2,tt',rfl,_,e⟩
   exact SqL.of (e _ _ hy2)
 . rintro i x σ H' hx ⟨o1,o2,tt',rfl,hT',e⟩
   refine qS λ_ Y=>?_;obtain⟨xi,hxi,rfl⟩:∃xi:Int,ns[i]?=some xi/\x=.int xi:=by
    rw[Yj]at hx;cases hq:ns[i]? with
    |none=>rw[hq]at hx;cases hx
    |some k=>rw[hq]at hx;cases hx;exact⟨k,rfl,rfl⟩
   obtain⟨k,rfl,hk⟩:=hch xi (YF hxi);have e02:=e1.trans (e2.trans e);have ez:zs[k]?=some (zs[k]'(by omega)):=YD (by omega);obtain⟨ms1,z,hms,ezz,tT⟩:=g4.get ez;rw[ezz]at ez;obtain⟨hMB,hM1⟩:=hP.ok ms1 (YF hms);apply Y;have dl:=d.laid_len;have egd:ts.getD ((k:Int)).toNat []=ms1:=by rw[YQ,List.getD_eq_getElem?_getD,hms];rfl
   refine⟨λσ H3=> ∃(l:Addr),σ=[some (.ref tz),some (.ref dz),some (.ref p),some (.ref tt'),some (.int (k:Int)),some (.ref l)]/\Same H' H3/\Tr H3 l (j4 d (n:Int) (k:Int)),?_,?_⟩
   . unfold j4
     refine⟨_,O,ixO (e02 _ _ hd) a1 ⟨O,_,O,je (λc=>?_) (λc=>?_)⟩⟩
     . have hc:(k:Int)=(n:Int):=by have:V.int (k:Int)=V.int (n:Int):=by simpa using c
                                   exact V.int.inj this
       rw[YB hc];exact⟨_,O,dz,_,d,O,hD.same e02,λl H3 e3 hl tL=>⟨l,O,e3,tL⟩⟩
     . have hc:¬(k:Int)=(n:Int):=λz=>by rw[z]at c;simp at c
       rw[YA hc];exact⟨_,O,dz,_,d,O,hD.same e02,λl H3 e3 hl tL=>⟨l,O,e3,tL⟩⟩
   rintro σ H3 ⟨l,rfl,e3,tL⟩;have hls:(j4 d (n:Int) (k:Int)).length<=10:=by
    unfold j4;split
    . omega
    . rw[YS];omega
   have e03:=e02.trans e3;refine⟨_,O,_,O,ixO (e03 _ _ g2) at0 ⟨_,O,tl,_,_,_,O,O,SqL.of (e03 _ _ g3),q8 ez,z6 rfl (SqT.of ((e2.trans (e.trans e3)) _ _ hp)) at0 (z6 rfl (SqT.of ((e2.trans (e.trans e3)) _ _ hp)) at1 ⟨_,O,z,l,ms1,_,_,_,O,tT.same e03,tL,hMB,hM1,hls,hh0,hh1,λyy H4 e4 hyy tY=>?_⟩)⟩⟩;refine⟨tt',yy,k,_,tie,_,rfl,(hT'.same e3).same e4,tY,by rw[qD4];omega,by rw[qD4];have:=hP.len;omega,λt H5 e5 hN=>?_⟩;have ets:vN ts d (n:Int) (ns.take (i+1))=(vN ts d (n:Int) (ns.take i)).set k (xC ms1 d.t d.hi (j4 d (n:Int) (k:Int))):=by rw[Yt,hxi];show vN ts d (n:Int) (ns.take i++[(k:Int)])=_;rw[qR3,egd,YQ]
   rw[ets];exact⟨_,_,t,O,hN,((e.trans e3).trans e4).trans e5⟩
 . rintro σ H' ⟨o1,o2,tt',rfl,hN,e⟩
   rw[YS,Yx]at hN;exact⟨_,O,kk _ H' (e1.trans (e2.trans e)) hN⟩
noncomputable def tbF(ms:List Im)(k:Nat):Int:=if k=0 then 0 else match ms[k-1]? with
 |some (.mix l)=>l-l.fdiv 2
 |_=>0
noncomputable def teF(ms:List Im)(k:Nat):Int:=match ms[k+1]? with
 |some (.mix l)=>l.fdiv 2
 |_=>0
theorem qI8{k:Int}(h:qt ms k="mix"):∃l,0<=k/\ms[k.toNat]?=some (.mix l):=by
 unfold qt at h;by_cases h0:k<0
 . rw[YB h0]at h
   exact YC h (by decide+kernel)
 . rw[YA h0]at h
   cases hm:ms[k.toNat]? with
   |none=>rw[hm]at h;exact YC h (by decide+kernel)
   |some m=>
    rw[hm]at h;obtain⟨l,rfl⟩:=jw h;exact⟨l,by omega,O⟩
inductive qCe(vs:List V)(H:Hp)(Q:VK)(_:XK):Prop
|mk (z:Addr) (ms:List Im) (k:Nat) (_:vs=[.ref z,.int (k:Int)]) (_:Tr H z ms) (_:Q (.int (tbF ms k)) H)
theorem qCg(T:Tx K mg a):FnOk P w K mg base CX0 2 a.A39 a.B39 ["track","place"] qCe:=by
 refine oL T.D39.F qCl λ_ _ _ _ H vs Q _ hr h _ Y=>?_;obtain⟨z,ms,k,rfl,tT,q⟩:=h;apply Y;refine⟨_,(qD (qc (qL kD (qJ T.D28 (jY T) hr rfl (qA (pv 0) (qA (qQ jR (pv 1) qG) qB))) qN (qR _)) (qF (qM qG)) qO)
  (qF (qM (qJ T.D37 (wk T) hr rfl (qA (qI (jP qo (pv 0) (qQ jR (pv 1) qG) (λ_ _=>rfl))) qB))))),?_⟩
 try dsimp only[jV,qk]
 refine⟨_,O,_,O,_,_,O,O,z,ms,_,O,tT,O,_,O,je (λc=>?_) (λc=>?_)⟩
 . have hn:qt ms ((k:Int)-1)≠"mix":=by simpa using c
   have e:tbF ms k=0:=by
    unfold tbF;by_cases k0:k=0
    . rw[YB k0]
    . rw[YA k0]
      split
      . next l hl=>exact YC (jp hl (by omega)) hn
      . rfl
   rw[e]at q;exact q
 . have hk:qt ms ((k:Int)-1)="mix":=by simpa using c
   refine qS λ_ Y=>?_;obtain⟨l,k1,hl⟩:=qI8 hk;have ek:((k:Int)-1).toNat=k-1:=by omega
   rw[ek]at hl;have e:tbF ms k=l-l.fdiv 2:=by unfold tbF;rw[YA (by omega),hl]
   rw[e]at q;obtain⟨vs,hz,his⟩:=tT;obtain⟨v,hv,hI⟩:=his.get' hl;obtain⟨zi,rfl,hzi⟩:=hI;apply Y;have hat:atI vs ((k:Int)-1)=some (.ref zi):=by
    have e:(k:Int)-1=((k-1:Nat):Int):=by omega
    rw[e];exact q8 hv
   exact⟨_,O,_,O,_,_,O,O,z,_,_,_,O,O,SqL.of hz,hat,ixT (SqT.of hzi) at1 ⟨l,O,q⟩⟩
inductive qDv(vs:List V)(H:Hp)(Q:VK)(_:XK):Prop
|mk (z:Addr) (ms:List Im) (k:Nat) (_:vs=[.ref z,.int (k:Int)]) (_:Tr H z ms) (_:Q (.int (teF ms k)) H)
theorem qDx(T:Tx K mg a):FnOk P w K mg base CX0 2 a.A40 a.B40 ["track","place"] qDv:=by
 refine oL T.D40.F qEe λ_ A _ s H vs Q E hr h _ Y=>?_;obtain⟨z,ms,k,rfl,tT,q⟩:=h;apply Y;refine⟨_,(qD (qc (qL kD (qJ T.D28 (jY T) hr rfl (qA (pv 0) (qA (qQ qm (pv 1) qG) qB))) qN (qR _)) (qF (qM qG)) qO)
  (qF (qM (qJ T.D36 (qAv T) hr rfl (qA (qI (jP qo (pv 0) (qQ qm (pv 1) qG) (λ_ _=>rfl))) qB))))),?_⟩
 try dsimp only[jV,qk]
 refine⟨_,O,_,O,_,_,O,O,z,ms,_,O,tT,O,_,O,je (λc=>?_) (λc=>?_)⟩
 . have hn:qt ms ((k:Int)+1)≠"mix":=by simpa using c
   have e:teF ms k=0:=by
    unfold teF;split
    . next l hl=>exact YC (jp hl (by omega)) hn
    . rfl
   rw[e]at q;exact q
 . have hk:qt ms ((k:Int)+1)="mix":=by simpa using c
   refine qS λ_ Y=>?_;obtain⟨l,k1,hl⟩:=qI8 hk;have ek:((k:Int)+1).toNat=k+1:=by omega
   rw[ek]at hl;have e:teF ms k=l.fdiv 2:=by unfold teF;rw[hl]
   rw[e]at q;obtain⟨vs,hz,his⟩:=tT;obtain⟨v,hv,hI⟩:=his.get' hl;obtain⟨zi,rfl,hzi⟩:=hI;apply Y;have hat:atI vs ((k:Int)+1)=some (.ref zi):=by
    have e:(k:Int)+1=((k+1:Nat):Int):=by omega
    rw[e];exact q8 hv
   exact⟨_,O,_,O,_,_,O,O,z,_,_,_,O,O,SqL.of hz,hat,ixT (SqT.of hzi) at1 ⟨l,O,q⟩⟩
noncomputable def qR8(x y:Int):Int:=if y<x then y else x
noncomputable def qW4(x y:Int):Int:=if y>x then y else x
noncomputable def mmV(A B:Int):Int:=if B>A then qW4 (2*A+1) 0 else qW4 (2*B) 0
noncomputable def mmF(rl:Rls)(ms:List Im)(t:Int):Option Int:=match cbF ms t with
 |none=>none
 |some (i,j)=>match jU ms i,jU ms j with
  |.clip n p q r s l,.clip n' p' q' r' s' l'=>(match rl n,rl n' with
   |some N,some N'=>some (mmV (qR8 (l-tbF ms i.toNat) (xL p' q' r' s' N')) (qR8 (l'-teF ms j.toNat) (xK p q r s l N)))
   |_,_=>none)
  |_,_=>none
inductive qI7(N:Addr)(vs:List V)(H:Hp)(Q:VK)(E:XK):Prop
|mk (z rd:Addr) (ms:List Im) (t:Int) (rl:Rls) (_:vs=[.ref z,.int t,.ref rd]) (_:Tr H z ms) (_:(∀m∈ms,ItR rl m)) (_:ReelsAt H rd rl) (_:(mmF rl ms t=none->∀H',Same H H'->E (.ref N) none H')) (_:∀M,mmF rl ms t=some M->∀H',Same H H'->Q (.int M) H')
theorem qCr(T:Tx K mg a):FnOk P w K mg base (CXR P w) 6 a.A41 a.B41 ["track","moment","reels"] (qI7 a.k_NoPlace):=by
 refine oX T.D41.F xo λ_ _ _ _ H vs Q E hr h _ Y=>?_;obtain⟨z,rd,ms,t,rl,rfl,tT,hit,hrl,kb,kg⟩:=h;apply Y;refine⟨_,(qD (qZ 3 xo.nd (zw (jO (qJ T.D0 (jG T) hr rfl (qA (pv 1) qB))) (qJ T.D32 (ja T) hr rfl (qA (pv 0) (qA (pv 1) qB))) qBa))
  (qD (qc (wZ (qA7 (pv 3))) (qF (zN rfl rfl T.c_NoPlace T.x_NoPlace (qA qN qB))) qO)
  (qD (qZ 4 xo.nd (jP qo (pv 0) (qI (pv 3)) (λ_ _=>rfl)))
  (qD (qZ 5 xo.nd (jP qo (pv 0) (qI (pv 3)) (λ_ _=>rfl)))
  (qD (qZ 6 xo.nd (qd (zf rfl) rfl T.b_min rfl (qA (qQ jR (qI (pv 4)) (qJ T.D39 (qCg T) hr rfl (qA (pv 0) (qA (qI (pv 3)) qB)))) (qA (qJ T.D19 (wC T) hr rfl (qA (pv 5) (qA (pv 2) qB))) qB))))
  (qD (qZ 7 xo.nd (qd (zf rfl) rfl T.b_min rfl (qA (qQ jR (qI (pv 5)) (qJ T.D40 (qDx T) hr rfl (qA (pv 0) (qA (qI (pv 3)) qB)))) (qA (qJ T.D20 (vc T) hr rfl (qA (pv 4) (qA (pv 2) qB))) qB))))
  (qD (qc (qL wM (pv 7) (pv 6) (qR _)) (qF (qM (qd (qBm rfl) rfl T.b_max rfl (qA (qQ qm (qQ jK qG (pv 6)) qG) (qA qG qB))))) qO)
  (qF (qM (qd (qBm rfl) rfl T.b_max rfl (qA (qQ jK qG (pv 7)) (qA qG qB)))))))))))),?_⟩
 try dsimp only[jV,qk]
 have one:(1:Nat)<=sizeLine:=by decide
 refine⟨_,O,t,O,true,O,j5 ?_⟩;refine⟨_,O,_,O,z,ms,_,O,tT,?_⟩;unfold mmF at kb kg;cases hcb:cbF ms t with
 |none=>
  rw[hcb]at kb;intro H1 e1;exact⟨_,O,_,O,qAk (by decide) ⟨one,kb rfl H1 e1⟩⟩
 |some r=>
 refine qS λ_ Y=>?_;obtain⟨ii,jj⟩:=r;rw[hcb]at kg;obtain⟨hk1,hk2⟩:=zK hcb;obtain⟨i,n,p,q,r,s1,l,rfl,hi⟩:=xG hk1;obtain⟨j,n',p',q',r',s2,l',rfl,hj⟩:=xG hk2;obtain⟨N,c1⟩:=hit _ (YF hi) _ _ _ _ _ _ rfl;obtain⟨N',c2⟩:=hit _ (YF hj) _ _ _ _ _ _ rfl;apply Y;have ei:jU ms (i:Int)=.clip n p q r s1 l:=by unfold jU;rw[YQ,hi];rfl
 have ej:jU ms (j:Int)=.clip n' p' q' r' s2 l':=by unfold jU;rw[YQ,hj];rfl
 dsimp only at kg;rw[ei,ej]at kg;dsimp only at kg;rw[c1.rn,c2.rn,YQ,YQ]at kg;have kg:=kg _ rfl;intro pp H1 e1 hpp;refine⟨_,O,_,O,je (λc=>YC c (by simp)) (λ_=>?_)⟩;refine qS λ_ Y=>?_;obtain⟨vs,hz,his⟩:=tT.same e1;obtain⟨va,hva,Ia⟩:=his.get' hi;obtain⟨vb,hvb,Ib⟩:=his.get' hj;apply Y;refine⟨_,O,ixO hpp at0 ⟨z,_,_,_,O,O,SqL.of hz,q8 hva,?_⟩⟩;refine⟨_,O,ixO hpp at1 ⟨z,_,_,_,O,O,SqL.of hz,q8 hvb,?_⟩⟩;refine qS λ_ Y=>?_;obtain⟨za,xa,ya,rfl,hza,hxa,hya⟩:=id Ia;obtain⟨zb,xb,yb,rfl,hzb,hxb,hyb⟩:=id Ib;apply Y;have tT1:Tr H1 z ms:=⟨vs,hz,his⟩;refine(ixO hza qC4 ⟨_,O,ixO hpp at0 ⟨z,ms,i,O,tT1,_,_,O,O,?_⟩⟩);refine⟨_,O,_,O,_,n',p',q',r',s2,l',N',rd,O,qGx Ib,c2.g1,c2.g2,(hrl _ _ c2.rn).same e1,c2.bN,λH2 e2=>?_⟩;refine⟨_,_,O,?_⟩;refine(ixO (e2 _ _ hzb) qC4 ⟨_,O,ixO (e2 _ _ hpp) at1 ⟨z,ms,j,O,tT1.same e2,_,_,O,O,?_⟩⟩);refine⟨_,O,_,O,_,n,p,q,r,s1,l,N,rd,O,qGx (Ia.ts (qV e2)),c1.g1,c1.g2,c1.bl,(hrl _ _ c1.rn).same (e1.trans e2),c1.bN,λH3 e3=>?_⟩;refine⟨_,_,O,?_⟩;have kk':=kg H3 ((e1.trans e2).trans e3);unfold mmV qR8 at kk';unfold xL xK at kk';dsimp only;generalize (if zl (plP p' q' r' s2 (-1)*s2) (-1*r'*plQ p' q' r' s2 (-1)) (plQ p' q' r' s2 (-1)*s2) N'<l-tbF ms i then zl (plP p' q' r' s2 (-1)*s2) (-1*r'*plQ p' q' r' s2 (-1)) (plQ p' q' r' s2 (-1)*s2) N' else l-tbF ms i)=MA at kk'⊢;generalize (if zl (plP p q r s1 l*s1) (1*r*plQ p q r s1 l) (plQ p q r s1 l*s1) N<l'-teF ms j then zl (plP p q r s1 l*s1) (1*r*plQ p q r s1 l) (plQ p q r s1 l*s1) N else l'-teF ms j)=MB at kk'⊢;refine⟨_,O,_,O,_,_,O,O,_,O,je (λc=>?_) (λc=>?_)⟩
 . have c':MB>MA:=by simpa using c
   rw[YB c']at kk';exact⟨_,O,_,_,O,O,cmL (by decide) (by decide),_,_,O,O,_,_,O,kk'⟩
 . have c':¬MB>MA:=by simpa using c
   rw[YA c']at kk';exact⟨_,O,_,_,O,O,cmL (by decide) (by decide),_,_,O,kk'⟩
inductive qKv(N S:Addr)(vs:List V)(H:Hp)(Q:VK)(E:XK):Prop
|mk (tz dz rd:Addr) (ts:List (List Im)) (tie:List Int) (n0:Nat) (ms:List Im) (t l:Int) (rl:Rls) (_:vs=[.ref tz,.ref dz,.ref rd]) (_:TabG H tz ts tie n0) (_:ts[n0]?=some ms) (_:H dz=some (.tup [.str "mix",.int (n0:Int),.int t,.int l])) (_:(∀m∈ms,ItR rl m)) (_:ReelsAt H rd rl) (_:(qY5 ms t->∀H',Same H H'->E (.ref N) none H')) (_:(∀(i:Nat) (M:Int),cbF ms t=some ((i:Int),((i+1:Nat):Int))->mmF rl ms t=some M->(M<l->∀(dx:Addr) (H':Hp),Same H H'->H' dx=some (.xd [("most",.int M)])->E (.ref S) (some dx) H')/\(l<=M->∀(t':Addr) (H':Hp),Same H H'->TabF H' (.ref t') (ts.set n0 (ms.take (i+1)++[.mix l]++ms.drop (i+1))) tie->Q (.ref t') H')))
theorem qUj{t i:Int}(hit:∀m∈ms,ItR rl m)(h:cbF ms t=some (i,j)):∃M,mmF rl ms t=some M:=by
 obtain⟨hk1,hk2⟩:=zK h;obtain⟨i,n,p,q,r,s1,l,rfl,hi⟩:=xG hk1;obtain⟨j,n',p',q',r',s2,l',rfl,hj⟩:=xG hk2;obtain⟨N,c1⟩:=hit _ (YF hi) _ _ _ _ _ _ rfl;obtain⟨N',c2⟩:=hit _ (YF hj) _ _ _ _ _ _ rfl;have ei:jU ms (i:Int)=.clip n p q r s1 l:=by unfold jU;rw[YQ,hi];rfl
 have ej:jU ms (j:Int)=.clip n' p' q' r' s2 l':=by unfold jU;rw[YQ,hj];rfl
 unfold mmF;rw[h];dsimp only;rw[ei,ej];dsimp only;rw[c1.rn,c2.rn];exact⟨_,O⟩
theorem qKq(T:Tx K mg a):FnOk P w K mg base (CXR P w) 7 a.A66 a.B66 ["table","deed","reels"] (qKv a.k_NoPlace a.k_Short):=by
 refine oX T.D66.F qDr λ_ _ _ _ H vs Q E hr h _ Y=>?_;obtain⟨tz,dz,rd,ts,tie,n0,ms,t,l,rl,rfl,hP,hms,hd,hit,hrl,kb,kk⟩:=h;apply Y;refine⟨_,(qD (qZ 3 qDr.nd (jP qo (qI (pv 0)) (qI (pv 1)) (λ_ _=>rfl)))
  (qD (qZ 4 qDr.nd (qJ T.D32 (ja T) hr rfl (qA (pv 3) (qA (qI (pv 1)) qB))))
  (qD (qc (PW.pt (xh (wZ (qA7 (pv 4))) (ju (qL kD (qI (pv 4)) (qQ qm (qI (pv 4)) qG) (qR _))))) (qF (zN rfl rfl T.c_NoPlace T.x_NoPlace (qA qN qB))) qO)
  (qD (qZ 5 qDr.nd (xM T.D41 (qCr T) hr rfl (qA (pv 3) (qA (qI (pv 1)) (qA (pv 2) qB)))))
  (qD (qc (qL wM (qI (pv 1)) (pv 5) (qR _)) (qF (qJa T.m_Short (qBl T) T.ib_Short (hr.mono (by decide)) rfl rfl T.c_Short (qA (pv 5) qB))) qO)
  (qF (qM (qJ T.D53 (j6 T) hr rfl (qA (pv 0) (qA (qI (pv 1)) (qA (qQ vH (qQ vH (zO vU (pv 3) wA (zZ (qI (pv 4)))) (q9 (qA (qh (qA qN (qA (qI (pv 1)) qB))) qB))) (zO vU (pv 3) (zZ (qI (pv 4))) wA)) qB))))))))))),?_⟩
 try dsimp only[jV,qk]
 have one:(1:Nat)<=sizeLine:=by decide
 refine qS λ_ Y=>?_;obtain⟨tt,tl,ti,zs,e0,g2,g3,g4,g5⟩:=id hP.tab;cases e0;have hzl:=g4.len;have hnt:=hP.nt;have ez:zs[n0]?=some (zs[n0]'(by omega)):=YD (by omega);obtain⟨ms',z,hms',ezz,tT⟩:=g4.get ez;rw[hms]at hms';cases hms';rw[ezz]at ez;obtain⟨hMB,hM1⟩:=hP.ok ms (YF hms);apply Y;have sm:∀j:Nat,j<=1000->j<=sizeLine:=λj h=>by have:=qi (n:=j) (by omega);omega
 refine(ixO g2 at0 (ixO hd qC0 ⟨tl,_,_,_,O,O,SqL.of g3,q8 ez,?_⟩));refine⟨_,O,ixO hd wO ⟨z,ms,_,O,tT,?_⟩⟩;cases hcb:cbF ms t with
 |none=>
  intro H1 e1;exact⟨_,O,_,O,qAk (by decide) (j5 ⟨one,kb (.inl hcb) H1 e1⟩)⟩
 |some rr=>
 obtain⟨ii,jj⟩:=rr;intro pz H1 e1 hpz;refine⟨_,O,_,O,je (λc=>YC c (by simp)) (λ_=>?_)⟩;refine(ixO hpz at1 (ixO hpz at0 ⟨_,_,O,O,O,_,O,?_⟩));by_cases hij:jj=ii+1
 case neg=>
  have hne:(!decide (V.int jj=V.int (ii+1)))=true:=by rw[YW (λz=>hij (V.int.inj z))];rfl
  exact qAk hne ⟨one,kb (.inr ⟨ii,jj,hcb,hij⟩) H1 e1⟩
 have hne:(!decide (V.int jj=V.int (ii+1)))=false:=by rw[hij];simp
 refine qAl hne ?_;refine qS λ_ Y=>?_;obtain⟨hk1,_⟩:=zK hcb;obtain⟨i,n,p,q,r,s1,l1,rfl,hi⟩:=xG hk1;apply Y;obtain rfl:jj=((i+1:Nat):Int):=by omega
 refine qS λ_ Y=>?_;obtain⟨M,hM⟩:=qUj hit hcb;obtain⟨kS,kQ⟩:=kk i M hcb hM;apply Y;refine⟨_,rfl,ixO (e1 _ _ hd) wO ⟨_,rfl,z,rd,ms,t,rl,rfl,tT.same e1,hit,hrl.same e1,λh=>(by have h':mmF rl ms t=none:=h;rw[hM]at h';cases h'),λM' h H2 e2=>?_⟩⟩;obtain rfl:M'=M:=by have h':mmF rl ms t=some M':=h;rw[hM]at h';exact(Yb h').symm
 have e12:=e1.trans e2;refine(ixO (e12 _ _ hd) kf ⟨_,O,_,_,O,O,_,O,je (λc=>?_) (λc=>?_)⟩)
 . have hc:M'<l:=by simpa using c
   exact⟨_,O,_,O,λdx hdx=>kS hc dx _ (e12.trans (qE hdx _)) qC⟩
 have hc:l<=M':=by have:¬M'<l:=by simpa using c
                   omega
 refine⟨_,O,ixO (e12 _ _ hd) qC0 ?_⟩;refine qS λ_ Y=>?_;obtain⟨vs,hz,his⟩:=tT.same e12;apply Y;have hvl:=his.len;have hpz2:=e2 _ _ hpz;refine⟨_,O,ixO hpz2 at1 ⟨_,O,z,_,O,SqL.of hz,λa1' ha1=>?_⟩⟩;rw[qHu];have v1:=qE ha1 (.lst (vs.take (i+1)));refine(z6 rfl (SqT.of ((e12.trans v1) _ _ hd)) kf ⟨sL2,λg hg=>⟨sL1,λa2' ha2=>?_⟩⟩);have vg:=qE hg (.tup [.str "mix",.int l]);have v2:=qE ha2 (.lst [.ref g]);refine⟨a1',a2',_,_,O,O,v2 _ _ (vg _ _ qC),qC,sm _ (by rw[Yk];show min (i+1) _+1<=1000;omega),λa3 ha3=>?_⟩;have v3:=qE ha3 (.lst (vs.take (i+1)++[.ref g]));have v13:=((v1.trans vg).trans v2).trans v3;have kg:(upd (upd (upd (upd H2 a1' (.lst (vs.take (i+1)))) g (.tup [.str "mix",.int l])) a2' (.lst [.ref g])) a3 (.lst (vs.take (i+1)++[.ref g]))) g=some (.tup [.str "mix",.int l]):=(v2.trans v3) _ _ qC;have k3:(upd (upd (upd (upd H2 a1' (.lst (vs.take (i+1)))) g (.tup [.str "mix",.int l])) a2' (.lst [.ref g])) a3 (.lst (vs.take (i+1)++[.ref g]))) a3=some (.lst (vs.take (i+1)++[.ref g])):=qC;change _;generalize upd (upd (upd (upd H2 a1' (.lst (vs.take (i+1)))) g (.tup [.str "mix",.int l])) a2' (.lst [.ref g])) a3 (.lst (vs.take (i+1)++[.ref g]))=H3 at v13 kg k3;refine⟨_,O,ixO (v13 _ _ hpz2) at1 ⟨_,O,z,_,O,SqL.of (v13 _ _ hz),λa4 ha4=>?_⟩⟩;rw[qGs];have v4:=qE ha4 (.lst (vs.drop (i+1)));refine⟨a3,a4,_,_,O,O,v4 _ _ k3,qC,sm _ (by rw[YN,Yk,ZV];show min (i+1) _+1+_<=1000;omega),λa5 ha5=>?_⟩;have v5:=qE ha5 (.lst (vs.take (i+1)++[.ref g]++vs.drop (i+1)));have v45:=v4.trans v5;have e5:=(e12.trans v13).trans v45;have hisE:=(his.ts (qV v13)).ts (qV v45);exact⟨tz,a5,n0,ts,tie,ms.take (i+1)++[.mix l]++ms.drop (i+1),rfl,hP.tab.same e5,⟨_,qC,(hisE.take.app (.one (isM (v45 _ _ kg)))).app hisE.drop⟩,hnt,by have:=hP.len;omega,λt' H6 e6 hN=>kQ hc t' H6 (e5.trans e6) hN⟩
inductive qH4(N:Addr)(vs:List V)(H:Hp)(Q:VK)(E:XK):Prop
|mk (tz dz:Addr) (ts:List (List Im)) (tie:List Int) (n0:Nat) (ms:List Im) (t:Int) (_:vs=[.ref tz,.ref dz]) (_:TabG H tz ts tie n0) (_:ts[n0]?=some ms) (_:H dz=some (.tup [.str "unmix",.int (n0:Int),.int t])) (_:((cbF ms t=none\/∃i:Int,cbF ms t=some (i,i+1))->∀H',Same H H'->E (.ref N) none H')) (_:∀i:Nat,cbF ms t=some ((i:Int),((i+2:Nat):Int))->∀(t':Addr) (H':Hp),Same H H'->TabF H' (.ref t') (ts.set n0 (ms.take (i+1)++ms.drop (i+2))) tie->Q (.ref t') H')
theorem qQy{t i:Int}(h:cbF ms t=some (i,j)):j=i+1\/j=i+2:=by
 unfold cbF at h;cases hn:nbF ms t with
 |none=>rw[hn]at h;cases h
 |some r=>
  obtain⟨x,y⟩:=r;rw[hn]at h;dsimp only at h;split at h
  . cases h
    unfold nbF at hn;split at hn
    . split at hn
      . cases hn
      . cases hn
        split <;> omega
    . cases hn
  . cases h
theorem qH7(T:Tx K mg a):FnOk P w K mg base (CXR P w) 6 a.A67 a.B67 ["table","deed"] (qH4 a.k_NoPlace):=by
 refine oX T.D67.F qCi λ_ _ _ _ H vs Q _ hr h _ Y=>?_;obtain⟨tz,dz,ts,tie,n0,ms,t,rfl,hP,hms,hd,kb,kk⟩:=h;apply Y;refine⟨_,(qD (qZ 2 qCi.nd (jP qo (qI (pv 0)) (qI (pv 1)) (λ_ _=>rfl)))
  (qD (qZ 3 qCi.nd (qJ T.D32 (ja T) hr rfl (qA (pv 2) (qA (qI (pv 1)) qB))))
  (qD (qc (PW.pt (xh (wZ (qA7 (pv 3))) (ju (qL jW (qI (pv 3)) (qQ qm (qI (pv 3)) qG) (qR _))))) (qF (zN rfl rfl T.c_NoPlace T.x_NoPlace (qA qN qB))) qO)
  (qF (qM (qJ T.D53 (j6 T) hr rfl (qA (pv 0) (qA (qI (pv 1)) (qA (qQ vH (zO vU (pv 2) wA (zZ (qQ qm (qI (pv 3)) qG))) (zO vU (pv 2) (zZ (qI (pv 3))) wA)) qB))))))))),?_⟩
 try dsimp only[jV,qk]
 have one:(1:Nat)<=sizeLine:=by decide
 have hT:=hP.tab;refine qS λ_ Y=>?_;obtain⟨tt,tl,ti,zs,e0,g2,g3,g4,g5⟩:=id hT;cases e0;have hzl:=g4.len;have hl8:=hP.len;have hml:=(hP.ok ms (YF hms)).2;have hnt:n0<ts.length:=(glt hms);have ez:zs[n0]?=some (zs[n0]'(by omega)):=YD (by omega);obtain⟨ms',z,hms',ezz,tT⟩:=g4.get ez;rw[hms]at hms';cases hms';apply Y;rw[ezz]at ez;have sm:∀j:Nat,j<=1000->j<=sizeLine:=λj h=>by have:=qi (n:=j) (by omega);omega
 refine(ixO g2 at0 (ixO hd qLi ⟨tl,_,_,_,O,O,SqL.of g3,q8 ez,?_⟩));refine⟨_,O,ixO hd qOe ⟨z,ms,_,O,tT,?_⟩⟩;cases hcb:cbF ms t with
 |none=>
  intro H1 e1;exact⟨_,O,_,O,qAk (by decide) (j5 ⟨one,kb (.inl hcb) H1 e1⟩)⟩
 |some rr=>
 obtain⟨ii,jj⟩:=rr;intro pz H1 e1 hpz;refine⟨_,O,_,O,je (λc=>YC c (by simp)) (λ_=>?_)⟩;rcases qQy hcb with hj|hj
 . refine(ixO hpz at1 (ixO hpz at0 ⟨_,_,O,O,O,_,O,qAk ?_ ⟨one,kb (.inr ⟨ii,by rw[hcb,hj]⟩) H1 e1⟩⟩))
   show decide (V.int jj=V.int (ii+1))=true;rw[hj];simp
 refine qS λ_ Y=>?_;obtain⟨hk1,_⟩:=zK hcb;obtain⟨i,n,p,q,r,s1,l1,rfl,hi⟩:=xG hk1;apply Y;obtain rfl:jj=((i+2:Nat):Int):=by omega
 have kk:=kk i hcb;refine(ixO hpz at1 (ixO hpz at0 ⟨_,_,O,O,O,_,O,?_⟩));rw[show decide (V.int ((i+2:Nat):Int)=(λi j=>V.int (i+j)) (i:Int) 1)=false from YW (by intro z;have:((i+2:Nat):Int)=(i:Int)+1:=V.int.inj z;omega)]
 refine jH ⟨_,O,ixO (e1 _ _ hd) qLi ?_⟩;refine qS λ_ Y=>?_;obtain⟨vs,hz,his⟩:=tT.same e1;apply Y;have hvl:=his.len;refine⟨_,O,ixO hpz at0 ⟨_,_,O,O,_,O,z,_,O,SqL.of hz,λa1' ha1=>?_⟩⟩;have ed:zd vs none (some ((i:Int)+1))=vs.take (i+1):=by rw[show (i:Int)+1=((i+1:Nat):Int) by omega];exact qHu vs (i+1)
 rw[ed];have v1:=qE ha1 (.lst (vs.take (i+1)));refine⟨_,O,ixO (v1 _ _ hpz) at1 ⟨_,O,z,_,O,SqL.of (v1 _ _ hz),λa4 ha4=>?_⟩⟩;rw[qGs];have v4:=qE ha4 (.lst (vs.drop (i+2)));refine⟨a1',a4,_,_,O,O,v4 _ _ qC,qC,sm _ (by rw[Yk,ZV];omega),λa5 ha5=>?_⟩;have v5:=qE ha5 (.lst (vs.take (i+1)++vs.drop (i+2)));have v15:=(v1.trans v4).trans v5;have e5:=e1.trans v15;have hisE:=his.ts (qV v15);exact⟨tz,a5,n0,ts,tie,ms.take (i+1)++ms.drop (i+2),O,hT.same e5,⟨_,qC,hisE.take.app hisE.drop⟩,hnt,by omega,λt' H6 e6 hN=>kk t' H6 (e5.trans e6) hN⟩
inductive qD0(vs:List V)(H:Hp)(Q:VK)(_:XK):Prop
|mk (v u:V) (n n':Str) (b l b' l':Int) (_:vs=[v,u]) (_:IsI H (.nest n b l) v) (_:IsI H (.nest n' b' l') u) (_:Q (.bl (decide (n=n') && decide (b'=b+l))) H)
theorem qEm(T:Tx K mg a):FnOk P w K mg base CX0 1 a.A63 a.B63 ["one","other"] qD0:=by
 refine oL T.D63.F qEf λ_ _ _ _ H _ Q _ hr h _ Y=>?_;obtain⟨v,u,n,n',b,l,b',l',rfl,⟨z,rfl,hz⟩,⟨y,rfl,hy⟩,kk⟩:=h;apply Y;refine⟨_,(qF (qM (zq (jn jW (qI (pv 0)) (qI (pv 1)) (qR _)) (vK (jn jW (qI (pv 1)) (qQ qm (qI (pv 0)) (qI (pv 0))) (qR _)))))),?_⟩
 try dsimp only[jV,qk]
 refine(ixO hz qC0 (ixO hy qC0 ⟨O,_,O,?_⟩));rw[qVv];by_cases hn:n=n'
 . rw[YX hn]at kk⊢
   refine j5 (ixO hy wO (ixO hz wO (ixO hz kf ⟨_,_,O,O,O,?_⟩)));have e:decide (V.int b'=V.int (b+l))=decide (b'=b+l):=by rw[Yv];simp
   show Q (.bl (decide (V.int b'=V.int (b+l)))) H;rw[e];exact kk
 . rw[YW hn]at kk⊢
   exact jH kk
theorem qFe(h:m.wd="clip"):∃n p q r s l,m=.clip n p q r s l:=by
 cases m with
 |clip n p q r s l=>exact⟨n,p,q,r,s,l,rfl⟩
 |gap=>exact YC (show ("gap":Str)="clip" from h) (by decide+kernel)
 |nest=>exact YC (show ("nest":Str)="clip" from h) (by decide+kernel)
 |mix=>exact YC (show ("mix":Str)="clip" from h) (by decide+kernel)
theorem qLb(h:m.wd="nest"):∃n b l,m=.nest n b l:=by
 cases m with
 |nest n b l=>exact⟨n,b,l,rfl⟩
 |gap=>exact YC (show ("gap":Str)="nest" from h) (by decide+kernel)
 |clip=>exact YC (show ("clip":Str)="nest" from h) (by decide+kernel)
 |mix=>exact YC (show ("mix":Str)="nest" from h) (by decide+kernel)
noncomputable def qJ3:Im->Im->Bool
 |.clip n p q r s l,.clip n' p' q' r' s' _=>goB n n' p q r s l p' q' r' s'
 |.nest n b l,.nest n' b' _=>decide (n=n') && decide (b'=b+l)
 |_,_=>false
theorem vV(h:qJ3 m m'=true):(∃n p q r s l n' p' q' r' s' l',m=.clip n p q r s l/\m'=.clip n' p' q' r' s' l')\/∃n b l n' b' l',m=.nest n b l/\m'=.nest n' b' l':=by cases m <;> cases m' <;> first|cases h|exact .inl ⟨_,_,_,_,_,_,_,_,_,_,_,_,rfl,rfl⟩|exact .inr ⟨_,_,_,_,_,_,rfl,rfl⟩
def ImH:Im->Prop
 |.clip _ p q r s l=>Bn 700 p q r s/\l.natAbs<2 ^ 700
 |_=>True
inductive qHa(vs:List V)(H:Hp)(Q:VK)(_:XK):Prop
|mk (z:Addr) (v:V) (ms:List Im) (b:Bool) (_:vs=[.ref z,v]) (_:Tr H z ms) (_:((v=.non/\b=false)\/∃(pz:Addr) (i j:Nat) (m m':Im),v=.ref pz/\H pz=some (.tup [.int (i:Int),.int (j:Int)])/\ms[i]?=some m/\ms[j]?=some m'/\ImH m/\b=qJ3 m m')) (_:∀H',Same H H'->Q (.bl b) H')
theorem qH3(T:Tx K mg a):FnOk P w K mg base CX0 6 a.A64 a.B64 ["track","places"] qHa:=by
 refine oL T.D64.F qAf λ_ _ _ s H vs _ _ hr h _ Y=>?_;obtain⟨z,v,ms,b,rfl,⟨vs,hz,his⟩,hv,kk⟩:=h;apply Y;refine⟨_,(qD (qc (wZ (qA7 (pv 1))) (qF (qM kL)) qO)
  (qD (qZ 2 qAf.nd (jP qo (pv 0) (qI (pv 1)) (λ_ _=>rfl)))
  (qD (qZ 3 qAf.nd (jP qo (pv 0) (qI (pv 1)) (λ_ _=>rfl)))
  (qD (qc (PW.pt (zn (qL jW (qI (pv 2)) qN (qR _)) (xX (qL jW (qI (pv 3)) qN (qR _))))) (qF (qM (qJ T.D17 (qOi T) hr rfl (qA (pv 2) (qA (pv 3) qB))))) qO)
  (qF (qM (zq (jn jW (qI (pv 2)) qN (qR _)) (zq (jn jW (qI (pv 3)) qN (qR _)) (vK (qJ T.D63 (qEm T) hr rfl (qA (pv 2) (qA (pv 3) qB)))))))))))),?_⟩
 try dsimp only[jV,qk]
 rcases hv with ⟨rfl,rfl⟩|⟨pz,i,j,m,m',rfl,hp,hi,hj,hb,rfl⟩
 . exact⟨_,O,_,O,qAk (by decide) (kk _ (Same.refl _))⟩
 refine qS λ_ Y=>?_;obtain⟨va,hva,Ia⟩:=his.get' hi;obtain⟨vb,hvb,Ib⟩:=his.get' hj;obtain⟨za,xa,rfl,hza,a0,_⟩:=Ia.opn;obtain⟨zb,xb,rfl,hzb,b0,_⟩:=Ib.opn;apply Y;have k0:=kk H (Same.refl _);refine⟨_,O,_,O,je (λc=>YC c (by simp)) (λ_=>?_)⟩;refine⟨_,O,ixO hp at0 ⟨z,_,_,_,O,O,SqL.of hz,q8 hva,?_⟩⟩;refine⟨_,O,ixO hp at1 ⟨z,_,_,_,O,O,SqL.of hz,q8 hvb,?_⟩⟩;have dw:∀{x:Im} {w:Str},x.wd=w->decide (V.str x.wd=V.str w)=true:=λh=>by rw[h];simp
 have dn:∀{x:Im} {w:Str},x.wd≠w->decide (V.str x.wd=V.str w)=false:=λh=>by rw[qVv];exact YW h
 have cn:("clip":Str)≠"nest":=by decide+kernel
 have nc:("nest":Str)≠"clip":=by decide+kernel
 have fin:¬(m.wd="clip"/\m'.wd="clip")->¬(m.wd="nest"/\m'.wd="nest")->qJ3 m m'=false:=λh1 h2=>by cases m <;> cases m' <;> first|rfl|exact YC ⟨rfl,rfl⟩ h1|exact YC ⟨rfl,rfl⟩ h2
 have last:¬(m.wd="clip"/\m'.wd="clip")->m.wd≠"nest"->qJ3 m m'=false:=λh1 h2=>fin h1 λz=>h2 z.1;by_cases h1:m.wd="clip"
 . refine(ixO hza a0 ⟨O,_,O,qAk (dw h1) ?_⟩)
   by_cases h2:m'.wd="clip"
   . refine(ixO hzb b0 ⟨O,_,O,qAk (dw h2) ?_⟩)
     refine qS λ_ Y=>?_;obtain⟨n,p,q,r,s1,l,rfl⟩:=qFe h1;obtain⟨n',p',q',r',s2,l',rfl⟩:=qFe h2;apply Y;exact⟨_,O,_,O,_,_,n,n',p,q,r,s1,l,p',q',r',s2,l',O,qGx Ia,qGx Ib,hb.1,hb.2,λH1 e1=>kk H1 e1⟩
   . refine(ixO hzb b0 ⟨O,_,O,qAl (dn h2) ?_⟩)
     rw[last (λz=>h2 z.2) (by rw[h1];exact cn)]at k0;exact(ixO hza a0 ⟨O,_,O,qAl (dn (by rw[h1];exact cn)) k0⟩)
 . refine(ixO hza a0 ⟨O,_,O,qAl (dn h1) (jH ?_)⟩)
   by_cases h3:m.wd="nest"
   . refine(ixO hza a0 ⟨O,_,O,qAk (dw h3) ?_⟩)
     by_cases h4:m'.wd="nest"
     . refine(ixO hzb b0 ⟨O,_,O,qAk (dw h4) ?_⟩)
       refine qS λ_ Y=>?_;obtain⟨n,b,l,rfl⟩:=qLb h3;obtain⟨n',b',l',rfl⟩:=qLb h4;apply Y;exact⟨_,O,_,O,_,_,n,n',b,l,b',l',O,Ia,Ib,k0⟩
     . rw[fin (λz=>h1 z.1) (λz=>h4 z.2)]at k0
       exact(ixO hzb b0 ⟨O,_,O,qAl (dn h4) k0⟩)
   . rw[last (λz=>h1 z.1) h3]at k0
     exact(ixO hza a0 ⟨O,_,O,qAl (dn h3) k0⟩)
noncomputable def glue:Im->Im->Im
 |.clip n p q r s l,m'=>.clip n p q r s (l+m'.l)
 |.nest n b l,m'=>.nest n b (l+m'.l)
 |m,_=>m
noncomputable def wX(ms:List Im)(t:Int):Option (List Im):=match nbF ms t with
 |none=>none
 |some (i,j)=>match ms[i.toNat]?,ms[j.toNat]? with
  |some m,some m'=>if qJ3 m m'=true then some (ms.take i.toNat++[glue m m']++ms.drop (j.toNat+1))else none
  |_,_=>none
theorem qGo:∀(ms:List Im) (b:Int) (i:Nat) (t:Int) (j:Nat) (d:Int),jt b i ms t=some (j,d)->j<i+ms.length
 |[],_,_,_,_,_,h=>by cases h
 |m::ms,b,i,t,j,d,h=>by
  rw[jt]at h;rw[YE];split at h
  . cases h;omega
  . have:=qGo ms _ _ _ _ _ h;omega
theorem qVz{t i:Int}(h:nbF ms t=some (i,j)):∃k:Nat,j=(k:Int)/\k<ms.length/\i<j:=by
 unfold nbF at h;split at h
 . rename_i k d hi
   split at h
   . cases h
   . cases h
     have:=qGo _ _ _ _ _ _ hi;exact⟨k,O,by omega,by split <;> omega⟩
 . cases h
inductive qI3(N M:Addr)(vs:List V)(H:Hp)(Q:VK)(E:XK):Prop
|mk (tz dz:Addr) (ts:List (List Im)) (tie:List Int) (n0:Nat) (ms:List Im) (t:Int) (_:vs=[.ref tz,.ref dz]) (_:TabG H tz ts tie n0) (_:ts[n0]?=some ms) (_:H dz=some (.tup [.str "heal",.int (n0:Int),.int t])) (_:(∀m∈ms,ImH m)) (_:(∀i j,nbF ms t=some (i,j)->0<=i)) (_:(wX ms t=none->∀H',Same H H'->E (.ref N) none H')) (_:∀r,wX ms t=some r->(jJ ts (chF tie (n0:Int) false) t t=true->∀H',Same H H'->E (.ref M) none H')/\(jJ ts (chF tie (n0:Int) false) t t=false->∀(t':Addr) (H':Hp),Same H H'->TabF H' (.ref t') (ts.set n0 r) tie->Q (.ref t') H'))
theorem qTd{v':V}(hc:qJ3 m m'=true)(h:IsI H m v)(h':IsI H m' v'):∃(za zb:Addr) (xa xb:List V) (l l':Int),v=.ref za/\v'=.ref zb/\H za=some (.tup xa)/\H zb=some (.tup xb)/\atI xa (-1)=some (.int l)/\atI xb (-1)=some (.int l')/\¬(HT.sIx xa.length 0 none=0/\HT.sIx xa.length xa.length (some (-1))=xa.length)/\(zd xa none (some (-1))).length<=4/\zd xa none (some (-1))≠[]/\∀(H':Hp) (t:Addr),Same H H'->H' t=some (.tup (zd xa none (some (-1))++[.int (l+l')]))->IsI H' (glue m m') (.ref t):=by
 rcases vV hc with ⟨n,p,q,r,s,l,n',p',q',r',s',l',rfl,rfl⟩|⟨n,b,l,n',b',l',rfl,rfl⟩
 . obtain⟨za,x,y,rfl,hz,hx,hy⟩:=h
   obtain⟨zb,x',y',rfl,hz',_⟩:=h';exact⟨za,zb,_,_,l,l',O,O,hz,hz',O,O,by show ¬(HT.sIx 5 0 none=0/\HT.sIx 5 5 (some (-1))=5);decide,by show 4<=4;decide,List.cons_ne_nil _ _,λH' t e ht=>⟨t,x,y,O,ht,e _ _ hx,e _ _ hy⟩⟩
 . obtain⟨za,rfl,hz⟩:=h
   obtain⟨zb,rfl,hz'⟩:=h';exact⟨za,zb,_,_,l,l',O,O,hz,hz',O,O,by show ¬(HT.sIx 4 0 none=0/\HT.sIx 4 4 (some (-1))=4);decide,by show 3<=4;decide,List.cons_ne_nil _ _,λH' t e ht=>⟨t,O,ht⟩⟩
theorem qJm(T:Tx K mg a):FnOk P w K mg base (CXR P w) 7 a.A65 a.B65 ["table","deed"] (qI3 a.k_NoPlace a.k_Mixed):=by
 refine oX T.D65.F vz λ_ _ _ _ H vs _ _ hr h _ Y=>?_;obtain⟨tz,dz,ts,tie,n0,ms,t,rfl,hP,hms,hd,hIm,hpo,kb,kg⟩:=h;apply Y;refine⟨_,(qD (qZ 2 vz.nd (jP qo (qI (pv 0)) (qI (pv 1)) (λ_ _=>rfl)))
  (qD (qZ 3 vz.nd (qJ T.D31 (vI T) hr rfl (qA (pv 2) (qA (qI (pv 1)) qB))))
  (qD (qc (jr (jO (qJ T.D64 (qH3 T) hr rfl (qA (pv 2) (qA (pv 3) qB))))) (qF (zN rfl rfl T.c_NoPlace T.x_NoPlace (qA qN qB))) qO)
  (qD (jD (xM T.D61 (vx T) hr rfl (qA (pv 0) (qA (pv 1) qB))))
  (qD (qZ 4 vz.nd (jP qo (pv 2) (qI (pv 3)) (λ_ _=>rfl)))
  (qD (qZ 5 vz.nd (qQ qT6 (zO qWo (pv 4) wA (zZ (wS zI qG))) (qh (qA (qQ qm (jP qF9 (pv 4) (wS zI qG) (λ_ _=>rfl)) (jP qF9 (jP qo (pv 2) (qI (pv 3)) (λ_ _=>rfl)) (wS zI qG) (λ_ _=>rfl))) qB))))
  (qF (qM (qJ T.D53 (j6 T) hr rfl (qA (pv 0) (qA (qI (pv 1)) (qA (qQ vH (qQ vH (zO vU (pv 2) wA (zZ (qI (pv 3)))) (q9 (qA (pv 5) qB))) (zO vU (pv 2) (zZ (qQ qm (qI (pv 3)) qG)) wA)) qB)))))))))))),?_⟩
 try dsimp only[jV,qk]
 have one:(1:Nat)<=sizeLine:=by decide
 have a1:atI [V.str "heal",.int (n0:Int),.int t] 1=some (.int (n0:Int)):=rfl;have sm:∀j:Nat,j<=1000->j<=sizeLine:=λj h=>by have:=qi (n:=j) (by omega);omega
 refine qS λ_ Y=>?_;obtain⟨tt,tl,ti,zs,e0,g2,g3,g4,g5⟩:=id hP.tab;cases e0;have hzl:=g4.len;have hnt:=hP.nt;have ez:zs[n0]?=some (zs[n0]'(by omega)):=YD (by omega);obtain⟨ms',z,hms',ezz,tT⟩:=g4.get ez;rw[hms]at hms';cases hms';rw[ezz]at ez;obtain⟨hMB,hM1⟩:=hP.ok ms (YF hms);apply Y;refine(ixO g2 at0 (ixO hd qLi ⟨tl,_,_,_,O,O,SqL.of g3,q8 ez,?_⟩));refine⟨_,O,ixO hd qOe ⟨z,ms,_,O,tT,?_⟩⟩;unfold wX at kb kg;cases hnb:nbF ms t with
 |none=>
  rw[hnb]at kb;intro H1 e1;exact⟨_,O,_,O,z,_,ms,false,O,tT.same e1,.inl ⟨O,O⟩,λH2 e2=>⟨false,O,j5 ⟨one,kb rfl H2 (e1.trans e2)⟩⟩⟩
 |some rr=>
 refine qS λ_ Y=>?_;obtain⟨ii,jj⟩:=rr;obtain⟨k,rfl,hk,hij⟩:=qVz hnb;have hi0:=hpo _ _ hnb;obtain⟨i,rfl⟩:∃i:Nat,ii=(i:Int):=⟨ii.toNat,by omega⟩;obtain⟨m,hi⟩:∃m,ms[i]?=some m:=⟨_,YD (by omega)⟩;obtain⟨m',hj⟩:∃m,ms[k]?=some m:=⟨_,YD hk⟩;apply Y;rw[hnb]at kb kg;dsimp only at kb kg;rw[YQ,YQ,hi,hj]at kb kg;dsimp only at kb kg;intro pz H1 e1 hpz;refine⟨_,O,_,O,z,_,ms,qJ3 m m',O,tT.same e1,.inr ⟨pz,i,k,m,m',O,hpz,hi,hj,hIm m (YF hi),O⟩,λH2 e2=>⟨_,O,?_⟩⟩;have e12:=e1.trans e2;cases hcan:qJ3 m m' with
 |false=>
  rw[hcan]at kb;exact j5 ⟨one,kb rfl H2 e12⟩
 |true=>
 rw[hcan]at kg;obtain⟨kM,kQ⟩:=kg _ rfl;refine jH ⟨_,O,_,O,tz,dz,ts,tie,n0,.hel t,O,hP.same e12,e12 _ _ hd,λht H3 e3=>kM ht H3 (e12.trans e3),λht H3 e3=>?_⟩;have kQ:=kQ ht;have e13:=e12.trans e3;have hpz3:=(e2.trans e3) _ _ hpz;refine qS λ_ Y=>?_;obtain⟨vs,hz,his⟩:=tT.same e13;have hvl:=his.len;obtain⟨va,hva,Ia⟩:=his.get' hi;obtain⟨vb,hvb,Ib⟩:=his.get' hj;obtain⟨za,zb,xa,xb,l,l',rfl,rfl,hza,hzb,am1,bm1,num1,hcl,hne,hgl⟩:=qTd hcan Ia Ib;apply Y;refine⟨_,O,ixO hpz3 at0 ⟨z,_,_,_,O,O,SqL.of hz,q8 hva,?_⟩⟩;refine⟨_,O,1,O,_,O,za,_,O,SqT.of hza,num1,λt ht=>?_⟩;have y1:=qE ht (.tup (zd xa none (some (-1))));refine⟨_,O,1,O,za,_,_,_,O,O,SqT.of (y1 _ _ hza),am1,_,O,ixO (y1 _ _ hpz3) at1 ⟨z,_,_,_,O,O,SqL.of (y1 _ _ hz),q8 hvb,1,O,zb,_,_,_,O,O,SqT.of (y1 _ _ hzb),bm1,_,_,O,O,one,λt2 ht2=>?_⟩⟩;have y2:=qE ht2 (.tup [.int (l+l')]);refine⟨t,t2,_,_,O,O,SqT.of (y2 _ _ qC),SqT.of qC,hne,sm _ (by show (zd xa none (some (-1))).length+1<=1000;omega),λz=>YC z (by simp),λ_ t3 ht3=>?_⟩;have y3:=qE ht3 (.tup (zd xa none (some (-1))++[.int (l+l')]));have y13:=(y1.trans y2).trans y3;have IW:=hgl _ t3 y13 qC;change _;generalize upd (upd (upd H3 t (.tup (zd xa none (some (-1))))) t2 (.tup [.int (l+l')])) t3 (.tup (zd xa none (some (-1))++[.int (l+l')]))=H4 at y13 IW;have e4:=e13.trans y13;refine⟨_,O,ixO (e4 _ _ hd) a1 ?_⟩;refine⟨_,O,ixO (y13 _ _ hpz3) at0 ⟨_,O,z,_,O,SqL.of (y13 _ _ hz),λa1' ha1=>?_⟩⟩;have v1:=qE ha1 (.lst (zd vs none (some (i:Int))));refine⟨_,O,one,λa2' ha2=>?_⟩;have v2:=qE ha2 (.lst [.ref t3]);have c1:=ku vs none (some (i:Int));have c2:=ku vs (some ((k:Int)+1)) none;refine⟨a1',a2',_,_,O,O,v2 _ _ qC,qC,sm _ (by show (zd vs none (some (i:Int))).length+1<=1000;omega),λa3 ha3=>?_⟩;have v3:=qE ha3 (.lst (zd vs none (some (i:Int))++[.ref t3]));have v13:=(v1.trans v2).trans v3;refine⟨_,O,z6 rfl (SqT.of ((y13.trans v13) _ _ hpz3)) at1 ⟨_,_,O,O,_,O,z,_,O,SqL.of ((y13.trans v13) _ _ hz),λa4 ha4=>?_⟩⟩;have v4:=qE ha4 (.lst (zd vs (some ((k:Int)+1)) none));refine⟨a3,a4,_,_,O,O,v4 _ _ qC,qC,sm _ (by rw[YN];show (zd vs none (some (i:Int))).length+1+_<=1000;omega),λa5 ha5=>?_⟩;have v5:=qE ha5 (.lst (zd vs none (some (i:Int))++[.ref t3]++zd vs (some ((k:Int)+1)) none));have v15:=(v13.trans v4).trans v5;have e5:=e4.trans v15;have ed:zd vs (some ((k:Int)+1)) none=vs.drop (k+1):=by rw[show (k:Int)+1=((k+1:Nat):Int) by omega];exact qGs vs (k+1)
 have hisE:=(his.ts (qV y13)).ts (qV v15);have IWE:=IW.ts (qV v15);have kE:(upd (upd (upd (upd (upd H4 a1' (.lst (zd vs none (some (i:Int))))) a2' (.lst [.ref t3])) a3 (.lst (zd vs none (some (i:Int))++[.ref t3]))) a4 (.lst (zd vs (some ((k:Int)+1)) none))) a5 (.lst (zd vs none (some (i:Int))++[.ref t3]++zd vs (some ((k:Int)+1)) none))) a5=some (.lst (zd vs none (some (i:Int))++[.ref t3]++zd vs (some ((k:Int)+1)) none)):=qC;change _;generalize (upd (upd (upd (upd (upd H4 a1' (.lst (zd vs none (some (i:Int))))) a2' (.lst [.ref t3])) a3 (.lst (zd vs none (some (i:Int))++[.ref t3]))) a4 (.lst (zd vs (some ((k:Int)+1)) none))) a5 (.lst (zd vs none (some (i:Int))++[.ref t3]++zd vs (some ((k:Int)+1)) none)))=HB at e5 hisE IWE kE;rw[qHu,ed]at kE;exact⟨tz,a5,n0,ts,tie,ms.take i++[glue m m']++ms.drop (k+1),rfl,hP.tab.same e5,⟨_,kE,(hisE.take.app (.one IWE)).app hisE.drop⟩,hnt,by have:=hP.len;omega,λt' H6 e6 hN=>kQ t' H6 (e5.trans e6) hN⟩
inductive Res where
 |place
 |mixed
 |short (M:Int)
 |good (ts:List (List Im))
inductive De where
 |hel (t:Int)
 |mix (t l:Int)
 |unm (t:Int)
 |rol (w:Str) (t b:Int)
 |chg (d:Dk)
def DeAt(H:Hp)(dz:Addr)(n:Nat):De->Prop
 |.hel t=>H dz=some (.tup [.str "heal",.int (n:Int),.int t])
 |.mix t l=>H dz=some (.tup [.str "mix",.int (n:Int),.int t,.int l])
 |.unm t=>H dz=some (.tup [.str "unmix",.int (n:Int),.int t])
 |.rol w t b=>Wd3 w/\H dz=some (.tup [.str w,.int (n:Int),.int t,.int b])
 |.chg d=>DAt H dz (n:Int) d/\∀t,d≠ .hel t
theorem DeAt.same{H H':Hp}{dz:Addr}{n:Nat}{d:De}(e:Same H H')(h:DeAt H dz n d):DeAt H' dz n d:=by
 cases d with
 |rol w t b=>exact⟨h.1,e _ _ h.2⟩
 |chg d=>exact⟨h.1.same e,h.2⟩
 |_=>exact e _ _ h
def DeOk(H:Hp)(rd:Addr)(ms:List Im):De->Prop
 |.hel t=>0<=t/\(∀m∈ms,ImH m)/\∀i j,nbF ms t=some (i,j)->0<=i
 |.mix t l=>0<=t/\1<=l
 |.unm t=>0<=t
 |.rol _ t b=>0<=t/\b.natAbs<=1000000
 |.chg d=>(∃t,d=.cut t/\0<=t/\qv ms t=false)\/DOk H rd ms d
theorem DeOk.same{H H':Hp}{rd:Addr}{ms:List Im}{d:De}(e:Same H H')(h:DeOk H rd ms d):DeOk H' rd ms d:=by
 cases d with
 |chg d=>exact h.imp id (DOk.same e)
 |_=>exact h
noncomputable def wiB(ms:List Im):Dk->Bool
 |.cut t=>qv ms t
 |_=>true
noncomputable def kH(rl:Rls)(ts:List (List Im))(tie:List Int)(n:Nat)(ms:List Im):De->Res
 |.hel t=>match wX ms t with
  |none=>.place
  |some ms'=>if jJ ts (chF tie (n:Int) false) t t=true then .mixed else .good (ts.set n ms')
 |.mix t l=>match cbF ms t with
  |none=>.place
  |some (i,j)=>if j=i+1 then (match mmF rl ms t with
   |none=>.place
   |some M=>if M<l then .short M else .good (ts.set n (ms.take (i.toNat+1)++[.mix l]++ms.drop (i.toNat+1))))else .place
 |.unm t=>match cbF ms t with
  |none=>.place
  |some (i,j)=>if j=i+1 then .place else .good (ts.set n (ms.take (i.toNat+1)++ms.drop (i.toNat+2)))
 |.rol w t b=>match plF w ms t with
  |none=>.place
  |some is=>if is.any (hmB ms)=true then .mixed else if wb b<=qHd rl ms w is b then .good (ts.set n (qB6 ms w is b))else .short (sgM b (qHd rl ms w is b))
 |.chg d=>if wiB ms d=true then (if jJ ts (chF tie (n:Int) d.push) d.t d.hi=true then .mixed else .good (vN ts d (n:Int) (chF tie (n:Int) d.push)))else .place
noncomputable def De.t:De->Int
 |.hel t=>t
 |.mix t _=>t
 |.unm t=>t
 |.rol _ t _=>t
 |.chg d=>d.t
def DdX(_:W.Frag)(H:Hp)(rd dz:Addr)(rl:Rls)(ts:List (List Im))(tie:List Int)(r:Res):Prop:= ∃(n:Nat) (ms:List Im) (d:De),ts[n]?=some ms/\DeAt H dz n d/\DeOk H rd ms d/\r=kH rl ts tie n ms d
inductive qFd(K:W.Frag)(N M S:Addr)(vs:List V)(H:Hp)(Q:VK)(E:XK):Prop
|mk (tz dz rd:Addr) (rl:Rls) (ts:List (List Im)) (tie:List Int) (r:Res) (_:vs=[.ref tz,.ref dz,.ref rd]) (_:TabD H tz rd rl ts tie) (_:DdX K H rd dz rl ts tie r) (_:(r=.place->∀H',Same H H'->E (.ref N) none H')) (_:(r=.mixed->∀H',Same H H'->E (.ref M) none H')) (_:(∀m,r=.short m->∀(dx:Addr) (H':Hp),Same H H'->H' dx=some (.xd [("most",.int m)])->E (.ref S) (some dx) H')) (_:(∀ts',r=.good ts'->∀(t':Addr) (H':Hp),Same H H'->TabF H' (.ref t') ts' tie->Q (.ref t') H'))
theorem qT1{t i:Int}(h:cbF ms t=some (i,j)):∃k:Nat,i=(k:Int)/\(j=((k+1:Nat):Int)\/j=((k+2:Nat):Int)):=by obtain⟨k,_,_,_,_,_,_,rfl,_⟩:=xG (zK h).1;exact⟨k,rfl,by have:=qQy h;omega⟩
structure DeW(H:Hp)(dz:Addr)(n:Nat)(d:De)(xs:List V)(w:Str):Prop where
 hd:H dz=some (.tup xs)
 a1:atI xs 1=some (.int (n:Int))
 nc:qXx xs w d.t
 nw:¬Wd3 w
 t0:0<=d.t
noncomputable def De.k:De->Nat
 |.hel _=>0
 |.mix .. =>1
 |.unm _=>2
 |.chg _=>3
 |.rol .. =>4
def KW(w:Str)(k:Nat):Prop:=(w="heal"↔k=0)/\(w="mix"↔k=1)/\(w="unmix"↔k=2)
instance (w:Str) (k:Nat):Decidable (KW w k):=by unfold KW;infer_instance
theorem qSz{d:De}(h:DeAt H dz n d)(ho:DeOk H rd ms d)(hr:d.k≠4):∃xs w,DeW H dz n d xs w/\KW w d.k:=by
 have no:∀{w x y:Str} {p:Prop},w≠x/\w≠y->w=x\/w=y->p:=λh1 h2=>h2.elim (λe=>YC e h1.1) (λe=>YC e h1.2);have fin:∀{xs:List V} {w:Str},(¬Wd3 w/\KW w d.k)->H dz=some (.tup xs)->atI xs 1=some (.int (n:Int))->0<=d.t->qXx xs w d.t->∃xs w,DeW H dz n d xs w/\KW w d.k:=λ{xs w} h1 h2 h3 h4 h5=>⟨xs,w,⟨h2,h3,h5,h1.1,h4⟩,h1.2⟩;have kw:((¬Wd3 "heal"/\KW "heal" 0)/\(¬Wd3 "mix"/\KW "mix" 1)/\(¬Wd3 "unmix"/\KW "unmix" 2))/\(¬Wd3 "cut"/\KW "cut" 3)/\(¬Wd3 "open"/\KW "open" 3)/\(¬Wd3 "close"/\KW "close" 3)/\(¬Wd3 "lift"/\KW "lift" 3)/\(¬Wd3 "lay_in"/\KW "lay_in" 3)/\(¬Wd3 "lay_over"/\KW "lay_over" 3):=by decide+kernel
 cases d with
 |rol w t b=>exact YC rfl hr
 |hel t=>exact fin kw.1.1 h rfl ho.1 ⟨rfl,rfl,no (by decide+kernel),no (by decide+kernel)⟩
 |mix t l=>exact fin kw.1.2.1 h rfl ho.1 ⟨rfl,rfl,λ_=>⟨l,rfl,ho.2⟩,no (by decide+kernel)⟩
 |unm t=>exact fin kw.1.2.2 h rfl ho ⟨rfl,rfl,no (by decide+kernel),no (by decide+kernel)⟩
 |chg d=>
  obtain⟨h,hne⟩:=h;cases d with
  |hel t=>exact YC rfl (hne t)
  |cut t=>exact fin kw.2.1 h rfl (ho.elim (λ⟨_,e,q,_⟩=>by cases e;exact q) (λq=>q.1)) ⟨rfl,rfl,no (by decide+kernel),no (by decide+kernel)⟩
  |opn t l=>
   have ho:=ho.elim (λ⟨_,e,_⟩=>by cases e) id;exact fin kw.2.2.1 h rfl ho.1 ⟨O,O,λ_=>⟨l,O,ho.2.2⟩,no (by decide+kernel)⟩
  |cls t u=>
   have ho:=ho.elim (λ⟨_,e,_⟩=>by cases e) id;exact fin kw.2.2.2.1 h rfl ho.1 ⟨O,O,no (by decide+kernel),λ_=>⟨u,O,ho.2.1⟩⟩
  |lft t u=>
   have ho:=ho.elim (λ⟨_,e,_⟩=>by cases e) id;exact fin kw.2.2.2.2.1 h rfl ho.1 ⟨O,O,no (by decide+kernel),λ_=>⟨u,O,ho.2.1⟩⟩
  |lin t m=>
   have ho:=ho.elim (λ⟨_,e,_⟩=>by cases e) id;obtain⟨v,h,_⟩:=h;exact fin kw.2.2.2.2.2.1 h rfl ho.1 ⟨O,O,no (by decide+kernel),no (by decide+kernel)⟩
  |lov t m=>
   have ho:=ho.elim (λ⟨_,e,_⟩=>by cases e) id;obtain⟨v,h,_⟩:=h;exact fin kw.2.2.2.2.2.2 h rfl ho.1 ⟨O,O,no (by decide+kernel),no (by decide+kernel)⟩
theorem zW(T:Tx K mg a):FnOk P w K mg base (CXR P w) 10 a.A70 a.B70 ["table","deed","reels"] (qFd K a.k_NoPlace a.k_Mixed a.k_Short):=by
 refine oX T.D70.F qJb λ_ _ _ _ _ _ _ _ hr h _ Y=>?_;obtain⟨tz,dz,rd,rl,ts,tie,r,rfl,hP,⟨n,ms,d,hm,hA,hO,hR⟩,k0,k1,k4,k2⟩:=h;apply Y;refine⟨_,(qD (qc (qL jF (qI (pv 1)) (xY (v:=.ref a.n_ROLLS) rfl T.g_ROLLS rfl) rfl) (qF (qM (xM T.D54 (qNp T) hr rfl (qA (pv 0) (qA (pv 1) (qA (pv 2) qB)))))) qO)
  (qD (jD (qJ T.D42 (wp T) hr rfl (qA (pv 0) (qA (qI (pv 1)) (qA (qI (pv 1)) qB)))))
  (qD (jD (qJ T.D59 (qC3 T) hr rfl (qA (pv 1) qB)))
  (qD (qc (qL jW (qI (pv 1)) qN (qR _)) (qF (qM (xM T.D65 (qJm T) hr rfl (qA (pv 0) (qA (pv 1) qB))))) qO)
  (qD (qc (qL jW (qI (pv 1)) qN (qR _)) (qF (qM (xM T.D66 (qKq T) hr rfl (qA (pv 0) (qA (pv 1) (qA (pv 2) qB)))))) qO)
  (qD (qc (qL jW (qI (pv 1)) qN (qR _)) (qF (qM (xM T.D67 (qH7 T) hr rfl (qA (pv 0) (qA (pv 1) qB))))) qO)
  (qD (jD (xM T.D62 (qDl T) hr rfl (qA (pv 0) (qA (pv 1) (qA (pv 2) qB)))))
  (qF (qM (qJ T.D69 (qIx T) hr rfl (qA (pv 0) (qA (pv 1) qB)))))))))))),?_⟩
 try dsimp only[jV,qk]
 refine qS λ_ Y=>?_;obtain⟨tt,tl,ti,zs,e0,g2,g3,g4,g5⟩:=id hP.tab;cases e0;apply Y;have hzl:=g4.len;have hn:=(glt hm);by_cases hk:d.k=4
 . cases d with
   |rol wd t b=>
    refine qS λ_ Y=>?_;obtain⟨hw,hd⟩:=hA;obtain⟨_,hml,hit⟩:=hP.ok ms (YF hm);apply Y;rw[kH]at hR;refine(ixO hd qBp ⟨a.n_ROLLS,_,O,.inr (T.sq_ROLLS _),O,O,true,xf (by rw[qMi];exact YX hw),j5 ?_⟩);refine⟨_,rfl,_,rfl,_,rfl,tz,dz,rd,ts,tie,wd,n,t,b,ms,rl,rfl,hP.tab,hd,hw,hm,hO.1,hO.2,by have:=hP.len;omega,by omega,hit,hP.re,λhp=>?_,λis hp=>⟨λhx=>?_,λhx=>⟨λhc=>?_,λhc=>?_⟩⟩⟩
    . rw[hp]at hR
      exact k0 hR
    . rw[hp]at hR
      dsimp only at hR;rw[YB hx]at hR;exact k1 hR
    . rw[hp]at hR
      dsimp only at hR;rw[YA (by rw[hx];decide),YB hc]at hR;exact k2 _ hR
    . rw[hp]at hR
      dsimp only at hR;rw[YA (by rw[hx];decide),YA hc]at hR;exact k4 _ hR
   |_=>cases hk
 refine qS λ_ Y=>?_;obtain⟨xs,w,hW,hKW⟩:=qSz hA hO hk;obtain⟨hd,a1,hN,hw,t0⟩:=id hW;apply Y;have a0:=hN.1;have a2:=hN.2.1;have hG:=hP.g hn;have dT:∀{x:Str},w=x->decide (V.str w=V.str x)=true:=λh=>by rw[h];simp
 have dF:∀{x:Str},w≠x->decide (V.str w=V.str x)=false:=λh=>by rw[qVv];exact YW h
 refine(ixO hd a0 ⟨a.n_ROLLS,_,O,.inr (T.sq_ROLLS _),O,O,false,xf (by rw[qMi];exact YW hw),jH ?_⟩);refine⟨_,O,ixO hd a1 (ixO hd a2 ⟨tz,tl,ti,zs,_,_,O,g2,g3,by omega,by omega,t0,?_⟩)⟩;refine⟨_,O,dz,xs,w,d.t,O,hd,hN,λH1 e1=>?_⟩;have hG1:=hG.same e1;have hA1:=hA.same e1;refine(ixO (e1 _ _ hd) a0 ⟨O,_,O,je (λc=>?_) (λc=>?_)⟩)
 . obtain⟨t,rfl⟩:∃t,d=.hel t:=by
    have:=hKW.1.mp (by simpa using c);cases d with
    |hel t=>exact⟨t,rfl⟩
    |_=>cases this
   refine qS λ_ Y=>?_;obtain⟨_,hIm,hpo⟩:=hO;apply Y;refine⟨_,O,_,O,tz,dz,ts,tie,n,ms,t,O,hG1,hm,hA1,hIm,hpo,λh H2 e2=>?_,λms' h=>⟨λht H2 e2=>?_,λht t' H2 e2 hN=>?_⟩⟩
   . rw[kH]at hR
     rw[h]at hR;exact k0 hR H2 (e1.trans e2)
   . rw[kH]at hR
     rw[h]at hR;dsimp only at hR;rw[ht,YB rfl]at hR;exact k1 hR H2 (e1.trans e2)
   . rw[kH]at hR
     rw[h]at hR;dsimp only at hR;rw[ht,YA (by decide)]at hR;exact k2 _ hR t' H2 (e1.trans e2) hN
 have n0:d.k≠0:=λz=>c (dT (hKW.1.mpr z));refine(ixO (e1 _ _ hd) a0 ⟨O,_,O,je (λc=>?_) (λc=>?_)⟩)
 . obtain⟨t,l,rfl⟩:∃t l,d=.mix t l:=by
    have:=hKW.2.1.mp (by simpa using c);cases d with
    |mix t l=>exact⟨t,l,rfl⟩
    |_=>cases this
   have hit:=(hP.ok ms (YF hm)).2.2;refine⟨_,O,_,O,_,O,tz,dz,rd,ts,tie,n,ms,t,l,rl,O,hG1,hm,hA1,hit,hP.re.same e1,λh H2 e2=>?_,λi M hc hM=>⟨λhlt dx H2 e2 hx=>?_,λhle t' H2 e2 hN=>?_⟩⟩
   . refine k0 ?_ H2 (e1.trans e2)
     rw[hR];rw[kH];rcases h with h|⟨x,y,h,hxy⟩
     . rw[h]
     . rw[h]
       dsimp only;rw[YA hxy]
   . refine k4 M ?_ dx H2 (e1.trans e2) hx
     rw[hR];rw[kH];rw[hc];dsimp only;rw[YB (by omega),hM];dsimp only;rw[YB hlt]
   . refine k2 _ ?_ t' H2 (e1.trans e2) hN
     rw[hR];rw[kH];rw[hc];dsimp only;rw[YB (by omega),hM];dsimp only;rw[YA (by omega),YQ]
 have n1:d.k≠1:=λz=>c (dT (hKW.2.1.mpr z));refine(ixO (e1 _ _ hd) a0 ⟨O,_,O,je (λc=>?_) (λc=>?_)⟩)
 . obtain⟨t,rfl⟩:∃t,d=.unm t:=by
    have:=hKW.2.2.mp (by simpa using c);cases d with
    |unm t=>exact⟨t,rfl⟩
    |_=>cases this
   refine⟨_,O,_,O,tz,dz,ts,tie,n,ms,t,O,hG1,hm,hA1,λh H2 e2=>?_,λi hc t' H2 e2 hN=>?_⟩
   . refine k0 ?_ H2 (e1.trans e2)
     rw[hR];rw[kH];rcases h with h|⟨x,h⟩
     . rw[h]
     . rw[h]
       dsimp only;rw[YB rfl]
   . refine k2 _ ?_ t' H2 (e1.trans e2) hN
     rw[hR];rw[kH];rw[hc];dsimp only;rw[YA (by omega),YQ]
 have n2:d.k≠2:=λz=>c (dT (hKW.2.2.mpr z));obtain⟨d',rfl⟩:∃d',d=.chg d':=by
  cases d with
  |chg d=>exact⟨d,rfl⟩
  |hel=>exact YC rfl n0
  |mix=>exact YC rfl n1
  |unm=>exact YC rfl n2
  |rol=>exact YC rfl hk
 rw[kH]at hR;rcases id hO with ⟨t,rfl,h0,hwi⟩|hO'
 . rw[YA (by show ¬qv ms t=true;rw[hwi];decide)]at hR
   exact⟨_,rfl,_,rfl,_,rfl,tz,dz,rd,ts,tie,n,ms,0,rfl,hG1,hm,.cut0 hA1.1 hwi,λ_ H2 e2=>k0 hR H2 (e1.trans e2),(λhc=>by cases hc),λhc=>by cases hc⟩
 have hwi:wiB ms d'=true:=by
  cases d' with
  |cut t=>exact hO'.2.2
  |_=>rfl
 rw[YB hwi]at hR;refine⟨_,O,_,O,_,O,tz,dz,rd,ts,tie,n,ms,_,O,hG1,hm,(ChO.ok hA.1 hO' rfl).same e1,λhc=>?_,λhc H2 e2=>?_,λhc H2 e2=>?_⟩
 . split at hc <;> cases hc
 . split at hc
   . rename_i ht
     rw[YB ht]at hR;exact k1 hR H2 (e1.trans e2)
   . cases hc
 . split at hc
   . cases hc
   . rename_i ht
     rw[YA ht]at hR;have e12:=e1.trans e2;exact⟨_,O,_,O,tz,dz,rd,ts,tie,n,d',ms,O,hG.same e12,hA.1.same e12,hO'.same e12,λt' H3 e3 hN=>k2 _ hR t' H3 (e12.trans e3) hN⟩
theorem DdX.mix{K:W.Frag}{H:Hp}{rd dz:Addr}{rl:Rls}{ts:List (List Im)}{tie:List Int}{n i:Nat}{t l M:Int}{ms:List Im}{r:Res}(hd:H dz=some (.tup [.str "mix",.int (n:Int),.int t,.int l]))(hm:ts[n]?=some ms)(h0:0<=t)(hl:1<=l)(hc:cbF ms t=some ((i:Int),((i+1:Nat):Int)))(hM:mmF rl ms t=some M)(hr:r=if M<l then .short M else .good (ts.set n (ms.take (i+1)++[.mix l]++ms.drop (i+1)))):DdX K H rd dz rl ts tie r:=by refine⟨n,ms,.mix t l,hm,hd,⟨h0,hl⟩,?_⟩;rw[hr,kH,hc];dsimp only;rw[YB (show ((i+1:Nat):Int)=(i:Int)+1 by omega),hM];dsimp only;rw[YQ]
inductive qFr(vs:List V)(H:Hp)(Q:VK)(_:XK):Prop
|mk (c n:Int) (_:vs=[.int c,.int n]) (_:0<=n) (_:n<=400) (_:∀(z:Addr) (xs:List Int) (H':Hp),Same H H'->H z=none->H' z=some (.lst (xs.map V.int))->xs.length=n.toNat->(∀x∈xs,0<=x/\x<10000000019)->Q (.ref z) H')
theorem wj(T:Tx K mg a):FnOk P w K mg base CX0 1 a.A78 a.B78 ["_law_cell","_law_size"] qFr:=by
 refine oL T.D78.F jN λ_ _ _ _ H _ _ _ hr h _ Y=>?_;obtain⟨c,n,rfl,n0,n1,kk⟩:=h;apply Y;refine⟨_,(qD (qZ 2 jN.nd (q9 qB))
  (qD (qc (qL qG5 (pv 0) (qQ qQw qG qG) (qR _)) (qD (qZ 3 jN.nd (qQ qj (pv 0) qG))
  (qD (xj PassesOwn.never rfl (vi rfl T.b_range (qA (pv 1) qB)) (jX (i:=4) jN.nd rfl (Or.inl rfl)) (qD (jD (wT F.plainAttrs_list F.slot_list_append F.type_list_append jZ (pv 2) (qA (qQ qq (pv 3) qG) qB)))
  (qF (qZ 3 jN.nd (qQ qj (pv 3) qG)))))
  (qF (qM (qWw (pv 2)))))) qO)
  (qD (qZ 5 jN.nd (qQ qq (qQ jK (qQ qm (qQ qq (pv 0) qG) qG) qG) qG))
  (qD (xj PassesOwn.never rfl (vi rfl T.b_range (qA (pv 1) qB)) (jX (i:=4) jN.nd rfl (Or.inl rfl)) (qD (qZ 5 jN.nd (qQ qm (qQ qm (qQ qq (qQ jK (pv 5) (qQ qm (qQ qj (pv 5) qG) qG)) qG) (pv 4)) qG))
  (qF (jD (wT F.plainAttrs_list F.slot_list_append F.type_list_append jZ (pv 2) (qA (pv 5) qB))))))
  (qF (qM (pv 2))))))),?_⟩
 try dsimp only[jV,qk]
 refine⟨sL0,λz hz=>?_⟩;have wz:∀(xs:List Int),Same H (upd H z (.lst (xs.map V.int))):=λxs=>qE hz _;refine⟨_,O,_,_,O,O,cpw (n:=40) (by decide),_,_,O,O,_,O,je (λ_=>?_) (λ_=>?_)⟩
 . refine⟨_,O,_,_,O,O,cdB (by decide) (by decide),?_⟩
   refine⟨_,O,n,O,by omega,by omega,qBo (n:=n.toNat) (λi σ H'=> ∃(xs:List Int) (r:Int) (o p:Option V),σ=[some (.int c),some (.int n),some (.ref z),some (.int r),o,p]/\H'=upd H z (.lst (xs.map V.int))/\xs.length=i/\(∀x∈xs,0<=x/\x<10000000019))
    ⟨[],_,none,none,rfl,rfl,rfl,(by simp)⟩ ?_ ?_⟩
   . rintro i σ H' hi hZ_
     refine qS λ_ Y=>?_;obtain⟨xs,r,o,p,rfl,rfl,hl,hx⟩:=hZ_;apply Y;have f:=fm r (show (0:Int)<10000000019 by decide);refine⟨_,O,.inl ⟨O,_,SqL.of qC⟩,_,O,_,_,O,O,nz,z,_,_,O,O,qC,(by rw[YS];exact qi (by omega)),?_⟩;refine⟨_,O,_,_,O,O,cdB (by decide) (by decide),xs++[r.fmod 10000000019],_,_,_,O,?_,?_,?_⟩
     . rw[qHb,Ys];rfl
     . rw[YN,hl];rfl
     . intro y hy
       rcases YO.mp hy with hy|hy
       . exact hx y hy
       . have e:y=r.fmod 10000000019:=by simpa using hy
         rw[e];exact f
   . rintro σ H' hZ_
     refine qS λ_ Y=>?_;obtain⟨xs,r,o,p,rfl,rfl,hl,hx⟩:=hZ_;apply Y;refine⟨_,O,z,_,O,SqL.of qC,λy hy=>?_⟩;rw[<-List.map_reverse];exact kk y xs.reverse _ ((wz xs).trans (qE hy _)) ((wz xs).free hy) qC (by rw[List.length_reverse];exact hl) (λx hx'=>hx x (List.mem_reverse.mp hx'))
 . have f0:=fm c (show (0:Int)<2147483647 by decide)
   refine⟨_,O,_,_,O,O,nz,_,_,O,O,_,_,O,O,cmR (by decide) (by decide),_,_,O,O,nz,?_⟩;have f1:=fm ((c.fmod 2147483647+1)*48271) (show (0:Int)<2147483647 by decide);refine⟨_,O,n,O,by omega,by omega,qBo (n:=n.toNat) (λi σ H'=> ∃(xs:List Int) (r:Int) (o p:Option V),σ=[some (.int c),some (.int n),some (.ref z),o,p,some (.int r)]/\H'=upd H z (.lst (xs.map V.int))/\xs.length=i/\(∀x∈xs,0<=x/\x<10000000019)/\0<=r/\r<2147484647)
    ⟨[],_,none,none,rfl,rfl,rfl,(by simp),f1.1,by omega⟩ ?_ ?_⟩
   . rintro i σ H' hi hZ_
     refine qS λ_ Y=>?_;obtain⟨xs,r,o,p,rfl,rfl,hl,hx,r0,r1⟩:=hZ_;apply Y;have f:=fm (r*(r.fdiv 1009+69621)) (show (0:Int)<2147483647 by decide);refine⟨_,O,_,O,_,_,O,O,cdB (by decide) (by decide),_,_,O,O,_,_,O,O,cmL (by omega) (by omega),_,_,O,O,nz,_,O,_,_,O,O,_,_,O,O,?_⟩;refine⟨_,O,.inl ⟨O,_,SqL.of qC⟩,_,O,z,_,_,O,O,qC,(by rw[YS];exact qi (by omega)),?_⟩;refine⟨xs++[(r*(r.fdiv 1009+69621)).fmod 2147483647+(0+(i:Int))+1],_,_,_,O,?_,?_,?_,by omega,by omega⟩
     . rw[qHb,Ys];rfl
     . rw[YN,hl];rfl
     . intro y hy
       rcases YO.mp hy with hy|hy
       . exact hx y hy
       . have e:y=(r*(r.fdiv 1009+69621)).fmod 2147483647+(0+(i:Int))+1:=by simpa using hy
         rw[e];omega
   . rintro σ H' hZ_
     refine qS λ_ Y=>?_;obtain⟨xs,r,o,p,rfl,rfl,hl,hx,_,_⟩:=hZ_;apply Y;exact⟨_,O,kk z xs _ (wz xs) hz qC hl hx⟩
def SB(z:Addr)(H H':Hp):Prop:= ∀b u,b≠z->H b=some u->H' b=some u
theorem SB.refl(z:Addr)(H:Hp):SB z H H:=λ_ _ _ h=>h
theorem SB.trans{H1 H2:Hp}(a:SB z H H1)(b:SB z H1 H2):SB z H H2:=λc u n h=>b c u n (a c u n h)
theorem jk(e:Same H H'):SB z H H':=λb u _ h=>e b u h
theorem qMy:SB z H (upd H z o):=λb u n h=>by rw[qg n];exact h
theorem SB.ts(e:SB z H H')(h:H z=some (.lst xs)):TS H H':=λb ys hb=>e b _ (qQv hb h (by intro q;cases q)) hb
inductive qFq(vs:List V)(H:Hp)(Q:VK)(_:XK):Prop
|mk (t b:Int) (_:vs=[.int t,.int b]) (_:0<b) (_:b.natAbs<2 ^ 8000) (_:qS2 H Q (xI t b) (jq t b))
theorem wt(T:Tx K mg a):FnOk P w K mg base CX0 1 a.A79 a.B79 ["_law_top","_law_bottom"] qFq:=by
 refine oL T.D79.F xq λ_ _ _ s H _ Q _ hr h _ Y=>?_;obtain⟨t,b,rfl,hb,hb2,k⟩:=h;apply Y;refine⟨_,(qD (qZ 2 xq.nd (qd qAw rfl T.b_abs rfl (qA (pv 0) qB)))
  (qD (qZ 3 xq.nd (pv 1))
  (qD (qM3 PassesOwn.never (qL kD (pv 3) qG (qR _)) (qF (qV0 (i:=2) (j:=3) rfl xq.nd rfl rfl (by decide) rfl rfl (qA (pv 3) (qA (qQ qq (pv 2) (pv 3)) qB)) rfl)))
  (qF (qM (qh (qA (qQ qj (pv 0) (pv 2)) (qA (qQ qj (pv 1) (pv 2)) qB)))))))),?_⟩
 try dsimp only[jV,qk]
 refine⟨_,O,t,O,_,O,?_⟩;refine qNh (λσ H'=>H'=H/\∃x y:Int,σ=[some (.int t),some (.int b),some (.int x),some (.int y)]/\0<=x/\0<=y/\Int.gcd x y=Int.gcd t b)
  (λσ _=>match σ with|[_,_,_,some (.int y)]=>y.natAbs|_=>0) ⟨rfl,_,_,rfl,?_,by omega,?_⟩ ?_ ?_
 . split <;> omega
 . have e1:(if t<0 then-t else t)=((t.natAbs:Nat):Int):=by split <;> omega
   rw[e1];rfl
 . rintro σ H1 ⟨rfl,x,y,rfl,h0,h1,e⟩
   refine⟨_,O,O,_,O,?_⟩;refine je (λc=>?_) (λc=>?_)
   . have hy:y≠0:=by simpa using c
     refine⟨_,O,_,O,_,O,_,_,O,O,hy,_,_,O,⟨O,y,x.fmod y,O,h1,Int.fmod_nonneg_of_pos x (by omega),?_⟩,?_⟩
     . rw[qL9];exact e
     . exact qQo x y hy
   . have hy:y=0:=by simpa using c
     refine qS λ_ Y=>?_;subst hy;have e2:x=sg t b:=by unfold sg;rw[YA (by omega),<-e,Int.gcd_zero_right];omega
     obtain⟨d1,d2⟩:=qM6 (t:=t) (b:=b) (by omega) hb2;apply Y;have q':qS2 H1 Q (t.fdiv x) (b.fdiv x):=by rw[e2];exact k
     exact⟨_,O,_,O,_,_,O,O,(by rw[e2];exact d1),_,O,_,O,_,_,O,O,(by rw[e2];exact d2),sL2,q'⟩
 . rintro σ H1 Q1 Q2 hq h
   refine qS λ_ Y=>?_;obtain⟨v,e,s,k,hk,z⟩:=h;apply Y;exact⟨v,e,s,k,hk,hq _ _ z⟩
theorem qDp{zx:Addr}{ys:List Int}{x:Int}(h:H zx=some (.lst ((ys++[x]).map V.int)))(q:∀H',SB zx H H'->H' zx=some (.lst (ys.map V.int))->(∀b,b≠zx->H' b=H b)->Q (.int x) H'):qZb (.ref zx) [] H Q:=by
 refine⟨zx,_,.int x,O,O,h,?_,?_⟩
 . rw[Ys,YN,YS]
   simp
 . have e:((ys++[x]).map V.int).dropLast=ys.map V.int:=by rw[Ys];simp
   rw[e];exact q _ qMy qC λb hb=>qg hb
theorem xF{α:Type}{xs:List α}(h:xs.length=n+1):∃ys x,xs=ys++[x]/\ys.length=n:=by
 have hne:xs≠[]:=by intro q;rw[q]at h;simp at h
 exact⟨xs.dropLast,xs.getLast hne,(List.dropLast_concat_getLast hne).symm,by rw[List.length_dropLast,h];rfl⟩
def RE(H:Hp)(re:Addr)(A:Int):Prop:=Rd H re (.dK [(Sum.inr "a",.int A),(Sum.inr "reelb",.int 1000000000)])/\60<=A/\A<360
theorem qYu(e:SB z H H'){a:Addr}{u:HO}(n:a≠z)(h:Rd H a u):Rd H' a u:=by
 rcases h with h|⟨o,h⟩
 . exact .inl (e _ _ n h)
 . exact .inr ⟨o,e _ _ n h⟩
theorem RE.ne{re:Addr}(h:RE H re A)(hz:H z=some (.lst xs)):re≠z:=by
 rcases h.1 with q|⟨o,q⟩
 . exact qQv q hz (by intro q;cases q)
 . exact qQv q hz (by intro q;cases q)
theorem RE.sb(e:SB z H H'){re:Addr}(n:re≠z)(h:RE H re A):RE H' re A:=⟨qYu e n h.1,h.2⟩
theorem RE.same(e:Same H H'){re:Addr}(h:RE H re A):RE H' re A:=⟨qPo e h.1,h.2⟩
theorem RE.ga{re:Addr}(h:RE H re A):qSx H re (.str "a") (some (.int A)):=.inl ⟨_,Sum.inr "a",h.1,rfl,rfl⟩
theorem RE.gb{re:Addr}(h:RE H re A):qSx H re (.str "reelb") (some (.int 1000000000)):=.inl ⟨_,Sum.inr "reelb",h.1,rfl,rfl⟩
noncomputable def stF(lo rs to bo len:Int):Int:=if to<0 then lo*7*bo+rs*bo-7*(len-1)*to else lo*7*bo+rs*bo
noncomputable def qCu(i:Int):Int:=if i<0 then-i else i
def CF(A:Int)(m:Im):Prop:= ∃(nm:Str) (N lo rs to bo len:Int),((nm="a"/\N=A)\/(nm="reelb"/\N=1000000000))/\1<=len/\len<=10/\ -6<=to/\to<=6/\1<=bo/\bo<=5/\0<=lo/\lo+(((len-1)*qCu to).fdiv bo+1)<N/\0<=rs/\rs<7/\
 m=.clip nm (xI (stF lo rs to bo len) (7*bo)) (jq (stF lo rs to bo len) (7*bo)) (xI to bo) (jq to bo) len
theorem qMg{x y X Y:Int}(hx: -X<=x/\x<=X)(hy: -Y<=y/\y<=Y)(hX:0<=X)(hY:0<=Y): -(X*Y)<=x*y/\x*y<=X*Y:=by
 have h1:(x*y).natAbs<=X.natAbs*Y.natAbs:=by rw[Int.natAbs_mul];exact Nat.mul_le_mul (by omega) (by omega)
 have h2:((X.natAbs*Y.natAbs:Nat):Int)=X*Y:=by
  rw[Int.natCast_mul];have e1:(X.natAbs:Int)=X:=by omega
  have e2:(Y.natAbs:Int)=Y:=by omega
  rw[e1,e2]
 omega
theorem qWj{rs len:Int}(l0:0<=lo)(l1:lo<=1000000000)(r0:0<=rs)(r1:rs<7)(t0: -6<=to)(t1:to<=6)(b0:1<=bo)(b1:bo<=5)(n0:1<=len)(n1:len<=10):(stF lo rs to bo len).natAbs<2 ^ 60:=by have h1:=qMg (x:=lo*7) (y:=bo) (X:=7000000000) (Y:=5) ⟨by omega,by omega⟩ ⟨by omega,by omega⟩ (by decide) (by decide);have h2:=qMg (x:=rs) (y:=bo) (X:=7) (Y:=5) ⟨by omega,by omega⟩ ⟨by omega,by omega⟩ (by decide) (by decide);have h3:=qMg (x:=7*(len-1)) (y:=to) (X:=63) (Y:=6) ⟨by omega,by omega⟩ ⟨by omega,by omega⟩ (by decide) (by decide);unfold stF;split <;> omega
noncomputable def rlE(A:Int):Rls:=λn=>if n="a" then some A else if n="reelb" then some 1000000000 else none
theorem CF.it(h:CF A m)(hA0:60<=A)(hA:A<360):ItR (rlE A) m/\ImB m/\1<=m.mo/\m.mo<=10:=by
 obtain⟨nm,N,lo,rs,to,bo,len,hn,n0,n1,t0,t1,b0,b1,l0,l1,r0,r1,rfl⟩:=h;have hf:0<=((len-1)*qCu to).fdiv bo:=by
  have:=qz (p:=(len-1)*qCu to) (q:=bo) (by omega);have h0:0<=(len-1)*qCu to:=Int.mul_nonneg (by omega) (by unfold qCu;split <;> omega);have:¬(((len-1)*qCu to).fdiv bo+1<=0):=λq=>by have:=Ym (c:=bo) q (by omega);omega
  omega
 have lo1:lo<=1000000000:=by rcases hn with ⟨_,rfl⟩|⟨_,rfl⟩ <;> omega
 have hs:=qWj l0 lo1 r0 r1 t0 t1 b0 b1 n0 n1;have p110:∀{i:Int},i.natAbs<2 ^ 60->i.natAbs<2 ^ 110:=λh=>YR h (Yh (by decide) (by decide));have e60:(100:Nat)<2 ^ 60:=by decide
 have g1:qS6 110 (xI (stF lo rs to bo len) (7*bo)) (jq (stF lo rs to bo len) (7*bo)):=qMb (by omega) (p110 hs) (p110 (by omega));have g2:qS6 110 (xI to bo) (jq to bo):=qMb (by omega) (p110 (by omega)) (p110 (by omega));have hr:rlE A nm=some N:=by
  unfold rlE;rcases hn with ⟨rfl,rfl⟩|⟨rfl,rfl⟩
  . rw[YB rfl]
  . rw[YA (by decide+kernel),YB rfl]
 have hc:Rc nm (xI (stF lo rs to bo len) (7*bo)) (jq (stF lo rs to bo len) (7*bo)) (xI to bo) (jq to bo) len (rlE A) N:=⟨g1,g2,Yd (show len.natAbs<=10 by omega) (by decide),n0,hr,Yd (show N.natAbs<=1000000000 by rcases hn with ⟨_,rfl⟩|⟨_,rfl⟩ <;> omega) (by decide)⟩;refine⟨λn p q r s l e=>?_,hc.bn.mono (m:=700),n0,n1⟩;cases e;exact⟨N,hc⟩
inductive qIt(vs:List V)(H:Hp)(Q:VK)(_:XK):Prop
|mk (zx re:Addr) (xs:List Int) (A sz:Int) (_:vs=[.ref zx,.ref re,.int sz]) (_:H zx=some (.lst (xs.map V.int))) (_:6<=xs.length) (_:RE H re A) (_:1<=sz) (_:sz<=10) (_:∀(v:V) (m:Im) (xs':List Int) (H':Hp),SB zx H H'->H' zx=some (.lst (xs'.map V.int))->xs'.length+6=xs.length->CF A m->IsI H' m v->Q v H')
theorem qCt(T:Tx K mg a):FnOk P w K mg base CX0 2 a.A80 a.B80 ["_law_xs","_law_reels_here","_law_size"] qIt:=by
 refine oL T.D80.F jB λcdv A _ s H _ _ _ hr h _ Y=>?_;obtain⟨zx,re,xs,A',sz,rfl,hz,hl,hre,hs1,hs2,kk⟩:=h;have hu:=hr.units;have hu1:(A.deeper (PyProof.Rows.envOfC (Str.ofString "_law_clip") (qH vE) s.heap.objs.size a.A80 cdv)).units+1<cLine:=by omega
 obtain⟨n,hn⟩:∃n,xs.length=n+6:=⟨xs.length-6,by omega⟩;obtain⟨y1,x1,rfl,l1⟩:=xF (n:=n+5) (by omega);obtain⟨y2,x2,rfl,l2⟩:=xF (n:=n+4) l1;obtain⟨y3,x3,rfl,l3⟩:=xF (n:=n+3) l2;obtain⟨y4,x4,rfl,l4⟩:=xF (n:=n+2) l3;obtain⟨y5,x5,rfl,l5⟩:=xF (n:=n+1) l4;obtain⟨y6,x6,rfl,l6⟩:=xF (n:=n) l5;apply Y;have nre:=hre.ne hz;refine⟨_,(qD (qZ 3 jB.nd (jP qo (q9 (qA qN (qA qN qB))) (qQ qq (qQ qj (jo F.plainAttrs_list F.slot_list_pop F.type_list_pop jv (pv 0)) qG) qG) (λ_ _=>rfl)))
  (qD (qZ 4 jB.nd (qQ qm qG (qQ qq (qQ qj (jo F.plainAttrs_list F.slot_list_pop F.type_list_pop jv (pv 0)) qG) (pv 2))))
  (qD (qZ 5 jB.nd (qQ jR (qQ qq (qQ qj (jo F.plainAttrs_list F.slot_list_pop F.type_list_pop jv (pv 0)) qG) qG) qG))
  (qD (qZ 6 jB.nd (qQ qm qG (qQ qq (qQ qj (jo F.plainAttrs_list F.slot_list_pop F.type_list_pop jv (pv 0)) qG) qG)))
  (qD (qZ 7 jB.nd (qQ qm (qQ qj (qQ jK (qQ jR (pv 4) qG) (qd qAw rfl T.b_abs rfl (qA (pv 5) qB))) (pv 6)) qG))
  (qD (xV (qc (qL qG5 (pv 7) (qD8 hu1 (pv 1) (pv 3) (λ_ _=>rfl)) (qR _)) (qD (qZ 5 jB.nd qG)
  (qF (qZ 7 jB.nd qG))) qO))
  (qD (qZ 8 jB.nd (qQ qq (jo F.plainAttrs_list F.slot_list_pop F.type_list_pop jv (pv 0)) (qQ jR (qD8 hu1 (pv 1) (pv 3) (λ_ _=>rfl)) (pv 7))))
  (qD (qZ 9 jB.nd (qQ qq (qQ qj (jo F.plainAttrs_list F.slot_list_pop F.type_list_pop jv (pv 0)) qG) qG))
  (qD (qZ 10 jB.nd (qQ qm (qQ jK (qQ jK (pv 8) qG) (pv 6)) (qQ jK (pv 9) (pv 6))))
  (qD (xV (qc (qL wN (pv 5) qG (qR _)) (qF (qZ 10 jB.nd (qQ jR (pv 10) (qQ jK (qQ jK qG (qQ jR (pv 4) qG)) (pv 5))))) qO))
  (qF (qM (qh (qA qN (qA (pv 3) (qA (qJ T.D79 (wt T) hr rfl (qA (pv 10) (qA (qQ jK qG (pv 6)) qB))) (qA (qJ T.D79 (wt T) hr rfl (qA (pv 5) (qA (pv 6) qB))) (qA (pv 4) qB)))))))))))))))))),?_⟩
 try dsimp only[jV,qk]
 refine⟨sL2,λld hld=>?_⟩;have w0:=qE hld (.lst [.str "a",.str "reelb"]);have hz0:=w0 _ _ hz;have nld:ld≠zx:=(qW hz hld).symm;refine⟨_,O,.inl ⟨O,_,SqL.of hz0⟩,qDp hz0 λH1 s1 hz1 k1=>?_⟩;have f1:=fm (x1.fdiv 3) (show (0:Int)<2 by decide);refine qS λ_ Y=>?_;obtain⟨v,hv,hor⟩:=at2 (x:=V.str "a") (y:=.str "reelb") f1.1 f1.2;apply Y;refine⟨_,_,O,O,cdB (by decide) (by decide),_,_,O,O,nz,ld,_,_,v,O,O,SqL.of (s1 _ _ nld qC),hv,?_⟩;have sb1:SB zx H H1:=(jk w0).trans s1;have re1:=hre.sb sb1 nre;refine qS λ_ Y=>?_;obtain⟨nm,N,rfl,hnm,hget⟩:∃(nm:Str) (N:Int),v=.str nm/\((nm="a"/\N=A')\/(nm="reelb"/\N=1000000000))/\∀{H':Hp},RE H' re A'->qSx H' re (.str nm) (some (.int N)):=by
  rcases hor with rfl|rfl
  . exact⟨"a",A',O,.inl ⟨O,O⟩,λh=>h.ga⟩
  . exact⟨"reelb",1000000000,O,.inr ⟨O,O⟩,λh=>h.gb⟩
 apply Y;have hN:60<=N/\N<=1000000000:=by have:=hre.2;rcases hnm with ⟨_,rfl⟩|⟨_,rfl⟩ <;> omega
 refine⟨_,O,.inl ⟨O,_,SqL.of hz1⟩,qDp hz1 λH2 s2 hz2 k2=>?_⟩;have f2:=fm (x2.fdiv 3) (show (0:Int)<sz by omega);refine⟨_,_,O,O,cdB (by decide) (by decide),_,O,_,_,O,O,(by omega),_,_,O,O,?_⟩;refine⟨_,O,.inl ⟨O,_,SqL.of hz2⟩,qDp hz2 λH3 s3 hz3 k3=>?_⟩;have f3:=fm (x3.fdiv 3) (show (0:Int)<13 by decide);refine⟨_,_,O,O,cdB (by decide) (by decide),_,_,O,O,nz,_,_,O,O,?_⟩;refine⟨_,O,.inl ⟨O,_,SqL.of hz3⟩,qDp hz3 λH4 s4 hz4 k4=>?_⟩;have f4:=fm (x4.fdiv 3) (show (0:Int)<5 by decide);refine⟨_,_,O,O,cdB (by decide) (by decide),_,_,O,O,nz,_,_,O,O,?_⟩;have sb4:SB zx H H4:=((sb1.trans s2).trans s3).trans s4;dsimp only;generalize hlen:1+(x2.fdiv 3).fmod sz=len;generalize hto:(x3.fdiv 3).fmod 13-6=to;generalize hbo:1+(x4.fdiv 3).fmod 5=bo;have n0:1<=len:=by omega
 have n1:len<=10:=by omega
 have t0: -6<=to:=by omega
 have t1:to<=6:=by omega
 have b0:1<=bo:=by omega
 have b1:bo<=5:=by omega
 refine⟨_,O,_,_,O,O,_,O,_,O,_,_,O,O,cmL (by omega) (by omega),_,O,_,_,O,O,cdB (by omega) (by omega),_,_,O,O,?_⟩;have ha:(if to<0 then-to else to)=qCu to:=rfl;rw[ha];have pos:∀i:Int,0<=i->0<=((len-1)*i).fdiv bo:=λi hi=>by
  have h1:=qz (p:=(len-1)*i) (q:=bo) (by omega);have h0:0<=(len-1)*i:=Int.mul_nonneg (by omega) hi;have:¬(((len-1)*i).fdiv bo+1<=0):=λq=>by have:=Ym (c:=bo) q (by omega);omega
  omega
 have abs0:∀i:Int,0<=qCu i:=λi=>by unfold qCu;split <;> omega
 refine⟨λσ' H'=>H'=H4/\∃to:Int,σ'=[some (.ref zx),some (.ref re),some (.int sz),some (.str nm),some (.int len),some (.int to),some (.int bo),some (.int (((len-1)*qCu to).fdiv bo+1)),none,none,none]/\ -6<=to/\to<=6/\((len-1)*qCu to).fdiv bo+1<N,?_,?_⟩
 . refine⟨_,O,_,O,_,O,re,_,O,hget (hre.sb sb4 nre),_,_,O,O,_,O,je (λ_=>?_) (λc=>?_)⟩
   . have ez:((len-1)*qCu 0).fdiv bo+1=1:=by have:qCu 0=0:=rfl;rw[this,Int.mul_zero,Int.zero_fdiv];rfl
     refine⟨O,0,?_,by decide,by decide,by rw[ez];omega⟩;rw[ez];rfl
   . exact⟨O,to,O,t0,t1,by simpa using c⟩
 rintro σ' H' ⟨rfl,to,rfl,t0,t1,hfar⟩;have hf0:=pos (qCu to) (abs0 to);refine⟨_,O,.inl ⟨O,_,SqL.of hz4⟩,qDp hz4 λH5 s5 hz5 k5=>?_⟩;have sb5:=sb4.trans s5;refine⟨_,O,_,O,re,_,O,hget (hre.sb sb5 nre),_,O,_,_,O,O,_,_,O,O,(by omega),?_⟩;have f5:=fm x5 (show (0:Int)<N-(((len-1)*qCu to).fdiv bo+1) by omega);dsimp only;generalize x5.fmod (N-(((len-1)*qCu to).fdiv bo+1))=lo at f5⊢;refine⟨_,O,.inl ⟨O,_,SqL.of hz5⟩,qDp hz5 λH6 s6 hz6 k6=>?_⟩;have sb6:=sb5.trans s6;have f6:=fm (x6.fdiv 3) (show (0:Int)<7 by decide);refine⟨_,_,O,O,cdB (by decide) (by decide),_,_,O,O,nz,?_⟩;dsimp only;generalize (x6.fdiv 3).fmod 7=rs at f6⊢;have m1:=qMg (x:=lo*7) (y:=bo) (X:=7000000000) (Y:=5) ⟨by omega,by omega⟩ ⟨by omega,by omega⟩ (by decide) (by decide);refine⟨_,O,_,_,O,O,cmR (by decide) (by decide),_,O,_,_,O,O,cmR (by omega) (by omega),_,O,_,O,_,_,O,O,cmR (by omega) (by omega),_,_,O,O,?_⟩;refine⟨λσ' H'=>H'=H6/\∃st:Int,σ'=[some (.ref zx),some (.ref re),some (.int sz),some (.str nm),some (.int len),some (.int to),some (.int bo),some (.int (((len-1)*qCu to).fdiv bo+1)),some (.int lo),some (.int rs),some (.int st)]/\st=stF lo rs to bo len,?_,?_⟩
 . refine⟨_,O,_,_,O,O,_,O,je (λc=>?_) (λc=>?_)⟩
   . have c':to<0:=by simpa using c
     refine⟨_,O,_,O,_,_,O,O,_,_,O,O,cmL (by decide) (by decide),_,O,_,_,O,O,cmR (by omega) (by omega),_,_,O,O,O,_,O,?_⟩;unfold stF;rw[YB c']
   . have c':¬to<0:=by simpa using c
     refine⟨O,_,O,?_⟩;unfold stF;rw[YA c']
 rintro σ' H' ⟨rfl,st,rfl,hst⟩;refine⟨_,O,_,O,_,O,_,_,O,O,cmL (by decide) (by decide),st,7*bo,O,by omega,?_,λp hp=>?_⟩
 . have:(7*bo).natAbs<2 ^ 6:=by omega
   exact YR this (Yh (by decide) (by decide))
 have w7:=qE hp (.tup [.int (xI st (7*bo)),.int (jq st (7*bo))]);refine⟨_,O,_,O,to,bo,O,by omega,?_,λq hq=>?_⟩
 . have:bo.natAbs<2 ^ 6:=by omega
   exact YR this (Yh (by decide) (by decide))
 have w8:=qE hq (.tup [.int (xI to bo),.int (jq to bo)]);refine⟨_,O,sL5,λu hu'=>?_⟩;have w9:=qE hu' (.tup [.str "clip",.str nm,.ref p,.ref q,.int len]);have w79:=(w7.trans w8).trans w9;refine kk _ (.clip nm (xI st (7*bo)) (jq st (7*bo)) (xI to bo) (jq to bo) len) y6 _ (sb6.trans (jk w79)) (w79 _ _ hz6) (by simp) ?_ (isC qC (w9 _ _ (w8 _ _ qC)) (w9 _ _ qC));exact⟨nm,N,lo,rs,to,bo,len,hnm,n0,n1,t0,t1,b0,b1,f5.1,by omega,f6.1,f6.2,by rw[hst]⟩
def TI(A:Int)(m:Im):Prop:=(∃l,m=.gap l/\1<=l/\l<=10)\/(∃b l,m=.nest "low" b l/\0<=b/\b<9/\1<=l/\l<=10)\/CF A m
def GG(ms:List Im):Prop:= ∀(i:Nat) (l l':Int),ms[i]?=some (.gap l)->ms[i+1]?=some (.gap l')->False
def qCv(ms:List Im):Prop:= ∀l,ms[ms.length-1]?≠some (.gap l)
theorem qKu(h:GG ms)(hl:qCv ms\/ ∀l,m≠ .gap l):GG (ms++[m]):=by
 intro i l l' h1 h2;have hi:i+1<(ms++[m]).length:=(glt h2);rw[YN,Yy]at hi;by_cases hc:i+1<ms.length
 . rw[ZC (by omega)]at h1
   rw[ZC hc]at h2;exact h i l l' h1 h2
 . have e:i+1=ms.length:=by omega
   rw[ZC (by omega)]at h1;rw[Yz (by omega),e,Nat.sub_self]at h2;have e2:m=.gap l':=by simpa using h2
   have e3:ms.length-1=i:=by omega
   rcases hl with hl|hl
   . exact hl l (by rw[e3];exact h1)
   . exact hl l' e2
theorem qX3(h:GG ms):GG ms.dropLast:=by intro i l l' h1 h2;have hi:=(glt h2);rw[List.length_dropLast]at hi;rw[List.getElem?_dropLast,YB (by omega)]at h1 h2;exact h i l l' h1 h2
theorem qV1{l:Int}(h:GG ms)(hl:ms[ms.length-1]?=some (.gap l)):qCv ms.dropLast:=by
 intro l' h1;have hi:=(glt h1);rw[List.length_dropLast]at hi h1;rw[List.getElem?_dropLast,YB (by omega)]at h1;have e:ms.length-1-1+1=ms.length-1:=by omega
 exact h _ l' l h1 (by rw[e];exact hl)
theorem qG1{y:Addr}(e:SB z H H')(h:H y=none):SB z H (upd H' y o):=λb u n hb=>by rw[qg (qW hb h)];exact e b u n hb
theorem qLh{vs:List V}(h:IsIs H ms vs)(hne:ms≠[]):∃v m,vs[vs.length-1]?=some v/\ms[ms.length-1]?=some m/\IsI H m v:=by
 have hl:0<ms.length:=List.length_pos_iff.mpr hne;have hi:vs.length-1<vs.length:=by rw[h.len];omega
 have ev:vs[vs.length-1]?=some vs[vs.length-1]:=YD hi;obtain⟨m,h1,h2⟩:=h.get ev;refine⟨_,m,ev,?_,h2⟩;rw[h.len]at h1;exact h1
inductive qH8(vs:List V)(H:Hp)(Q:VK)(_:XK):Prop
|mk (zx re:Addr) (xs:List Int) (A:Int) (_:vs=[.ref zx,.ref re,.int 10]) (_:H zx=some (.lst (xs.map V.int))) (_:36<=xs.length) (_:RE H re A) (_:∀(y:Addr) (ms:List Im) (xs':List Int) (H':Hp),SB zx H H'->H y=none->H' zx=some (.lst (xs'.map V.int))->xs.length<=xs'.length+36->Tr H' y ms->ms.length<=5->(∀m∈ms,TI A m)->GG ms->qCv ms->Q (.ref y) H')
theorem qGl(T:Tx K mg a):FnOk P w K mg base CX0 3 a.A81 a.B81 ["_law_xs","_law_reels_here","_law_size"] qH8:=by
 refine oL T.D81.F zM λ_ A _ _ H vs Q _ hr h _ Y=>?_;obtain⟨zx,re,xs,A',rfl,hz,hl,hre,kk⟩:=h;apply Y;have hu:=hr.units;have nre:=hre.ne hz;refine⟨_,(qD (qZ 3 zM.nd (q9 qB))
  (qD (xj PassesOwn.never rfl (vi rfl T.b_range (qA (qQ qq (qQ qj (jo F.plainAttrs_list F.slot_list_pop F.type_list_pop jv (pv 0)) qG) qG) qB)) (jX (i:=4) zM.nd rfl (Or.inl rfl)) (qD (qZ 5 zM.nd (qQ qq (qQ qj (jo F.plainAttrs_list F.slot_list_pop F.type_list_pop jv (pv 0)) qG) qG))
  (qF (qc (qNe (PW.pt (zn (qL jW (pv 5) qG (qR _)) (xX (PW.pt (xh (qL (qTk hu) (pv 3) (q9 qB) (qR _)) (ju (qL kD (qI (jP qo (pv 3) (wS zI qG) (λ_ _=>rfl))) qN (qR _))))))))) (qF (jD (wT F.plainAttrs_list F.slot_list_append F.type_list_append jZ (pv 3) (qA (qh (qA qN (qA (qQ qm qG (qQ qq (qQ qj (jo F.plainAttrs_list F.slot_list_pop F.type_list_pop jv (pv 0)) qG) (pv 2))) qB))) qB)))) (qF (qc (qL jW (pv 5) qG (qR _)) (qF (jD (wT F.plainAttrs_list F.slot_list_append F.type_list_append jZ (pv 3) (qA (qh (qA qN (qA qN (qA (qQ qq (qQ qj (jo F.plainAttrs_list F.slot_list_pop F.type_list_pop jv (pv 0)) qG) qG) (qA (qQ qm qG (qQ qq (qQ qj (jo F.plainAttrs_list F.slot_list_pop F.type_list_pop jv (pv 0)) qG) (pv 2))) qB))))) qB)))) (qF (jD (wT F.plainAttrs_list F.slot_list_append F.type_list_append jZ (pv 3) (qA (qJ T.D80 (qCt T) hr rfl (qA (pv 0) (qA (pv 1) (qA (pv 2) qB)))) qB))))))))))
  (qD (qc (qNe (PW.pt (zn (qL (qPf hu) (pv 3) (q9 qB) (qR _)) (xX (qL jW (qI (jP qo (pv 3) (wS zI qG) (λ_ _=>rfl))) qN (qR _)))))) (qF (jD (jo F.plainAttrs_list F.slot_list_pop F.type_list_pop jv (pv 3)))) qO)
  (qF (qM (pv 3)))))),?_⟩
 try dsimp only[jV,qk]
 refine⟨sL0,λy hy=>?_⟩;have w0:=qE hy (.lst []);have ny:y≠zx:=(qW hz hy).symm;refine qS λ_ Y=>?_;obtain⟨n,hn⟩:∃n,xs.length=n+1:=⟨xs.length-1,by omega⟩;obtain⟨y1,x1,rfl,l1⟩:=xF hn;apply Y;refine⟨_,O,.inl ⟨O,_,SqL.of (w0 _ _ hz)⟩,qDp (w0 _ _ hz) λH1 s1 hz1 k1=>?_⟩;have f1:=fm (x1.fdiv 3) (show (0:Int)<6 by decide);refine⟨_,_,O,O,cdB (by decide) (by decide),_,_,O,O,nz,_,O,by omega,by omega,qBo (n:=((x1.fdiv 3).fmod 6).toNat) (λi σ H'=> ∃(o1 o2:Option V) (ms:List Im) (vs:List V) (xs':List Int),σ=[some (.ref zx),some (.ref re),some (.int 10),some (.ref y),o1,o2]/\H' zx=some (.lst (xs'.map V.int))/\n<=xs'.length+7*i/\H' y=some (.lst vs)/\IsIs H' ms vs/\ms.length<=i/\(∀m∈ms,TI A' m)/\GG ms/\SB zx H H')
  ⟨none,none,[],[],y1,rfl,hz1,by omega,s1 _ _ ny qC,trivial,by simp,by simp,by intro i l l' h1;simp at h1,(jk w0).trans s1⟩ ?_ ?_⟩
 . rintro i σ H' hi hZ_
   refine qS λ_ Y=>?_;obtain⟨o1,o2,ms,vs,xs',rfl,hzx,hxl,hv,hiv,hml,hti,hgg,sb⟩:=hZ_;apply Y;refine qS λ_ Y=>?_;obtain⟨n',hn'⟩:∃n,xs'.length=n+7:=⟨xs'.length-7,by omega⟩;obtain⟨u1,p1,rfl,lu1⟩:=xF (n:=n'+6) (by omega);apply Y;have hvl:vs.length<=i:=by rw[hiv.len];exact hml
   refine⟨_,O,.inl ⟨O,_,SqL.of hzx⟩,qDp hzx λH2 s2 hz2 k2=>?_⟩;have hiv2:=hiv.ts (s2.ts hzx);have hv2:=s2 _ _ ny hv;have sb2:=sb.trans s2;refine⟨_,_,O,O,cdB (by decide) (by decide),_,_,O,O,nz,?_⟩;refine⟨λb H'=>Same H2 H'/\(b=true->qCv ms),?_,?_⟩
   . refine⟨_,O,O,_,O,je (λ_=>?_) (λ_=>⟨Same.refl _,by simp⟩)⟩
     refine⟨_,O,sL0,λen hen=>qXd ⟨vs,(qE hen _) _ _ hv2,hiv2.ts (qV (qE hen _))⟩ qC ⟨_,O,?_⟩⟩;have w3:=qE hen (.lst []);by_cases hne:ms=[]
     . have e:ms.isEmpty=true:=by rw[hne];rfl
       rw[e];exact j5 ⟨w3,λ_ l h=>by rw[hne]at h;simp at h⟩
     . have e:ms.isEmpty=false:=by
        cases ms with
        |nil=>exact YC rfl hne
        |cons=>rfl
       rw[e];refine jH ?_;refine qS λ_ Y=>?_;obtain⟨v,m,h1,h2,h4⟩:=qLh (hiv2.ts (qV w3)) hne;obtain⟨zi,xi,rfl,hzi,h0,_⟩:=h4.opn;apply Y;refine⟨_,O,_,O,y,_,_,_,O,O,SqL.of (w3 _ _ hv2),qM7 h1,zi,xi,_,_,O,O,SqT.of hzi,h0,O,_,O,w3,λc l q=>?_⟩;rw[h2]at q;have q:m=.gap l:=Yb q;subst q;revert c;show (!decide (V.str "gap"=V.str "gap"))=true->False;simp
   rintro b H3 ⟨w3,hb⟩;have hv3:=w3 _ _ hv2;have hiv3:=hiv2.ts (qV w3);have hz3:=w3 _ _ hz2;have sb3:=sb2.trans (jk w3);refine je (λcb=>?_) (λ_=>?_)
   . obtain⟨u2,p2,rfl,lu2⟩:=xF (n:=n'+5) lu1
     refine⟨_,O,.inl ⟨O,_,SqL.of hv3⟩,_,O,.inl ⟨O,_,SqL.of hz3⟩,qDp hz3 λH4 s4 hz4 k4=>?_⟩;have f2:=fm (p2.fdiv 3) (show (0:Int)<10 by decide);refine⟨_,_,O,O,cdB (by decide) (by decide),_,O,_,_,O,O,nz,_,_,O,O,sL2,λg hg=>?_⟩;have w5:=qE hg (.tup [.str "gap",.int (1+(p2.fdiv 3).fmod 10)]);have hv5:=w5 _ _ (s4 _ _ ny hv3);refine⟨y,_,_,O,O,hv5,qi (by omega),?_⟩;refine⟨_,_,ms++[.gap (1+(p2.fdiv 3).fmod 10)],_,u2,O,?_,by omega,qC,(((hiv3.ts (s4.ts hz3)).ts (qV w5)).app (.one (isG qC))).ts (jx hv5),by simp;omega,?_,qKu hgg (.inl (hb cb)),qG1 ((sb3.trans s4).trans (jk w5)) hy⟩
     . rw[qg ny.symm];exact w5 _ _ hz4
     . intro m hm
       rcases YO.mp hm with hm|hm
       . exact hti m hm
       . have:m=.gap (1+(p2.fdiv 3).fmod 10):=by simpa using hm
         exact .inl ⟨_,this,by omega,by omega⟩
   . refine⟨_,O,O,_,O,je (λ_=>?_) (λ_=>?_)⟩
     . obtain⟨u2,p2,rfl,lu2⟩:=xF (n:=n'+5) lu1
       refine qS λ_ Y=>?_;obtain⟨u3,p3,rfl,lu3⟩:=xF (n:=n'+4) lu2;apply Y;refine⟨_,O,.inl ⟨O,_,SqL.of hv3⟩,_,O,.inl ⟨O,_,SqL.of hz3⟩,qDp hz3 λH4 s4 hz4 k4=>?_⟩;have f2:=fm (p2.fdiv 3) (show (0:Int)<9 by decide);refine⟨_,_,O,O,cdB (by decide) (by decide),_,_,O,O,nz,_,O,.inl ⟨O,_,SqL.of hz4⟩,qDp hz4 λH5 s5 hz5 k5=>?_⟩;have f3:=fm (p3.fdiv 3) (show (0:Int)<10 by decide);refine⟨_,_,O,O,cdB (by decide) (by decide),_,O,_,_,O,O,nz,_,_,O,O,sL4,λg hg=>?_⟩;have w5:=qE hg (.tup [.str "nest",.str "low",.int ((p2.fdiv 3).fmod 9),.int (1+(p3.fdiv 3).fmod 10)]);have hv5:=w5 _ _ (s5 _ _ ny (s4 _ _ ny hv3));refine⟨y,_,_,O,O,hv5,qi (by omega),?_⟩;refine⟨_,_,ms++[.nest "low" ((p2.fdiv 3).fmod 9) (1+(p3.fdiv 3).fmod 10)],_,u3,O,?_,by omega,qC,((((hiv3.ts (s4.ts hz3)).ts (s5.ts hz4)).ts (qV w5)).app (.one (isN qC))).ts (jx hv5),by simp;omega,?_,qKu hgg (.inr λl q=>nomatch q),qG1 (((sb3.trans s4).trans s5).trans (jk w5)) hy⟩
       . rw[qg ny.symm];exact w5 _ _ hz5
       . intro m hm
         rcases YO.mp hm with hm|hm
         . exact hti m hm
         . have:m=.nest "low" ((p2.fdiv 3).fmod 9) (1+(p3.fdiv 3).fmod 10):=by simpa using hm
           exact .inr (.inl ⟨_,_,this,by omega,by omega,by omega,by omega⟩)
     . refine⟨_,O,.inl ⟨O,_,SqL.of hv3⟩,_,O,_,O,_,O,zx,re,u1,A',10,O,hz3,by omega,hre.sb sb3 nre,by decide,by decide,λv m u' H4 s4 hz4 hl4 hcf hI=>?_⟩
       have hv5:=s4 _ _ ny hv3;refine⟨y,_,_,O,O,hv5,qi (by omega),?_⟩;have hng:∀l,m≠ .gap l:=λl q=>by obtain⟨_,_,_,_,_,_,_,_,_,_,_,_,_,_,_,_,_,_,e⟩:=hcf;rw[q]at e;cases e
       refine⟨_,_,ms++[m],_,u',O,?_,by omega,qC,((hiv3.ts (s4.ts hz3)).app (.one hI)).ts (jx hv5),by simp;omega,?_,qKu hgg (.inr hng),qG1 (sb3.trans s4) hy⟩
       . rw[qg ny.symm];exact hz4
       . intro m' hm
         rcases YO.mp hm with hm|hm
         . exact hti m' hm
         . have:m'=m:=by simpa using hm
           rw[this];exact .inr (.inr hcf)
 rintro σ H' hZ_;refine qS λ_ Y=>?_;obtain⟨o1,o2,ms,vs,xs',rfl,hzx,hxl,hv,hiv,hml,hti,hgg,sb⟩:=hZ_;apply Y;have hm5:ms.length<=5:=by omega
 have hxl':(y1++[x1]).length<=xs'.length+36:=by rw[hn];omega
 refine⟨λb H2=>Same H' H2/\(b=true->∃l,ms[ms.length-1]?=some (.gap l))/\(b=false->qCv ms),?_,?_⟩
 . refine⟨_,O,sL0,λen hen=>qXz ⟨vs,(qE hen _) _ _ hv,hiv.ts (qV (qE hen _))⟩ qC ⟨_,O,?_⟩⟩
   have w3:=qE hen (.lst []);by_cases hne:ms=[]
   . have e:ms.isEmpty=true:=by rw[hne];rfl
     rw[e];exact jH ⟨w3,by simp,λ_ l h=>by rw[hne]at h;simp at h⟩
   . have e:ms.isEmpty=false:=by
      cases ms with
      |nil=>exact YC rfl hne
      |cons=>rfl
     rw[e];refine j5 ?_;refine qS λ_ Y=>?_;obtain⟨v,m,h1,h2,h4⟩:=qLh (hiv.ts (qV w3)) hne;obtain⟨zi,xi,rfl,hzi,h0,_⟩:=h4.opn;apply Y;refine⟨_,O,_,O,y,_,_,_,O,O,SqL.of (w3 _ _ hv),qM7 h1,zi,xi,_,_,O,O,SqT.of hzi,h0,O,_,O,w3,λc=>?_,λc l q=>?_⟩
     . obtain⟨l,rfl⟩:=xc (by simpa using c)
       exact⟨l,h2⟩
     . rw[h2]at q
       have q:m=.gap l:=Yb q;subst q;revert c;show decide (V.str "gap"=V.str "gap")=false->False;simp
 rintro b H2 ⟨w2,hb,hb'⟩;have hv2:=w2 _ _ hv;have hiv2:=hiv.ts (qV w2);refine je (λcb=>?_) (λcb=>⟨_,O,kk y ms xs' _ (sb.trans (jk w2)) hy (w2 _ _ hzx) hxl' ⟨_,hv2,hiv2⟩ hm5 hti hgg (hb' (Bool.eq_false_iff.mpr cb))⟩)
 . obtain⟨l,hl2⟩:=hb cb
   have hne:ms≠[]:=by intro q;rw[q]at hl2;simp at hl2
   refine qS λ_ Y=>?_;obtain⟨v,m,h1,h2,h4⟩:=qLh hiv2 hne;apply Y;refine⟨_,O,.inl ⟨O,_,SqL.of hv2⟩,y,_,v,O,O,hv2,h1,_,O,?_⟩;refine kk y ms.dropLast xs' _ (qG1 (sb.trans (jk w2)) hy) hy ?_ hxl' ⟨_,qC,hiv2.dl.ts (jx hv2)⟩ (by rw[List.length_dropLast];omega) (λm hm=>hti m (List.dropLast_subset _ hm)) (qX3 hgg) (qV1 hgg hl2);rw[qg ny.symm];exact w2 _ _ hzx
inductive qG0(vs:List V)(H:Hp)(Q:VK)(_:XK):Prop
|mk (c:Int) (_:vs=[.int c]) (_:∀(re:Addr) (A:Int) (H':Hp),Same H H'->H re=none->H' re=some (.dK [(Sum.inr "a",.int A),(Sum.inr "reelb",.int 1000000000)])->60<=A->A<360->Q (.ref re) H')
theorem qIf(T:Tx K mg a):FnOk P w K mg base CX0 1 a.A82 a.B82 ["_law_cell"] qG0:=by
 refine oL T.D82.F qHp λ_ _ _ _ _ _ _ _ hr h _ Y=>?_;obtain⟨c,rfl,kk⟩:=h;apply Y;refine⟨_,(qF (qM (qU2 (qM2 qN (qQ qm qG (qQ qq (pv 0) qG)) (qM2 qN (qQ qQw qG qG) qUu)) rfl rfl (by simp) (by decide)))),?_⟩
 try dsimp only[jV,qk]
 refine λre hre=>?_;have f:=fm c (show (0:Int)<300 by decide);refine⟨_,O,_,_,O,O,nz,_,_,O,O,_,_,O,O,cpw (n:=9) (by decide),?_⟩;refine⟨qC,[(Sum.inr "a",.int (60+c.fmod 300)),(Sum.inr "reelb",.int (10 ^ (9:Int).toNat))],O,(by show 2<=15;decide),?_⟩;rw[qHb];have em:∀x y:V,qGb [] [((Sum.inr ("a":Str):Key),x),(Sum.inr ("reelb":Str),y)]=[(Sum.inr ("a":Str),x),(Sum.inr ("reelb":Str),y)]:=λx y=>by rfl
 rw[em];have e9:(10:Int) ^ (9:Int).toNat=1000000000:=by decide
 rw[e9];exact kk re _ _ (qE hre _) hre qC (by omega) (by omega)
theorem qUo:∀(zs:List Im),(∀z∈zs,0<=z.mo)->0<=(zs.map Im.mo).sum:=λzs=>by
 induction zs with
 |nil=>intro _;simp
 |cons z zs ih=>intro h;have:=ih λy hy=>h y (by simp[hy]);have:=h z (by simp);rw[ZH,List.sum_cons];omega
theorem TI.mo{A:Int}{m:Im}(h:TI A m):1<=m.mo/\m.mo<=10:=by
 rcases h with ⟨l,rfl,h1,h2⟩|⟨b,l,rfl,_,_,h1,h2⟩|⟨nm,N,lo,rs,to,bo,len,_,h1,h2,_,_,_,_,_,_,_,_,rfl⟩
 . exact⟨h1,h2⟩
 . exact⟨h1,h2⟩
 . exact⟨h1,h2⟩
theorem TI.nm{A:Int}{m:Im}(h:TI A m):m.wd≠"mix":=by
 rcases h with ⟨l,rfl,h1,h2⟩|⟨b,l,rfl,_,_,h1,h2⟩|⟨nm,N,lo,rs,to,bo,len,_,h1,h2,_,_,_,_,_,_,_,_,rfl⟩
 . show ("gap":Str)≠"mix";decide+kernel
 . show ("nest":Str)≠"mix";decide+kernel
 . show ("clip":Str)≠"mix";decide+kernel
theorem qX9{P:Program}{w:World}{K:W.Frag}{mg:Str->Option Value}{base:Heap}{k:Nat}(F:FnOk P w K mg base (CXR P w) k f fd ps sp):FnOk P w K mg base CX0 k f fd ps (λvs H Q _=>sp vs H Q λ_ _ _=>False):=by
 refine⟨λvs H Q E h=>F.len _ _ _ _ h,λA outer s H args us vs Q E hr he hb hv hs=>codeAny_mono (F.run A outer s H args us vs Q (λ_ _ _=>False) hr he hb hv hs) λr s' hq=>?_⟩;cases r with
 |error e=>
  refine qS λ_ Y=>?_;obtain⟨_,_,_,_,_,_,_,_,_,q⟩:=hq;apply Y;exact q.elim
 |ok fl=>cases fl <;> exact hq
inductive qJs(K:W.Frag)(vs:List V)(H:Hp)(Q:VK)(_:XK):Prop
|mk (tz dz rd:Addr) (rl:Rls) (ts:List (List Im)) (tie:List Int) (ts':List (List Im)) (_:vs=[.ref tz,.ref dz,.ref rd]) (_:TabD H tz rd rl ts tie) (_:DdX K H rd dz rl ts tie (.good ts')) (_:∀(t':Addr) (H':Hp),Same H H'->TabF H' (.ref t') ts' tie->Q (.ref t') H')
theorem qCs(T:Tx K mg a):FnOk P w K mg base CX0 10 a.A70 a.B70 ["table","deed","reels"] (qJs K):=
 (qX9 (zW T)).imp λvs H Q E h=>by refine qS λ_ Y=>?_;obtain⟨tz,dz,rd,rl,ts,tie,ts',rfl,hP,hD,kk⟩:=h;apply Y;exact⟨tz,dz,rd,rl,ts,tie,_,rfl,hP,hD,(λh=>by cases h),(λh=>by cases h),(λm h=>by cases h),λts'' h=>by cases h;exact kk⟩
theorem RE.at{H:Hp}{re:Addr}{A:Int}(h:RE H re A):ReelsAt H re (rlE A):=by
 intro n N e;unfold rlE at e;split at e
 . rename_i hn;cases e;subst hn;exact⟨_,h.1,rfl⟩
 . split at e
   . rename_i hn;cases e;subst hn;exact⟨_,h.1,rfl⟩
   . cases e
def NLM(A:List Im):Prop:= ∀l,A.getLast?≠some (.mix l)
def NHM(A:List Im):Prop:= ∀l,A.head?≠some (.mix l)
theorem qK(m:Im)(ms:List Im):qY (m::ms)=m.mo+qY ms:=by simp[qY]
theorem qX(A B:List Im):qY (A++B)=qY A+qY B:=by simp[qY]
theorem qf:qY []=0:=rfl
theorem kK(m:Im)(A:List Im):(m::A).getLast?=A.getLast?.or (some m):=by
 cases A with
 |nil=>rfl
 |cons a A=>rw[List.getLast?_cons_cons];cases h:(a::A).getLast? with
  |none=>simp at h
  |some x=>rfl
def Nn(ms:List Im):Prop:= ∀m∈ms,0<=m.mo
theorem Nn.tail(h:Nn (m::ms)):Nn ms:=λx hx=>h x (by simp[hx])
theorem Nn.len(h:Nn ms):0<=qY ms:=qUo ms h
def Wf(m:Im):Prop:=match m with
 |.clip _ p q r s l=>0<q/\0<s/\Int.gcd p q=1/\1<=l
 |.nest _ _ l=>1<=l
 |.gap l=>1<=l
 |.mix l=>1<=l
theorem Wf.mo{m:Im}(h:Wf m):0<=m.mo:=by
 cases m with
 |clip n p q r s l=>have:1<=l:=h.2.2.2;show 0<=l;omega
 |nest n b l=>have h:1<=l:=h;show 0<=l;omega
 |gap l=>have h:1<=l:=h;show 0<=l;omega
 |mix l=>exact YH _
theorem jS(lo hi:Int):(qp m lo hi).mo=hi-lo:=by cases m <;> rfl
theorem zt(m:Im)(lo hi:Int):(qp m lo hi).wd≠"mix":=by
 cases m
 . show ("clip":Str)≠"mix";decide+kernel
 . show ("nest":Str)≠"mix";decide+kernel
 . show ("gap":Str)≠"mix";decide+kernel
 . show ("gap":Str)≠"mix";decide+kernel
noncomputable def cutF:Int->List Im->List Im×List Im
 |_,[]=>([],[])
 |t,m::ms=>if m.mo<=t then (m::(cutF (t-m.mo) ms).1,(cutF (t-m.mo) ms).2)else if 0<t then ([qp m 0 t],qp m t m.mo::ms)else ([],m::ms)
theorem xH:∀(ms:List Im) (c:Int),0<=c->((cutF c ms).1++(cutF c ms).2=ms/\(qY (cutF c ms).1=c\/(qY (cutF c ms).1=qY ms/\qY ms<=c/\(cutF c ms).2=[])))\/∃(A B:List Im) (m:Im) (d:Int),ms=A++m::B/\(cutF c ms).1=A++[qp m 0 d]/\(cutF c ms).2=qp m d m.mo::B/\0<d/\d<m.mo/\m.wd≠"mix"/\c=qY A+d
 |[],c,hc=>.inl ⟨rfl,.inr ⟨rfl,by rw[qf];exact hc,rfl⟩⟩
 |m::ms,c,hc=>by
  rw[cutF];by_cases h:m.mo<=c
  . rw[YB h]
    dsimp only;rcases xH ms (c-m.mo) (by omega)with ⟨h1,h2⟩|⟨A,B,x,d,h1,h2,h3,h4,h5,h6,h7⟩
    . refine .inl ⟨by rw[YT,h1],?_⟩
      rw[qK,qK];rcases h2 with h2|⟨h2,h3,h4⟩
      . exact .inl (by omega)
      . exact .inr ⟨by omega,by omega,h4⟩
    . exact .inr ⟨m::A,B,x,d,by rw[h1];rfl,by rw[h2];rfl,h3,h4,h5,h6,by rw[qK];omega⟩
  . rw[YA h]
    by_cases h0:0<c
    . rw[YB h0]
      refine .inr ⟨[],ms,m,c,O,O,O,h0,by omega,λe=>?_,by rw[qf];omega⟩;obtain⟨l,rfl⟩:=jw e;exact h (by show (0:Int)<=c;omega)
    . rw[YA h0]
      exact .inl ⟨O,.inl (by show qY []=c;rw[qf];omega)⟩
theorem kO(hm:m.wd≠"mix")(hw:Wf m):qp m 0 m.mo=m:=by
 cases m with
 |mix l=>exact YC rfl hm
 |clip n p q r s l=>
  obtain⟨h1,h2⟩:=qBw (r:=r) (s:=s) hw.1 hw.2.1 hw.2.2.1;show Im.clip n (plP p q r s 0) (plQ p q r s 0) r s (l-0)=_;rw[h1,h2,ZU]
 |nest n b l=>show Im.nest n (b+0) (l-0)=_;rw[Yc,ZU]
 |gap l=>show Im.gap (l-0)=_;rw[ZU]
def NMA(b c:Int)(ms:List Im):Prop:= ∀x∈ql b ms,x.2.1≠c
theorem NMA.tail{c:Int}(h:NMA b c (m::ms)):NMA (b+m.mo) c ms:=λx hx=>by
 by_cases hm:m.wd="mix"
 . obtain⟨l,rfl⟩:=jw hm
   refine h x ?_;rw[ql];have e:b+(Im.mix l).mo=b:=by simp[Im.mo]
   rw[e]at hx;simp[hx]
 . refine h x ?_
   rw[qr hm];exact hx
theorem NMA.head{c:Int}{l:Int}(h:NMA b c (.mix l::ms)):b≠c:=h (b-l.fdiv 2,b,b+(l-l.fdiv 2)) (by rw[ql];simp)
theorem Wf.pos(h:Wf m)(hm:m.wd≠"mix"):1<=m.mo:=by
 cases m with
 |clip n p q r s l=>exact h.2.2.2
 |nest n b l=>exact h
 |gap l=>exact h
 |mix l=>exact YC rfl hm
theorem qJ2:∀(ms:List Im) (b c:Int),(∀m∈ms,Wf m)->0<=b->c<=b->ji 0 c b ms=[]
 |[],_,_,_,_,_=>rfl
 |m::ms,b,c,hw,h0,hc=>by
  have hm0:=(hw m (by simp)).mo;rw[ji,qJ2 ms (b+m.mo) c (λx hx=>hw x (by simp[hx])) (by omega) (by omega),Ye];by_cases hm:m.wd="mix"
  . rw[YB hm,YA (by omega)]
  . rw[YA hm,YA]
    unfold xr qDm;split <;> split <;> omega
theorem qVh:∀(ms:List Im) (b c:Int),(∀m∈ms,Wf m)->NMA b c ms->0<=b->b<=c->(b=0->NHM ms)->ji 0 c b ms=(cutF (c-b) ms).1
 |[],_,_,_,_,_,_,_=>rfl
 |m::ms,b,c,hw,hn,h0,hc,hh=>by
  have hwm:=hw m (by simp);have hm0:=hwm.mo;rw[ji,cutF];by_cases hm:m.wd="mix"
  . obtain⟨l,rfl⟩:=jw hm
    have e0:(Im.mix l).mo=0:=rfl;have hbc:=hn.head;have hb0:b≠0:=λe=>hh e l rfl;rw[YB hm,YB ⟨by omega,by omega⟩,YB (by omega),e0,qVh ms (b+0) c (λx hx=>hw x (by simp[hx])) hn.tail (by omega) (by omega) (λe=>YC e (by omega))];rw[show c-(b+0)=c-b-0 by omega];rfl
  . have hp:=hwm.pos hm
    have e1:xr 0 b=b:=by unfold xr;split <;> omega
    rw[YA hm,e1];by_cases h:m.mo<=c-b
    . have e2:qDm c (b+m.mo)=b+m.mo:=by unfold qDm;split <;> omega
      rw[e2,YB (by omega),YB h,qVh ms (b+m.mo) c (λx hx=>hw x (by simp[hx])) hn.tail (by omega) (by omega) (λe=>YC e (by omega)),show b-b=0 by omega,show b+m.mo-b=m.mo by omega,kO hm hwm,show c-(b+m.mo)=c-b-m.mo by omega];rfl
    . have e2:qDm c (b+m.mo)=c:=by unfold qDm;split <;> omega
      rw[e2,YA h,qJ2 ms (b+m.mo) c (λx hx=>hw x (by simp[hx])) (by omega) (by omega),Ye];by_cases hlt:0<c-b
      . rw[YB (by omega),YB hlt,show b-b=0 by omega]
      . rw[YA (by omega),YA hlt]
theorem qD7:∀(ms:List Im) (b c E:Int),(∀m∈ms,Wf m)->c<=b->(b=c->NHM ms)->E=b+qY ms->(∀x∈ql b ms,x.2.1<E)->ji c E b ms=ms
 |[],_,_,_,_,_,_,_,_=>rfl
 |m::ms,b,c,E,hw,hc,hh,hE,hx=>by
  have hwm:=hw m (by simp);have hm0:=hwm.mo;have hl:=Nn.len (ms:=ms) λx hx=>(hw x (by simp[hx])).mo;rw[qK]at hE;rw[ji];by_cases hm:m.wd="mix"
  . obtain⟨l,rfl⟩:=jw hm
    have hb:b≠c:=λe=>hh e l rfl;rw[ql]at hx;have hbE:b<E:=hx (b-l.fdiv 2,b,b+(l-l.fdiv 2)) (by simp);have e0:b+(Im.mix l).mo=b:=by simp[Im.mo]
    rw[YB hm,YB ⟨by omega,hbE⟩,e0,qD7 ms b c E (λx hx=>hw x (by simp[hx])) hc (λe=>YC e hb) (by simp[Im.mo]at hE;omega) (λx h=>hx x (by simp[h]))];rfl
  . have hp:=hwm.pos hm
    rw[qr hm]at hx;have e1:xr c b=b:=by unfold xr;split <;> omega
    have e2:qDm E (b+m.mo)=b+m.mo:=by unfold qDm;split <;> omega
    rw[YA hm,e1,e2,YB (by omega),show b-b=0 by omega,show b+m.mo-b=m.mo by omega,kO hm hwm,qD7 ms (b+m.mo) c E (λx hx=>hw x (by simp[hx])) (by omega) (λe=>YC e (by omega)) (by omega) hx];rfl
theorem qUr:∀(ms:List Im) (b c E:Int),(∀m∈ms,Wf m)->NMA b c ms->b<=c->E=b+qY ms->(∀x∈ql b ms,x.2.1<E)->ji c E b ms=(cutF (c-b) ms).2
 |[],_,_,_,_,_,_,_,_=>rfl
 |m::ms,b,c,E,hw,hn,hc,hE,hx=>by
  have hwm:=hw m (by simp);have hm0:=hwm.mo;have hl:=Nn.len (ms:=ms) λx hx=>(hw x (by simp[hx])).mo;rw[qK]at hE;rw[ji,cutF];by_cases hm:m.wd="mix"
  . obtain⟨l,rfl⟩:=jw hm
    have hbc:=hn.head;have e0:(Im.mix l).mo=0:=rfl;rw[YB hm,YA (by omega),YB (by omega),Yg];dsimp only;have hn':=hn.tail;rw[e0]at hn'⊢;rw[ql]at hx;rw[qUr ms (b+0) c E (λx hx=>hw x (by simp[hx])) hn' (by omega) (by omega) (λx h=>hx x (by rw[Yc]at h;simp[h])),show c-(b+0)=c-b-0 by omega]
  . have hp:=hwm.pos hm
    rw[qr hm]at hx;rw[YA hm];have e1:xr c b=c:=by unfold xr;split <;> omega
    have e2:qDm E (b+m.mo)=b+m.mo:=by unfold qDm;split <;> omega
    rw[e1,e2];by_cases h:m.mo<=c-b
    . rw[YA (by omega),YB h,Yg]
      dsimp only;rw[qUr ms (b+m.mo) c E (λx hx=>hw x (by simp[hx])) hn.tail (by omega) (by omega) hx,show c-(b+m.mo)=c-b-m.mo by omega]
    . rw[YB (by omega),YA h,show b+m.mo-b=m.mo by omega]
      have hh:b+m.mo=c->NHM ms:=λe=>YC e (by omega);rw[qD7 ms (b+m.mo) c E (λx hx=>hw x (by simp[hx])) (by omega) hh (by omega) hx];by_cases hlt:0<c-b
      . rw[YB hlt];rfl
      . rw[YA hlt,show c-b=0 by omega,kO hm hwm];rfl
def qKl(o:Option Im):Prop:= ∃n p q r s l,o=some (.clip n p q r s l)
def MO:Option Im->List Im->Prop
 |_,[]=>True
 |p,.mix l::ms=>(qKl p/\qKl ms.head?)/\MO (some (.mix l)) ms
 |_,.clip n p q r s l::ms=>MO (some (.clip n p q r s l)) ms
 |_,.nest n b l::ms=>MO (some (.nest n b l)) ms
 |_,.gap l::ms=>MO (some (.gap l)) ms
theorem qy(h:m.wd≠"mix")(p:Option Im)(ms:List Im):MO p (m::ms)=MO (some m) ms:=by
 cases m with
 |mix l=>exact YC rfl h
 |_=>rfl
theorem MO.nh{p:Option Im}(h:MO p ms)(hp:¬qKl p):NHM ms:=by
 cases ms with
 |nil=>intro l e;cases e
 |cons m ms=>
  intro l e;cases e;exact hp h.1.1
theorem jd:∀(A B:List Im) (b:Int),ql b (A++B)=ql b A++ql (b+qY A) B
 |[],B,b=>by rw[qf,Yc];rfl
 |m::A,B,b=>by
  by_cases hm:m.wd="mix"
  . obtain⟨l,rfl⟩:=jw hm
    rw[YT,ql,ql,jd A B b,qK,show b+((Im.mix l).mo+qY A)=b+qY A by simp[Im.mo]];rfl
  . rw[YT,qr hm,qr hm,jd A B,qK,show b+(m.mo+qY A)=b+m.mo+qY A by omega]
theorem xU:∀(ms:List Im) (b:Int),(∀m∈ms,Wf m)->∀x∈ql b ms,x.1<=x.2.1/\x.2.1<x.2.2/\b<=x.2.1/\x.2.1<=b+qY ms
 |[],b,_,x,h=>by cases h
 |m::ms,b,hw,x,h=>by
  have hwm:=hw m (by simp);have hl:=Nn.len (ms:=ms) λx hx=>(hw x (by simp[hx])).mo;have h0:=hwm.mo;rw[qK];by_cases hm:m.wd="mix"
  . obtain⟨l,rfl⟩:=jw hm
    have l1:1<=l:=hwm;have e0:(Im.mix l).mo=0:=rfl;rw[ql]at h;rcases YU.mp h with rfl|h
    . dsimp only
      have:=qz (p:=l) (q:=2) (by decide);refine⟨by omega,by omega,by omega,by omega⟩
    . have:=xU ms b (λx hx=>hw x (by simp[hx])) x h
      omega
  . rw[qr hm]at h
    have:=xU ms (b+m.mo) (λx hx=>hw x (by simp[hx])) x h;omega
theorem qH0:∀(ms:List Im) (b:Int) (p:Option Im),(∀m∈ms,Wf m)->MO p ms->∀x∈ql b ms,x.2.1<b+qY ms
 |[],b,_,_,_,x,h=>by cases h
 |m::ms,b,p,hw,hM,x,h=>by
  have hwm:=hw m (by simp);have hw':∀m∈ms,Wf m:=λx hx=>hw x (by simp[hx]);have h0:=hwm.mo;rw[qK];by_cases hm:m.wd="mix"
  . obtain⟨l,rfl⟩:=jw hm
    have e0:(Im.mix l).mo=0:=rfl;obtain⟨⟨h1,h2⟩,h3⟩:=hM;rw[ql]at h;rcases YU.mp h with rfl|h
    . dsimp only
      obtain⟨n,p,q,r,s,k,h2⟩:=h2;cases ms with
      |nil=>cases h2
      |cons y ms=>
       cases h2;have hk:1<=k:=(hw' _ (List.mem_cons_self ..)).2.2.2;have hl:=Nn.len (ms:=ms) λx hx=>(hw x (by simp[hx])).mo;rw[qK];show b<b+(0+(k+qY ms));omega
    . have:=qH0 ms b _ hw' h3 x h
      omega
  . rw[qy hm]at hM
    rw[qr hm]at h;have:=qH0 ms (b+m.mo) _ hw' hM x h;omega
theorem MO.nl:∀{ms:List Im} {p:Option Im},MO p ms->NLM ms
 |[],_,_=>λl e=>by cases e
 |m::ms,p,h=>λl e=>by
  rw[kK]at e;by_cases hm:m.wd="mix"
  . obtain⟨k,rfl⟩:=jw hm
    cases ms with
    |nil=>obtain⟨_,_,_,_,_,_,e⟩:=h.1.2;cases e
    |cons x ms=>
     refine h.2.nl l ?_;cases h':(x::ms).getLast? with
     |none=>simp at h'
     |some y=>rw[h']at e;exact e
  . rw[qy hm]at h
    cases ms with
    |nil=>cases e;exact hm rfl
    |cons x ms=>
     refine h.nl l ?_;cases h':(x::ms).getLast? with
     |none=>simp at h'
     |some y=>rw[h']at e;exact e
theorem qQ7(h:∀m∈ms,m.wd≠"mix")(b:Int):ql b ms=[]:=by
 induction ms generalizing b with
 |nil=>rfl
 |cons m ms ih=>rw[qr (h m (by simp))];exact ih (λx hx=>h x (by simp[hx])) _
theorem kN(m:Im)(lo hi:Int):qY [qp m lo hi]=hi-lo:=by rw[qK,jS,qf,Yc]
theorem kZ(hw:∀m∈ms,Wf m){c:Int}(hc:0<=c)(hn:NMA 0 c ms):(∀x∈ql 0 (cutF c ms).1,x∈ql 0 ms/\x.2.1<c)/\(∀x∈ql c (cutF c ms).2,x∈ql 0 ms/\c<x.2.1)/\((cutF c ms).2=[]\/qY (cutF c ms).1=c)/\qY (cutF c ms).1<=c:=by
 have ord:=xU ms 0 hw;rcases xH ms c hc with ⟨h1,h2⟩|⟨A,B,m,d,h1,h2,h3,h4,h5,h6,h7⟩
 . have hwL:∀m∈(cutF c ms).1,Wf m:=λm hm=>hw m (by rw[<-h1];exact Yq _ hm)
   have hwR:∀m∈(cutF c ms).2,Wf m:=λm hm=>hw m (by rw[<-h1];exact Yf _ hm);have hs:ql 0 ms=ql 0 (cutF c ms).1++ql (0+qY (cutF c ms).1) (cutF c ms).2:=by rw[<-jd,h1]
   refine⟨λx hx=>?_,λx hx=>?_,?_,?_⟩
   . have hx':x∈ql 0 ms:=by rw[hs];exact Yq _ hx
     have h4:=xU _ 0 hwL x hx;have h5:=hn x hx';refine⟨hx',?_⟩;rcases h2 with h2|⟨h2,h3,_⟩ <;> omega
   . rcases h2 with h2|⟨h2,h3,h4⟩
     . rw[h2,Yp]at hs
       have hx':x∈ql 0 ms:=by rw[hs];exact Yf _ hx
       have h4:=xU _ c hwR x hx;have h5:=hn x hx';exact⟨hx',by omega⟩
     . rw[h4]at hx;cases hx
   . rcases h2 with h2|⟨h2,h3,h4⟩
     . exact .inr h2
     . exact .inl h4
   . rcases h2 with h2|⟨h2,h3,h4⟩ <;> omega
 . have hwA:∀m∈A,Wf m:=λx hx=>hw x (by rw[h1];simp[hx])
   have hwB:∀m∈B,Wf m:=λx hx=>hw x (by rw[h1];simp[hx]);have hs:ql 0 ms=ql 0 A++ql (0+qY A+m.mo) B:=by rw[h1,jd,qr h6]
   rw[h2,h3];refine⟨λx hx=>?_,λx hx=>?_,.inr ?_,?_⟩
   . rw[jd,qr (zt m 0 d)]at hx
     rcases YO.mp hx with hx|hx
     . have h8:=xU _ 0 hwA x hx
       exact⟨by rw[hs];exact Yq _ hx,by omega⟩
     . cases hx
   . rw[qr (zt m d m.mo),jS,show c+(m.mo-d)=0+qY A+m.mo by omega]at hx
     have h8:=xU _ _ hwB x hx;exact⟨by rw[hs];exact Yf _ hx,by omega⟩
   . rw[qX,kN];omega
   . rw[qX,kN];omega
theorem qXi(hw:∀m∈ms,Wf m){c:Int}(hc:0<=c)(hn:NMA 0 c ms)(hM:MO none ms):NLM (cutF c ms).1:=by
 obtain⟨s1,_,s3,_⟩:=kZ hw hc hn;rcases xH ms c hc with ⟨h1,h2⟩|⟨A,B,m,d,h1,h2,h3,h4,h5,h6,h7⟩
 . intro l e
   rcases s3 with h|h
   . rw[h,Ye]at h1
     rw[h1]at e;exact hM.nl l e
   . obtain⟨A,eA⟩:=List.getLast?_eq_some_iff.mp e
     have hx:(0+qY A-l.fdiv 2,0+qY A,0+qY A+(l-l.fdiv 2))∈ql 0 (cutF c ms).1:=by rw[eA,jd];exact Yf _ (by rw[ql];simp)
     have:=(s1 _ hx).2;rw[eA,qX,qK,qf]at h;have e0:(Im.mix l).mo=0:=rfl;dsimp only at this;omega
 . rw[h2]
   intro l e;rw[List.getLast?_append]at e;have e:qp m 0 d=.mix l:=by simpa using e
   exact zt m 0 d (by rw[e];rfl)
theorem qV5(hw:∀m∈ms,Wf m){c:Int}(hc:0<=c)(hn:NMA 0 c ms):NHM (cutF c ms).2:=by
 obtain⟨_,s2,_,_⟩:=kZ hw hc hn;intro l e;cases h:(cutF c ms).2 with
 |nil=>rw[h]at e;cases e
 |cons x R=>
  rw[h]at e s2;cases e;have:=(s2 (c-l.fdiv 2,c,c+(l-l.fdiv 2)) (by rw[ql];simp)).2;dsimp only at this;omega
theorem qB3(p p':Option Im)(A B:List Im)(hA:MO p A)(hB:MO (A.getLast?.or p) B):MO p (A++B):=by
 induction A generalizing p with
 |nil=>exact hB
 |cons m A ih=>
  have el:(m::A).getLast?.or p=A.getLast?.or (some m):=by rw[kK];cases A.getLast? <;> rfl
  rw[el]at hB;by_cases hm:m.wd="mix"
  . obtain⟨l,rfl⟩:=jw hm
    obtain⟨⟨h1,h2⟩,h3⟩:=hA;refine⟨⟨h1,?_⟩,ih _ h3 hB⟩;cases A with
    |nil=>obtain⟨_,_,_,_,_,_,e⟩:=h2;cases e
    |cons a A=>exact h2
  . rw[YT,qy hm]at*
    exact ih _ hA hB
theorem qOy{A:List Im}(h:∀m∈A,m.wd≠"mix")(p:Option Im):MO p A:=by
 induction A generalizing p with
 |nil=>exact trivial
 |cons m A ih=>rw[qy (h m (by simp))];exact ih (λx hx=>h x (by simp[hx])) _
theorem qQc(h:NHM B){p p':Option Im}(hB:MO p B):MO p' B:=by
 cases B with
 |nil=>exact trivial
 |cons m B=>
  by_cases hm:m.wd="mix"
  . obtain⟨l,rfl⟩:=jw hm
    exact YC rfl (h l)
  . rw[qy hm]at*;exact hB
theorem qQe:∀{A B:List Im} {p:Option Im},MO p (A++B)->NLM A->MO p A
 |[],_,_,_,_=>trivial
 |m::A,B,p,h,hl=>by
  have hA:NLM A:=λl e=>hl l (by rw[kK,e];rfl);by_cases hm:m.wd="mix"
  . obtain⟨l,rfl⟩:=jw hm
    have ne:A≠[]:=λe=>hl l (by rw[e];rfl);obtain⟨⟨h1,h2⟩,h3⟩:=h;refine⟨⟨h1,?_⟩,qQe (B:=B) h3 hA⟩;cases A with
    |nil=>exact YC rfl ne
    |cons a A=>exact h2
  . rw[YT,qy hm]at h
    rw[qy hm];exact qQe h hA
theorem qKk:∀{A B:List Im} {p:Option Im},MO p (A++B)->MO (A.getLast?.or p) B
 |[],_,_,h=>h
 |m::A,B,p,h=>by
  have el:(m::A).getLast?.or p=A.getLast?.or (some m):=by rw[kK];cases A.getLast? <;> rfl
  rw[el];by_cases hm:m.wd="mix"
  . obtain⟨l,rfl⟩:=jw hm
    exact qKk h.2
  . rw[YT,qy hm]at h
    exact qKk h
theorem qIw(lo hi:Int):qKl (some m)->qKl (some (qp m lo hi)):=by rintro⟨n,p,q,r,s,l,e⟩;cases e;exact⟨_,_,_,_,_,_,O⟩
theorem qTo(hw:∀m∈ms,Wf m){c:Int}(hc:0<=c)(hn:NMA 0 c ms)(hM:MO none ms):MO none (cutF c ms).1/\∀p,MO p (cutF c ms).2:=by
 have nl:=qXi hw hc hn hM;have nh:=qV5 hw hc hn;rcases xH ms c hc with ⟨h1,h2⟩|⟨A,B,m,d,h1,h2,h3,h4,h5,h6,h7⟩
 . rw[<-h1]at hM
   exact⟨qQe hM nl,λp=>qQc nh (qKk hM)⟩
 . rw[h1]at hM
   rw[h2,h3]at*;have hs:=qKk hM;rw[qy h6]at hs;refine⟨?_,λp=>?_⟩
   .
    have:∀(A:List Im) (p:Option Im),MO p (A++m::B)->MO p (A++[qp m 0 d]):=λA=>by
     induction A with
     |nil=>intro p _;exact qOy (λx hx=>by rw[Yg,YY]at hx;subst hx;exact zt m 0 d) p
     |cons a A ih=>
      intro p h;by_cases ha:a.wd="mix"
      . obtain⟨l,rfl⟩:=jw ha
        obtain⟨⟨h1,h2⟩,h3⟩:=h;refine⟨⟨h1,?_⟩,ih _ h3⟩;cases A with
        |nil=>exact qIw 0 d h2
        |cons a A=>exact h2
      . rw[YT,qy ha]at*
        exact ih _ h
    exact this A none hM
   . rw[qy (zt m d m.mo)]
     cases B with
     |nil=>exact trivial
     |cons x B=>
      by_cases hx:x.wd="mix"
      . obtain⟨l,rfl⟩:=jw hx
        exact⟨⟨qIw d m.mo hs.1.1,hs.1.2⟩,hs.2⟩
      . rw[qy hx]at hs⊢;exact hs
theorem qHj(hw:Wf m){hi:Int}(h:lo<hi):Wf (qp m lo hi):=by
 cases m with
 |clip n p q r s l=>exact⟨qF5 hw.1 hw.2.1,hw.2.1,qRi hw.1 hw.2.1,by show 1<=hi-lo;omega⟩
 |nest n b l=>show 1<=hi-lo;omega
 |gap l=>show 1<=hi-lo;omega
 |mix l=>show 1<=hi-lo;omega
theorem qEn(hw:∀m∈ms,Wf m){c:Int}(hc:0<=c):(∀m∈(cutF c ms).1,Wf m)/\∀m∈(cutF c ms).2,Wf m:=by
 rcases xH ms c hc with ⟨h1,h2⟩|⟨A,B,m,d,h1,h2,h3,h4,h5,h6,h7⟩
 . exact⟨λm hm=>hw m (by rw[<-h1];exact Yq _ hm),λm hm=>hw m (by rw[<-h1];exact Yf _ hm)⟩
 . rw[h2,h3]
   have hm:=hw m (by rw[h1];simp);refine⟨λx hx=>?_,λx hx=>?_⟩
   . rcases YO.mp hx with hx|hx
     . exact hw x (by rw[h1];simp[hx])
     . rw[YY]at hx;subst hx;exact qHj hm h4
   . rcases YU.mp hx with rfl|hx
     . exact qHj hm h5
     . exact hw x (by rw[h1];simp[hx])
structure Rel(ms:List Im)(lo hi:Int)(ls:List Im):Prop where
 wf:∀m∈ms,Wf m
 mo:MO none ms
 l0:0<=lo
 lh:lo<=hi
 nt:jL ms lo hi=false
 lw:∀m∈ls,Wf m
 lm:∀m∈ls,m.wd≠"mix"
theorem Rel.far{hi:Int}(h:Rel ms lo hi ls):∀x∈ql 0 ms,(x.2.1<lo/\x.2.2<=lo)\/(hi<x.2.1/\hi<=x.1):=by
 intro x hx;have ord:=xU ms 0 h.wf x hx;have nt:=h.nt;have lh:=h.lh;unfold jL at nt;rw[List.any_eq_false]at nt;have:=nt x hx;unfold qO8 at this;simp only[Bool.or_eq_true,Yl,decide_eq_true_eq]at this;by_cases h1:x.2.1<lo
 . left;refine⟨h1,?_⟩
   by_cases h2:x.2.2<=lo
   . exact h2
   . exact YC (.inl ⟨by omega,by omega⟩) this
 . right
   have h2:hi<x.2.1:=by
    by_cases h3:hi<x.2.1
    . exact h3
    . exact YC (.inr ⟨by omega,by omega⟩) this
   refine⟨h2,?_⟩;by_cases h4:hi<=x.1
   . exact h4
   . exact YC (.inl ⟨by omega,by omega⟩) this
theorem Rel.nlo{hi:Int}(h:Rel ms lo hi ls):NMA 0 lo ms:=λx hx=>by have:=h.far x hx;have:=h.lh;omega
theorem Rel.nhi{hi:Int}(h:Rel ms lo hi ls):NMA 0 hi ms:=λx hx=>by have:=h.far x hx;have:=h.lh;omega
theorem Rel.eq{hi:Int}(h:Rel ms lo hi ls):xC ms lo hi ls=qx 0 ((cutF lo ms).1++[.gap (xr (lo-qY ms) 0)]++ls++(cutF hi ms).2):=by unfold xC;rw[qVh ms 0 lo h.wf h.nlo (YH 0) h.l0 (λ_=>h.mo.nh λ⟨_,_,_,_,_,_,e⟩=>by cases e),qUr ms 0 hi (qY ms) h.wf h.nhi (by have:=h.l0;have:=h.lh;omega) (by omega) (λx hx=>by have:=qH0 ms 0 none h.wf h.mo x hx;omega),ZU,ZU]
theorem qKz{c:Int}(hc:0<=c)(hw:∀m∈ms,Wf m):qY (cutF c ms).1+xr (c-qY ms) 0=c/\qY (cutF c ms).1+qY (cutF c ms).2=qY ms/\(c<=qY ms->qY (cutF c ms).1=c):=by
 have hl:=Nn.len λx hx=>(hw x hx).mo;rcases xH ms c hc with ⟨h1,h2⟩|⟨A,B,m,d,h1,h2,h3,h4,h5,h6,h7⟩
 . have e:qY (cutF c ms).1+qY (cutF c ms).2=qY ms:=by rw[<-qX,h1]
   have:=Nn.len λx hx=>((qEn hw hc).2 x hx).mo;have:=Nn.len λx hx=>((qEn hw hc).1 x hx).mo;unfold xr;rcases h2 with h2|⟨h2,h3,h4⟩
   . refine⟨by split <;> omega,e,λ_=>h2⟩
   . refine⟨by split <;> omega,e,λ_=>by omega⟩
 . have hm:=hw m (by rw[h1];simp)
   have hlB:=Nn.len (ms:=B) λx hx=>(hw x (by rw[h1];simp[hx])).mo;have e:qY ms=qY A+(m.mo+qY B):=by rw[h1,qX,qK]
   rw[h2,h3,qX,kN,qK,jS];unfold xr;refine⟨by split <;> omega,by omega,λ_=>by omega⟩
def OS:Bool->List Im->Prop
 |g,[]=>g=false
 |g,.gap l::ms=>g=false/\1<=l/\OS true ms
 |_,.clip .. ::ms=>OS false ms
 |_,.nest .. ::ms=>OS false ms
 |_,.mix _::ms=>OS false ms
theorem jE(h:m.wd≠"gap")(g:Bool)(ms:List Im):OS g (m::ms)=OS false ms:=by
 cases m with
 |gap l=>exact YC rfl h
 |_=>rfl
theorem OS.one:∀{ms:List Im},(OS false ms->qx 0 ms=ms)/\(OS true ms->∀w,0<w->qx w ms=.gap w::ms)
 |[]=>⟨λ_=>rfl,λh=>by cases h⟩
 |m::ms=>by
  obtain⟨i1,i2⟩:=OS.one (ms:=ms);by_cases hg:m.wd="gap"
  . obtain⟨l,rfl⟩:=xc hg
    refine⟨λh=>?_,λh=>?_⟩
    . rw[qx,i2 h.2.2 (0+l) (by have:=h.2.1;omega),Yp]
    . cases h.1
  . refine⟨λh=>?_,λh w hw=>?_⟩
    . rw[jE hg]at h
      rw[qU hg,YA (by omega),i1 h]
    . rw[jE hg]at h
      rw[qU hg,YB hw,i1 h]
theorem qMz{A B:Im}{rest:List Im}(l:Int)(hA:A.wd≠"gap")(hB:B.wd≠"gap"):∀(pre:List Im) (g:Bool),OS g (pre++A::B::rest)->OS g (pre++A:: .mix l::B::rest)
 |[],g,h=>by rw[Yg,jE hA,jE hB]at h;rw[Yg,jE hA];show OS false (B::rest);rw[jE hB];exact h
 |x::pre,g,h=>by
  by_cases hg:x.wd="gap"
  . obtain⟨k,rfl⟩:=xc hg
    exact⟨h.1,h.2.1,qMz l hA hB pre _ h.2.2⟩
  . rw[YT,jE hg]at h⊢
    exact qMz l hA hB pre _ h
theorem qD6:∀(ms:List Im) (w:Int),Nn ms->0<=w->OS false (qx w ms)
 |[],_,_,_=>rfl
 |m::ms,w,hn,hw=>by
  have h0:=hn m (by simp);by_cases hg:m.wd="gap"
  . obtain⟨l,rfl⟩:=xc hg
    have h0:0<=l:=h0;rw[qx];exact qD6 ms _ hn.tail (by omega)
  . have ih:=qD6 ms 0 hn.tail (YH 0)
    rw[qU hg];by_cases hp:0<w
    . rw[YB hp]
      refine⟨O,by omega,?_⟩;rw[jE hg];exact ih
    . rw[YA hp,jE hg];exact ih
noncomputable def tkE(ms:List Im):Int:=match ms.head? with
 |some (.mix l)=>l.fdiv 2
 |_=>0
def FS(R:Im->Int->Im->Prop):Int->Option Im->List Im->Prop
 |_,_,[]=>True
 |_,p,.mix l::ms=>(∀A B,p=some A->ms.head?=some B->R A l B)/\FS R (l-l.fdiv 2) (some (.mix l)) ms
 |tb,_,.clip n p q r s k::ms=>tb+tkE ms<=k/\FS R 0 (some (.clip n p q r s k)) ms
 |_,_,.nest n b l::ms=>FS R 0 (some (.nest n b l)) ms
 |_,_,.gap l::ms=>FS R 0 (some (.gap l)) ms
theorem qJt{R:Im->Int->Im->Prop}{n n':Str}{p q r s k p' q' r' s' k':Int}{rest:List Im}{l:Int}(h2:(l-l.fdiv 2)+tkE rest<=k')(hR:R (.clip n p q r s k) l (.clip n' p' q' r' s' k')):
 ∀(pre:List Im) (tb:Int) (po:Option Im),(match pre.getLast? with|none=>tb|some (.mix x)=>x-x.fdiv 2|_=>0)+l.fdiv 2<=k->FS R tb po (pre++ .clip n p q r s k:: .clip n' p' q' r' s' k'::rest)->FS R tb po (pre++ .clip n p q r s k:: .mix l:: .clip n' p' q' r' s' k'::rest)
 |[],tb,po,h1,h=>by refine⟨h1,λA B eA eB=>?_,h2,h.2.2⟩;cases eA;cases eB;exact hR
 |x::pre,tb,po,h1,h=>by
  have hd:∀(X Y:List Im),(pre++ .clip n p q r s k::X).head?=(pre++ .clip n p q r s k::Y).head?:=λX Y=>by cases pre <;> rfl
  have e1:∀tb',(x.wd≠"mix"->tb'=0)->(∀y,x=.mix y->tb'=y-y.fdiv 2)->(match pre.getLast? with|none=>tb'|some (.mix x)=>x-x.fdiv 2|_=>0)+l.fdiv 2<=k:=λtb' ha hb=>by
   rw[kK]at h1;cases hg:pre.getLast? with
   |none=>
    rw[hg]at h1;cases x with
    |mix y=>rw[hb y rfl];exact h1
    |_=>rw[ha (by first|(show ("clip":Str)≠"mix";decide+kernel)|(show ("nest":Str)≠"mix";decide+kernel)|(show ("gap":Str)≠"mix";decide+kernel))];exact h1
   |some z=>rw[hg]at h1;cases z <;> exact h1
  cases x with
  |mix y=>
   obtain⟨a1,a2⟩:=h;refine⟨λA B eA eB=>a1 A B eA (by rw[<-eB];exact hd _ _),qJt h2 hR pre _ _ (e1 _ (λc=>YC rfl c) (λy' e=>by cases e;rfl)) a2⟩
  |clip n1 p1 q1 r1 s1 k1=>
   obtain⟨a1,a2⟩:=h;refine⟨?_,qJt h2 hR pre _ _ (e1 0 (λ_=>rfl) (λy e=>by cases e)) a2⟩;unfold tkE at a1⊢;rw[List.append_eq]at*;rw[hd (.mix l:: .clip n' p' q' r' s' k'::rest) (.clip n' p' q' r' s' k'::rest)];exact a1
  |nest n1 b1 l1=>exact qJt h2 hR pre _ _ (e1 0 (λ_=>rfl) (λy e=>by cases e)) h
  |gap l1=>exact qJt h2 hR pre _ _ (e1 0 (λ_=>rfl) (λy e=>by cases e)) h
theorem qXh{R:Im->Int->Im->Prop}:∀{ms:List Im} (p:Option Im),(∀m∈ms,Wf m/\m.wd≠"mix")->FS R 0 p ms
 |[],_,_=>trivial
 |m::ms,p,h=>by
  have ih:=λp=>qXh (R:=R) (ms:=ms) p λx hx=>h x (by simp[hx]);obtain⟨hw,hm⟩:=h m (by simp);cases m with
  |mix l=>exact YC rfl hm
  |clip n p' q r s k=>
   refine⟨?_,ih _⟩;have e:tkE ms=0:=by
    unfold tkE;cases ms with
    |nil=>rfl
    |cons x ms=>
     have:=(h x (by simp)).2;cases x with
     |mix y=>exact YC rfl this
     |_=>rfl
   rw[e];have:=hw.2.2.2;omega
  |nest n b l=>exact ih _
  |gap l=>exact ih _
theorem qMh{A B:Im}{rest:List Im}(l:Int)(hA:qKl (some A))(hB:qKl (some B)):∀(pre:List Im) (p:Option Im),MO p (pre++A::B::rest)->MO p (pre++A:: .mix l::B::rest)
 |[],p,h=>by obtain⟨n,p1,q,r,s,k,e⟩:=hA;cases e;obtain⟨n',p',q',r',s',k',e⟩:=hB;cases e;exact⟨⟨⟨_,_,_,_,_,_,O⟩,⟨_,_,_,_,_,_,O⟩⟩,h⟩
 |x::pre,p,h=>by
  by_cases hm:x.wd="mix"
  . obtain⟨y,rfl⟩:=jw hm
    refine⟨⟨h.1.1,?_⟩,qMh l hA hB pre _ h.2⟩;have:=h.1.2;cases pre <;> exact this
  . rw[YT,qy hm]at h⊢
    exact qMh l hA hB pre _ h
theorem qTq(h:NHM ms):tkE ms=0:=by
 unfold tkE;cases ms with
 |nil=>rfl
 |cons z ms=>
  cases z with
  |mix y=>exact YC rfl (h y)
  |_=>rfl
theorem xJ(hm:m.wd≠"mix"){p:Option Im}:FS R tb p (m::ms)↔((m.wd="clip"->tb+tkE ms<=m.mo)/\FS R 0 (some m) ms):=by
 cases m with
 |mix l=>exact YC rfl hm
 |clip n p q r s k=>exact⟨λh=>⟨λ_=>h.1,h.2⟩,λh=>⟨h.1 rfl,h.2⟩⟩
 |nest n b l=>exact⟨λh=>⟨λc=>YC (show ("nest":Str)="clip" from c) (by decide+kernel),h⟩,λh=>h.2⟩
 |gap l=>exact⟨λh=>⟨λc=>YC (show ("gap":Str)="clip" from c) (by decide+kernel),h⟩,λh=>h.2⟩
theorem FS_mix{l:Int}{p:Option Im}:FS R tb p (.mix l::ms)↔((∀A B,p=some A->ms.head?=some B->R A l B)/\FS R (l-l.fdiv 2) (some (.mix l)) ms):=Iff.rfl
theorem qPn(h:NHM B){p p':Option Im}(hB:FS R tb p B):FS R tb p' B:=by
 cases B with
 |nil=>exact trivial
 |cons m B=>
  by_cases hm:m.wd="mix"
  . obtain⟨l,rfl⟩:=jw hm
    exact YC rfl (h l)
  . exact(xJ hm).mpr ((xJ hm).mp hB)
noncomputable def tbL(tb:Int)(A:List Im):Int:=match A.getLast? with
 |none=>tb
 |some (.mix x)=>x-x.fdiv 2
 |_=>0
theorem qSw{A:List Im}:tbL tb (m::A)=tbL (match m with|.mix x=>x-x.fdiv 2|_=>0) A:=by
 unfold tbL;rw[kK];cases A.getLast? with
 |none=>cases m <;> rfl
 |some z=>cases z <;> rfl
theorem qA6(hm:m.wd≠"mix")(lo hi:Int):(qp m lo hi).wd=m.wd:=by
 cases m with
 |mix l=>exact YC rfl hm
 |_=>rfl
theorem qRj:∀{ms:List Im} {w:Int} {p:Option Im},MO p ms->0<=w->Nn ms->(NHM ms\/w=0)->tkE (qx w ms)=tkE ms
 |[],_,_,_,_,_,_=>rfl
 |m::ms,w,p,hM,hw,hN,hh=>by
  by_cases hm:m.wd="mix"
  . obtain⟨l,rfl⟩:=jw hm
    have hg:(Im.mix l).wd≠"gap":=by show ("mix":Str)≠"gap";decide+kernel
    rcases hh with hh|rfl
    . exact YC rfl (hh l)
    . rw[qU hg,YA (by omega)];rfl
  . have e:tkE (m::ms)=0:=qTq λl e=>by cases e;exact hm rfl
    rw[qy hm]at hM;by_cases hg:m.wd="gap"
    . obtain⟨l,rfl⟩:=xc hg
      have hn:NHM ms:=hM.nh λ⟨_,_,_,_,_,_,e⟩=>by cases e
      have hl:0<=l:=hN (.gap l) (by simp);rw[e,qx,qRj hM (by omega) hN.tail (.inl hn),qTq hn]
    . rw[e,qU hg]
      split
      . rfl
      . exact e
theorem qO7{R:Im->Int->Im->Prop}:∀(ms:List Im) (w tb:Int) (p p':Option Im),0<=w->(tb=0\/(w=0/\qKl ms.head?))->MO p' ms->Nn ms->(NHM ms\/(w=0/\p=p'))->FS R tb p' ms->FS R tb p (qx w ms)
 |[],_,_,_,_,_,_,_,_,_,_=>trivial
 |m::ms,w,tb,p,p',hw,ht,hM,hN,hh,hF=>by
  by_cases hm:m.wd="mix"
  . obtain⟨l,rfl⟩:=jw hm
    rcases hh with hh|⟨rfl,rfl⟩
    . exact YC rfl (hh l)
    obtain⟨⟨h1,h2⟩,h3⟩:=hM;have hg:(Im.mix l).wd≠"gap":=by show ("mix":Str)≠"gap";decide+kernel
    rw[qU hg,YA (by omega),FS_mix];have eh:(qx 0 ms).head?=ms.head?:=by
     obtain⟨n,p,q,r,s,k,h2⟩:=h2;cases ms with
     |nil=>cases h2
     |cons x ms=>cases h2;rw[qx,YA (by omega)];rfl
    exact⟨λA B eA eB=>hF.1 A B eA (by rw[<-eh,eB]),qO7 ms 0 _ _ _ (YH 0) (.inr ⟨O,h2⟩) h3 hN.tail (.inr ⟨O,O⟩) hF.2⟩
  . rw[qy hm]at hM
    obtain⟨h1,h2⟩:=(xJ hm).mp hF;by_cases hg:m.wd="gap"
    . obtain⟨l,rfl⟩:=xc hg
      have hn:NHM ms:=hM.nh λ⟨_,_,_,_,_,_,e⟩=>by cases e
      have hl:0<=l:=hN (.gap l) (by simp);have e0:tb=0:=by
       rcases ht with ht|⟨_,_,_,_,_,_,_,e⟩
       . exact ht
       . cases e
      subst e0;rw[qx];exact qO7 ms (w+l) 0 p (some (.gap l)) (by omega) (.inl rfl) hM hN.tail (.inl hn) h2
    . have ih:=qO7 (R:=R) ms 0 0 (some m) (some m) (YH 0) (.inl rfl) hM hN.tail (.inr ⟨rfl,rfl⟩) h2
      have et:=qRj hM (YH 0) hN.tail (.inr rfl);rw[qU hg];split
      . show FS R 0 _ (m::qx 0 ms)
        refine(xJ hm).mpr ⟨λc=>?_,ih⟩;rw[et];have:=h1 c;omega
      . refine(xJ hm).mpr ⟨λc=>?_,ih⟩
        rw[et];exact h1 c
theorem qM9:∀(ms:List Im) (w:Int) (p p':Option Im),0<=w->MO p' ms->Nn ms->(NHM ms\/(w=0/\p=p'))->MO p (qx w ms)
 |[],_,_,_,_,_,_,_=>trivial
 |m::ms,w,p,p',hw,hM,hN,hh=>by
  by_cases hm:m.wd="mix"
  . obtain⟨l,rfl⟩:=jw hm
    rcases hh with hh|⟨rfl,rfl⟩
    . exact YC rfl (hh l)
    obtain⟨⟨h1,h2⟩,h3⟩:=hM;have hg:(Im.mix l).wd≠"gap":=by show ("mix":Str)≠"gap";decide+kernel
    have eh:(qx 0 ms).head?=ms.head?:=by
     obtain⟨n,p,q,r,s,k,h2⟩:=h2;cases ms with
     |nil=>cases h2
     |cons x ms=>cases h2;rw[qx,YA (by omega)];rfl
    rw[qU hg,YA (by omega)];exact⟨⟨h1,by rw[eh];exact h2⟩,qM9 ms 0 _ _ (YH 0) h3 hN.tail (.inr ⟨O,O⟩)⟩
  . rw[qy hm]at hM
    by_cases hg:m.wd="gap"
    . obtain⟨l,rfl⟩:=xc hg
      have hn:NHM ms:=hM.nh λ⟨_,_,_,_,_,_,e⟩=>by cases e
      have hl:0<=l:=hN (.gap l) (by simp);rw[qx];exact qM9 ms (w+l) p (some (.gap l)) (by omega) hM hN.tail (.inl hn)
    . have ih:=qM9 ms 0 (some m) (some m) (YH 0) hM hN.tail (.inr ⟨rfl,rfl⟩)
      rw[qU hg];split
      . show MO (some (.gap w)) (m::qx 0 ms)
        rw[qy hm];exact ih
      . rw[qy hm];exact ih
theorem qA2{Pm:Im->Prop}(hg:∀w,0<w->Pm (.gap w)):∀(ms:List Im) (w:Int),(∀m∈ms,m.wd≠"gap"->Pm m)->∀m∈qx w ms,Pm m
 |[],_,_,m,h=>by cases h
 |x::ms,w,hp,m,h=>by
  have hp':∀m∈ms,m.wd≠"gap"->Pm m:=λm hm=>hp m (by simp[hm]);by_cases hx:x.wd="gap"
  . obtain⟨l,rfl⟩:=xc hx
    rw[qx]at h;exact qA2 hg ms _ hp' m h
  . rw[qU hx]at h
    split at h
    . rename_i hw
      rcases YU.mp h with rfl|h
      . exact hg w hw
      . rcases YU.mp h with rfl|h
        . exact hp m (by simp) hx
        . exact qA2 hg ms _ hp' m h
    . rcases YU.mp h with rfl|h
      . exact hp m (by simp) hx
      . exact qA2 hg ms _ hp' m h
theorem qLd{c:Int}(hc:0<=c)(h1:∀m∈ms,Pm m)(h2:∀m∈ms,m.wd≠"mix"->∀x y,0<=x->x<y->y<=m.mo->Pm (qp m x y)):(∀m∈(cutF c ms).1,Pm m)/\∀m∈(cutF c ms).2,Pm m:=by
 rcases xH ms c hc with ⟨e1,_⟩|⟨A,B,m,d,e1,e2,e3,d0,d1,hm,_⟩
 . exact⟨λm hm=>h1 m (by rw[<-e1];exact Yq _ hm),λm hm=>h1 m (by rw[<-e1];exact Yf _ hm)⟩
 . have hmm:m∈ms:=by rw[e1];simp
   rw[e2,e3];refine⟨λx hx=>?_,λx hx=>?_⟩
   . rcases YO.mp hx with hx|hx
     . exact h1 x (by rw[e1];simp[hx])
     . rw[YY]at hx;subst hx;exact h2 m hmm hm 0 d (YH 0) d0 (by omega)
   . rcases YU.mp hx with rfl|hx
     . exact h2 m hmm hm d m.mo (by omega) d1 (YH _)
     . exact h1 x (by rw[e1];simp[hx])
theorem qLm(hg:∀w,0<w->Pm (.gap w)){hi:Int}(h:Rel ms lo hi ls)(h1:∀m∈ms,Pm m)(h2:∀m∈ms,m.wd≠"mix"->∀x y,0<=x->x<y->y<=m.mo->Pm (qp m x y))(h3:∀m∈ls,Pm m):∀m∈xC ms lo hi ls,Pm m:=by
 rw[h.eq];refine qA2 hg _ _ λm hm hn=>?_;have hhi:0<=hi:=by have:=h.l0;have:=h.lh;omega
 rcases YO.mp hm with hm|hm
 . rcases YO.mp hm with hm|hm
   . rcases YO.mp hm with hm|hm
     . exact(qLd h.l0 h1 h2).1 m hm
     . rw[YY]at hm;subst hm;exact YC rfl hn
   . exact h3 m hm
 . exact(qLd hhi h1 h2).2 m hm
theorem qP4{hi:Int}(h:Rel ms lo hi ls):∀m∈xC ms lo hi ls,Wf m:=
 qLm (Pm:=Wf) (λw hw=>by show 1<=w;omega) h h.wf (λm hm _ x y _ hxy _=>qHj (h.wf m hm) hxy) h.lw
theorem qM4:∀(Y:List Im) (a:Im) (w:Int),Nn Y->0<=w->a.wd≠"gap"->qY (qx w (Y++[a]))=w+qY Y+a.mo
 |[],a,w,_,hw,ha=>by
  rw[Yg,qU ha,qf];split
  . show qY [.gap w,a]=_;rw[qK,qK,qf];show w+(a.mo+0)=_;omega
  . show qY [a]=_;rw[qK,qf];omega
 |m::Y,a,w,hn,hw,ha=>by
  have h0:=hn m (by simp);rw[YT,qK];by_cases hg:m.wd="gap"
  . obtain⟨l,rfl⟩:=xc hg
    have h0:0<=l:=h0;rw[qx,qM4 Y a (w+l) hn.tail (by omega) ha];show w+l+qY Y+a.mo=w+(l+qY Y)+a.mo;omega
  . have ih:=qM4 Y a 0 hn.tail (YH 0) ha
    rw[qU hg];split
    . rw[qK,qK,ih];show w+(m.mo+(0+qY Y+a.mo))=_;omega
    . rw[qK,ih];omega
theorem qLa:∀(Y:List Im) (w:Int),Nn Y->0<=w->qY (qx w Y)<=w+qY Y
 |[],w,_,hw=>by show qY []<=w+qY [];rw[qf];omega
 |m::Y,w,hn,hw=>by
  have h0:=hn m (by simp);rw[qK];by_cases hg:m.wd="gap"
  . obtain⟨l,rfl⟩:=xc hg
    have h0:0<=l:=h0;have:=qLa Y (w+l) hn.tail (by omega);rw[qx];have e:(Im.gap l).mo=l:=rfl;omega
  . have ih:=qLa Y 0 hn.tail (YH 0)
    rw[qU hg];split
    . rw[qK,qK];have e:(Im.gap w).mo=w:=rfl;omega
    . rw[qK];omega
theorem qO4:∀(ms:List Im) (c:Int),Nn ms->qY ms<=c->cutF c ms=(ms,[])
 |[],_,_,_=>rfl
 |m::ms,c,hn,h=>by have:=hn.tail.len;rw[qK]at h;rw[cutF,YB (by omega),qO4 ms (c-m.mo) hn.tail (by omega)]
def RmR(rl:Rls):Im->Int->Im->Prop:=λA l B=> ∀n p q r s k n' p' q' r' s' k',A=.clip n p q r s k->B=.clip n' p' q' r' s' k'->∃N N',rl n=some N/\rl n'=some N'/\l.fdiv 2<=xL p' q' r' s' N'/\l-l.fdiv 2<=xK p q r s k N
theorem qWs{a l:Int}(h:l<=mmV a b)(h1:1<=l):l.fdiv 2<=a/\l-l.fdiv 2<=b:=by
 have f:=qz (p:=l) (q:=2) (by decide);unfold mmV qW4 at h;split at h
 . split at h <;> omega
 . split at h <;> omega
theorem qQp{a x:Int}(h:x<=qR8 a b):x<=a/\x<=b:=by unfold qR8 at h;split at h <;> omega
theorem qM1(hi:i<=ms.length):tbL 0 (ms.take i)=tbF ms i:=by
 unfold tbL tbF;cases i with
 |zero=>rfl
 |succ i=>
  have e:(ms.take (i+1)).getLast?=ms[i]?:=by rw[List.getLast?_eq_getElem?,Yk,Nat.min_eq_left hi];exact List.getElem?_take_of_lt (by omega)
  rw[e,YA (by omega),Nat.add_sub_cancel];cases h:ms[i]? with
  |none=>rfl
  |some z=>cases z <;> rfl
theorem qMq(ms:List Im)(i:Nat):tkE (ms.drop (i+1))=teF ms i:=by
 unfold tkE teF;rw[List.head?_drop]
 all_goals
  cases ms[i+1]? with
  |none=>rfl
  |some z=>cases z <;> rfl
theorem qRf(h:m.wd="clip"):∃n p q r s l,m=.clip n p q r s l:=by
 cases m with
 |clip n p q r s l=>exact⟨_,_,_,_,_,_,rfl⟩
 |nest=>exact YC (show ("nest":Str)="clip" from h) (by decide+kernel)
 |gap=>exact YC (show ("gap":Str)="clip" from h) (by decide+kernel)
 |mix=>exact YC (show ("mix":Str)="clip" from h) (by decide+kernel)
theorem qPm{t:Int}(hc:cbF ms t=some ((i:Int),((i+1:Nat):Int))):∃n p q r s k n' p' q' r' s' k',ms[i]?=some (.clip n p q r s k)/\ms[i+1]?=some (.clip n' p' q' r' s' k')/\ms=ms.take i++ .clip n p q r s k:: .clip n' p' q' r' s' k'::ms.drop (i+2)/\∀l,ms.take (i+1)++[.mix l]++ms.drop (i+1)=ms.take i++ .clip n p q r s k:: .mix l:: .clip n' p' q' r' s' k'::ms.drop (i+2):=by
 obtain⟨k1,k2⟩:=zK hc;have get:∀j:Nat,qt ms (j:Int)="clip"->∃n p q r s k,ms[j]?=some (.clip n p q r s k):=λj hj=>by
  unfold qt at hj;rw[YA (by omega),YQ]at hj;cases h:ms[j]? with
  |none=>rw[h]at hj;exact YC hj (by decide+kernel)
  |some m=>
   rw[h]at hj;obtain⟨n,p,q,r,s,l,rfl⟩:=qRf hj;exact⟨_,_,_,_,_,_,O⟩
 obtain⟨n,p,q,r,s,k,h1⟩:=get i k1;obtain⟨n',p',q',r',s',k',h2⟩:=get (i+1) k2;have d1:=xT h1;have d2:=xT h2;refine⟨n,p,q,r,s,k,n',p',q',r',s',k',h1,h2,?_,λl=>?_⟩
 . rw[<-d2,<-d1,List.take_append_drop]
 . rw[Yt,h1,d2]
   simp
theorem qU5{t:Int}{l:Int}(hc:cbF ms t=some ((i:Int),((i+1:Nat):Int)))(hM:mmF rl ms t=some M)(h1:1<=l)(hl:l<=M)(hO:OS false ms)(hm:MO none ms)(hF:FS (RmR rl) 0 none ms):
 OS false (ms.take (i+1)++[.mix l]++ms.drop (i+1))/\MO none (ms.take (i+1)++[.mix l]++ms.drop (i+1))/\FS (RmR rl) 0 none (ms.take (i+1)++[.mix l]++ms.drop (i+1)):=by
 obtain⟨n,p,q,r,s,k,n',p',q',r',s',k',e1,e2,e3,e4⟩:=qPm hc;have c1:jU ms ((i:Nat):Int)=.clip n p q r s k:=by unfold jU;rw[YQ,e1];rfl
 have c2:jU ms ((i+1:Nat):Int)=.clip n' p' q' r' s' k':=by unfold jU;rw[YQ,e2];rfl
 unfold mmF at hM;rw[hc]at hM;dsimp only at hM;rw[c1,c2]at hM;dsimp only at hM;cases r1:rl n with
 |none=>rw[r1]at hM;cases hM
 |some N=>
 cases r2:rl n' with
 |none=>rw[r1,r2]at hM;cases hM
 |some N'=>
 rw[r1,r2]at hM;dsimp only at hM;rw[YQ,YQ]at hM;cases hM;obtain⟨q1,q2⟩:=qWs hl h1;obtain⟨q3,q4⟩:=qQp q1;obtain⟨q5,q6⟩:=qQp q2;have hi:i<ms.length:=(glt e1);rw[e4 l];rw[e3]at hO hm hF;refine⟨qMz l (by show ("clip":Str)≠"gap";decide+kernel) (by show ("clip":Str)≠"gap";decide+kernel) _ _ hO,qMh l ⟨_,_,_,_,_,_,O⟩ ⟨_,_,_,_,_,_,O⟩ _ _ hm,qJt ?_ ?_ _ _ _ ?_ hF⟩
 . have:=qMq ms (i+1)
   rw[this];omega
 . intro n1 p1 q1 r1' s1 k1 n2 p2 q2 r2' s2 k2 eA eB
   cases eA;cases eB;exact⟨N,N',r1,r2,q4,q6⟩
 . show tbL 0 (ms.take i)+l.fdiv 2<=k
   rw[qM1 (by omega)];omega
theorem qWp:∀(ms:List Im) (g:Bool),(∀l,Im.gap l∈ms->1<=l)->GG ms->qCv ms->(g=true->ms≠[]/\∀l,ms.head?≠some (.gap l))->OS g ms
 |[],g,_,_,_,h=>by
  cases g with
  |false=>rfl
  |true=>exact YC rfl (h rfl).1
 |m::ms,g,hp,hg,hl,h=>by
  have hg':GG ms:=λi l l' a b=>hg (i+1) l l' (by rw[List.getElem?_cons_succ];exact a) (by rw[List.getElem?_cons_succ];exact b);have hl':qCv ms:=λl e=>by
   cases ms with
   |nil=>simp at e
   |cons x ms=>exact hl l (by simpa using e)
  have ih:=λg=>qWp ms g (λl hm=>hp l (by simp[hm])) hg' hl';by_cases hx:m.wd="gap"
  . obtain⟨l,rfl⟩:=xc hx
    refine⟨?_,hp l (by simp),ih true λ_=>⟨λe=>?_,λl' e=>?_⟩⟩
    . cases g with
      |false=>rfl
      |true=>exact YC rfl ((h rfl).2 l)
    . subst e
      exact hl l rfl
    . refine hg 0 l l' rfl ?_
      rw[List.getElem?_cons_succ,<-List.head?_eq_getElem?];exact e
  . rw[jE hx]
    exact ih false λe=>by cases e
theorem qYg{x:Int}(hx:0<=x)(hb:0<b):0<=x.fdiv b:=by
 have h:=(qz (p:=x) hb).2;by_cases c:0<=x.fdiv b
 . exact c
 . have:=Ym (c:=b) (show x.fdiv b+1<=0 by omega) (by omega)
   omega
theorem qW5{rs len:Int}(b0:1<=bo)(n0:1<=len)(l0:0<=lo)(l1:lo+(((len-1)*qCu to).fdiv bo+1)<N)(r0:0<=rs)(r1:rs<7):
 (0<=stF lo rs to bo len/\stF lo rs to bo len<N*(7*bo))/\0<=stF lo rs to bo len+7*(len-1)*to/\stF lo rs to bo len+7*(len-1)*to<N*(7*bo):=by
 have hf:=qz (p:=(len-1)*qCu to) (q:=bo) (by omega);have hx:0<=(len-1)*qCu to:=Int.mul_nonneg (by omega) (by unfold qCu;split <;> omega);have hF:=qYg hx (show 0<bo by omega);generalize ((len-1)*qCu to).fdiv bo=F at*;have m1:0<=bo*(7*lo+rs):=Int.mul_nonneg (by omega) (by omega);have m2:bo*(7*(lo+F+1)+rs)<bo*(7*N):=Int.mul_lt_mul_of_pos_left (by omega) (by omega);have m3:bo*(7*lo+rs)<bo*(7*N):=Int.mul_lt_mul_of_pos_left (by omega) (by omega);have e1:lo*7*bo+rs*bo=bo*(7*lo+rs):=by grind
 have e2:N*(7*bo)=bo*(7*N):=by grind
 have e3:bo*(7*(lo+F+1)+rs)=bo*(7*lo+rs)+7*((F+1)*bo):=by grind
 unfold stF;rw[e2];by_cases ht:to<0
 . rw[YB ht]
   have ea:qCu to=-to:=by unfold qCu;rw[YB ht]
   rw[ea]at hf hx;have e4:7*(len-1)*to=-(7*((len-1)* -to)):=by grind
   rw[e4,e1];generalize (len-1)* -to=X at*;generalize bo*(7*lo+rs)=Y at*;generalize (F+1)*bo=Z at*;generalize bo*(7*N)=W at*;generalize bo*(7*(lo+F+1)+rs)=U at*;exact⟨⟨by omega,by omega⟩,by omega,by omega⟩
 . rw[YA ht]
   have ea:qCu to=to:=by unfold qCu;rw[YA ht]
   rw[ea]at hf hx;have e4:7*(len-1)*to=7*((len-1)*to):=by grind
   rw[e4,e1];generalize (len-1)*to=X at*;generalize bo*(7*lo+rs)=Y at*;generalize (F+1)*bo=Z at*;generalize bo*(7*N)=W at*;generalize bo*(7*(lo+F+1)+rs)=U at*;exact⟨⟨by omega,by omega⟩,by omega,by omega⟩
theorem qH1{st k:Int}(b0:1<=bo)(h0:0<=st+7*k*to)(h1:st+7*k*to<N*(7*bo)):InR (Vk (xI st (7*bo)) (jq st (7*bo)) (xI to bo) (jq to bo) k) (jq st (7*bo)*jq to bo) N:=by
 have c1:=xy st (7*bo);have c2:=xy to bo;have q0:=xD (t:=st) (b:=7*bo) (by omega);have s0:=xD (t:=to) (b:=bo) (by omega);generalize xI st (7*bo)=p at*;generalize jq st (7*bo)=q at*;generalize xI to bo=r at*;generalize jq to bo=s at*;refine(qD2 (Yu q0 s0) (show 0<7*bo by omega) ?_).mpr ⟨h0,h1⟩;unfold Vk;have e1:(p*s+k*r*q)*(7*bo)=s*(p*(7*bo))+7*k*q*(r*bo):=by grind
 rw[e1,c1,c2]
 grind
theorem CF.lay(h:CF A m){re:Addr}(hr:RE H re A):LayOk H re m:=by
 obtain⟨hit,_⟩:=h.it hr.2.1 hr.2.2;obtain⟨nm,N,lo,rs,to,bo,len,hn,n0,n1,t0,t1,b0,b1,l0,l1,r0,r1,rfl⟩:=h;obtain⟨N',hc⟩:=hit _ _ _ _ _ _ rfl;obtain⟨i0,i1⟩:=qW5 (to:=to) b0 n0 l0 l1 r0 r1;have hrl:rlE A nm=some N:=by
  unfold rlE;rcases hn with ⟨rfl,rfl⟩|⟨rfl,rfl⟩
  . rw[YB rfl]
  . rw[YA (by decide+kernel),YB rfl]
 have hnm:qKf nm=true/\nm.length<=1000:=by rcases hn with ⟨rfl,rfl⟩|⟨rfl,rfl⟩ <;> exact⟨by decide+kernel,by decide+kernel⟩
 refine⟨N,hr.at _ _ hrl,⟨hnm.1,hnm.2,hc.bn.mono (m:=700),hc.g1.2.1,hc.g2.2.1,hc.l1,hc.bl⟩,?_,?_⟩
 . exact qH1 b0 (by simpa using i0.1) (by simpa using i0.2)
 . exact qH1 b0 i1.1 i1.2
def LayG(A:Int)(m:Im):Prop:=(∃b l,m=.nest "low" b l/\0<=b/\b<5/\1<=l/\l<=8)\/CF A m
theorem LayG.ok(h:LayG A m){re:Addr}(hr:RE H re A):LayOk H re m/\m.wd≠"mix"/\1<=m.mo/\m.mo<=10:=by
 rcases h with ⟨b,l,rfl,b0,_,l1,l2⟩|h
 . exact⟨⟨by decide+kernel,b0,l1⟩,by show ("nest":Str)≠"mix";decide+kernel,l1,by show l<=10;omega⟩
 . refine⟨h.lay hr,TI.nm (.inr (.inr h)),(h.it hr.2.1 hr.2.2).2.2.1,(h.it hr.2.1 hr.2.2).2.2.2⟩
theorem qQb{B D:Int}{m k:Int}(h0:InR A D N)(h1:InR (A+m*B) D N)(k0:0<=k)(km:k<=m):InR (A+k*B) D N:=by
 unfold InR at*;by_cases hB:0<=B
 . have a1:=Int.mul_nonneg k0 hB
   have a2:=Ym km hB;omega
 . have a1:=Int.mul_nonpos_of_nonneg_of_nonpos k0 (show B<=0 by omega)
   have a2:=Int.mul_le_mul_of_nonpos_right km (show B<=0 by omega);omega
theorem qTw(p q r s k:Int):Vk p q r s k=p*s+k*(r*q):=by unfold Vk;grind
theorem qTc{l:Int}(h0:InR (Vk p q r s 0) (q*s) N)(h1:InR (Vk p q r s (l-1)) (q*s) N):∀k,0<=k->k<l->InR (Vk p q r s k) (q*s) N:=λk k0 k1=>by rw[qTw]at h0 h1⊢;rw[Int.zero_mul,Yc]at h0;exact qQb h0 h1 k0 (by omega)
theorem qA9{k:Int}(hq:0<q)(hs:0<s):InR (Vk (plP p q r s b) (plQ p q r s b) r s k) (plQ p q r s b*s) N↔InR (Vk p q r s (b+k)) (q*s) N:=by
 have c:=qDq p q r s b;have hb:=qF5 (p:=p) (r:=r) (k:=b) hq hs;refine qD2 (Yu hb hs) (Yu hq hs) ?_;unfold Vk;generalize plP p q r s b=u at c⊢;generalize plQ p q r s b=v at c⊢
 grind
theorem qG2{x y k:Int}(h0:InR (Vk p q r s x) (q*s) N)(h1:InR (Vk p q r s y) (q*s) N)(k0:x<=k)(k1:k<=y):InR (Vk p q r s k) (q*s) N:=by
 rw[qTw]at h0 h1⊢;have e1:p*s+y*(r*q)=p*s+x*(r*q)+(y-x)*(r*q):=by grind
 have e2:p*s+k*(r*q)=p*s+x*(r*q)+(k-x)*(r*q):=by grind
 rw[e1]at h1;rw[e2];exact qQb h0 h1 (by omega) (by omega)
structure GC(A:Int)(n:Str)(p q r s l N:Int):Prop where
 rn:rlE A n=some N
 n1:1<=N
 n2:N<=1000000000
 q0:0<q
 s0:0<s
 g1:Int.gcd p q=1
 g2:Int.gcd r s=1
 dq:q∣420
 ds:s∣60
 rb:r.natAbs<=6
 l1:1<=l
 i0:InR (Vk p q r s 0) (q*s) N
 i1:InR (Vk p q r s (l-1)) (q*s) N
theorem qV3{k:Int}(hq:0<q)(hs:0<s)(dq:q∣420)(ds:s∣60):plQ p q r s k∣420:=by
 obtain⟨a,ha⟩:=dq;obtain⟨b,hb⟩:=ds;have c:=qDq p q r s k;have g:=qRi (p:=p) (r:=r) (k:=k) hq hs;have hqs:q*s≠0:=Int.ne_of_gt (Yu hq hs);generalize plP p q r s k=u at c g;generalize plQ p q r s k=v at c g⊢;have key:u*420=(p*a+k*r*(7*b))*v:=by
  apply ZX hqs;have e1:u*420*(q*s)=u*(q*s)*420:=by grind
  have e2:(p*a+k*r*(7*b))*v*(q*s)=v*(p*s*(q*a)+k*r*q*(7*(s*b))):=by grind
  rw[e1,c,e2,<-ha,<-hb]
  grind
 have hd:v∣u*420:=⟨_,by rw[key,ZK]⟩;have hn:v.natAbs∣u.natAbs*(420:Int).natAbs:=by rw[<-Int.natAbs_mul];exact Int.natAbs_dvd_natAbs.mpr hd
 have hc:Nat.Coprime v.natAbs u.natAbs:=by show Nat.gcd _ _=1;rw[Nat.gcd_comm];exact g
 exact Int.natAbs_dvd_natAbs.mp (hc.dvd_of_dvd_mul_left hn)
theorem GC.move{n:Str}{l:Int}(h:GC A n p q r s l N)(hl:1<=l')(h0:InR (Vk p q r s b) (q*s) N)(h1:InR (Vk p q r s (b+(l'-1))) (q*s) N):GC A n (plP p q r s b) (plQ p q r s b) r s l' N:=
 ⟨h.rn,h.n1,h.n2,qF5 h.q0 h.s0,h.s0,qRi h.q0 h.s0,h.g2,qV3 h.q0 h.s0 h.dq h.ds,h.ds,h.rb,hl,(qA9 h.q0 h.s0).mpr (by rw[Yc];exact h0),(qA9 h.q0 h.s0).mpr h1⟩
theorem GC.at{n:Str}{l:Int}(h:GC A n p q r s l N){k:Int}(k0:0<=k)(k1:k<l):InR (Vk p q r s k) (q*s) N:=qTc h.i0 h.i1 k k0 k1
theorem GC.bd{n:Str}{l:Int}(h:GC A n p q r s l N):p.natAbs<2 ^ 40/\q.natAbs<2 ^ 40/\r.natAbs<2 ^ 40/\s.natAbs<2 ^ 40:=by
 have q1:=Int.le_of_dvd (by decide) h.dq;have s1:=Int.le_of_dvd (by decide) h.ds;have q0:=h.q0;have s0:=h.s0;have rb:=h.rb;obtain⟨a1,a2⟩:=h.i0;have e0:Vk p q r s 0=p*s:=by unfold Vk;grind
 rw[e0]at a1 a2;have p0:0<=p:=by
  by_cases c:0<=p
  . exact c
  . have:=Int.mul_neg_of_neg_of_pos (show p<0 by omega) s0
    omega
 have p1:p<N*q:=by
  have e1:N*(q*s)=N*q*s:=by grind
  rw[e1]at a2;exact Yr a2 (by omega)
 have p2:N*q<=1000000000*420:=Int.mul_le_mul h.n2 q1 (by omega) (by decide);exact⟨by omega,by omega,by omega,by omega⟩
theorem p40{x:Nat}(h:x<2 ^ 40)(hn:40<=n):x<2 ^ n:=YR h (Yh (by decide) hn)
theorem GC.rc{n:Str}{l:Int}(h:GC A n p q r s l N)(hl:l<=100000):Rc n p q r s l (rlE A) N:=by obtain⟨b1,b2,b3,b4⟩:=h.bd;have l1:=h.l1;have n1:=h.n1;have n2:=h.n2;exact⟨⟨h.q0,h.g1,p40 b1 (by decide),p40 b2 (by decide)⟩,⟨h.s0,h.g2,p40 b3 (by decide),p40 b4 (by decide)⟩,by omega,l1,h.rn,p40 (by omega) (by decide)⟩
def GI(A:Int):Im->Prop
 |.clip n p q r s l=> ∃N,GC A n p q r s l N
 |.nest n b l=>n="low"/\0<=b/\1<=l
 |.gap l=>1<=l
 |.mix l=>1<=l
theorem GI.wf(h:GI A m):Wf m:=by
 cases m with
 |clip n p q r s l=>obtain⟨N,c⟩:=h;exact⟨c.q0,c.s0,c.g1,c.l1⟩
 |nest n b l=>exact h.2.2
 |gap l=>exact h
 |mix l=>exact h
theorem GI.part(h:GI A m)(hm:m.wd≠"mix"){x y:Int}(h0:0<=x)(h1:x<y)(h2:y<=m.mo):GI A (qp m x y):=by
 cases m with
 |clip n p q r s l=>
  obtain⟨N,c⟩:=h;have h2:y<=l:=h2;exact⟨N,c.move (b:=x) (l':=y-x) (by omega) (c.at h0 (by omega)) (c.at (by omega) (by omega))⟩
 |nest n b l=>
  obtain⟨a1,a2,a3⟩:=h;exact⟨a1,by show 0<=b+x;omega,by show 1<=y-x;omega⟩
 |gap l=>show 1<=y-x;omega
 |mix l=>exact YC rfl hm
theorem GI.ib(h:GI A m):ImB m:=by
 cases m with
 |clip n p q r s l=>
  obtain⟨N,c⟩:=h;obtain⟨b1,b2,b3,b4⟩:=c.bd;exact⟨c.q0,c.s0,p40 b1 (by decide),p40 b2 (by decide),p40 b3 (by decide),p40 b4 (by decide)⟩
 |_=>trivial
theorem GI.it(h:GI A m)(hl:m.mo<=100000):ItR (rlE A) m:=λn p q r s l e=>by subst e;obtain⟨N,c⟩:=h;exact⟨N,c.rc hl⟩
theorem GI.ih(h:GI A m)(hl:m.mo<=100000):ImH m:=by
 cases m with
 |clip n p q r s l=>
  have hb:=h.ib;obtain⟨N,c⟩:=h;have:=c.l1;have hl:l<=100000:=hl;exact⟨hb,p40 (by omega) (by decide)⟩
 |_=>trivial
theorem qQj(t b:Int):jq t b∣b:=⟨_,(qOu t b).symm⟩
theorem CF.gi(h:CF A m)(hA:60<=A/\A<360):GI A m:=by
 obtain⟨nm,N,lo,rs,to,bo,len,hn,n0,n1,t0,t1,b0,b1,l0,l1,r0,r1,rfl⟩:=h;obtain⟨i0,i1⟩:=qW5 (to:=to) b0 n0 l0 l1 r0 r1;have hrl:rlE A nm=some N/\1<=N/\N<=1000000000:=by
  unfold rlE;rcases hn with ⟨rfl,rfl⟩|⟨rfl,rfl⟩
  . rw[YB rfl];exact⟨rfl,by omega,by omega⟩
  . rw[YA (by decide+kernel),YB rfl];exact⟨rfl,by decide,by decide⟩
 have hbo:bo=1\/bo=2\/bo=3\/bo=4\/bo=5:=by omega
 have d1:7*bo∣420:=by rcases hbo with rfl|rfl|rfl|rfl|rfl <;> decide
 have d2:bo∣60:=by rcases hbo with rfl|rfl|rfl|rfl|rfl <;> decide
 have ab:=qA1 (t:=to) (b:=bo) (by omega);exact⟨N,hrl.1,hrl.2.1,hrl.2.2,xD (by omega),xD (by omega),qAa (by omega),qAa (by omega),Int.dvd_trans (qQj _ _) d1,Int.dvd_trans (qQj _ _) d2,by omega,n0,qH1 b0 (by simpa using i0.1) (by simpa using i0.2),qH1 b0 i1.1 i1.2⟩
theorem TI.gi{A:Int}{m:Im}(h:TI A m)(hA:60<=A/\A<360):GI A m:=by
 rcases h with ⟨l,rfl,h1,h2⟩|⟨b,l,rfl,h0,_,h1,h2⟩|h
 . exact h1
 . exact⟨O,h0,h1⟩
 . exact h.gi hA
theorem LayG.gi{A:Int}{m:Im}(h:LayG A m)(hA:60<=A/\A<360):GI A m:=by
 rcases h with ⟨b,l,rfl,b0,_,l1,l2⟩|h
 . exact⟨O,b0,l1⟩
 . exact h.gi hA
structure GdT(A:Int)(ms:List Im):Prop where
 os:OS false ms
 mo:MO none ms
 fs:FS (RmR (rlE A)) 0 none ms
structure GT(A:Int)(M:Int)(c:Nat)(ms:List Im):Prop where
 it:∀m∈ms,GI A m
 gd:GdT A ms
 le:qY ms<=M
 ct:ms.length<=c
theorem GT.wf{A M:Int}{c:Nat}{ms:List Im}(h:GT A M c ms):∀m∈ms,Wf m:=λm hm=>(h.it m hm).wf
theorem GT.nn(h:GT A M c ms):Nn ms:=λm hm=>(h.wf m hm).mo
theorem GT.mono(h:GT A M c ms)(h1:M<=M')(h2:c<=c'):GT A M' c' ms:=⟨h.it,h.gd,by have:=h.le;omega,by have:=h.ct;omega⟩
theorem qJq:∀{ms:List Im},Nn ms->∀m∈ms,m.mo<=qY ms
 |[],_,m,h=>by cases h
 |x::xs,hn,m,h=>by
  rw[qK];have h1:=hn x (by simp);have h2:=Nn.len hn.tail;rcases YU.mp h with rfl|h
  . omega
  . have:=qJq hn.tail m h
    omega
theorem wK:∀{ms:List Im} {b:Int} {i0 i:Nat} {t d:Int},jt b i0 ms t=some (i,d)->∃A m B,ms=A++m::B/\i=i0+A.length/\t=b+qY A+d/\0<=d/\d<m.mo
 |[],_,_,_,_,_,h=>by simp[jt]at h
 |m::ms,b,i0,i,t,d,h=>by
  rw[jt]at h;by_cases hc:b<=t/\t<b+m.mo
  . rw[YB hc]at h
    cases h;exact⟨[],m,ms,O,O,by rw[qf];omega,by omega,by omega⟩
  . rw[YA hc]at h
    obtain⟨A,x,B,h1,h2,h3,h4,h5⟩:=wK h;exact⟨m::A,x,B,by rw[h1];rfl,by rw[YE];omega,by rw[qK];omega,h4,h5⟩
theorem xQ{α:Type}(A:List α)(m:α)(B:List α):(A++m::B)[A.length]?=some m:=by rw[Yz (YI _),Nat.sub_self];rfl
theorem qOm(hx:Wf x)(hy:Wf y)(hc:qJ3 x y=true):x=qp (glue x y) 0 x.mo/\y=qp (glue x y) x.mo (glue x y).mo/\Wf (glue x y)/\((glue x y).wd="clip"\/(glue x y).wd="nest")/\0<x.mo/\x.mo<(glue x y).mo:=by
 rcases vV hc with ⟨n,p,q,r,s,l,n',p',q',r',s',l',rfl,rfl⟩|⟨n,b,l,n',b',l',rfl,rfl⟩
 . have hc:goB n n' p q r s l p' q' r' s'=true:=hc
   unfold goB at hc;simp only[Yl,beq_iff_eq,decide_eq_true_eq]at hc;obtain⟨rfl,⟨rfl,rfl⟩,rfl,rfl⟩:=hc;obtain⟨h1,h2⟩:=qBw (r:=r) (s:=s) hx.1 hx.2.1 hx.2.2.1;have l1:1<=l:=hx.2.2.2;have l2:1<=l':=hy.2.2.2;refine⟨?_,?_,⟨hx.1,hx.2.1,hx.2.2.1,by show 1<=l+l';omega⟩,.inl rfl,by show 0<l;omega,by show l<l+l';omega⟩
   . show _=Im.clip n (plP p q r s 0) (plQ p q r s 0) r s (l-0)
     rw[h1,h2,ZU]
   . show _=Im.clip n (plP p q r s l) (plQ p q r s l) r s (l+l'-l)
     congr 1;omega
 . have hc:(decide (n=n') && decide (b'=b+l))=true:=hc
   simp only[Yl,decide_eq_true_eq]at hc;obtain⟨rfl,rfl⟩:=hc;have l1:1<=l:=hx;have l2:1<=l':=hy;refine⟨?_,?_,(by show 1<=l+l';omega),.inr rfl,by show 0<l;omega,by show l<l+l';omega⟩
   . show _=Im.nest n (b+0) (l-0)
     rw[Yc,ZU]
   . show _=Im.nest n (b+l) (l+l'-l)
     congr 1;omega
theorem qEa{α:Type}{A:List α}(h:A≠[]):∃(X:List α) (a:α),A=X++[a]:=⟨A.dropLast,A.getLast h,(List.dropLast_concat_getLast h).symm⟩
theorem qK0{t i:Int}(h:nbF ms t=some (i,j)):(∃(A:List Im) (x y:Im) (B:List Im),ms=A++x::y::B/\i=(A.length:Int)/\j=i+1/\t=qY A+x.mo/\x.wd≠"mix"/\0<y.mo)\/∃(A:List Im) (l:Int) (y:Im) (B:List Im),ms=A++ .mix l::y::B/\j=((A.length+1:Nat):Int)/\i=(A.length:Int)-1/\t=qY A/\0<y.mo:=by
 unfold nbF at h;cases hi:jt 0 0 ms t with
 |none=>rw[hi]at h;cases h
 |some r=>
  obtain⟨k,d⟩:=r;rw[hi]at h;dsimp only at h;by_cases hc:d≠0\/(k:Int)=0
  . rw[YB hc]at h;cases h
  . rw[YA hc]at h
    have d0:d=0:=by omega
    subst d0;obtain⟨A,y,B,h1,h2,h3,h4,h5⟩:=wK hi;have hA:A≠[]:=by rintro rfl;apply hc;right;rw[h2];rfl
    obtain⟨X,x,rfl⟩:=qEa hA;have e:ms=X++x::y::B:=by rw[h1];simp
    have hkx:k=X.length+1:=by rw[h2,YN];show 0+(X.length+1)=_;omega
    have hk:qt ms ((k:Int)-1)=x.wd:=jp (i:=X.length) (by rw[e];exact xQ _ _ _) (by omega);rw[hk]at h;rw[qX,qK,qf]at h3;by_cases hm:x.wd="mix"
    . obtain⟨l,rfl⟩:=jw hm
      rw[YB hm]at h;have:=Prod.mk.inj (Yb h);have e0:(Im.mix l).mo=0:=rfl;exact .inr ⟨X,l,y,B,e,by omega,by omega,by omega,by omega⟩
    . rw[YA hm]at h
      have:=Prod.mk.inj (Yb h);exact .inl ⟨X,x,y,B,e,by omega,by omega,by omega,hm,by omega⟩
theorem qQh{A:List Im}{t:Int}(h:nbF (A++x::y::B) t=some ((A.length:Int),(A.length:Int)+1)):wX (A++x::y::B) t=if qJ3 x y=true then some (A++glue x y::B)else none:=by
 unfold wX;rw[h];dsimp only;have e0:((A.length:Int)+1).toNat=A.length+1:=by omega
 rw[YQ,e0];have e1:(A++x::y::B)[A.length]?=some x:=xQ _ _ _;have e2:(A++x::y::B)[A.length+1]?=some y:=by
  have:=xQ (A++[x]) y B;rw[YN,Yy]at this;have e:A++x::y::B=(A++[x])++y::B:=by simp
  rw[e];exact this
 rw[e1,e2];dsimp only;have e3:(A++x::y::B).take A.length=A:=by rw[ZI];rfl
 have e4:(A++x::y::B).drop (A.length+1+1)=B:=by
  have e5:A++x::y::B=(A++[x,y])++B:=by simp
  rw[e5,ZP];simp
 rw[e3,e4];have e6:A++[glue x y]++B=A++glue x y::B:=by simp
 rw[e6]
theorem qE2{A:List Im}{l:Int}(hM:MO none ms)(e:ms=A++ .mix l::B):∃A' n p q r s k n' p' q' r' s' k' B',A=A'++[.clip n p q r s k]/\B=.clip n' p' q' r' s' k'::B':=by
 rw[e]at hM;have h:=qKk hM;obtain⟨⟨n,p,q,r,s,k,h1⟩,n',p',q',r',s',k',h2⟩:=h.1;have hA:A≠[]:=by rintro rfl;cases h1
 obtain⟨X,x,rfl⟩:=qEa hA;rw[List.getLast?_concat]at h1;have h1:some x=some (.clip n p q r s k):=h1;cases h1;cases B with
 |nil=>cases h2
 |cons b B=>
  have h2:some b=some (.clip n' p' q' r' s' k'):=h2;cases h2;exact⟨X,n,p,q,r,s,k,n',p',q',r',s',k',B,O,O⟩
theorem qTl(hM:MO none ms){t i:Int}(h:nbF ms t=some (i,j)):0<=i:=by
 rcases qK0 h with ⟨A,x,y,B,e,rfl,_⟩|⟨A,l,y,B,e,_,rfl,_⟩
 . omega
 . obtain⟨X,n,p,q,r,s,k,n',p',q',r',s',k',Y,rfl,_⟩:=qE2 hM (show ms=A++ .mix l::(y::B)from e)
   rw[YN,Yy];omega
theorem qJ0{X X':List Im}(h:∀g,OS g X->OS g X'):∀(U:List Im) (g:Bool),OS g (U++X)->OS g (U++X')
 |[],g,q=>h g q
 |u::U,g,q=>by
  by_cases hg:u.wd="gap"
  . obtain⟨l,rfl⟩:=xc hg
    exact⟨q.1,q.2.1,qJ0 h U _ q.2.2⟩
  . rw[YT,jE hg]at q⊢
    exact qJ0 h U _ q
theorem qIh{x x':Im}{T T':List Im}(hc:qKl (some x)->qKl (some x'))(h:∀p,MO p (x::T)->MO p (x'::T')):∀(U:List Im) (p:Option Im),MO p (U++x::T)->MO p (U++x'::T')
 |[],p,q=>h p q
 |u::U,p,q=>by
  by_cases hm:u.wd="mix"
  . obtain⟨l,rfl⟩:=jw hm
    refine⟨⟨q.1.1,?_⟩,qIh hc h U _ q.2⟩;cases U with
    |nil=>exact hc q.1.2
    |cons b U=>exact q.1.2
  . rw[YT,qy hm]at q⊢
    exact qIh hc h U _ q
theorem qUz(h:m.wd="clip"):qKl (some m):=by obtain⟨n,p,q,r,s,l,rfl⟩:=qRf h;exact⟨_,_,_,_,_,_,O⟩
theorem qWc(h:qKl (some m)):m.wd="clip":=by obtain⟨n,p,q,r,s,l,e⟩:=h;rw[Yb e];rfl
theorem qZd(h:m.wd="clip"):m.wd≠"gap"/\m.wd≠"mix":=by rw[h];decide+kernel
theorem qA5{α:Type}{xs:List α}{x:α}(h:xs[i]?=some x)(y:α):xs=xs.take i++x::xs.drop (i+1)/\xs.set i y=xs.take i++y::xs.drop (i+1):=by
 have hi:=(glt h);constructor
 . rw[<-xT h,List.take_append_drop]
 . rw[List.set_eq_take_append_cons_drop,YB hi]
theorem qR6(h:qt ms ((i:Int)+1)≠"mix"):NHM (ms.drop (i+1)):=λl e=>by rw[List.head?_drop]at e;exact h (jp e (by omega))
theorem qNb(h:ms[i]?=some m)(m':Im):qY (ms.set i m')=qY ms-m.mo+m'.mo:=by obtain⟨e1,e2⟩:=qA5 h m';have a1:=congrArg qY e1;rw[qX,qK]at a1;rw[e2,qX,qK];omega
theorem qPl{i:Int}(h:hmB ms i=false):qt ms (i-1)≠"mix"/\qt ms (i+1)≠"mix":=by unfold hmB at h;simpa using h
theorem wB(h:ms[i]?=some m)(e:m'.wd=m.wd)(k:Int):qt (ms.set i m') k=qt ms k:=by
 unfold qt;split
 . rfl
 . rw[List.getElem?_set]
   by_cases c:i=k.toNat
   . subst c
     rw[YB rfl,YB (glt h),h];exact e
   . rw[YA c]
theorem qKp{n:Str}{l:Int}(h:GC A n p q r s l N)(b0:0<b)(hb:b<=xK p q r s l N):InR (Vk p q r s (l+(b-1))) (q*s) N:=by have:=(qBu (p:=p) (q:=q) (r:=r) (s:=s) (k0:=l) (e:=1) (m:=N) h.q0 h.s0 (.inl rfl) (λ_=>h.i0)).2.2.1 (b-1) (by omega) (by unfold xK at hb;omega);rw[Int.one_mul]at this;exact this
theorem qKr{n:Str}{l:Int}(h:GC A n p q r s l N)(b0:b<=0)(hb: -b<=xL p q r s N):InR (Vk p q r s b) (q*s) N:=by
 by_cases z:b=0
 . subst z;exact h.i0
 have:=(qBu (p:=p) (q:=q) (r:=r) (s:=s) (k0:= -1) (e:= -1) (m:=N) h.q0 h.s0 (.inr rfl) (λ_=>h.i0)).2.2.1 (-b-1) (by omega) (by unfold xL at hb;omega);have e: -1+ -1*(-b-1)=b:=by omega
 rw[e]at this;exact this
theorem GC.slip{n:Str}{l:Int}(h:GC A n p q r s l N)(hb:wb b<=if 0<b then xK p q r s l N else xL p q r s N):GC A n (plP p q r s b) (plQ p q r s b) r s l N:=by
 have l1:=h.l1;unfold wb at hb;by_cases b0:0<b
 . rw[YB b0,YA (by omega)]at hb
   have t:=qKp h b0 hb;have e:b+(l-1)=l+(b-1):=by omega
   exact h.move l1 (qG2 h.i0 t (by omega) (by omega)) (by rw[e];exact t)
 . rw[YA b0]at hb
   have t:=qKr (b:=b) h (by omega) (by split at hb <;> omega);exact h.move l1 t (qG2 t h.i1 (by omega) (by omega))
theorem GC.roll{n:Str}{l N':Int}(h:GC A n p q r s l N)(h':GC A n' p' q' r' s' l' N')(hb:wb b<=qB0 b (xK p q r s l N) (xL p' q' r' s' N') l l'):GC A n p q r s (l+b) N/\GC A n' (plP p' q' r' s' b) (plQ p' q' r' s' b) r' s' (l'-b) N':=by
 have l1:=h.l1;have l1':=h'.l1;unfold wb qB0 at hb;have k:1<=l+b/\InR (Vk p q r s (l+b-1)) (q*s) N/\1<=l'-b/\InR (Vk p' q' r' s' b) (q'*s') N':=by
  by_cases b0:0<b
  . rw[YB b0,YA (by omega)]at hb
    have hb':b<=l'-1/\b<=xK p q r s l N:=by split at hb <;> omega
    have e:l+b-1=l+(b-1):=by omega
    exact⟨by omega,by rw[e];exact qKp h b0 hb'.2,by omega,h'.at (by omega) (by omega)⟩
  . rw[YA b0]at hb
    have hb': -b<=xL p' q' r' s' N'/\ -b<=l-1:=by split at hb <;> split at hb <;> omega
    exact⟨by omega,h.at (by omega) (by omega),by omega,qKr h' (by omega) hb'.1⟩
 refine⟨⟨h.rn,h.n1,h.n2,h.q0,h.s0,h.g1,h.g2,h.dq,h.ds,h.rb,k.1,h.i0,k.2.1⟩,h'.move k.2.2.1 k.2.2.2 ?_⟩;have e:b+(l'-b-1)=l'-1:=by omega
 rw[e];exact h'.i1
theorem GI.glue{A:Int}{x y:Im}(hx:GI A x)(hy:GI A y)(hc:qJ3 x y=true):GI A (glue x y):=by
 rcases vV hc with ⟨n,p,q,r,s,l,n',p',q',r',s',l',rfl,rfl⟩|⟨n,b,l,n',b',l',rfl,rfl⟩
 . have hc:goB n n' p q r s l p' q' r' s'=true:=hc
   unfold goB at hc;simp only[Yl,beq_iff_eq,decide_eq_true_eq]at hc;obtain⟨rfl,⟨rfl,rfl⟩,rfl,rfl⟩:=hc;obtain⟨N,g⟩:=hx;obtain⟨N',g'⟩:=hy;obtain rfl:N'=N:=by have:=g'.rn;rw[g.rn]at this;exact(Yb this).symm
   have l1:=g.l1;have l2:=g'.l1;refine⟨N',g.rn,g.n1,g.n2,g.q0,g.s0,g.g1,g.g2,g.dq,g.ds,g.rb,by show 1<=l+l';omega,g.i0,?_⟩;have:=(qA9 g.q0 g.s0).mp g'.i1;have e:l+l'-1=l+(l'-1):=by omega
   show InR (Vk p q r s (l+l'-1)) (q*s) N';rw[e];exact this
 . obtain⟨a1,a2,a3⟩:=hx
   obtain⟨_,_,b3⟩:=hy;exact⟨a1,a2,by show 1<=l+l';omega⟩
theorem qT2(h:qJ3 m m'=true):m.wd=m'.wd/\(m'.wd="clip"\/m'.wd="nest"):=by
 rcases vV h with ⟨n,p,q,r,s,l,n',p',q',r',s',l',rfl,rfl⟩|⟨n,b,l,n',b',l',rfl,rfl⟩
 . exact⟨O,.inl rfl⟩
 . exact⟨O,.inr rfl⟩
theorem qQf(hc:qJ3 x y=true):(glue x y).mo=x.mo+y.mo/\(glue x y).wd=x.wd:=by rcases vV hc with ⟨n,p,q,r,s,l,n',p',q',r',s',l',rfl,rfl⟩|⟨n,b,l,n',b',l',rfl,rfl⟩ <;> exact⟨rfl,rfl⟩
theorem GT.mixd{t l:Int}(h:GT A M c ms)(hc:cbF ms t=some ((i:Int),((i+1:Nat):Int)))(hM:mmF (rlE A) ms t=some M')(h1:1<=l)(hl:l<=M'):GT A M (c+1) (ms.take (i+1)++[.mix l]++ms.drop (i+1)):=by
 obtain⟨z1,z2,z3⟩:=qU5 hc hM h1 hl h.gd.os h.gd.mo h.gd.fs;refine⟨λm hm=>?_,⟨z1,z2,z3⟩,?_,?_⟩
 . rcases YO.mp hm with hm|hm
   . rcases YO.mp hm with hm|hm
     . exact h.it m (List.mem_of_mem_take hm)
     . rw[YY]at hm;subst hm;exact h1
   . exact h.it m (List.mem_of_mem_drop hm)
 . have:=congrArg qY (List.take_append_drop (i+1) ms)
   rw[qX]at this;rw[qX,qX,qK,qf];have e:(Im.mix l).mo=0:=rfl;have:=h.le;omega
 . have:=h.ct
   simp only[YN,Yk,ZV,Yy];omega
theorem qG7:∀(ms:List Im) (w:Int),(qx w ms).length<=ms.length+if 0<w then 1 else 0
 |[],w=>by simp[qx]
 |m::ms,w=>by
  by_cases hg:m.wd="gap"
  . obtain⟨l,rfl⟩:=xc hg
    have:=qG7 ms (w+l);rw[qx,YE];split at this <;> split <;> omega
  . have:=qG7 ms 0
    rw[YA (by omega)]at this;rw[qU hg];split
    . rw[YE,YE,YE]
      omega
    . rw[YE,YE]
      omega
theorem qNk:∀(ms:List Im) (c:Int),(cutF c ms).1.length+(cutF c ms).2.length<=ms.length+1
 |[],c=>by simp[cutF]
 |m::ms,c=>by
  rw[cutF];split
  . have:=qNk ms (c-m.mo)
    simp only[YE];omega
  . split
    . simp only[YE,ZO]
      omega
    . simp only[YE,ZO]
      omega
theorem qPp:∀(ms:List Im) (lo hi:Int),lo<=hi->(cutF lo ms).1.length+(cutF hi ms).2.length<=ms.length+1
 |[],lo,hi,_=>by simp[cutF]
 |m::ms,lo,hi,h=>by
  rw[cutF,cutF];by_cases c1:m.mo<=lo
  . rw[YB c1,YB (by omega)]
    have:=qPp ms (lo-m.mo) (hi-m.mo) (by omega);simp only[YE];omega
  . rw[YA c1]
    by_cases c2:m.mo<=hi
    . rw[YB c2]
      have:=qNk ms (hi-m.mo);split
      . simp only[YE,ZO]
        omega
      . simp only[YE,ZO]
        omega
    . rw[YA c2]
      split <;> split <;> simp only[YE,ZO] <;> omega
structure TB(A M:Int)(c:Nat)(ts:List (List Im))(tie:List Int):Prop where
 l3:ts.length=3
 ms:∀ms∈ts,GT A M c ms
 tl:tie.length<=3
 tin:∀x∈tie,∃k:Nat,x=(k:Int)/\k<ts.length
theorem TB.set{A M M':Int}{c c':Nat}{ts:List (List Im)}{tie:List Int}{ms:List Im}(h:TB A M c ts tie)(n:Nat)(hM:M<=M')(hc:c<=c')(hg:GT A M' c' ms):TB A M' c' (ts.set n ms) tie:=by
 refine⟨by rw[ZN];exact h.l3,λx hx=>?_,h.tl,λx hx=>by rw[ZN];exact h.tin x hx⟩;rcases List.mem_or_eq_of_mem_set hx with q|q
 . exact(h.ms x q).mono hM hc
 . rw[q];exact hg
theorem TB.tabD{re:Addr}{ts:List (List Im)}(h:TB A M c ts tie)(hM:M<=100000)(hc:c<=100)(ht:TabF H (.ref tz) ts tie)(hr:RE H re A):TabD H tz re (rlE A) ts tie:=by refine⟨ht,λms hm=>?_,by have:=h.l3;omega,by have:=h.tl;omega,h.tin,hr.at⟩;have q:=h.ms ms hm;have a1:=q.le;have a2:=q.ct;refine⟨⟨λm hm'=>⟨(q.it m hm').ib,(q.wf m hm').mo⟩,by omega⟩,by omega,λm hm'=>(q.it m hm').it ?_⟩;have:=qJq q.nn m hm';omega
def DkN(A M:Int):Dk->Prop
 |.hel _=>False
 |.cut t=>0<=t/\t<=M+4
 |.opn t l=>0<=t/\t<=M+4/\1<=l/\l<=5
 |.cls t u=>0<=t/\t<=M+4/\t<u/\u<=t+9
 |.lft t u=>0<=t/\t<=M+4/\t<u/\u<=t+9
 |.lin t m=>0<=t/\t<=M+4/\LayG A m
 |.lov t m=>0<=t/\t<=M+4/\LayG A m
theorem LayG.mo{A:Int}{m:Im}(h:LayG A m)(hA:60<=A/\A<360):m.wd≠"mix"/\1<=m.mo/\m.mo<=10:=by
 rcases h with ⟨b,l,rfl,b0,_,l1,l2⟩|h
 . exact⟨by show ("nest":Str)≠"mix";decide+kernel,l1,by show l<=10;omega⟩
 . exact⟨TI.nm (.inr (.inr h)),(h.it hA.1 hA.2).2.2⟩
theorem DkN.lay{d:Dk}(h:DkN A M d)(hA:60<=A/\A<360):0<=d.t/\d.t<=d.hi/\d.t<=M+4/\(∀m∈d.laid,GI A m/\m.wd≠"mix"/\1<=m.mo)/\d.laid.length<=1/\qY d.laid<=10:=by
 have gm:("gap":Str)≠"mix":=by decide+kernel
 have one:∀{m:Im},GI A m->m.wd≠"mix"->1<=m.mo->m.mo<=10->(∀x∈[m],GI A x/\x.wd≠"mix"/\1<=x.mo)/\[m].length<=1/\qY [m]<=10:=λ{m} a b c d=>⟨λx hx=>by rw[YY]at hx;subst hx;exact⟨a,b,c⟩,YI 1,by rw[qK,qf];omega⟩;have no:(∀x∈([]:List Im),GI A x/\x.wd≠"mix"/\1<=x.mo)/\([]:List Im).length<=1/\qY []<=10:=⟨(λx hx=>by cases hx),by decide,by decide⟩;cases d with
 |hel t=>exact h.elim
 |cut t=>exact⟨h.1,YH _,h.2,no⟩
 |opn t l=>
  obtain⟨a1,a2,a3,a4⟩:=h;exact⟨a1,YH _,a2,one (m:=.gap l) a3 gm a3 (by show l<=10;omega)⟩
 |cls t u=>
  obtain⟨a1,a2,a3,a4⟩:=h;exact⟨a1,by show t<=u;omega,a2,no⟩
 |lft t u=>
  obtain⟨a1,a2,a3,a4⟩:=h;have q:1<=u-t:=by omega
  exact⟨a1,by show t<=u;omega,a2,one (m:=.gap (u-t)) q gm q (by show u-t<=10;omega)⟩
 |lin t m=>
  obtain⟨a1,a2,a3⟩:=h;obtain⟨b1,b2,b3⟩:=a3.mo hA;exact⟨a1,YH _,a2,one (a3.gi hA) b1 b2 b3⟩
 |lov t m=>
  obtain⟨a1,a2,a3⟩:=h;obtain⟨b1,b2,b3⟩:=a3.mo hA;exact⟨a1,by show t<=t+m.mo;omega,a2,one (a3.gi hA) b1 b2 b3⟩
def DeN(A M:Int):De->Prop
 |.hel t=>0<=t/\t<=M+4
 |.mix t l=>0<=t/\t<=M+4/\1<=l/\l<=5
 |.unm t=>0<=t/\t<=M+4
 |.rol w t b=>Wd3 w/\0<=t/\t<=M+4/\b.natAbs<=4
 |.chg d=>DkN A M d
theorem qXg(hn:n<L)(ht:∀x∈tie,∃k:Nat,x=(k:Int)/\k<L)(push:Bool):∀k∈chF tie (n:Int) push,∃j:Nat,k=(j:Int)/\j<L:=by
 intro k hk;unfold chF at hk;split at hk
 . rcases YU.mp hk with rfl|hk
   . exact⟨n,O,hn⟩
   . exact ht k (List.mem_filter.mp hk).1
 . rw[YY]at hk
   exact⟨n,hk,hn⟩
theorem qMf{ts:List (List Im)}{hi:Int}(h:¬jJ ts ns lo hi=true):∀k∈ns,jL (ts.getD k.toNat []) lo hi=false:=λk hk=>by
 unfold jJ at h;rw[List.any_eq_true]at h;cases q:jL (ts.getD k.toNat []) lo hi with
 |false=>rfl
 |true=>exact YC ⟨k,hk,q⟩ h
theorem zm:∀(xs:List Im) (b:Int) (i0:Nat) (m:Im) (ys:List Im) (d:Int),Nn xs->0<=d->d<m.mo->jt b i0 (xs++m::ys) (b+qY xs+d)=some (i0+xs.length,d)
 |[],b,i0,m,ys,d,_,h0,hd=>by
  rw[Yg,jt,qf,YB (by omega)];have e:b+0+d-b=d:=by omega
  rw[e];rfl
 |x::xs,b,i0,m,ys,d,hx,h0,hd=>by
  have hx0:=hx x (by simp);have hs:=Nn.len hx.tail;have ih:=zm xs (b+x.mo) (i0+1) m ys d hx.tail h0 hd;rw[YT,jt,qK,YA (by omega)];have e:b+(x.mo+qY xs)+d=b+x.mo+qY xs+d:=by omega
  rw[e,ih,YE];congr 2;omega
structure Wi(ms:List Im)(t:Int)(A:List Im)(m:Im)(B:List Im)(d:Int):Prop where
 eq:ms=A++m::B
 t:t=qY A+d
 d0:0<d
 d1:d<m.mo
 k:m.wd="clip"\/m.wd="nest"
theorem xk{t:Int}(hw:Nn ms):qv ms t=true↔ ∃A m B d,Wi ms t A m B d:=by
 constructor
 . intro h
   unfold qv at h;cases hi:jt 0 0 ms t with
   |none=>rw[hi]at h;cases h
   |some r=>
    obtain⟨i,d⟩:=r;rw[hi]at h;dsimp only at h;obtain⟨A,m,B,h1,h2,h3,h4,h5⟩:=wK hi;rw[Nat.zero_add]at h2;have hk:qt ms (i:Int)=m.wd:=jp (by rw[h1,h2];exact xQ A m B) rfl;rw[hk]at h;simp only[Yl,Bool.or_eq_true,decide_eq_true_eq]at h;exact⟨A,m,B,d,h1,by omega,by omega,h5,h.2⟩
 . rintro⟨A,m,B,d,hW⟩
   have hA:Nn A:=λx hx=>hw x (by rw[hW.eq];simp[hx]);have hi:=zm A 0 0 m B d hA (by have:=hW.d0;omega) hW.d1;rw[<-hW.eq,Yp,<-hW.t,Nat.zero_add]at hi;unfold qv;rw[hi];dsimp only;have hk:qt ms (A.length:Int)=m.wd:=jp (by rw[hW.eq];exact xQ A m B) rfl;rw[hk];have:=hW.d0;rcases hW.k with h|h
   . rw[h];simp;omega
   . rw[h];simp;omega
theorem Wi.nm{t:Int}{A:List Im}{d:Int}(h:Wi ms t A m B d):m.wd≠"mix"/\m.wd≠"gap":=by rcases h.k with e|e <;> rw[e] <;> exact⟨by decide+kernel,by decide+kernel⟩
theorem qLo{m:Im}{B:List Im}{d:Int}(d0:0<d)(d1:d<m.mo):∀{A:List Im},Nn A->cutF (qY A+d) (A++m::B)=(A++[qp m 0 d],qp m d m.mo::B)
 |[],_=>by rw[qf,Yp,Yg,cutF,YA (by omega),YB d0];rfl
 |x::A,h=>by have:=Nn.len h.tail;have ih:=qLo (B:=B) d0 d1 (A:=A) h.tail;rw[YT,cutF,qK,YB (by omega),show x.mo+qY A+d-x.mo=qY A+d by omega,ih];rfl
theorem zA{Y:List Im}:∀(X:List Im) (w:Int),qx w (X++ .gap 0::Y)=qx w (X++Y)
 |[],w=>by rw[Yg,qx,Yc];rfl
 |x::X,w=>by
  by_cases hg:x.wd="gap"
  . obtain⟨l,rfl⟩:=xc hg
    rw[YT,YT,qx,qx,zA X]
  . rw[YT,YT,qU hg,qU hg,zA X]
theorem qHo{m x y:Im}{B:List Im}(hm:m.wd≠"gap")(hx:x.wd≠"gap")(hy:y.wd≠"gap"):∀{A:List Im} {g:Bool},OS g (A++m::B)->OS g (A++x::y::B)
 |[],g,h=>by rw[Yg,jE hm]at h;rw[Yg,jE hx,jE hy];exact h
 |a::A,g,h=>by
  by_cases hg:a.wd="gap"
  . obtain⟨l,rfl⟩:=xc hg
    exact⟨h.1,h.2.1,qHo hm hx hy h.2.2⟩
  . rw[YT,jE hg]at h
    rw[YT,jE hg];exact qHo hm hx hy h
noncomputable def wG(A:List Im)(m:Im)(B:List Im)(d:Int):List Im:=A++qp m 0 d::qp m d m.mo::B
theorem qGk{t:Int}{A:List Im}{d:Int}(h:Rel ms t t [])(hW:Wi ms t A m B d)(hO:OS false ms):xC ms t t []=wG A m B d:=by
 have hA:Nn A:=λx hx=>(h.wf x (by rw[hW.eq];simp[hx])).mo;have hB:Nn B:=λx hx=>(h.wf x (by rw[hW.eq];simp[hx])).mo;have hl:t-qY ms<=0:=by have:=Nn.len hB;have:=hW.d1;have:=hW.t;rw[hW.eq,qX,qK];omega
 have em:xr (t-qY ms) 0=0:=by unfold xr;split <;> omega
 have ec:=qLo (B:=B) hW.d0 hW.d1 hA;rw[<-hW.eq,<-hW.t]at ec;rw[h.eq,em,ec];obtain⟨n1,n2⟩:=hW.nm;have e:A++[qp m 0 d]++[Im.gap 0]++[]++qp m d m.mo::B=(A++[qp m 0 d])++ .gap 0::qp m d m.mo::B:=by simp
 show qx 0 (A++[qp m 0 d]++[Im.gap 0]++[]++qp m d m.mo::B)=_;rw[e,zA];have e2:(A++[qp m 0 d])++qp m d m.mo::B=wG A m B d:=by unfold wG;simp
 rw[e2];rw[hW.eq]at hO;refine OS.one.1 (qHo n2 ?_ ?_ hO) <;> rw[qA6 n1] <;> exact n2
theorem qGh{A:List Im}{d:Int}(hm:m.wd≠"mix")(b:Int):ql b (wG A m B d)=ql b (A++m::B):=by unfold wG;rw[jd,jd,qr (zt m 0 d),qr (zt m d m.mo),qr hm,jS,jS];congr 2;omega
theorem qNr{A:List Im}{d:Int}:qY (wG A m B d)=qY (A++m::B):=by unfold wG;rw[qX,qX,qK,qK,qK,jS,jS];omega
theorem qWu(h:m.wd="clip"\/m.wd="nest"):(∃n p q r s l,m=.clip n p q r s l)\/∃n b l,m=.nest n b l:=by
 rcases h with h|h
 . exact .inl (qFe h)
 . exact .inr (qLb h)
theorem qN4(hw:Wf m)(hk:m.wd="clip"\/m.wd="nest")(d:Int):glue (qp m 0 d) (qp m d m.mo)=m/\qJ3 (qp m 0 d) (qp m d m.mo)=true:=by
 rcases qWu hk with ⟨n,p,q,r,s,l,rfl⟩|⟨n,b,l,rfl⟩
 . obtain⟨h1,h2⟩:=qBw (r:=r) (s:=s) hw.1 hw.2.1 hw.2.2.1
   constructor
   . show Im.clip n (plP p q r s 0) (plQ p q r s 0) r s (d-0+(l-d))=_
     rw[h1,h2];congr 1;omega
   . show goB n n (plP p q r s 0) (plQ p q r s 0) r s (d-0) (plP p q r s d) (plQ p q r s d) r s=true
     unfold goB;rw[h1,h2,ZU];simp
 . constructor
   . show Im.nest n (b+0) (d-0+(l-d))=_
     congr 1 <;> omega
   . show (decide (n=n) && decide (b+d=b+0+(d-0)))=true
     rw[YX rfl,YX (by omega)];rfl
theorem qW3{A:List Im}{d:Int}(hA:Nn A)(d0:0<d)(d1:d<m.mo):nbF (wG A m B d) (qY A+d)=some ((A.length:Int),((A.length+1:Nat):Int)):=by
 have e:wG A m B d=(A++[qp m 0 d])++qp m d m.mo::B:=by unfold wG;simp
 have hX:Nn (A++[qp m 0 d]):=λx hx=>by
  rcases YO.mp hx with hx|hx
  . exact hA x hx
  . rw[YY]at hx
    rw[hx,jS];omega
 have hi:=zm (A++[qp m 0 d]) 0 0 (qp m d m.mo) B 0 hX (YH 0) (by rw[jS];omega);rw[<-e,qX,kN,YN,Yy,Nat.zero_add]at hi;have et:0+(qY A+(d-0))+0=qY A+d:=by omega
 rw[et]at hi;have hk:qt (wG A m B d) (((A.length+1:Nat):Int)-1)=(qp m 0 d).wd:=jp (i:=A.length) (by unfold wG;exact xQ _ _ _) (by omega);unfold nbF;rw[hi];dsimp only;rw[YA (by omega),hk,YA (zt m 0 d)];congr 2;omega
theorem qRv{A:List Im}{d:Int}(hA:Nn A)(hw:Wf m)(hk:m.wd="clip"\/m.wd="nest")(d0:0<d)(d1:d<m.mo):wX (wG A m B d) (qY A+d)=some (A++m::B):=by
 obtain⟨g1,g2⟩:=qN4 hw hk d;unfold wX;rw[qW3 hA d0 d1];dsimp only;rw[YQ,YQ];have e1:(wG A m B d)[A.length]?=some (qp m 0 d):=xQ _ _ _;have e:wG A m B d=(A++[qp m 0 d])++qp m d m.mo::B:=by unfold wG;simp
 have e2:(wG A m B d)[A.length+1]?=some (qp m d m.mo):=by have:=xQ (A++[qp m 0 d]) (qp m d m.mo) B;rw[YN,Yy]at this;rw[e];exact this
 rw[e1,e2];dsimp only;rw[YB g2,g1];have e3:(wG A m B d).take A.length=A:=by unfold wG;rw[ZI];rfl
 have e4:(wG A m B d).drop (A.length+1+1)=B:=by
  have e5:wG A m B d=(A++[qp m 0 d,qp m d m.mo])++B:=by unfold wG;simp
  rw[e5,ZP];simp
 rw[e3,e4];simp
def NMf:List Im->Prop
 |[]=>True
 |.gap _::ms=>NMf ms
 |.mix _::_=>False
 |_=>True
theorem MO.nmf:∀{ms:List Im} {p:Option Im},MO p ms->¬qKl p->NMf ms
 |[],_,_,_=>trivial
 |.gap l::ms,p,h,_=>MO.nmf (ms:=ms) (p:=some (.gap l)) h λ⟨_,_,_,_,_,_,e⟩=>by cases e
 |.mix l::ms,p,h,hp=>hp h.1.1
 |.clip .. ::_,_,_,_=>trivial
 |.nest .. ::_,_,_,_=>trivial
def Rw(ms:List Im):Prop:= ∀m∈ms,0<=m.mo/\(m.wd≠"gap"->m.wd≠"mix"->1<=m.mo)
theorem Rw.nn(h:Rw ms):Nn ms:=λm hm=>(h m hm).1
theorem Rw.tail(h:Rw (m::ms)):Rw ms:=λx hx=>h x (by simp[hx])
theorem Rw.app{A:List Im}(h:Rw A)(h':Rw B):Rw (A++B):=λx hx=>(YO.mp hx).elim (h x) (h' x)
theorem Wf.rw(h:∀m∈ms,Wf m):Rw ms:=λm hm=>⟨(h m hm).mo,λ_ h2=>(h m hm).pos h2⟩
theorem Rw.gap{l:Int}(h:0<=l):Rw [.gap l]:=λm hm=>by rw[YY]at hm;subst hm;exact⟨h,λe=>YC rfl e⟩
theorem qRy{w:Int}(h:Nn ms)(hw:0<=w):qx 0 (qx w ms)=qx w ms:=OS.one.1 (qD6 ms w h hw)
theorem qRg:∀(Y:List Im) (w u:Int),0<=w->0<=u->Rw Y->NMf Y->(∀T,qx 0 ((cutF w (qx (w+u) Y)).1++ .gap (xr (w-qY (qx (w+u) Y)) 0)::T)=qx w T)/\∀v,0<=v->qx v (cutF w (qx (w+u) Y)).2=qx (v+u) Y
 |[],w,u,hw,hu,_,_=>by
  refine⟨λT=>?_,λv _=>rfl⟩;have e:xr (w-qY (qx (w+u) [])) 0=w:=by show xr (w-qY []) 0=w;rw[qf];unfold xr;split <;> omega
  rw[e];show qx 0 (.gap w::T)=_;rw[qx,Yp]
 |m::Y,w,u,hw,hu,hY,hn=>by
  by_cases hg:m.wd="gap"
  . obtain⟨l,rfl⟩:=xc hg
    have l0:0<=l:=(hY (.gap l) (by simp)).1;obtain⟨i1,i2⟩:=qRg Y w (u+l) hw (by omega) hY.tail hn;have e:qx (w+u) (.gap l::Y)=qx (w+(u+l)) Y:=by rw[qx,Int.add_assoc]
    rw[e];exact⟨i1,λv hv=>by rw[i2 v hv,qx,Int.add_assoc]⟩
  . have hm:m.wd≠"mix":=λe=>by obtain⟨l,rfl⟩:=jw e;exact hn
    have m1:=(hY m (by simp)).2 hg hm;have hid:=qRy hY.tail.nn (YH 0);have hl:=Nn.len λx hx=>(by have:=qD6 Y 0 hY.tail.nn (YH 0);exact qA2 (Pm:=λm=>0<=m.mo) (λw hw=>by show 0<=w;omega) Y 0 (λm hm _=>hY.tail.nn m hm) x hx:0<=x.mo)
    have c0:∀X,cutF 0 (m::X)=([],m::X):=λX=>by rw[cutF,YA (by omega),YA (by omega)]
    have pad:∀z:Int,z<=0->xr z 0=0:=λz hz=>by unfold xr;split <;> omega
    rw[qU hg];by_cases hp:0<w+u
    . rw[YB hp]
      have hpad:xr (w-qY (.gap (w+u)::m::qx 0 Y)) 0=0:=pad _ (by rw[qK,qK];have:(Im.gap (w+u)).mo=w+u:=rfl;omega)
      rw[hpad];have em:(Im.gap (w+u)).mo=w+u:=rfl;by_cases hu0:u=0
      . subst hu0
        rw[Yc]at em hp⊢;rw[cutF,em,YB (by omega),show w-w=0 by omega,c0];refine⟨λT=>?_,λv hv=>?_⟩
        . show qx 0 (.gap w:: .gap 0::T)=_
          rw[qx,qx,Yp,Yc]
        . rw[Yc,qU hg,qU hg,hid]
      . rw[cutF,em,YA (by omega)]
        by_cases hw0:0<w
        . rw[YB hw0]
          refine⟨λT=>?_,λv hv=>?_⟩
          . show qx 0 (.gap (w-0):: .gap 0::T)=_
            rw[qx,qx];congr 1;omega
          . show qx v (.gap (w+u-w)::m::qx 0 Y)=_
            rw[qx,qU hg,qU hg,hid,show v+(w+u-w)=v+u by omega]
        . rw[YA hw0]
          have w0:w=0:=by omega
          subst w0;refine⟨λT=>?_,λv hv=>?_⟩
          . show qx 0 (.gap 0::T)=_
            rw[qx,Yp]
          . show qx v (.gap (0+u)::m::qx 0 Y)=_
            rw[qx,qU hg,qU hg,hid,Yp]
    . rw[YA hp]
      have w0:w=0:=by omega
      have u0:u=0:=by omega
      subst w0 u0;rw[c0,pad _ (by rw[qK];omega)];refine⟨λT=>?_,λv hv=>?_⟩
      . show qx 0 (.gap 0::T)=_
        rw[qx,Yp]
      . show qx v (m::qx 0 Y)=_
        rw[Yc,qU hg,qU hg,hid]
theorem qGz(Y:List Im)(hY:Rw Y)(hn:NMf Y):∀(X:List Im) (w:Int),0<=w->Rw X->(∀T,qx 0 ((cutF (w+qY X) (qx w (X++Y))).1++ .gap (xr (w+qY X-qY (qx w (X++Y))) 0)::T)=qx w (X++T))/\∀v,0<=v->qx v (cutF (w+qY X) (qx w (X++Y))).2=qx v Y
 |[],w,hw,_=>by have:=qRg Y w 0 hw (YH 0) hY hn;rw[Yc]at this;rw[qf,Yc,Yg];exact⟨this.1,λv hv=>by rw[this.2 v hv,Yc]⟩
 |m::X,w,hw,hX=>by
  by_cases hg:m.wd="gap"
  . obtain⟨l,rfl⟩:=xc hg
    have l0:0<=l:=(hX (.gap l) (by simp)).1;have ih:=qGz Y hY hn X (w+l) (by omega) hX.tail;have e:w+qY (.gap l::X)=w+l+qY X:=by rw[qK];show w+(l+qY X)=_;omega
    rw[e,YT,qx];exact⟨λT=>by rw[ih.1,YT,qx],ih.2⟩
  . have m0:=(hX m (by simp)).1
    obtain⟨i1,i2⟩:=qGz Y hY hn X 0 (YH 0) hX.tail;rw[Yp]at i1 i2;have hl:=Nn.len hX.tail.nn;have step:cutF (m.mo+qY X) (m::qx 0 (X++Y))=(m::(cutF (qY X) (qx 0 (X++Y))).1,(cutF (qY X) (qx 0 (X++Y))).2):=by rw[cutF,YB (by omega),show m.mo+qY X-m.mo=qY X by omega]
    rw[YT,qU hg];by_cases hp:0<w
    . have em:(Im.gap w).mo=w:=rfl
      rw[YB hp,cutF,qK,em,YB (by omega),show w+(m.mo+qY X)-w=m.mo+qY X by omega,step];refine⟨λT=>?_,i2⟩;show qx 0 (.gap w::m::((cutF (qY X) (qx 0 (X++Y))).1++_))=_;rw[qx,qU hg,YT,qU hg,qK,qK,em,show w+(m.mo+qY X)-(w+(m.mo+qY (qx 0 (X++Y))))=qY X-qY (qx 0 (X++Y)) by omega,i1,Yp]
    . have w0:w=0:=by omega
      subst w0;rw[YA hp,qK,Yp,step];refine⟨λT=>?_,i2⟩;show qx 0 (m::((cutF (qY X) (qx 0 (X++Y))).1++_))=_;rw[qU hg,YT,qU hg,qK,show m.mo+qY X-(m.mo+qY (qx 0 (X++Y)))=qY X-qY (qx 0 (X++Y)) by omega,i1]
theorem qG9{A B:List Im}(h:∀v,0<=v->qx v A=qx v B):∀(X:List Im) (w:Int),0<=w->Nn X->qx w (X++A)=qx w (X++B)
 |[],w,hw,_=>h w hw
 |m::X,w,hw,hX=>by
  by_cases hg:m.wd="gap"
  . obtain⟨l,rfl⟩:=xc hg
    have l0:0<=l:=hX (.gap l) (by simp);rw[YT,YT,qx,qx];exact qG9 h X _ (by omega) hX.tail
  . rw[YT,YT,qU hg,qU hg,qG9 h X 0 (YH 0) hX.tail]
noncomputable def qB2(lo:Int)(ms:List Im):List Im:=(cutF lo ms).1++[.gap (xr (lo-qY ms) 0)]
theorem qX1(z:Int):0<=xr z 0:=by unfold xr;split <;> omega
theorem Rel.h0{hi:Int}(h:Rel ms lo hi ls):0<=hi:=by have:=h.l0;have:=h.lh;omega
theorem Rel.eq2{hi:Int}(h:Rel ms lo hi ls):xC ms lo hi ls=qx 0 (qB2 lo ms++(ls++(cutF hi ms).2)):=by rw[h.eq];unfold qB2;simp
theorem Rel.pad{hi:Int}(h:Rel ms lo hi ls):Rw (qB2 lo ms)/\qY (qB2 lo ms)=lo/\MO none (qB2 lo ms):=by
 have e:(Im.gap (xr (lo-qY ms) 0)).mo=xr (lo-qY ms) 0:=rfl;refine⟨(Wf.rw (qEn h.wf h.l0).1).app (Rw.gap (qX1 _)),?_,?_⟩
 . unfold qB2
   rw[qX,qK,qf,e];have:=(qKz h.l0 h.wf).1;omega
 . exact qB3 none none _ _ (qTo h.wf h.l0 h.nlo h.mo).1 trivial
theorem Rel.right{hi:Int}(h:Rel ms lo hi ls):Rw (cutF hi ms).2/\∀p,MO p (cutF hi ms).2:=⟨Wf.rw (qEn h.wf h.h0).2,(qTo h.wf h.h0 h.nhi h.mo).2⟩
theorem Rel.raw{hi:Int}(h:Rel ms lo hi ls):Rw (qB2 lo ms++(ls++(cutF hi ms).2)):=h.pad.1.app ((Wf.rw h.lw).app h.right.1)
theorem Rel.mo'{hi:Int}(h:Rel ms lo hi ls):MO none (xC ms lo hi ls):=by rw[h.eq2];exact qM9 _ 0 none none (YH 0) (qB3 none none _ _ h.pad.2.2 (qB3 _ none _ _ (qOy h.lm _) (h.right.2 _))) h.raw.nn (.inr ⟨O,O⟩)
theorem qEu:∀(ms:List Im) (b w:Int),0<=w->Nn ms->ql b (qx w ms)=ql (b+w) ms
 |[],_,_,_,_=>rfl
 |m::ms,b,w,hw,hn=>by
  by_cases hg:m.wd="gap"
  . obtain⟨l,rfl⟩:=xc hg
    have l0:0<=l:=hn (.gap l) (by simp);rw[qx,qEu ms b (w+l) (by omega) hn.tail];show _=ql (b+w+l) ms;rw[Int.add_assoc]
  . have ih:=λb=>qEu ms b 0 (YH 0) hn.tail
    have st:∀b,ql b (m::qx 0 ms)=ql b (m::ms):=λb=>by
     cases m with
     |gap l=>exact YC rfl hg
     |mix l=>rw[ql,ql,ih,Yc]
     |clip n p q r s l=>rw[ql,ql,ih,Yc]
     |nest n p l=>rw[ql,ql,ih,Yc]
    rw[qU hg];by_cases hp:0<w
    . rw[YB hp]
      show ql (b+w) _=_;exact st _
    . rw[YA hp,show b+w=b by omega]
      exact st _
theorem zS(d:Int):∀(ms:List Im) (b:Int),ql (b+d) ms=(ql b ms).map λx=>(x.1+d,x.2.1+d,x.2.2+d)
 |[],_=>rfl
 |.mix l::ms,b=>by
  rw[ql,ql,zS d ms b,ZH];congr 1;dsimp only;congr 1
  . omega
  . congr 1
    omega
 |.clip n p q r s l::ms,b=>by rw[ql,ql,<-zS d ms];congr 1;omega
 |.nest n p l::ms,b=>by rw[ql,ql,<-zS d ms];congr 1;omega
 |.gap l::ms,b=>by rw[ql,ql,<-zS d ms];congr 1;omega
theorem Rel.spans{hi:Int}(h:Rel ms lo hi ls):∀x∈ql 0 (xC ms lo hi ls),(x.2.1<lo/\x.2.2<=lo)\/(lo+qY ls<x.2.1/\lo+qY ls<=x.1):=λx hx=>by
 rw[h.eq2,qEu _ _ _ (YH 0) h.raw.nn,Yc,jd,jd,qQ7 h.lm,Yg,h.pad.2.1,Yp]at hx;obtain⟨c1,_⟩:=kZ h.wf h.l0 h.nlo;obtain⟨_,c2,_⟩:=kZ h.wf h.h0 h.nhi;rcases YO.mp hx with hx|hx
 . left
   unfold qB2 at hx;rw[jd]at hx;rcases YO.mp hx with hx|hx
   . obtain⟨a1,a2⟩:=c1 x hx
     have:=h.far x a1;have:=h.lh;omega
   . cases hx
 . right
   rw[show lo+qY ls=hi+(lo+qY ls-hi) by omega,zS]at hx;obtain⟨y,hy,rfl⟩:=List.mem_map.mp hx;obtain⟨a1,a2⟩:=c2 y hy;have:=h.far y a1;have:=h.lh;dsimp only;omega
theorem Rel.touch{hi:Int}(h:Rel ms lo hi ls){a:Int}(h1:lo<=a)(h2:a<=b)(h3:b<=lo+qY ls):jL (xC ms lo hi ls) a b=false:=by unfold jL;rw[List.any_eq_false];intro x hx;have:=h.spans x hx;unfold qO8;simp only[Bool.or_eq_true,Yl,decide_eq_true_eq];have:=xU _ 0 (qP4 h) x hx;omega
theorem Rel.re{hi:Int}(h:Rel ms lo hi ls){a:Int}(h1:lo<=a)(h2:a<=b)(h3:b<=lo+qY ls){ls':List Im}(w:∀m∈ls',Wf m)(n:∀m∈ls',m.wd≠"mix"):Rel (xC ms lo hi ls) a b ls':=⟨qP4 h,h.mo',by have:=h.l0;omega,h2,h.touch h1 h2 h3,w,n⟩
theorem qPs{hi:Int}{V W:List Im}(h:Rel ms lo hi (U++(V++W)))(hl:∀m∈ls,Wf m)(hn:∀m∈ls,m.wd≠"mix"):xC (xC ms lo hi (U++(V++W))) (lo+qY U) (lo+qY U+qY V) ls=xC ms lo hi (U++(ls++W)):=by
 have wU:∀m∈U,Wf m:=λm hm=>h.lw m (by simp[hm]);have wV:∀m∈V,Wf m:=λm hm=>h.lw m (by simp[hm]);have wW:∀m∈W,Wf m:=λm hm=>h.lw m (by simp[hm]);have mU:∀m∈U,m.wd≠"mix":=λm hm=>h.lm m (by simp[hm]);have mV:∀m∈V,m.wd≠"mix":=λm hm=>h.lm m (by simp[hm]);have mW:∀m∈W,m.wd≠"mix":=λm hm=>h.lm m (by simp[hm]);have u0:=Nn.len (Wf.rw wU).nn;have v0:=Nn.len (Wf.rw wV).nn;have w0:=Nn.len (Wf.rw wW).nn;obtain⟨p1,p2,p3⟩:=h.pad;obtain⟨r1,r2⟩:=h.right;have h':Rel ms lo hi (U++(ls++W)):=⟨h.wf,h.mo,h.l0,h.lh,h.nt,λm hm=>by
  rcases YO.mp hm with hm|hm
  . exact wU m hm
  . exact(YO.mp hm).elim (hl m) (wW m),λm hm=>by
  rcases YO.mp hm with hm|hm
  . exact mU m hm
  . exact(YO.mp hm).elim (hn m) (mW m)⟩
 have hr:=h.re (a:=lo+qY U) (b:=lo+qY U+qY V) (by omega) (by omega) (by rw[qX,qX];omega) hl hn;rw[hr.eq2,h'.eq2];have wf1:Rw (W++(cutF hi ms).2):=(Wf.rw wW).app r1;have n1:NMf (W++(cutF hi ms).2):=(qB3 none none _ _ (qOy mW _) (r2 _)).nmf λ⟨_,_,_,_,_,_,e⟩=>by cases e
 have wf2:Rw (V++(W++(cutF hi ms).2)):=(Wf.rw wV).app wf1;have n2:NMf (V++(W++(cutF hi ms).2)):=(qB3 none none _ _ (qOy mV _) (qB3 _ none _ _ (qOy mW _) (r2 _))).nmf λ⟨_,_,_,_,_,_,e⟩=>by cases e
 obtain⟨cL,_⟩:=qGz _ wf2 n2 (qB2 lo ms++U) 0 (YH 0) (p1.app (Wf.rw wU));obtain⟨_,cR⟩:=qGz _ wf1 n1 (qB2 lo ms++(U++V)) 0 (YH 0) (p1.app ((Wf.rw wU).app (Wf.rw wV)));have eL:qx 0 (qB2 lo ms++U++(V++(W++(cutF hi ms).2)))=xC ms lo hi (U++(V++W)):=by rw[h.eq2];simp
 have eR:qx 0 (qB2 lo ms++(U++V)++(W++(cutF hi ms).2))=xC ms lo hi (U++(V++W)):=by rw[h.eq2];simp
 rw[eL,qX,p2,Yp]at cL;rw[eR,qX,p2,qX,Yp,<-Int.add_assoc]at cR;have e1:qx 0 (qB2 (lo+qY U) (xC ms lo hi (U++(V++W)))++(ls++(cutF (lo+qY U+qY V) (xC ms lo hi (U++(V++W)))).2))=qx 0 (qB2 (lo+qY U) (xC ms lo hi (U++(V++W)))++(ls++(W++(cutF hi ms).2))):=by have:=qG9 cR _ 0 (YH 0) (hr.pad.1.app (Wf.rw hl)).nn;simpa only[Yw]using this
 rw[e1];have:=cL (ls++(W++(cutF hi ms).2));unfold qB2;rw[Yw];unfold qB2 at this;rw[show [Im.gap (xr (lo+qY U-qY (xC ms lo hi (U++(V++W)))) 0)]++(ls++(W++(cutF hi ms).2))=Im.gap (xr (lo+qY U-qY (xC ms lo hi (U++(V++W)))) 0)::(ls++(W++(cutF hi ms).2))from rfl,this];simp
theorem vR(hw:Wf m)(a b c d:Int):qp (qp m a b) c d=qp m (a+c) (a+d):=by
 cases m with
 |clip n p q r s l=>
  obtain⟨e1,e2⟩:=qQl (p:=p) (q:=q) (r:=r) (s:=s) (lo:=a) (k:=c) hw.1 hw.2.1;show Im.clip n (plP (plP p q r s a) (plQ p q r s a) r s c) (plQ (plP p q r s a) (plQ p q r s a) r s c) r s (d-c)=Im.clip n (plP p q r s (a+c)) (plQ p q r s (a+c)) r s (a+d-(a+c));rw[e1,e2];congr 1;omega
 |nest n b' l=>show Im.nest n (b'+a+c) (d-c)=Im.nest n (b'+(a+c)) (a+d-(a+c));congr 1 <;> omega
 |gap l=>show Im.gap (d-c)=Im.gap (a+d-(a+c));congr 1;omega
 |mix l=>show Im.gap (d-c)=Im.gap (a+d-(a+c));congr 1;omega
theorem wF(h:0<m.mo):cutF 0 (m::ms)=([],m::ms):=by rw[cutF,YA (by omega),YA (by omega)]
theorem qKy:∀(ms:List Im) (lo hi:Int),(∀m∈ms,Wf m)->0<=lo->lo<=hi->(cutF (hi-lo) (cutF lo ms).2).2=(cutF hi ms).2/\cutF lo (cutF hi ms).1=((cutF lo ms).1,(cutF (hi-lo) (cutF lo ms).2).1)
 |[],_,_,_,_,_=>⟨rfl,rfl⟩
 |m::ms,lo,hi,hw,h0,h1=>by
  have hm:=hw m (by simp);by_cases c:m.mo<=lo
  . obtain⟨i1,i2⟩:=qKy ms (lo-m.mo) (hi-m.mo) (λx hx=>hw x (by simp[hx])) (by omega) (by omega)
    rw[show hi-m.mo-(lo-m.mo)=hi-lo by omega]at i1 i2;rw[cutF.eq_2 hi,YB (by omega),cutF.eq_2 lo m ms,YB c];refine⟨i1,?_⟩;show cutF lo (m::(cutF (hi-m.mo) ms).1)=_;rw[cutF,YB c,i2]
  . by_cases l0:0<lo
    . rw[cutF.eq_2 lo m ms,YA c,YB l0]
      have em:(qp m lo m.mo).mo=m.mo-lo:=jS lo m.mo;by_cases ch:m.mo<=hi
      . rw[cutF.eq_2 hi,YB ch]
        show (cutF (hi-lo) (qp m lo m.mo::ms)).2=_/\cutF lo (m::(cutF (hi-m.mo) ms).1)=_;rw[cutF.eq_2 (hi-lo),em,YB (by omega),show hi-lo-(m.mo-lo)=hi-m.mo by omega,cutF.eq_2 lo,YA c,YB l0];exact⟨O,O⟩
      . rw[cutF.eq_2 hi,YA ch,YB (by omega)]
        have e0:(qp m 0 hi).mo=hi:=by rw[jS];omega
        show (cutF (hi-lo) (qp m lo m.mo::ms)).2=qp m hi m.mo::ms/\cutF lo [qp m 0 hi]=_;by_cases hl:lo=hi
        . subst hl
          rw[show lo-lo=0 by omega,wF (by rw[em];omega),cutF,e0,YB (YH lo),show lo-lo=0 by omega];exact⟨O,O⟩
        . rw[cutF.eq_2 (hi-lo),em,YA (by omega),YB (by omega),cutF.eq_2 lo,e0,YA (by omega),YB l0]
          dsimp only;rw[vR hm,vR hm,vR hm,vR hm,show lo+(hi-lo)=hi by omega,show lo+(m.mo-lo)=m.mo by omega,show (0:Int)+0=0 by omega,Yp,Yp,Yc];exact⟨O,O⟩
    . have e:lo=0:=by omega
      subst e;have hp:0<m.mo:=by omega
      rw[wF hp,ZU];refine⟨O,?_⟩;show cutF 0 (cutF hi (m::ms)).1=([],(cutF hi (m::ms)).1);rw[cutF.eq_2 hi];by_cases ch:m.mo<=hi
      . rw[YB ch];exact wF hp
      . rw[YA ch]
        by_cases hh:0<hi
        . rw[YB hh];exact wF (by rw[jS];omega)
        . rw[YA hh];rfl
theorem qP7(Q:List Im):∀(U:List Im) (c:Int),c<qY U->cutF c (U++Q)=((cutF c U).1,(cutF c U).2++Q)\/c<0
 |[],c,h=>.inr h
 |m::U,c,h=>by
  by_cases h0:c<0
  . exact .inr h0
  . left
    rw[YT,cutF,cutF];by_cases hc:m.mo<=c
    . rw[YB hc,YB hc]
      rw[qK]at h;rcases qP7 Q U (c-m.mo) (by omega)with e|e
      . rw[e]
      . omega
    . rw[YA hc,YA hc]
      by_cases hp:0<c
      . rw[YB hp,YB hp];rfl
      . rw[YA hp,YA hp];rfl
theorem vj{a b:Int}{Y:List Im}:∀(X:List Im) (v:Int),qx v (X++ .gap a:: .gap b::Y)=qx v (X++ .gap (a+b)::Y)
 |[],v=>by rw[Yg,Yg,qx,qx,qx,Int.add_assoc]
 |m::X,v=>by
  by_cases hg:m.wd="gap"
  . obtain⟨l,rfl⟩:=xc hg
    rw[YT,YT,qx,qx,vj X]
  . rw[YT,YT,qU hg,qU hg,vj X]
noncomputable def vy(g:Int):List Im:=if 0<g then [.gap g]else []
theorem qGn{g:Int}(h:0<=g)(X Y:List Im)(v:Int):qx v (X++(vy g++Y))=qx v (X++ .gap g::Y):=by
 unfold vy;by_cases hg:0<g
 . rw[YB hg];rfl
 . rw[YA hg,show g=0 by omega,zA];rfl
theorem qMp{g:Int}(h:0<=g):qY (vy g)=g:=by
 unfold vy;by_cases hg:0<g
 . rw[YB hg,qK,qf];show g+0=g;omega
 . rw[YA hg,qf];omega
theorem vp(g:Int):(∀m∈vy g,Wf m)/\∀m∈vy g,m.wd≠"mix":=by
 unfold vy;by_cases hg:0<g
 . rw[YB hg]
   refine⟨λm hm=>?_,λm hm=>?_⟩ <;> rw[YY]at hm <;> subst hm
   . show 1<=g;omega
   . show ("gap":Str)≠"mix";decide+kernel
 . rw[YA hg]
   exact⟨(λm hm=>by cases hm),(λm hm=>by cases hm)⟩
noncomputable def qAt(lo hi:Int)(ms:List Im):List Im:=(cutF (hi-lo) (cutF lo ms).2).1
theorem qDn{t:Int}(h:Rel ms t t [])(hO:OS false ms)(hi:qv ms t=false):xC ms t t []=ms:=by
 have hN:=OS.one.1 hO;rw[h.eq2,Yg];unfold qB2;rw[Yw];show qx 0 ((cutF t ms).1++ .gap (xr (t-qY ms) 0)::(cutF t ms).2)=ms;have nn:Nn ms:=(Wf.rw h.wf).nn;rcases xH ms t h.l0 with ⟨h1,h2⟩|⟨A,B,m,d,h1,h2,h3,h4,h5,h6,h7⟩
 . rcases h2 with h2|⟨h2,h3,h4⟩
   . have e:qY (cutF t ms).1+qY (cutF t ms).2=qY ms:=by rw[<-qX,h1]
     have:=Nn.len (Rel.right h).1.nn;have e0:xr (t-qY ms) 0=0:=by unfold xr;split <;> omega
     rw[e0,zA,h1,hN]
   . rw[h4]
     rw[h4,Ye]at h1;rw[qBk,h1,hN]
 . have e:qY ms=qY A+(m.mo+qY B):=by rw[h1,qX,qK]
   have hB:=Nn.len (ms:=B) λx hx=>nn x (by rw[h1];simp[hx]);have e0:xr (t-qY ms) 0=0:=by unfold xr;split <;> omega
   have hk:m.wd="gap":=by
    by_cases hg:m.wd="gap"
    . exact hg
    . have:=(xk nn).mpr ⟨A,m,B,d,h1,h7,h4,h5,by
       cases m with
       |clip n p q r s l=>exact .inl rfl
       |nest n b l=>exact .inr rfl
       |gap l=>exact YC rfl hg
       |mix l=>exact YC rfl h6⟩
      rw[hi]at this;cases this
   obtain⟨l,rfl⟩:=xc hk;rw[e0,zA,h2,h3];have e1:A++[qp (.gap l) 0 d]++qp (.gap l) d (Im.gap l).mo::B=A++ .gap (d-0):: .gap (l-d)::B:=by simp[qp,Im.mo]
   rw[e1,vj,show d-0+(l-d)=l by omega,<-h1,hN]
theorem Rel.sub{hi:Int}(h:Rel ms lo hi ls){a:Int}(h1:lo<=a)(h2:a<=b)(h3:b<=hi){ls':List Im}(w:∀m∈ls',Wf m)(n:∀m∈ls',m.wd≠"mix"):Rel ms a b ls':=by refine⟨h.wf,h.mo,by have:=h.l0;omega,h2,?_,w,n⟩;unfold jL;rw[List.any_eq_false];intro x hx;have:=h.far x hx;have:=xU _ 0 h.wf x hx;unfold qO8;simp only[Bool.or_eq_true,Yl,decide_eq_true_eq];omega
theorem Rel.cut0{hi:Int}(h:Rel ms lo hi ls){a:Int}(h1:lo<=a)(h3:a<=hi):Rel ms a a []:=h.sub h1 (YH a) h3 (λ_ hm=>by cases hm) (λ_ hm=>by cases hm)
theorem qM0{l:Int}:∀(X:List Im) (b:Int),.mix l∈X->∃x,x∈ql b X
 |m::X,b,h=>by
  by_cases hm:m.wd="mix"
  . obtain⟨k,rfl⟩:=jw hm
    exact⟨_,by rw[ql];exact List.mem_cons_self⟩
  . rcases YU.mp h with rfl|h
    . exact YC rfl hm
    . rw[qr hm];exact qM0 X _ h
theorem Rel.mid{hi:Int}(h:Rel ms lo hi ls):(∀m∈qAt lo hi ms,Wf m)/\(∀m∈qAt lo hi ms,m.wd≠"mix")/\qY (qAt lo hi ms)<=hi-lo:=by
 have lh:=h.lh;have wR:=(qEn h.wf h.l0).2;have sR:∀x∈ql 0 (cutF lo ms).2,hi<x.2.1+lo:=λx hx=>by
  obtain⟨_,c2,_⟩:=kZ h.wf h.l0 h.nlo;have:(x.1+lo,x.2.1+lo,x.2.2+lo)∈ql lo (cutF lo ms).2:=by have e:=zS lo (cutF lo ms).2 0;rw[Yp]at e;rw[e];exact List.mem_map_of_mem (f:=λx:Int×Int×Int=>(x.1+lo,x.2.1+lo,x.2.2+lo)) hx
  obtain⟨a1,a2⟩:=c2 _ this;have:=h.far _ a1;dsimp only at this a2;omega
 have hn:NMA 0 (hi-lo) (cutF lo ms).2:=λx hx=>by have:=sR x hx;omega
 refine⟨(qEn wR (by omega)).1,λm hm e=>?_,?_⟩
 . obtain⟨l,rfl⟩:=jw e
   obtain⟨x,hx⟩:=qM0 _ 0 hm;obtain⟨a1,a2⟩:=(kZ wR (by omega) hn).1 x hx;have:=sR x a1;omega
 . exact(kZ wR (by omega) hn).2.2.2
theorem Rel.lay{hi:Int}(h:Rel ms lo hi ls)(g:Int):Rel ms lo hi (qAt lo hi ms++vy g):=⟨h.wf,h.mo,h.l0,h.lh,h.nt,λm hm=>(YO.mp hm).elim (h.mid.1 m) ((vp g).1 m),λm hm=>(YO.mp hm).elim (h.mid.2.1 m) ((vp g).2 m)⟩
noncomputable def qFi(lo hi:Int)(ms:List Im):List Im:=xC ms lo hi (qAt lo hi ms++vy (hi-lo-qY (qAt lo hi ms)))
theorem qV7{hi:Int}(h:Rel ms lo hi ls)(hi':qv ms hi=false):qFi lo hi ms=xC ms lo lo []:=by
 have lh:=h.lh;have nn:Nn ms:=(Wf.rw h.wf).nn;have g0:0<=hi-lo-qY (qAt lo hi ms):=by have:=h.mid.2.2;omega
 have hr:=h.cut0 (a:=lo) (YH lo) lh;unfold qFi;rw[(h.lay _).eq2,hr.eq2,Yg,<-(qKy ms lo hi h.wf h.l0 lh).1];refine qG9 (λv hv=>?_) _ 0 (YH 0) h.pad.1.nn;rw[Yw,qGn g0];unfold qAt;unfold qAt at g0;rcases xH (cutF lo ms).2 (hi-lo) (by omega)with ⟨h1,h2⟩|⟨A,B,m,d,h1,h2,h3,h4,h5,h6,h7⟩
 . rcases h2 with h2|⟨h2,h3,h4⟩
   . rw[h2,show hi-lo-(hi-lo)=0 by omega,zA,h1]
   . rw[h4]at h1⊢
     rw[Ye]at h1;rw[qBk,h1]
 . have el:qY (cutF (hi-lo) (cutF lo ms).2).1=hi-lo:=by rw[h2,qX,kN];omega
   rw[el,show hi-lo-(hi-lo)=0 by omega,zA,h2,h3];have hk:m.wd="gap":=by
    by_cases hg:m.wd="gap"
    . exact hg
    . have k2:m.wd="clip"\/m.wd="nest":=by
       cases m with
       |clip n p q r s l=>exact .inl rfl
       |nest n b l=>exact .inr rfl
       |gap l=>exact YC rfl hg
       |mix l=>exact YC rfl h6
      have w:qv ms hi=true:=by
       rcases xH ms lo h.l0 with ⟨g1,g2⟩|⟨A0,B0,m0,d0,g1,g2,g3,g4,g5,g6,g7⟩
       . rcases g2 with g2|⟨_,_,g4⟩
         . refine(xk nn).mpr ⟨(cutF lo ms).1++A,m,B,d,?_,?_,h4,h5,k2⟩
           . rw[Yw,<-h1,g1]
           . rw[qX];omega
         . rw[g4]at h1
           cases A <;> cases h1
       . rw[g3]at h1
         have hm0:=h.wf m0 (by rw[g1];simp);cases A with
         |nil=>
          have e:=List.cons.inj h1;rw[qf]at h7;have em:m.mo=m0.mo-d0:=by rw[<-e.1];exact jS _ _
          refine(xk nn).mpr ⟨A0,m0,B0,d0+d,g1,by omega,by omega,by omega,?_⟩;rw[<-e.1,qA6 g6]at k2;exact k2
         |cons a A=>
          have e:=List.cons.inj h1;rw[qK,<-e.1,jS]at h7;refine(xk nn).mpr ⟨A0++m0::A,m,B,d,?_,?_,h4,h5,k2⟩
          . rw[g1,e.2];simp
          . rw[qX,qK];omega
      rw[hi']at w;cases w
   obtain⟨l,rfl⟩:=xc hk;have e1:A++[qp (.gap l) 0 d]++qp (.gap l) d (Im.gap l).mo::B=A++ .gap (d-0):: .gap (l-d)::B:=by simp[qp,Im.mo]
   rw[e1,vj,show d-0+(l-d)=l by omega,<-h1]
theorem qIj(Q:List Im):∀(U:List Im) (b:Int) (i:Nat) (t:Int),b<=t->t<b+qY U->jt b i (U++Q) t=jt b i U t
 |[],b,i,t,h0,h=>by rw[qf]at h;omega
 |m::U,b,i,t,h0,h=>by
  rw[qK]at h;rw[YT,jt,jt];by_cases c:b<=t/\t<b+m.mo
  . rw[YB c,YB c]
  . rw[YA c,YA c]
    exact qIj Q U _ _ _ (by omega) (by omega)
theorem qGi{Q:List Im}{t:Int}(h0:0<=t)(h:t<qY U):qv (U++Q) t=qv U t:=by
 unfold qv;rw[qIj Q U 0 0 t h0 (by omega)];cases hi:jt 0 0 U t with
 |none=>rfl
 |some r=>
  obtain⟨i,d⟩:=r;have hl:=qGo _ _ _ _ _ _ hi;rw[Nat.zero_add]at hl;have e:∀X:List Im,qt (U++X) (i:Int)=(U[i]'hl).wd:=λX=>jp (by rw[ZC hl];exact YD hl) rfl;have e2:=e [];rw[Ye]at e2;dsimp only;rw[e Q,e2]
theorem qOc{A:List Im}{d:Int}(hA:Nn A)(hm:m.wd≠"mix")(d1:d<m.mo)(h0:0<=lo)(h:lo<qY A+d):qv (wG A m B d) lo=qv (A++m::B) lo:=by
 by_cases hl:lo<qY A
 . have e:wG A m B d=A++(qp m 0 d::qp m d m.mo::B):=rfl
   rw[e,qGi h0 hl,qGi h0 hl]
 . have i1:=zm A 0 0 m B (lo-qY A) hA (by omega) (by omega)
   have i2:=zm A 0 0 (qp m 0 d) (qp m d m.mo::B) (lo-qY A) hA (by omega) (by rw[jS];omega);rw[show 0+qY A+(lo-qY A)=lo by omega,Nat.zero_add]at i1 i2;unfold qv wG;rw[i1,i2];dsimp only;rw[jp (xQ A m B) rfl,jp (xQ A (qp m 0 d) (qp m d m.mo::B)) rfl,qA6 hm]
theorem qTz{hi:Int}(h:Rel ms lo hi ls):OS false (xC ms lo hi ls):=by rw[h.eq2];exact qD6 _ 0 h.raw.nn (YH 0)
theorem qVe{hi:Int}(h:Rel ms lo hi ls)(hlt:lo<hi)(hO:OS false ms){A:List Im}{d:Int}(hW:Wi ms hi A m B d):Rel (wG A m B d) lo lo []/\qFi lo hi ms=xC (wG A m B d) lo lo []:=by
 have lh:=h.lh;have l0:=h.l0;have nn:Nn ms:=(Wf.rw h.wf).nn;have hA:Nn A:=λx hx=>nn x (by rw[hW.eq];simp[hx]);have hB:=Nn.len (ms:=B) λx hx=>nn x (by rw[hW.eq];simp[hx]);have hh:=h.cut0 (a:=hi) lh (YH hi);have hl:=h.cut0 (a:=lo) (YH lo) lh;have ec:=qGk hh hW hO;have hr:Rel (wG A m B d) lo lo []:=by refine⟨ec ▸ qP4 hh,ec ▸ hh.mo',l0,YH lo,?_,(λ_ hm=>by cases hm),(λ_ hm=>by cases hm)⟩;have e:=hl.nt;unfold jL at e⊢;rw[qGh hW.nm.1,<-hW.eq];exact e
 refine⟨hr,?_⟩;have cU:=qLo (B:=B) hW.d0 hW.d1 hA;rw[<-hW.eq,<-hW.t]at cU;have eU:wG A m B d=(cutF hi ms).1++(cutF hi ms).2:=by rw[cU];unfold wG;simp
 have lU:qY (cutF hi ms).1=hi:=by rw[cU];show qY (A++[qp m 0 d])=hi;rw[qX,kN,hW.t];omega
 obtain⟨k1,k2⟩:=qKy ms lo hi h.wf l0 lh;have cl:=(qP7 (cutF hi ms).2 (cutF hi ms).1 lo (by omega)).resolve_right (by omega);rw[k2]at cl;have lm:qY (qAt lo hi ms)=hi-lo:=by have h1:=(qKz (ms:=(cutF hi ms).1) l0 (qEn h.wf h.h0).1).2;rw[k2,lU]at h1;dsimp only at h1;have:=h1.2 lh;unfold qAt;omega
 have ll:qY (wG A m B d)=qY ms:=by rw[qNr,<-hW.eq]
 unfold qFi;rw[lm,show hi-lo-(hi-lo)=0 by omega,(h.lay 0).eq2,hr.eq2];unfold qB2;rw[ll,eU,cl];show _=qx 0 ((cutF lo ms).1++[Im.gap (xr (lo-qY ms) 0)]++(qAt lo hi ms++(cutF hi ms).2));rw[show vy 0=[]from rfl,Ye]
theorem qIa{t:Int}(h:Rel ms t t [])(hO:OS false ms)(hw:qv ms t=true):wX (xC ms t t []) t=some ms:=by have nn:Nn ms:=(Wf.rw h.wf).nn;obtain⟨A,m,B,d,hW⟩:=(xk nn).mp hw;rw[qGk h hW hO,hW.t,qRv (λx hx=>nn x (by rw[hW.eq];simp[hx])) (h.wf m (by rw[hW.eq];simp)) hW.k hW.d0 hW.d1,<-hW.eq]
theorem qQx{hi:Int}(h:Rel ms lo hi ls)(hlt:lo<hi)(hO:OS false ms):∃ms1,(qv ms lo=true->wX (qFi lo hi ms) lo=some ms1)/\(qv ms lo=false->qFi lo hi ms=ms1)/\(qv ms hi=true->wX ms1 hi=some ms)/\(qv ms hi=false->ms1=ms)/\ms1=xC ms hi hi []:=by
 have lh:=h.lh;have hh:=h.cut0 (a:=hi) lh (YH hi);have hl:=h.cut0 (a:=lo) (YH lo) lh;refine⟨xC ms hi hi [],?_⟩;by_cases w:qv ms hi=true
 . obtain⟨A,m,B,d,hW⟩:=(xk (Wf.rw h.wf).nn).mp w
   obtain⟨hr,e⟩:=qVe h hlt hO hW;have ec:=qGk hh hW hO;have hA:Nn A:=λx hx=>(Wf.rw h.wf).nn x (by rw[hW.eq];simp[hx]);have ew:=qOc (B:=B) hA hW.nm.1 hW.d1 h.l0 (by have:=hW.t;omega:lo<qY A+d);rw[<-hW.eq]at ew;have hO1:OS false (wG A m B d):=ec ▸ qTz hh;rw[e,ec,<-ew];exact⟨qIa hr hO1,qDn hr hO1,λ_=>ec ▸ qIa hh hO w,(λz=>by rw[w]at z;cases z),rfl⟩
 . have w:qv ms hi=false:=by simpa using w
   rw[qV7 h w,qDn hh hO w];exact⟨qIa hl hO,qDn hl hO,(λz=>by rw[w]at z;cases z),λ_=>rfl,rfl⟩
theorem qHr:∀(ms:List Im) (lo hi b:Int),(∀m∈ms,Wf m)->hi<=b->ji lo hi b ms=[]
 |[],_,_,_,_,_=>rfl
 |m::ms,lo,hi,b,hw,hc=>by
  have hm0:=(hw m (by simp)).mo;rw[ji,qHr ms lo hi (b+m.mo) (λx hx=>hw x (by simp[hx])) (by omega),Ye];by_cases hm:m.wd="mix"
  . rw[YB hm,YA (by omega)]
  . rw[YA hm,YA]
    unfold xr qDm;split <;> split <;> omega
theorem qHq:∀(ms:List Im) (lo hi b:Int),(∀m∈ms,Wf m)->NMA b hi ms->lo<=b->b<=hi->(b=lo->NHM ms)->ji lo hi b ms=(cutF (hi-b) ms).1
 |[],_,_,_,_,_,_,_,_=>rfl
 |m::ms,lo,hi,b,hw,hn,h0,hc,hh=>by
  have hwm:=hw m (by simp);have hm0:=hwm.mo;rw[ji,cutF];by_cases hm:m.wd="mix"
  . obtain⟨l,rfl⟩:=jw hm
    have e0:(Im.mix l).mo=0:=rfl;have hbc:=hn.head;have hb0:b≠lo:=λe=>hh e l rfl;rw[YB hm,YB ⟨by omega,by omega⟩,YB (by omega),e0,qHq ms lo hi (b+0) (λx hx=>hw x (by simp[hx])) hn.tail (by omega) (by omega) (λe=>YC e (by omega))];rw[show hi-(b+0)=hi-b-0 by omega];rfl
  . have hp:=hwm.pos hm
    have e1:xr lo b=b:=by unfold xr;split <;> omega
    rw[YA hm,e1];by_cases h:m.mo<=hi-b
    . have e2:qDm hi (b+m.mo)=b+m.mo:=by unfold qDm;split <;> omega
      rw[e2,YB (by omega),YB h,qHq ms lo hi (b+m.mo) (λx hx=>hw x (by simp[hx])) hn.tail (by omega) (by omega) (λe=>YC e (by omega)),show b-b=0 by omega,show b+m.mo-b=m.mo by omega,kO hm hwm,show hi-(b+m.mo)=hi-b-m.mo by omega];rfl
    . have e2:qDm hi (b+m.mo)=hi:=by unfold qDm;split <;> omega
      rw[e2,YA h,qHr ms lo hi (b+m.mo) (λx hx=>hw x (by simp[hx])) (by omega),Ye];by_cases hlt:0<hi-b
      . rw[YB (by omega),YB hlt,show b-b=0 by omega]
      . rw[YA (by omega),YA hlt]
theorem qHe:∀(ms:List Im) (lo hi b:Int),(∀m∈ms,Wf m)->NMA b hi ms->b<=lo->lo<=hi->ji lo hi b ms=(cutF (hi-lo) (cutF (lo-b) ms).2).1
 |[],_,_,_,_,_,_,_=>rfl
 |m::ms,lo,hi,b,hw,hn,h0,hc=>by
  have hwm:=hw m (by simp);have hm0:=hwm.mo;have hw':∀x∈ms,Wf x:=λx hx=>hw x (by simp[hx]);by_cases hm:m.wd="mix"
  . obtain⟨l,rfl⟩:=jw hm
    have e0:(Im.mix l).mo=0:=rfl;rw[ji,YB hm,YA (by omega),Yg,qHe ms lo hi _ hw' hn.tail (by rw[e0];omega) hc,cutF.eq_2 (lo-b),e0,YB (by omega),show lo-(b+0)=lo-b-0 by omega]
  . have hp:=hwm.pos hm
    by_cases c1:b+m.mo<=lo
    . rw[ji,YA hm,YA (by unfold xr qDm;split <;> split <;> omega),Yg,qHe ms lo hi _ hw' hn.tail c1 hc,cutF.eq_2 (lo-b),YB (by omega),show lo-(b+m.mo)=lo-b-m.mo by omega]
    . by_cases c2:b=lo
      . subst c2
        rw[qHq (m::ms) b hi b hw hn (YH b) hc (λ_ l e=>by cases e;exact hm rfl),show b-b=0 by omega,wF (by omega)]
      . have e1:xr lo b=lo:=by unfold xr;split <;> omega
        rw[cutF.eq_2 (lo-b),YA (show ¬m.mo<=lo-b by omega),YB (show 0<lo-b by omega),ji,YA hm,e1];have em:(qp m (lo-b) m.mo).mo=m.mo-(lo-b):=jS _ _;show _=(cutF (hi-lo) (qp m (lo-b) m.mo::ms)).1;rw[cutF.eq_2 (hi-lo),em];by_cases c3:b+m.mo<=hi
        . have e2:qDm hi (b+m.mo)=b+m.mo:=by unfold qDm;split <;> omega
          rw[e2,YB (by omega),YB (by omega),qHq ms lo hi (b+m.mo) hw' hn.tail (by omega) c3 (λe=>YC e (by omega)),show b+m.mo-b=m.mo by omega,show hi-(b+m.mo)=hi-lo-(m.mo-(lo-b)) by omega];rfl
        . have e2:qDm hi (b+m.mo)=hi:=by unfold qDm;split <;> omega
          rw[e2,qHr ms lo hi (b+m.mo) hw' (by omega),Ye,YA (show ¬m.mo-(lo-b)<=hi-lo by omega)];by_cases c4:lo<hi
          . rw[YB c4,YB (by omega),vR hwm,show lo-b+0=lo-b by omega,show lo-b+(hi-lo)=hi-b by omega]
          . rw[YA c4,YA (by omega)]
theorem qSc{hi:Int}(h:Rel ms lo hi ls):ji lo hi 0 ms=qAt lo hi ms:=by rw[qHe ms lo hi 0 h.wf h.nhi h.l0 h.lh,ZU];rfl
noncomputable def qTh(ms:List Im):De->Option (List Im)
 |.hel t=>if jL ms t t=true then none else wX ms t
 |.chg (.lov t m)=>if jL ms t (t+m.mo)=true then none else some (xC ms t (t+m.mo) [m])
 |_=>none
inductive TGo(G:List Im->Prop)(O9:De->Prop):List Im->List De->List Im->Prop where
 |nil {ms:List Im}:TGo G O9 ms [] ms
 |cons {ms ms1 ms2:List Im} {d:De} {ds:List De} (g:G ms) (o:O9 d) (r:qTh ms d=some ms1) (h:TGo G O9 ms1 ds ms2):TGo G O9 ms (d::ds) ms2
theorem TGo.app{a b c:List Im}{ds es:List De}(h:TGo G O9 a ds b)(h':TGo G O9 b es c):TGo G O9 a (ds++es) c:=by
 induction h with
 |nil=>exact h'
 |cons g o r _ ih=>exact .cons g o r (ih h')
noncomputable def qKs:Int->List Im->List De
 |_,[]=>[]
 |t,m::r=>(if m.wd="clip"\/m.wd="nest" then [.chg (.lov t m)]else [])++qKs (t+m.mo) r
noncomputable def xZ(ms:List Im)(ts:List Int):List De:=(ts.filter (qv ms)).map .hel
theorem qR9{hi:Int}{x g:Int}(h:Rel ms lo hi (U++vy g))(x0:1<=x)(xg:x<=g):Rel ms lo hi (U++([.gap x]++vy (g-x)))/\xC ms lo hi (U++vy g)=xC ms lo hi (U++([.gap x]++vy (g-x))):=by
 have h':Rel ms lo hi (U++([.gap x]++vy (g-x))):=⟨h.wf,h.mo,h.l0,h.lh,h.nt,λm hm=>by
  rcases YO.mp hm with hm|hm
  . exact h.lw m (by simp[hm])
  . rcases YO.mp hm with hm|hm
    . rw[YY]at hm;subst hm;exact x0
    . exact(vp _).1 m hm,λm hm=>by
  rcases YO.mp hm with hm|hm
  . exact h.lm m (by simp[hm])
  . rcases YO.mp hm with hm|hm
    . rw[YY]at hm;subst hm;show ("gap":Str)≠"mix";decide+kernel
    . exact(vp _).2 m hm⟩
 refine⟨h',?_⟩;rw[h.eq2,h'.eq2];have e1:qB2 lo ms++(U++vy g++(cutF hi ms).2)=(qB2 lo ms++U)++(vy g++(cutF hi ms).2):=by simp
 have e2:qB2 lo ms++(U++([Im.gap x]++vy (g-x))++(cutF hi ms).2)=(qB2 lo ms++U++[.gap x])++(vy (g-x)++(cutF hi ms).2):=by simp
 rw[e1,e2,qGn (by omega),qGn (by omega)];have e3:qB2 lo ms++U++[Im.gap x]++ .gap (g-x)::(cutF hi ms).2=(qB2 lo ms++U)++ .gap x:: .gap (g-x)::(cutF hi ms).2:=by simp
 rw[e3,vj,show x+(g-x)=g by omega]
theorem qO5{G:List Im->Prop}{O9:De->Prop}{ms:List Im}{lo hi:Int}{ls:List Im}(h:Rel ms lo hi ls)(hG:∀U V g,qAt lo hi ms=U++V->0<=g->qY U+g=hi-lo->G (xC ms lo hi (U++vy g)))(hO:∀x∈qAt lo hi ms,∀t,lo<=t->t<=hi->x.wd≠"gap"->O9 (.chg (.lov t x))):
 ∀(V U:List Im) (g:Int),qAt lo hi ms=U++V->0<=g->qY U+g=hi-lo->TGo G O9 (xC ms lo hi (U++vy g)) (qKs (lo+qY U) V) (qFi lo hi ms)
 |[],U,g,e,g0,eg=>by
  rw[Ye]at e;have:xC ms lo hi (U++vy g)=qFi lo hi ms:=by unfold qFi;rw[e,show hi-lo-qY U=g by omega]
  rw[this];exact .nil
 |x::V,U,g,e,g0,eg=>by
  obtain⟨w1,w2,w3⟩:=h.mid;have hx:x∈qAt lo hi ms:=by rw[e];simp
  have wx:=w1 x hx;have nx:=w2 x hx;have x1:=wx.pos nx;have lV:=Nn.len (ms:=V) λy hy=>(w1 y (by rw[e];simp[hy])).mo;have lU:=Nn.len (ms:=U) λy hy=>(w1 y (by rw[e];simp[hy])).mo;have le:qY (qAt lo hi ms)=qY U+(x.mo+qY V):=by rw[e,qX,qK]
  have e':qAt lo hi ms=(U++[x])++V:=by rw[e];simp
  have ih:=qO5 h hG hO V (U++[x]) (g-x.mo) e' (by omega) (by rw[qX,qK,qf];omega);have wU:∀m∈U++vy g,Wf m:=λm hm=>(YO.mp hm).elim (λq=>w1 m (by rw[e];simp[q])) ((vp g).1 m);have mU:∀m∈U++vy g,m.wd≠"mix":=λm hm=>(YO.mp hm).elim (λq=>w2 m (by rw[e];simp[q])) ((vp g).2 m);have hr:Rel ms lo hi (U++vy g):=⟨h.wf,h.mo,h.l0,h.lh,h.nt,wU,mU⟩;obtain⟨hr2,er⟩:=qR9 hr x1 (by omega);have lt:lo+qY (U++[x])=lo+qY U+x.mo:=by rw[qX,qK,qf];omega
  rw[lt]at ih;rw[qKs];by_cases hg:x.wd="gap"
  . obtain⟨l,rfl⟩:=xc hg
    rw[YA (λz=>by rcases z with z|z <;> exact YC z (by show ("gap":Str)≠_;decide+kernel)),Yg,er];have e2:U++([Im.gap l]++vy (g-(Im.gap l).mo))=U++[.gap l]++vy (g-(Im.gap l).mo):=by simp
    show TGo G O9 (xC ms lo hi (U++([Im.gap l]++vy (g-(Im.gap l).mo)))) _ _;rw[e2];exact ih
  . have k2:x.wd="clip"\/x.wd="nest":=by
     cases x with
     |clip n p q r s l=>exact .inl rfl
     |nest n b l=>exact .inr rfl
     |gap l=>exact YC rfl hg
     |mix l=>exact YC rfl nx
    rw[YB k2];refine .cons (hG U (x::V) g e g0 eg) (hO x hx _ (by omega) (by omega) hg) ?_ ih;have em:qY [Im.gap x.mo]=x.mo:=by rw[qK,qf];show x.mo+0=x.mo;omega
    have ht:=hr.touch (a:=lo+qY U) (b:=lo+qY U+x.mo) (by omega) (by omega) (by rw[qX,qMp g0];omega);rw[qTh,YA (by rw[ht];decide),er];have:=qPs (ls:=[x]) hr2 (λm hm=>by rw[YY]at hm;subst hm;exact wx) (λm hm=>by rw[YY]at hm;subst hm;exact nx);rw[em]at this;rw[this];simp
theorem qRe{hi:Int}(h:Rel ms lo hi ls)(hlt:lo<hi)(hS:OS false ms)(hG:∀U V g,qAt lo hi ms=U++V->0<=g->qY U+g=hi-lo->G (xC ms lo hi (U++vy g)))(hG1:G (xC ms hi hi []))(hO:∀x∈qAt lo hi ms,∀t,lo<=t->t<=hi->x.wd≠"gap"->O9 (.chg (.lov t x)))(hH:O9 (.hel lo)/\O9 (.hel hi)):
 TGo G O9 (xC ms lo hi [.gap (hi-lo)]) (qKs lo (qAt lo hi ms)++xZ ms [lo,hi]) ms:=by
 have r1:=qO5 h hG hO (qAt lo hi ms) [] (hi-lo) rfl (by omega) (by rw[qf];omega);have eg:vy (hi-lo)=[.gap (hi-lo)]:=YB (by omega);rw[qf,Yc,Yg,eg]at r1;refine r1.app ?_;obtain⟨ms1,a1,a2,a3,a4,rfl⟩:=qQx h hlt hS;have gl:G (qFi lo hi ms):=by have:=h.mid.2.2;exact hG (qAt lo hi ms) [] _ (by rw[Ye]) (by omega) (by omega)
 have hc:=h.cut0 (a:=hi) h.lh (YH hi);have t1:jL (qFi lo hi ms) lo lo=false:=by have hl:=h.lay (hi-lo-qY (qAt lo hi ms));refine hl.touch (YH lo) (YH lo) ?_;have:=Nn.len (Wf.rw hl.lw).nn;omega
 have t2:jL (xC ms hi hi []) hi hi=false:=hc.touch (YH hi) (YH hi) (by rw[qf];omega);have s2:TGo G O9 (xC ms hi hi []) (xZ ms [hi]) ms:=by
  unfold xZ;by_cases w:qv ms hi=true
  . rw[List.filter_cons_of_pos w]
    refine .cons hG1 hH.2 ?_ .nil;rw[qTh,YA (by rw[t2];decide)];exact a3 w
  . rw[List.filter_cons_of_neg w,a4 (by simpa using w)]
    exact .nil
 unfold xZ at s2⊢;by_cases w:qv ms lo=true
 . rw[List.filter_cons_of_pos w]
   refine .cons gl hH.1 ?_ s2;rw[qTh,YA (by rw[t1];decide)];exact a1 w
 . rw[List.filter_cons_of_neg w,a2 (by simpa using w)]
   exact s2
theorem qMv{t:Int}(h:Rel ms t t ls)(hS:OS false ms)(hG:G (xC ms t t []))(hH:O9 (.hel t)):TGo G O9 (xC ms t t []) (xZ ms [t]) ms:=by
 have hc:=h.cut0 (a:=t) (YH t) (YH t);have t2:jL (xC ms t t []) t t=false:=hc.touch (YH t) (YH t) (by rw[qf];omega);unfold xZ;by_cases w:qv ms t=true
 . rw[List.filter_cons_of_pos w]
   refine .cons hG hH ?_ .nil;rw[qTh,YA (by rw[t2];decide)];exact qIa hc hS w
 . rw[List.filter_cons_of_neg w,qDn hc hS (by simpa using w)]
   exact .nil
structure GW(A:Int)(M:Int)(c:Nat)(ms:List Im):Prop where
 it:∀m∈ms,GI A m
 os:OS false ms
 mo:MO none ms
 le:qY ms<=M
 ct:ms.length<=c
theorem GT.gw(h:GT A M c ms):GW A M c ms:=⟨h.it,h.gd.os,h.gd.mo,h.le,h.ct⟩
theorem GW.wf{A M:Int}{c:Nat}{ms:List Im}(h:GW A M c ms):∀m∈ms,Wf m:=λm hm=>(h.it m hm).wf
theorem GW.nn(h:GW A M c ms):Nn ms:=λm hm=>(h.wf m hm).mo
theorem GW.mono(h:GW A M c ms)(h1:M<=M')(h2:c<=c'):GW A M' c' ms:=⟨h.it,h.os,h.mo,by have:=h.le;omega,by have:=h.ct;omega⟩
theorem GW.rel0(h:GW A M c ms){hi:Int}(h0:0<=lo)(h1:lo<=hi)(ht:jL ms lo hi=false):Rel ms lo hi []:=⟨h.wf,h.mo,h0,h1,ht,(λm hm=>by cases hm),(λm hm=>by cases hm)⟩
theorem GW.swap(h:GW A M c ms)(hm:ms[i]?=some m)(hc:m.wd="clip")(hc':m'.wd="clip")(hg:GI A m')(hb:hmB ms (i:Int)=false)(M':Int)(hM:qY ms-m.mo+m'.mo<=M'):GW A M' c (ms.set i m'):=by
 obtain⟨e1,e2⟩:=qA5 hm m';obtain⟨b1,b2⟩:=qPl hb;obtain⟨g1,g2⟩:=qZd hc;obtain⟨g1',g2'⟩:=qZd hc';have o:=h.os;have q:=h.mo;rw[e1]at o q;refine⟨λx hx=>?_,?_,?_,by rw[qNb hm];exact hM,by rw[ZN];exact h.ct⟩
 . rcases List.mem_or_eq_of_mem_set hx with q|q
   . exact h.it x q
   . rw[q];exact hg
 . rw[e2]
   refine qJ0 (λg q=>?_) _ _ o;rw[jE g1]at q;rw[jE g1'];exact q
 . rw[e2]
   refine qIh (λ_=>qUz hc') (λp q=>?_) _ _ q;rw[qy g2]at q;rw[qy g2'];exact qQc (qR6 b2) q
theorem GW.rolled(h:GW A M c ms){w:Str}{t:Int}(hw:Wd3 w)(hp:plF w ms t=some is)(hx:is.any (hmB ms)=false)(hc:wb b<=qHd (rlE A) ms w is b):GW A M c (qB6 ms w is b):=by
 have cl:∀{i:Nat} {n:Str} {p q r s l N:Int},ms[i]?=some (.clip n p q r s l)->rlE A n=some N->GC A n p q r s l N:=λ{i n p q r s l N} hm hr=>by obtain⟨N',g⟩:=h.it _ (YF hm);have:=g.rn;rw[hr]at this;cases this;exact g
 have nx:∀x∈is,hmB ms x=false:=λx hx'=>by rw[List.any_eq_false]at hx;simpa using hx x hx'
 have hle:=h.le;rcases qWe (λn p q r s l hm=>let ⟨N,c⟩:=h.it _ hm;⟨N,c.rn⟩) hw hp with ⟨rfl,i,n,p,q,r,s,l,N,rfl,hm,hN,hv⟩|⟨_,_,i,j,n,p,q,r,s,l,N,n',p',q',r',s',l',N',hlt,m1,m2,_,_,hm,hm',hN,hN',hv⟩
 . rw[(hv b).1]at hc
   rw[(hv b).2];exact h.swap (m':=.clip n (plP p q r s b) (plQ p q r s b) r s l) hm rfl rfl ⟨N,(cl hm hN).slip hc⟩ (nx _ (by simp)) M (by show qY ms-l+l<=M;omega)
 . rw[(hv b).1]at hc
   rw[(hv b).2];obtain⟨k1,k2⟩:=(cl hm hN).roll (cl hm' hN') hc;have s1:=h.swap (m':=.clip n p q r s (l+b)) hm rfl rfl ⟨N,k1⟩ (nx _ m1) (M+wb b) (by show qY ms-l+(l+b)<=_;unfold wb;split <;> omega);have hm2:(ms.set i (.clip n p q r s (l+b)))[j]?=some (.clip n' p' q' r' s' l'):=by rw[List.getElem?_set,YA (by omega)];exact hm'
   refine s1.swap (m':=.clip n' (plP p' q' r' s' b) (plQ p' q' r' s' b) r' s' (l'-b)) hm2 rfl rfl ⟨N',k2⟩ ?_ M ?_
   . have:=nx _ m2
     unfold hmB at this⊢;rw[wB (m':=.clip n p q r s (l+b)) hm rfl,wB (m':=.clip n p q r s (l+b)) hm rfl];exact this
   . rw[qNb hm]
     show qY ms-l+(l+b)-l'+(l'-b)<=M;omega
theorem GW.glued(h:GW A M c (U++x::y::B))(hc:qJ3 x y=true):GW A M c (U++glue x y::B):=by
 obtain⟨k1,k2⟩:=qT2 hc;obtain⟨m1,m2⟩:=qQf hc;have nx:x.wd≠"mix"/\x.wd≠"gap":=by rw[k1];rcases k2 with e|e <;> rw[e] <;> decide+kernel
 have ny:y.wd≠"mix"/\y.wd≠"gap":=by rw[<-k1];exact nx
 have ng:(glue x y).wd≠"mix"/\(glue x y).wd≠"gap":=by rw[m2];exact nx
 have clg:qKl (some y)->qKl (some (glue x y)):=λq=>qUz (by rw[m2,k1];exact qWc q);have a1:=h.le;have a2:=h.ct;rw[qX,qK,qK]at a1;simp only[YN,YE]at a2;refine⟨λm hm=>?_,qJ0 (λg q=>?_) U _ h.os,qIh (λq=>qUz (by rw[m2];exact qWc q)) (λp q=>?_) U _ h.mo,by rw[qX,qK,m1];omega,by simp only[YN,YE];omega⟩
 . rcases YO.mp hm with hm|hm
   . exact h.it m (by simp[hm])
   . rcases YU.mp hm with rfl|hm
     . exact GI.glue (h.it x (by simp)) (h.it y (by simp)) hc
     . exact h.it m (by simp[hm])
 . rw[jE nx.2,jE ny.2]at q
   rw[jE ng.2];exact q
 . rw[qy nx.1,qy ny.1]at q
   rw[qy ng.1];cases B with
   |nil=>trivial
   |cons b B=>
    by_cases hb:b.wd="mix"
    . obtain⟨l,rfl⟩:=jw hb
      exact⟨⟨clg q.1.1,q.1.2⟩,q.2⟩
    . rw[qy hb]at q⊢
      exact q
theorem qPa{n:Str}{l:Int}(h:GC A n p q r s l N)(hb:b<=1000000)(hi:∀k,l<=k->k<l+b->InR (Vk p q r s k) (q*s) N):b<=xK p q r s l N:=by
 obtain⟨r1,r2,_,r4,_⟩:=qBu (p:=p) (q:=q) (r:=r) (s:=s) (k0:=l) (e:=1) (m:=N) h.q0 h.s0 (.inl rfl) (λ_=>h.i0);have e:xK p q r s l N=zl (plP p q r s l*s) (1*r*plQ p q r s l) (plQ p q r s l*s) N:=rfl;rw[<-e]at r1 r2 r4;by_cases c:b<=xK p q r s l N
 . exact c
 . exact YC (hi (l+1*xK p q r s l N) (by omega) (by omega)) (r4 (by omega))
theorem qK5{n:Str}{l:Int}(h:GC A n p q r s l N)(hb:b<=1000000)(hi:∀k,-b<=k->k<0->InR (Vk p q r s k) (q*s) N):b<=xL p q r s N:=by
 obtain⟨r1,r2,_,r4,_⟩:=qBu (p:=p) (q:=q) (r:=r) (s:=s) (k0:= -1) (e:= -1) (m:=N) h.q0 h.s0 (.inr rfl) (λ_=>h.i0);have e:xL p q r s N=zl (plP p q r s (-1)*s) (-1*r*plQ p q r s (-1)) (plQ p q r s (-1)*s) N:=rfl;rw[<-e]at r1 r2 r4;by_cases c:b<=xL p q r s N
 . exact c
 . exact YC (hi (-1+ -1*xL p q r s N) (by omega) (by omega)) (r4 (by omega))
theorem GC.unslip{n:Str}{l:Int}(h:GC A n p q r s l N)(hb:wb b<=if 0<b then xK p q r s l N else xL p q r s N)(hm:b.natAbs<=1000000):wb (-b)<=if 0< -b then xK (plP p q r s b) (plQ p q r s b) r s l N else xL (plP p q r s b) (plQ p q r s b) r s N:=by
 have h2:=h.slip hb;have l1:=h.l1;have pt:∀k,InR (Vk p q r s (b+k)) (q*s) N->InR (Vk (plP p q r s b) (plQ p q r s b) r s k) (plQ p q r s b*s) N:=λk=>(qA9 h.q0 h.s0).mpr;unfold wb at hb⊢;by_cases b0:0<b
 . rw[YB b0,YA (by omega)]at hb
   rw[YA (show ¬0< -b by omega),YB (show-b<0 by omega)];refine qK5 h2 (by omega) λk k1 k2=>pt k (qG2 h.i0 (qKp h b0 hb) (by omega) (by omega))
 . rw[YA b0]at hb
   have t:=qKr (b:=b) h (by omega) (by split at hb <;> omega);by_cases z:b=0
   . subst z
     rw[YA (show ¬0< -(0:Int) by omega),YA (show ¬ -(0:Int)<0 by omega)];exact qK5 h2 (by omega) λk k1 k2=>YC k1 (by omega)
   . rw[YB (show 0< -b by omega),YA (show ¬ -b<0 by omega)]
     exact qPa h2 (by omega) λk k1 k2=>pt k (qG2 t h.i1 (by omega) (by omega))
theorem GC.unroll{n:Str}{l N':Int}(h:GC A n p q r s l N)(h':GC A n' p' q' r' s' l' N')(hb:wb b<=qB0 b (xK p q r s l N) (xL p' q' r' s' N') l l')(hm:b.natAbs<=1000000):wb (-b)<=qB0 (-b) (xK p q r s (l+b) N) (xL (plP p' q' r' s' b) (plQ p' q' r' s' b) r' s' N') (l+b) (l'-b):=by
 obtain⟨g1,g2⟩:=h.roll h' hb;have l1:=h.l1;have l1':=h'.l1;have m1:=g1.l1;have m2:=g2.l1;have pt:∀k,InR (Vk p' q' r' s' (b+k)) (q'*s') N'->InR (Vk (plP p' q' r' s' b) (plQ p' q' r' s' b) r' s' k) (plQ p' q' r' s' b*s') N':=λk=>(qA9 h'.q0 h'.s0).mpr;have hd:0<=b->b<=xL (plP p' q' r' s' b) (plQ p' q' r' s' b) r' s' N':=λb0=>qK5 g2 (by omega) λk k1 k2=>pt k (h'.at (by omega) (by omega));have tl:b<=0-> -b<=xK p q r s (l+b) N:=λb0=>qPa g1 (by omega) λk k1 k2=>h.at (by omega) (by omega);unfold wb qB0;by_cases b0:0< -b
 . rw[YA (by omega),YB b0]
   have:=tl (by omega);split <;> omega
 . rw[YA b0]
   have:=hd (by omega);split <;> split <;> omega
theorem qKi:∀(ms:List Im) (b:Int) (i0 k:Nat) (t:Int) (m m':Im),ms[k]?=some m->m'.mo=m.mo->jt b i0 (ms.set k m') t=jt b i0 ms t
 |[],_,_,_,_,_,_,h,_=>by cases h
 |x::ms,b,i0,0,t,m,m',h,e=>by
  obtain rfl:x=m:=by simpa using h
  show jt b i0 (m'::ms) t=jt b i0 (x::ms) t;rw[jt,jt,e]
 |x::ms,b,i0,k+1,t,m,m',h,e=>by show jt b i0 (x::ms.set k m') t=jt b i0 (x::ms) t;rw[jt,jt,qKi ms _ _ k t m m' h e]
theorem qP8(hq:0<q)(hs:0<s)(g:Int.gcd p q=1):plP (plP p q r s b) (plQ p q r s b) r s (-b)=p/\plQ (plP p q r s b) (plQ p q r s b) r s (-b)=q:=by obtain⟨e1,e2⟩:=qQl (p:=p) (q:=q) (r:=r) (s:=s) (lo:=b) (k:= -b) hq hs;obtain⟨z1,z2⟩:=qBw (r:=r) (s:=s) hq hs g;rw[e1,e2,show b+ -b=0 by omega,z1,z2];exact⟨O,O⟩
theorem qGq{α:Type}{xs:List α}{x:α}(h:xs[i]?=some x):xs.set i x=xs:=by obtain⟨h1,h2⟩:=qA5 h x;rw[h2,<-h1]
theorem zR(h:ms[i]?=some m):jU ms (i:Int)=m:=by unfold jU;rw[YQ,h];rfl
theorem qP5(h:GW A M c ms){t:Int}(hp:plF "slip" ms t=some is)(hx:is.any (hmB ms)=false)(hc:wb b<=qHd (rlE A) ms "slip" is b)(hm:b.natAbs<=1000000):
 plF "slip" (qB6 ms "slip" is b) t=some is/\is.any (hmB (qB6 ms "slip" is b))=false/\wb (-b)<=qHd (rlE A) (qB6 ms "slip" is b) "slip" is (-b)/\qB6 (qB6 ms "slip" is b) "slip" is (-b)=ms:=by
 have n1:("slip":Str)≠"roll":=by decide+kernel
 rcases qWe (λn p q r s l hm=>let ⟨N,c⟩:=h.it _ hm;⟨N,c.rn⟩) (.inr (.inl rfl)) hp with ⟨_,i,n,p,q,r,s,l,N,rfl,hi,hN,hv⟩|⟨e,_⟩
 . obtain⟨N',g⟩:=h.it _ (YF hi)
   have eN:N'=N:=by have:=g.rn;rw[hN]at this;cases this;rfl
   subst eN;rw[(hv b).1]at hc;rw[(hv b).2];have hm':(ms.set i (.clip n (plP p q r s b) (plQ p q r s b) r s l))[i]?=some (.clip n (plP p q r s b) (plQ p q r s b) r s l):=by rw[ZA (glt hi)]
   have hk:∀k,qt (ms.set i (.clip n (plP p q r s b) (plQ p q r s b) r s l)) k=qt ms k:=wB hi rfl;refine⟨?_,?_,?_,?_⟩
   . rw[<-hp]
     unfold plF;rw[YA n1,YB rfl,YA n1,YB rfl];unfold ctF;rw[qKi ms 0 0 i t _ (.clip n (plP p q r s b) (plQ p q r s b) r s l) hi rfl];simp only[hk]
   . unfold hmB at hx⊢
     simp only[hk];exact hx
   . unfold qHd
     rw[YB rfl];show wb (-b)<=qPz (rlE A) (jU _ (i:Int)) (-b);rw[zR hm'];unfold qPz;dsimp only;rw[hN];exact g.unslip hc hm
   . unfold qB6
     rw[YB rfl];show (match jU (ms.set i (.clip n (plP p q r s b) (plQ p q r s b) r s l)) (i:Int)with
      |.clip n p q r s l=>(ms.set i _).set ((i:Int)).toNat (.clip n (plP p q r s (-b)) (plQ p q r s (-b)) r s l)
      |_=>_)=ms
     rw[zR hm'];dsimp only;obtain⟨e1,e2⟩:=qP8 (r:=r) (s:=s) (b:=b) g.q0 g.s0 g.g1;rw[e1,e2,YQ,List.set_set];exact qGq hi
 . exact YC rfl e
theorem qNd{α:Type}(A:List α)(x y:α)(W:List α):(A++x::W).set A.length y=A++y::W:=by
 obtain⟨_,h2⟩:=qA5 (xQ A x W) y;rw[h2,ZI rfl];congr 2;have e:A++x::W=(A++[x])++W:=by simp
 rw[e,ZP];simp
theorem qS5(A:List Im)(Z B:List Im)(x y:Im)(b:Int)(n:Str)(p q r s l:Int)(n':Str)(p' q' r' s' l':Int):qOa (A++x::(Z++y::B)) A.length (A++x::Z).length b n p q r s l n' p' q' r' s' l'=A++ .clip n p q r s (l+b)::(Z++ .clip n' (plP p' q' r' s' b) (plQ p' q' r' s' b) r' s' (l'-b)::B):=by
 unfold qOa;rw[qNd];have e:A++Im.clip n p q r s (l+b)::(Z++y::B)=(A++Im.clip n p q r s (l+b)::Z)++y::B:=by simp
 have el:(A++x::Z).length=(A++Im.clip n p q r s (l+b)::Z).length:=by simp
 rw[e,el,qNd];simp
inductive RAt(w:Str)(t:Int)(A:List Im)(x:Im)(y:Im)(B:List Im):List Im->List Int->Prop where
 |roll (e:w="roll") (ht:t=qY A+x.mo):RAt w t A x y B [] [(A.length:Int),((A.length+1:Nat):Int)]
 |slide {z:Im} {d:Int} (e:w="slide") (hz:z.wd="clip") (d0:0<=d) (d1:d<z.mo) (ht:t=qY A+x.mo+d):RAt w t A x y B [z] [(A.length:Int),((A.length+1:Nat):Int),((A.length+2:Nat):Int)]
theorem qJi{A:List Im}{k:Int}(e:k=(A.length:Int)):qt (A++m::B) k=m.wd:=jp (xQ A m B) e
theorem RAt.pl{w:Str}{t:Int}{A:List Im}(h:RAt w t A x y B Z is)(hA:Nn A)(hx:x.wd="clip")(hy:y.wd="clip")(x0:0<=x.mo)(y0:0<y.mo):plF w (A++x::(Z++y::B)) t=some is:=by
 have cm:("clip":Str)≠"mix":=by decide+kernel
 have hX:Nn (A++[x]):=λm hm=>(YO.mp hm).elim (hA m) λq=>by rw[YY]at q;subst q;exact x0
 have lX:(A++[x]).length=A.length+1:=by simp
 have eX:qY (A++[x])=qY A+x.mo:=by rw[qX,qK,qf];omega
 cases h with
 |roll e ht=>
  subst e;have e1:A++x::([]++y::B)=(A++[x])++y::B:=by simp
  have hi:=zm (A++[x]) 0 0 y B 0 hX (YH 0) y0;rw[<-e1,eX,lX,show 0+(qY A+x.mo)+0=t by omega,Nat.zero_add]at hi;have k1:qt (A++x::([]++y::B)) (A.length:Int)="clip":=(qJi rfl).trans hx;have k2:qt (A++x::([]++y::B)) ((A.length+1:Nat):Int)="clip":=by rw[e1];exact(qJi (by rw[lX])).trans hy
  unfold plF;rw[YB rfl];unfold cbF nbF;rw[hi];dsimp only;rw[YA (by omega),show ((A.length+1:Nat):Int)-1=(A.length:Int) by omega,k1,YA cm];dsimp only;rw[YB ⟨k1,k2⟩];rfl
 | @slide z d e hz d0 d1 ht=>
  subst e;have e1:A++x::([z]++y::B)=(A++[x])++z::(y::B):=by simp
  have e2:A++x::([z]++y::B)=(A++[x,z])++y::B:=by simp
  have hi:=zm (A++[x]) 0 0 z (y::B) d hX d0 d1;rw[<-e1,eX,lX,show 0+(qY A+x.mo)+d=t by omega,Nat.zero_add]at hi;have k0:qt (A++x::([z]++y::B)) (((A.length+1:Nat):Int)-1)="clip":=(qJi (by omega)).trans hx;have k1:qt (A++x::([z]++y::B)) ((A.length+1:Nat):Int)="clip":=by rw[e1];exact(qJi (by rw[lX])).trans hz
  have k2:qt (A++x::([z]++y::B)) (((A.length+1:Nat):Int)+1)="clip":=by rw[e2];exact(qJi (by simp;omega)).trans hy
  have pa:paF (A++x::([z]++y::B)) ((A.length+1:Nat):Int)=(A.length:Int):=by unfold paF;rw[k0,YA cm];omega
  have pb:pbF (A++x::([z]++y::B)) ((A.length+1:Nat):Int)=((A.length+2:Nat):Int):=by unfold pbF;rw[k2,YA cm];omega
  unfold plF;rw[YA (by decide+kernel),YA (by decide+kernel)];unfold csF ctF;rw[hi];dsimp only;rw[YB k1];dsimp only;rw[pa,pb,YB ⟨(qJi rfl).trans hx,by rw[show ((A.length+2:Nat):Int)=((A.length+1:Nat):Int)+1 by omega];exact k2⟩]
theorem qWi{w:Str}{t:Int}(hw:w="roll"\/w="slide")(hp:plF w ms t=some is)(hx:is.any (hmB ms)=false):∃(A:List Im) (x:Im) (Z:List Im) (y:Im) (B:List Im),ms=A++x::(Z++y::B)/\x.wd="clip"/\y.wd="clip"/\RAt w t A x y B Z is:=by
 have nx:∀x∈is,hmB ms x=false:=λx hx'=>by rw[List.any_eq_false]at hx;simpa using hx x hx'
 rcases hw with rfl|rfl
 . unfold plF at hp
   rw[YB rfl]at hp;cases hc:cbF ms t with
   |none=>rw[hc]at hp;cases hp
   |some ij=>
    obtain⟨i,j⟩:=ij;rw[hc]at hp;obtain rfl:is=[i,j]:=(Yb hp).symm;obtain⟨k1,k2⟩:=zK hc;have hn:nbF ms t=some (i,j):=by
     unfold cbF at hc;cases hq:nbF ms t with
     |none=>rw[hq]at hc;cases hc
     |some x=>
      obtain⟨a,b⟩:=x;rw[hq]at hc;dsimp only at hc;split at hc
      . exact hc
      . cases hc
    rcases qK0 hn with ⟨A,x,y,B,e,rfl,rfl,ht,hm,y0⟩|⟨A,l,y,B,e,rfl,rfl,ht,hy⟩
    . refine⟨A,x,[],y,B,e,?_,?_,.roll rfl ht⟩
      . rw[e]at k1;exact(qJi rfl).symm.trans k1
      . have e1:ms=(A++[x])++y::B:=by rw[e];simp
        rw[e1]at k2;exact(qJi (by simp)).symm.trans k2
    . have:=(qPl (nx ((A.length:Int)-1) (by simp))).2
      rw[e,show (A.length:Int)-1+1=(A.length:Int) by omega,qJi rfl]at this;exact YC rfl this
 . unfold plF at hp
   rw[YA (by decide+kernel),YA (by decide+kernel)]at hp;unfold csF ctF at hp;cases hi:jt 0 0 ms t with
   |none=>rw[hi]at hp;cases hp
   |some kd=>
    obtain⟨k,d⟩:=kd;rw[hi]at hp;dsimp only at hp;by_cases kc:qt ms (k:Int)="clip"
    . rw[YB kc]at hp
      dsimp only at hp;split at hp
      . rename_i hk
        obtain rfl:=Yb hp;obtain⟨A0,z,B0,e,ek,et,d0,d1⟩:=wK hi;rw[Nat.zero_add]at ek;subst ek;obtain⟨n1,n2⟩:=qPl (nx (A0.length:Int) (by simp));have pa:paF ms (A0.length:Int)=(A0.length:Int)-1:=by unfold paF;rw[YA n1]
        have pb:pbF ms (A0.length:Int)=(A0.length:Int)+1:=by unfold pbF;rw[YA n2]
        rw[pa,pb]at hk⊢;have hA:A0≠[]:=λz=>by have:=hk.1;rw[z]at this;exact YC (show ("":Str)="clip" from this) (by decide+kernel)
        obtain⟨A,x,rfl⟩:=qEa hA;have hB:B0≠[]:=λz=>by subst z;have:=hk.2;unfold qt at this;rw[YA (by omega),show (((A++[x]).length:Int)+1).toNat=(A++[x]).length+1 by omega,e,List.getElem?_eq_none (by simp)]at this;exact YC this (by decide+kernel)
        obtain⟨y,B,rfl⟩:=List.exists_cons_of_ne_nil hB;have e1:ms=A++x::([z]++y::B):=by rw[e];simp
        have e2:ms=(A++[x,z])++y::B:=by rw[e];simp
        have lX:(((A++[x]).length:Nat):Int)=(A.length:Int)+1:=by simp
        rw[lX]at hk kc⊢;have kx:x.wd="clip":=by have:=hk.1;rw[e1]at this;exact(qJi (by omega)).symm.trans this
        have ky:y.wd="clip":=by have:=hk.2;rw[e2]at this;exact(qJi (by simp;omega)).symm.trans this
        have kz:z.wd="clip":=by rw[e]at kc;exact(qJi (by simp)).symm.trans kc
        have es:[(A.length:Int)+1-1,(A.length:Int)+1,(A.length:Int)+1+1]=[(A.length:Int),((A.length+1:Nat):Int),((A.length+2:Nat):Int)]:=by
         simp only[Int.natCast_add];congr 1
         all_goals omega
        rw[es];refine⟨A,x,[z],y,B,e1,kx,ky,.slide rfl kz d0 d1 ?_⟩;rw[qX,qK,qf]at et;omega
      . cases hp
    . rw[YA kc]at hp;cases hp
theorem RAt.ends{w:Str}{t:Int}(h:RAt w t U x y B Z is):is.headD 0=(U.length:Int)/\is.getLastD 0=(((U++x::Z).length:Nat):Int)/\w≠"slip":=by
 cases h with
 |roll e ht=>subst e;exact⟨rfl,by show ((U.length+1:Nat):Int)=_;simp,by decide+kernel⟩
 |slide e hz d0 d1 ht=>subst e;exact⟨rfl,by show ((U.length+2:Nat):Int)=_;simp,by decide+kernel⟩
theorem RAt.cap{w:Str}{t:Int}(h:RAt w t U x y B Z is):jU (U++x::(Z++y::B)) (is.headD 0)=x/\jU (U++x::(Z++y::B)) (is.getLastD 0)=y:=by
 obtain⟨e1,e2,_⟩:=h.ends;rw[e1,e2];refine⟨zR (xQ _ _ _),?_⟩;have e:U++x::(Z++y::B)=(U++x::Z)++y::B:=by simp
 rw[e];exact zR (xQ _ _ _)
theorem RAt.rol{w:Str}{t:Int}{n:Str}{l:Int}(h:RAt w t U (.clip n p q r s l) (.clip n' p' q' r' s' l') B Z is)(rl:Rls)(b:Int):
 qHd rl (U++ .clip n p q r s l::(Z++ .clip n' p' q' r' s' l'::B)) w is b=qPr rl (.clip n p q r s l) (.clip n' p' q' r' s' l') b/\qB6 (U++ .clip n p q r s l::(Z++ .clip n' p' q' r' s' l'::B)) w is b=U++ .clip n p q r s (l+b)::(Z++ .clip n' (plP p' q' r' s' b) (plQ p' q' r' s' b) r' s' (l'-b)::B):=by
 obtain⟨e1,e2,ns⟩:=h.ends;obtain⟨c1,c2⟩:=h.cap;unfold qHd qB6;rw[YA ns,YA ns,c1,c2];refine⟨O,?_⟩;dsimp only;rw[e1,e2,YQ,YQ];exact qS5 _ _ _ _ _ _ _ _ _ _ _ _ _ _ _ _ _ _
theorem RAt.move{w:Str}{t:Int}(h:RAt w t U x y B Z is){y':Im}(e:x'.mo=x.mo+b):RAt w (t+b) U x' y' B Z is:=by
 cases h with
 |roll e1 ht=>exact .roll e1 (by omega)
 |slide e1 hz d0 d1 ht=>exact .slide e1 hz d0 d1 (by omega)
theorem qS9{y':Im}(e1:x'.wd=x.wd)(e2:y'.wd=y.wd)(U Z B:List Im)(k:Int):qt (U++x'::(Z++y'::B)) k=qt (U++x::(Z++y::B)) k:=by
 have a1:=wB (m':=x') (xQ U x (Z++y::B)) e1 k;rw[qNd]at a1;have a2:=wB (m':=y') (xQ (U++x'::Z) y B) e2 k;rw[qNd]at a2;have e3:(U++x'::Z)++y::B=U++x'::(Z++y::B):=by simp
 have e4:(U++x'::Z)++y'::B=U++x'::(Z++y'::B):=by simp
 rw[e3,e4]at a2;rw[a2,a1]
theorem qPj(h:GW A M c ms){w:Str}{t:Int}(hw:w="roll"\/w="slide")(hp:plF w ms t=some is)(hx:is.any (hmB ms)=false)(hc:wb b<=qHd (rlE A) ms w is b)(hm:b.natAbs<=1000000):
 plF w (qB6 ms w is b) (t+b)=some is/\is.any (hmB (qB6 ms w is b))=false/\wb (-b)<=qHd (rlE A) (qB6 ms w is b) w is (-b)/\qB6 (qB6 ms w is b) w is (-b)=ms/\0<=t+b:=by
 obtain⟨U,x,Z,y,B,rfl,kx,ky,hR⟩:=qWi hw hp hx;obtain⟨n,p,q,r,s,l,rfl⟩:=qFe kx;obtain⟨n',p',q',r',s',l',rfl⟩:=qFe ky;obtain⟨N,g⟩:=h.it (.clip n p q r s l) (by simp);obtain⟨N',g'⟩:=h.it (.clip n' p' q' r' s' l') (by simp);have nU:Nn U:=λm hm=>h.nn m (by simp[hm]);rw[(hR.rol (rlE A) b).2];rw[(hR.rol (rlE A) b).1]at hc;unfold qPr at hc;dsimp only at hc;rw[g.rn,g'.rn]at hc;dsimp only at hc;obtain⟨g1,g2⟩:=g.roll g' hc;have l1:=g1.l1;have l2:=g2.l1;have hR':=hR.move (x':=.clip n p q r s (l+b)) (y':=.clip n' (plP p' q' r' s' b) (plQ p' q' r' s' b) r' s' (l'-b)) (b:=b) rfl;refine⟨hR'.pl nU rfl rfl (by show 0<=l+b;omega) (by show 0<l'-b;omega),?_,?_,?_,?_⟩
 . rw[List.any_eq_false]at hx⊢
   intro k hk;have:=hx k hk;unfold hmB at this⊢;have kk:∀k,qt (U++ .clip n p q r s (l+b)::(Z++ .clip n' (plP p' q' r' s' b) (plQ p' q' r' s' b) r' s' (l'-b)::B)) k=qt (U++ .clip n p q r s l::(Z++ .clip n' p' q' r' s' l'::B)) k:=qS9 (x:=.clip n p q r s l) (x':=.clip n p q r s (l+b)) (y:=.clip n' p' q' r' s' l') (y':=.clip n' (plP p' q' r' s' b) (plQ p' q' r' s' b) r' s' (l'-b)) rfl rfl U Z B;rw[kk,kk];exact this
 . rw[(hR'.rol _ (-b)).1]
   unfold qPr;dsimp only;rw[g.rn,g'.rn];exact g.unroll g' hc hm
 . rw[(hR'.rol (rlE A) (-b)).2]
   obtain⟨e1,e2⟩:=qP8 (r:=r') (s:=s') (b:=b) g'.q0 g'.s0 g'.g1;rw[e1,e2,show l+b+ -b=l by omega,show l'-b- -b=l' by omega]
 . have:=Nn.len nU
   have em:(Im.clip n p q r s l).mo=l:=rfl;cases hR with
   |roll e ht=>omega
   |slide e hz d0 d1 ht=>omega
theorem qUf{t:Int}(h:cbF ms t=some ((i:Int),((i+1:Nat):Int))):∃(U:List Im) (x y:Im) (B:List Im),ms=U++x::y::B/\U.length=i/\x.wd="clip"/\y.wd="clip"/\t=qY U+x.mo/\0<y.mo:=by
 obtain⟨k1,k2⟩:=zK h;have hn:nbF ms t=some ((i:Int),((i+1:Nat):Int)):=by
  unfold cbF at h;cases hq:nbF ms t with
  |none=>rw[hq]at h;cases h
  |some x=>
   obtain⟨a,b⟩:=x;rw[hq]at h;dsimp only at h;split at h
   . exact h
   . cases h
 rcases qK0 hn with ⟨U,x,y,B,e,e1,e2,ht,hm,y0⟩|⟨U,l,y,B,e,e1,e2,_⟩
 . have ei:U.length=i:=by omega
   have e':ms=(U++[x])++y::B:=by rw[e];simp
   refine⟨U,x,y,B,e,ei,?_,?_,ht,y0⟩
   . rw[e]at k1;exact(qJi (by omega)).symm.trans k1
   . rw[e']at k2;exact(qJi (by simp;omega)).symm.trans k2
 . omega
theorem qVy{l:Int}(hU:Nn U)(hx:x.wd="clip")(hy:y.wd="clip")(x0:0<=x.mo)(y0:0<y.mo):cbF (U++x:: .mix l::y::B) (qY U+x.mo)=some ((U.length:Int),((U.length+2:Nat):Int)):=by
 have e1:U++x:: .mix l::y::B=(U++[x,.mix l])++y::B:=by simp
 have e2:U++x:: .mix l::y::B=(U++[x])++ .mix l::y::B:=by simp
 have hX:Nn (U++[x,.mix l]):=λm hm=>(YO.mp hm).elim (hU m) λq=>by
  rcases YU.mp q with rfl|q
  . exact x0
  . rw[YY]at q;subst q;exact YH 0
 have lX:(U++[x,.mix l]).length=U.length+2:=by simp
 have em:(Im.mix l).mo=0:=rfl;have eX:qY (U++[x,.mix l])=qY U+x.mo:=by rw[qX,qK,qK,qf,em];omega
 have hi:=zm (U++[x,.mix l]) 0 0 y B 0 hX (YH 0) y0;rw[<-e1,eX,lX,show 0+(qY U+x.mo)+0=qY U+x.mo by omega,Nat.zero_add]at hi;have k1:qt (U++x:: .mix l::y::B) (((U.length+2:Nat):Int)-1)="mix":=by rw[e2];exact qJi (by simp;omega)
 have k0:qt (U++x:: .mix l::y::B) (((U.length+2:Nat):Int)-2)="clip":=(qJi (by omega)).trans hx;have k2:qt (U++x:: .mix l::y::B) ((U.length+2:Nat):Int)="clip":=by rw[e1];exact(qJi (by rw[lX])).trans hy
 unfold cbF nbF;rw[hi];dsimp only;rw[YA (by omega),k1,YB rfl];dsimp only;rw[YB ⟨k0,k2⟩];congr 2;omega
theorem qSl(nn:∀m∈ms,Wf m){t l:Int}(h:cbF ms t=some ((i:Int),((i+1:Nat):Int))):cbF (ms.take (i+1)++[Im.mix l]++ms.drop (i+1)) t=some ((i:Int),((i+2:Nat):Int))/\(ms.take (i+1)++[Im.mix l]++ms.drop (i+1)).take (i+1)++(ms.take (i+1)++[Im.mix l]++ms.drop (i+1)).drop (i+2)=ms:=by
 obtain⟨U,x,y,B,rfl,rfl,kx,ky,rfl,y0⟩:=qUf h;have e1:U++x::y::B=(U++[x])++(y::B):=by simp
 have l1:U.length+1=(U++[x]).length:=by simp
 have t1:(U++x::y::B).take (U.length+1)=U++[x]:=by rw[e1,ZI l1.symm]
 have t2:(U++x::y::B).drop (U.length+1)=y::B:=by rw[e1,ZP l1.symm]
 rw[t1,t2];have e2:U++[x]++[Im.mix l]++y::B=U++x:: .mix l::y::B:=by simp
 refine⟨?_,?_⟩
 . rw[e2]
   exact qVy (λm hm=>(nn m (by simp[hm])).mo) kx ky (nn x (by simp)).mo y0
 . rw[Yw,ZI l1.symm,<-Yw,ZP (by simp)]
   simp
theorem qVo{R:Im->Int->Im->Prop}{m:Im}{B:List Im}:∀(X:List Im) (tb:Int) (p:Option Im),FS R tb p (X++m::B)->∃p',FS R (tbL tb X) p' (m::B)
 |[],tb,p,h=>⟨p,h⟩
 |x::X,tb,p,h=>by
  rw[qSw];by_cases hx:x.wd="mix"
  . obtain⟨l,rfl⟩:=jw hx
    exact qVo X _ _ h.2
  . rw[YT]at h
    have h2:=((xJ hx).mp h).2;cases x with
    |mix l=>exact YC rfl hx
    |_=>exact qVo X _ _ h2
theorem qWk{a l:Int}(h1:1<=l)(ha:l.fdiv 2<=a)(hb:l-l.fdiv 2<=b):l<=mmV a b:=by have:=qz (p:=l) (q:=2) (by decide);unfold mmV qW4;split <;> split <;> omega
theorem qP6{x y l:Int}(h1:l<=x)(h2:l<=y):l<=qR8 x y:=by unfold qR8;split <;> omega
theorem qOb(h:GT A M c ms){t:Int}(hc:cbF ms t=some ((i:Int),((i+2:Nat):Int))):∃l M',ms[i+1]?=some (.mix l)/\1<=l/\cbF (ms.take (i+1)++ms.drop (i+2)) t=some ((i:Int),((i+1:Nat):Int))/\mmF (rlE A) (ms.take (i+1)++ms.drop (i+2)) t=some M'/\l<=M'/\(ms.take (i+1)++ms.drop (i+2)).take (i+1)++[Im.mix l]++(ms.take (i+1)++ms.drop (i+2)).drop (i+1)=ms:=by
 have hn:nbF ms t=some ((i:Int),((i+2:Nat):Int)):=by
  unfold cbF at hc;cases hq:nbF ms t with
  |none=>rw[hq]at hc;cases hc
  |some x=>
   obtain⟨a,b⟩:=x;rw[hq]at hc;dsimp only at hc;split at hc
   . exact hc
   . cases hc
 rcases qK0 hn with ⟨U,x,y,B,_,_,e2,_⟩|⟨U,l,y,B,e,e1,e2,et,_⟩
 . omega
 . obtain⟨X,n,p,q,r,s,k,n',p',q',r',s',k',Y,rfl,eY⟩:=qE2 h.gd.mo (show ms=U++ .mix l::(y::B)from e)
   have hl:X.length=i:=by rw[YN,Yy]at e2;omega
   have e':ms=X++ .clip n p q r s k:: .mix l:: .clip n' p' q' r' s' k'::Y:=by rw[e,eY];simp
   have a1:ms=(X++[.clip n p q r s k])++(.mix l:: .clip n' p' q' r' s' k'::Y):=by rw[e'];simp
   have a2:ms=(X++[.clip n p q r s k,.mix l])++(.clip n' p' q' r' s' k'::Y):=by rw[e'];simp
   have b1:ms.take (i+1)=X++[.clip n p q r s k]:=by rw[a1,ZI];simp[hl]
   have b2:ms.drop (i+2)=.clip n' p' q' r' s' k'::Y:=by rw[a2,ZP];simp[hl]
   have nX:Nn X:=λm hm=>h.nn m (by rw[e'];simp[hm]);have wm:Wf (.mix l):=h.wf _ (by rw[e'];simp);have l1:1<=l:=wm;have k0:1<=k:=(h.wf (.clip n p q r s k) (by rw[e'];simp)).2.2.2;have k0':1<=k':=(h.wf (.clip n' p' q' r' s' k') (by rw[e'];simp)).2.2.2;have hf:=h.gd.fs;rw[e']at hf;obtain⟨p1,f1⟩:=qVo X 0 none hf;have cm:("clip":Str)≠"mix":=by decide+kernel
   obtain⟨f2,f3⟩:=(xJ (R:=RmR (rlE A)) (m:=.clip n p q r s k) cm).mp f1;obtain⟨f4,f5⟩:=FS_mix.mp f3;obtain⟨f6,_⟩:=(xJ (R:=RmR (rlE A)) (m:=.clip n' p' q' r' s' k') cm).mp f5;obtain⟨N,N',r1,r2,f7,f8⟩:=f4 _ _ rfl rfl _ _ _ _ _ _ _ _ _ _ _ _ rfl rfl;have f2:tbL 0 X+l.fdiv 2<=k:=f2 rfl;have f6:l-l.fdiv 2+tkE Y<=k':=f6 rfl;subst hl;rw[b1,b2];have lX:(X++[Im.clip n p q r s k]).length=X.length+1:=by simp
   have e3:X++[Im.clip n p q r s k]++Im.clip n' p' q' r' s' k'::Y=X++ .clip n p q r s k::([]++ .clip n' p' q' r' s' k'::Y):=by simp
   have tl:t=qY X+(Im.clip n p q r s k).mo:=by rw[et,qX,qK,qf];omega
   have hR:RAt "roll" t X (.clip n p q r s k) (.clip n' p' q' r' s' k') Y [] _:=.roll rfl tl;have hp:=hR.pl nX rfl rfl (by show 0<=k;omega) (by show 0<k';omega);have hcb:cbF (X++[Im.clip n p q r s k]++Im.clip n' p' q' r' s' k'::Y) t=some ((X.length:Int),((X.length+1:Nat):Int)):=by
    rw[e3];unfold plF at hp;rw[YB rfl]at hp;cases hq:cbF (X++Im.clip n p q r s k::([]++Im.clip n' p' q' r' s' k'::Y)) t with
    |none=>rw[hq]at hp;cases hp
    |some ij=>
     obtain⟨a,b⟩:=ij;rw[hq]at hp;have:=Yb hp;injection this with z1 z2
     injection z2 with z3 _
     have z1:a=_:=z1;have z3:b=_:=z3;rw[z1,z3]
   have t1:tbF (X++[Im.clip n p q r s k]++Im.clip n' p' q' r' s' k'::Y) X.length=tbL 0 X:=by rw[<-qM1 (by simp),e3,ZI rfl]
   have t2:teF (X++[Im.clip n p q r s k]++Im.clip n' p' q' r' s' k'::Y) (X.length+1)=tkE Y:=by
    rw[<-qMq];congr 1;have:X++[Im.clip n p q r s k]++Im.clip n' p' q' r' s' k'::Y=(X++[Im.clip n p q r s k,Im.clip n' p' q' r' s' k'])++Y:=by simp
    rw[this,ZP];simp
   refine⟨l,mmV (qR8 (k-tbL 0 X) (xL p' q' r' s' N')) (qR8 (k'-tkE Y) (xK p q r s k N)),?_,l1,hcb,?_,qWk l1 (qP6 (by omega) f7) (qP6 (by omega) f8),?_⟩
   . rw[a1,<-lX];exact xQ _ _ _
   . unfold mmF
     rw[hcb];dsimp only;have g1:(X++[Im.clip n p q r s k]++Im.clip n' p' q' r' s' k'::Y)[X.length]?=some (.clip n p q r s k):=by rw[e3];exact xQ _ _ _
     have g2:(X++[Im.clip n p q r s k]++Im.clip n' p' q' r' s' k'::Y)[X.length+1]?=some (.clip n' p' q' r' s' k'):=by rw[<-lX];exact xQ _ _ _
     rw[zR g1,zR g2];dsimp only;rw[r1,r2];dsimp only;rw[YQ,YQ,t1,t2]
   . rw[ZI lX,ZP lX,e']
     simp
theorem GW.mixd{t l:Int}(h:GW A M c ms)(hc:cbF ms t=some ((i:Int),((i+1:Nat):Int)))(h1:1<=l):GW A M (c+1) (ms.take (i+1)++[.mix l]++ms.drop (i+1)):=by
 obtain⟨n,p,q,r,s,k,n',p',q',r',s',k',e1,e2,e3,e4⟩:=qPm hc;have o:=h.os;have m:=h.mo;have a1:=h.le;have a2:=h.ct;have it:=h.it;rw[e4 l];rw[e3]at o m a1 a2 it;generalize ms.take i=X at*;generalize ms.drop (i+2)=Y at*;refine⟨λx hx=>?_,qMz l (by show ("clip":Str)≠"gap";decide+kernel) (by show ("clip":Str)≠"gap";decide+kernel) _ _ o,qMh l ⟨_,_,_,_,_,_,O⟩ ⟨_,_,_,_,_,_,O⟩ _ _ m,?_,?_⟩
 . simp only[YO,YU]at hx it
   rcases hx with hx|hx|hx|hx|hx
   . exact it x (.inl hx)
   . exact it x (.inr (.inl hx))
   . subst hx;exact h1
   . exact it x (.inr (.inr (.inl hx)))
   . exact it x (.inr (.inr (.inr hx)))
 . rw[qX,qK,qK]at a1
   rw[qX,qK,qK,qK];have:(Im.mix l).mo=0:=rfl;omega
 . simp only[YN,YE]at a2⊢
   omega
theorem GW.unmixed{t:Int}(h:GW A M c ms)(hc:cbF ms t=some ((i:Int),((i+2:Nat):Int))):GW A M c (ms.take (i+1)++ms.drop (i+2)):=by
 have hn:nbF ms t=some ((i:Int),((i+2:Nat):Int)):=by
  unfold cbF at hc;cases hq:nbF ms t with
  |none=>rw[hq]at hc;cases hc
  |some x=>
   obtain⟨a,b⟩:=x;rw[hq]at hc;dsimp only at hc;split at hc
   . exact hc
   . cases hc
 rcases qK0 hn with ⟨U,x,y,B,_,_,e2,_⟩|⟨U,l,y,B,e,e1,e2,et,_⟩
 . omega
 . obtain⟨X,n,p,q,r,s,k,n',p',q',r',s',k',Y,rfl,eY⟩:=qE2 h.mo (show ms=U++ .mix l::(y::B)from e)
   have hl:X.length=i:=by rw[YN,Yy]at e2;omega
   have e':ms=X++ .clip n p q r s k:: .mix l:: .clip n' p' q' r' s' k'::Y:=by rw[e,eY];simp
   have e3:ms.take (i+1)++ms.drop (i+2)=X++ .clip n p q r s k:: .clip n' p' q' r' s' k'::Y:=by
    have a1:ms=(X++[.clip n p q r s k])++(.mix l:: .clip n' p' q' r' s' k'::Y):=by rw[e'];simp
    have a2:ms=(X++[.clip n p q r s k,.mix l])++(.clip n' p' q' r' s' k'::Y):=by rw[e'];simp
    have b1:ms.take (i+1)=X++[.clip n p q r s k]:=by rw[a1,ZI];simp[hl]
    have b2:ms.drop (i+2)=.clip n' p' q' r' s' k'::Y:=by rw[a2,ZP];simp[hl]
    rw[b1,b2];simp
   rw[e3];obtain⟨a1,o,m,a3,a4⟩:=h;rw[e']at a1 o m a3 a4;refine⟨λx hx=>a1 x ?_,qJ0 (X:=Im.clip n p q r s k:: .mix l::Im.clip n' p' q' r' s' k'::Y) (X':=Im.clip n p q r s k::Im.clip n' p' q' r' s' k'::Y) (λg q=>q) X _ o,qIh (x:=.clip n p q r s k) (x':=.clip n p q r s k) (T:=.mix l::Im.clip n' p' q' r' s' k'::Y) (T':=Im.clip n' p' q' r' s' k'::Y) id (λp q=>q.2) X _ m,?_,?_⟩
   . simp only[YO,YU]at hx⊢
     rcases hx with hx|hx|hx|hx
     . exact .inl hx
     . exact .inr (.inl hx)
     . exact .inr (.inr (.inr (.inl hx)))
     . exact .inr (.inr (.inr (.inr hx)))
   . rw[qX,qK,qK,qK]at a3
     rw[qX,qK,qK];have:(Im.mix l).mo=0:=rfl;omega
   . simp only[YN,YE]at a4⊢
     omega
def AllG(G:List Im->Prop)(L:Nat)(ts:List (List Im)):Prop:=ts.length=L/\∀x∈ts,G x
theorem AllG.set{G:List Im->Prop}{L:Nat}{ts:List (List Im)}(h:AllG G L ts)(k:Nat){x:List Im}(hx:G x):AllG G L (ts.set k x):=⟨by rw[ZN];exact h.1,λy hy=>(List.mem_or_eq_of_mem_set hy).elim (h.2 y) λe=>e ▸ hx⟩
inductive Gone(rl:Rls)(tie:List Int)(G:List (List Im)->Prop)(O9:De->Prop):List (List Im)->List (Nat×De)->List (List Im)->Prop where
 |nil {ts:List (List Im)}:Gone rl tie G O9 ts [] ts
 |cons {ts ts1 ts2:List (List Im)} {n:Nat} {ms:List Im} {d:De} {ds:List (Nat×De)} (g:G ts) (o:O9 d) (hm:ts[n]?=some ms) (r:kH rl ts tie n ms d=.good ts1) (h:Gone rl tie G O9 ts1 ds ts2):Gone rl tie G O9 ts ((n,d)::ds) ts2
theorem Gone.app{G:List (List Im)->Prop}{a b c:List (List Im)}{ds es:List (Nat×De)}(h:Gone rl tie G O9 a ds b)(h':Gone rl tie G O9 b es c):Gone rl tie G O9 a (ds++es) c:=by
 induction h with
 |nil=>exact h'
 |cons g o hm r _ ih=>exact .cons g o hm r (ih h')
theorem qGg(tie:List Int)(n:Int):chF tie n false=[n]:=by unfold chF;rw[YA λq=>YZ q.1]
theorem vG{ts:List (List Im)}{k:Nat}(h:ts[k]?=some ms):ts.getD ((k:Int)).toNat []=ms:=by rw[YQ,List.getD_eq_getElem?_getD,h];rfl
theorem qMe{ts:List (List Im)}{k:Nat}{ms1:List Im}{d:De}(hm:ts[k]?=some ms)(h:qTh ms d=some ms1):kH rl ts tie k ms d=.good (ts.set k ms1):=by
 have tA:∀{lo hi:Int},¬jL ms lo hi=true->¬jJ ts (chF tie (k:Int) false) lo hi=true:=λ{lo hi} q=>by unfold jJ;rw[qGg,List.any_cons,List.any_nil,Bool.or_false,vG hm];exact q
 cases d with
 |hel t=>
  rw[qTh]at h;split at h
  . cases h
  . rename_i q
    rw[kH,h];dsimp only;rw[YA (tA q)]
 |chg d=>
  cases d with
  |lov t m=>
   rw[qTh]at h;split at h
   . cases h
   . rename_i q
     cases h;rw[kH,YB (show wiB ms (.lov t m)=true from rfl)];show (if jJ ts (chF tie (k:Int) false) t (t+m.mo)=true then Res.mixed else .good (vN ts (.lov t m) (k:Int) (chF tie (k:Int) false)))=_;rw[YA (tA q),qGg];unfold vN;rw[List.foldl_cons,List.foldl_nil,vG hm,YQ];unfold j4;rw[YB rfl];rfl
  |_=>cases h
 |_=>cases h
theorem TGo.lift{k:Nat}{ms2:List Im}{ds:List De}(h:TGo G O9 ms ds ms2):∀ts:List (List Im),AllG G L ts->ts[k]?=some ms->Gone rl tie (AllG G L) O9 ts (ds.map λd=>(k,d)) (ts.set k ms2):=by
 induction h with
 |nil=>
  intro ts _ hm;rw[qGq hm];exact .nil
 | @cons ms ms1 ms2 d ds g o r hh ih=>
  intro ts hG hm;have hk:=(glt hm);have hm1:(ts.set k ms1)[k]?=some ms1:=ZA hk;cases hh with
  |nil=>
   exact .cons hG o hm (qMe hm r) .nil
  |cons g1 o1 r1 h1=>
   have:=ih (ts.set k ms1) (hG.set k g1) hm1;rw[List.set_set]at this;exact .cons hG o hm (qMe hm r) this
theorem qEo{rl:Rls}{tie:List Int}{G:List Im->Prop}{O9:De->Prop}{L:Nat}{ts:List (List Im)}(hT:AllG G L ts)(row:Int->List De):∀(ns:List Int) (cur:List (List Im)),AllG G L cur->(∀k∈ns,∃(j:Nat) (ms mk:List Im),k=(j:Int)/\ts[j]?=some ms/\cur[j]?=some mk/\TGo G O9 mk (row k) ms)->ns.Nodup->(∀j:Nat,(j:Int)∉ns->cur[j]?=ts[j]?)->Gone rl tie (AllG G L) O9 cur (ns.flatMap λk=>(row k).map λd=>(k.toNat,d)) ts
 |[],cur,hC,_,_,h=>by have:cur=ts:=List.ext_getElem? λj=>h j (by simp);rw[this];exact .nil
 |k::ns,cur,hC,hk,hn,h=>by
  obtain⟨j,ms,mk,rfl,hj,hc,hg⟩:=hk k (by simp);rw[List.flatMap_cons,YQ];have hl:=(glt hc);obtain⟨n1,n2⟩:=List.nodup_cons.mp hn;refine(hg.lift cur hC hc).app (qEo hT row ns (cur.set j ms) (hC.set j (hT.2 ms (YF hj))) (λk' hk'=>?_) n2 λi hi=>?_)
  . obtain⟨j',ms',mk',rfl,a1,a2,a3⟩:=hk k' (by simp[hk'])
    refine⟨j',ms',mk',O,a1,?_,a3⟩;rw[ZL (λe=>by subst e;exact n1 hk')];exact a2
  . by_cases e:j=i
    . subst e
      rw[ZA hl,hj]
    . rw[ZL e]
      refine h i λq=>?_;rcases YU.mp q with q|q
      . exact e (by omega)
      . exact hi q
theorem qNg(f:Int->List Im):∀(ns:List Int) (acc:List (List Im)) (j:Nat),(∀k∈ns,0<=k)->(ns.foldl (λa k=>a.set k.toNat (f k)) acc)[j]?=if (j:Int)∈ns then (if j<acc.length then some (f j)else none)else acc[j]?
 |[],acc,j,_=>by simp
 |k::ns,acc,j,h=>by
  have k0:=h k (by simp);rw[List.foldl_cons,qNg f ns _ j (λx hx=>h x (by simp[hx])),ZN];by_cases hj:(j:Int)∈ns
  . rw[YB hj,YB (List.mem_cons_of_mem k hj)]
  . rw[YA hj]
    by_cases e:k=(j:Int)
    . subst e
      rw[YB List.mem_cons_self,YQ,List.getElem?_set,YB rfl]
    . rw[YA (by simp only[YU,not_or];exact⟨λq=>e q.symm,hj⟩),ZL (by omega)]
theorem qHh{ts:List (List Im)}{d:Dk}{n:Int}(h:∀k∈ns,0<=k){j:Nat}(hj:ts[j]?=some ms):(vN ts d n ns)[j]?=some (if (j:Int)∈ns then xC ms d.t d.hi (j4 d n j)else ms):=by unfold vN;rw[qNg (λk=>xC (ts.getD k.toNat []) d.t d.hi (j4 d n k)) ns ts j h,vG hj,hj,YB (glt hj)];split <;> rfl
structure GB(A M:Int)(c:Nat)(C:Int)(ms:List Im):Prop where
 gt:GW A M c ms
 cl:∀m∈ms,m.wd="clip"->m.mo<=C
theorem GB.mono{A M M':Int}{c c':Nat}{C C':Int}{ms:List Im}(h:GB A M c C ms)(h1:M<=M')(h2:c<=c')(h3:C<=C'):GB A M' c' C' ms:=⟨h.gt.mono h1 h2,λm hm e=>by have:=h.cl m hm e;omega⟩
theorem GB.rel0{A M:Int}{c:Nat}{C:Int}{ms:List Im}(h:GB A M c C ms){lo hi:Int}(h0:0<=lo)(h1:lo<=hi)(ht:jL ms lo hi=false):Rel ms lo hi []:=h.gt.rel0 h0 h1 ht
theorem GB.rel(h:GB A M c C ms){hi:Int}(hR:Rel ms lo hi ls)(hl:∀m∈ls,GI A m/\(m.wd="clip"->m.mo<=C)){B:Int}(hlo:lo<=M+4)(hll:qY ls<=B)(hn:ls.length<=n):GB A (M+4+B) (c+2+n) C (xC ms lo hi ls):=by
 have h0:=hR.l0;have h1:=hR.lh;have a1:=h.gt.le;have a2:=h.gt.ct;refine⟨⟨qLm (Pm:=GI A) (λw hw=>by show 1<=w;omega) hR h.gt.it (λm hm nm x y x0 x1 x2=>(h.gt.it m hm).part nm x0 x1 x2) (λm hm=>(hl m hm).1),qTz hR,hR.mo',?_,?_⟩,qLm (Pm:=λm=>m.wd="clip"->m.mo<=C) (λw _ e=>YC (show ("gap":Str)="clip" from e) (by decide+kernel)) hR h.cl (λm hm nm x y x0 x1 x2 e=>?_) (λm hm=>(hl m hm).2)⟩
 . rw[hR.eq2]
   have b1:=qLa _ 0 hR.raw.nn (YH 0);obtain⟨l4,l5,l6⟩:=qKz (c:=hi) (show 0<=hi by omega) h.gt.wf;rw[qX,qX,hR.pad.2.1]at b1;have b2:qY (cutF hi ms).2=0\/qY (cutF hi ms).2=qY ms-hi:=by
    by_cases q:hi<=qY ms
    . have:=l6 q
      right;omega
    . left
      rw[qO4 ms hi h.gt.nn (by omega)];rfl
   have:=Nn.len (Wf.rw hR.lw).nn;omega
 . rw[hR.eq2]
   have b1:=qG7 (qB2 lo ms++(ls++(cutF hi ms).2)) 0;have b2:=qPp ms lo hi h1;rw[YA (by omega)]at b1;unfold qB2 at b1⊢;simp only[YN,YE,ZO]at b1;omega
 . rw[qA6 nm]at e
   rw[jS];have:=h.cl m hm e;omega
theorem qS1(h:GB A M c C ms){hi:Int}(hR:Rel ms lo hi ls):(∀m∈qAt lo hi ms,GI A m/\(m.wd="clip"->m.mo<=C))/\((qAt lo hi ms).length:Int)<=qY (qAt lo hi ms):=by
 have l0:=hR.l0;have lh:=hR.lh;have cut:∀{X:List Im} {t:Int},0<=t->(∀m∈X,GI A m/\(m.wd="clip"->m.mo<=C))->(∀m∈(cutF t X).1,GI A m/\(m.wd="clip"->m.mo<=C))/\∀m∈(cutF t X).2,GI A m/\(m.wd="clip"->m.mo<=C):=λ{X t} t0 hX=>qLd (Pm:=λm=>GI A m/\(m.wd="clip"->m.mo<=C)) t0 hX λm hm nm x y x0 x1 x2=>⟨(hX m hm).1.part nm x0 x1 x2,λe=>by rw[qA6 nm]at e;rw[jS];have:=(hX m hm).2 e;omega⟩
 refine⟨(cut (by omega) (cut l0 (λm hm=>⟨h.gt.it m hm,h.cl m hm⟩)).2).1,?_⟩;obtain⟨w1,w2,_⟩:=hR.mid;have cnt:∀X:List Im,(∀m∈X,Wf m)->(∀m∈X,m.wd≠"mix")->(X.length:Int)<=qY X:=λX=>by
  induction X with
  |nil=>intro _ _;decide
  |cons m X ih=>
   intro a b;have:=ih (λx hx=>a x (by simp[hx])) (λx hx=>b x (by simp[hx]));have:=(a m (by simp)).pos (b m (by simp));rw[qK,YE];omega
 exact cnt _ w1 w2
theorem qPx(g:Int):∀m∈vy g,GI A m/\(m.wd="clip"->m.mo<=C):=λm hm=>by
 unfold vy at hm;split at hm
 . rw[YY]at hm
   subst hm;exact⟨by show 1<=g;omega,λe=>YC (show ("gap":Str)="clip" from e) (by decide+kernel)⟩
 . cases hm
theorem qSk(g:Int):(vy g).length<=1:=by unfold vy;split <;> simp
theorem GB.again(h:GB A M c C ms){hi:Int}(hR:Rel ms lo hi [])(hlt:lo<hi)(hw:hi<=lo+10)(hlo:lo<=M+4)(hO:∀x t,GI A x->(x.wd="clip"->x.mo<=C)->x.wd="clip"\/x.wd="nest"->lo<=t->t<=hi->x.mo<=10->O9 (.chg (.lov t x)))(hH:∀t,lo<=t->t<=hi->O9 (.hel t)):
 TGo (GB A (M+14) (c+14) C) O9 (xC ms lo hi [.gap (hi-lo)]) (qKs lo (qAt lo hi ms)++xZ ms [lo,hi]) ms:=by
 obtain⟨g1,g2⟩:=qS1 h hR;obtain⟨w1,w2,w3⟩:=hR.mid;refine qRe hR hlt h.gt.os (λU V g e g0 eg=>?_) ?_ (λx hx t t0 t1 ng=>?_) ⟨hH lo (YH lo) (by omega),hH hi (by omega) (YH hi)⟩
 . have hU:∀m∈U,m∈qAt lo hi ms:=λm hm=>by rw[e];simp[hm]
   have lV:=Nn.len (ms:=V) λy hy=>(w1 y (by rw[e];simp[hy])).mo;rw[e,YN,qX]at g2;rw[e,qX]at w3;have gc:=qSk g;have hRU:Rel ms lo hi (U++vy g):=⟨hR.wf,hR.mo,hR.l0,hR.lh,hR.nt,λm hm=>(YO.mp hm).elim (λq=>w1 m (hU m q)) ((vp g).1 m),λm hm=>(YO.mp hm).elim (λq=>w2 m (hU m q)) ((vp g).2 m)⟩;exact(h.rel hRU (λm hm=>(YO.mp hm).elim (λq=>g1 m (hU m q)) (qPx g m)) (B:=10) (n:=11) hlo (by rw[qX,qMp g0];omega) (by rw[YN];have:=h.gt.ct;omega)).mono (by omega) (by omega) (YH C)
 . exact((h.mono (M':=M+10) (by omega) (YI c) (YH C)).rel (B:=0) (n:=0) (lo:=hi) (hi:=hi) (ls:=[]) (hR.cut0 (by omega) (YH hi)) (λm hm=>by cases hm) (by omega) (by decide) (YI 0)).mono (by omega) (by omega) (YH C)
 . have m1:=qJq (λy hy=>(w1 y hy).mo) x hx
   refine hO x t (g1 x hx).1 (g1 x hx).2 ?_ t0 t1 (by omega);cases x with
   |clip n p q r s l=>exact .inl rfl
   |nest n b l=>exact .inr rfl
   |gap l=>exact YC rfl ng
   |mix l=>exact YC rfl (w2 _ hx)
noncomputable def trI(ts:List (List Im))(k:Int):List Im:=(ts[k.toNat]?).getD []
theorem qMr{ts:List (List Im)}{j:Nat}(h:ts[j]?=some ms):trI ts (j:Int)=ms:=by unfold trI;rw[YQ,h];rfl
noncomputable def xN(ns:List Int)(f:Int->List De):List (Nat×De):=ns.flatMap λk=>(f k).map λd=>(k.toNat,d)
noncomputable def zp(ts:List (List Im))(lo hi:Int)(k:Int):List De:=qKs lo (ji lo hi 0 (trI ts k))++xZ (trI ts k) [lo,hi]
noncomputable def qFk(ts:List (List Im))(t:Int)(k:Int):List De:=xZ (trI ts k) [t]
theorem AllG.of_get{ts:List (List Im)}(hl:ts.length=L)(hc:cu.length=L)(h:∀(j:Nat) (ms:List Im),ts[j]?=some ms->∃x,cu[j]?=some x/\G x):AllG G L cu:=⟨hc,λx hx=>by obtain⟨j,hj⟩:=List.getElem?_of_mem hx;have jl:=(glt hj);obtain⟨y,hy,g⟩:=h j (ts[j]'(by omega)) (YD (by omega));rw[hj]at hy;cases hy;exact g⟩
theorem AllG.mono{G':List Im->Prop}{ts:List (List Im)}(h:AllG G L ts)(hg:∀x,G x->G' x):AllG G' L ts:=⟨h.1,λx hx=>hg x (h.2 x hx)⟩
structure Chd(A M:Int)(c:Nat)(C:Int)(L:Nat)(ts:List (List Im))(ns:List Int)(lo hi:Int):Prop where
 all:AllG (GB A M c C) L ts
 ix:∀k∈ns,∃j:Nat,k=(j:Int)/\j<L
 nd:ns.Nodup
 tb:∀k∈ns,jL (ts.getD k.toNat []) lo hi=false
 l0:0<=lo
 lh:lo<=hi
 lM:lo<=M+4
 lw:hi<=lo+10
theorem Chd.get{ts:List (List Im)}{hi:Int}(h:Chd A M c C L ts ns lo hi){k:Int}(hk:k∈ns):∃(j:Nat) (ms:List Im),k=(j:Int)/\ts[j]?=some ms/\GB A M c C ms/\Rel ms lo hi []:=by obtain⟨j,rfl,hj⟩:=h.ix k hk;have e:ts[j]?=some (ts[j]'(by rw[h.all.1];exact hj)):=YD _;have g:=h.all.2 _ (YF e);have t:=h.tb _ hk;rw[vG e]at t;exact⟨j,_,O,e,g,g.rel0 h.l0 h.lh t⟩
theorem Chd.pos{ts:List (List Im)}{hi:Int}(h:Chd A M c C L ts ns lo hi):∀k∈ns,0<=k:=λk hk=>by obtain⟨j,rfl,_⟩:=h.ix k hk;omega
def OkB(A C B:Int):De->Prop
 |.hel t=>0<=t
 |.mix t l=>0<=t/\1<=l
 |.unm t=>0<=t
 |.rol w t b=>Wd3 w/\0<=t/\b.natAbs<=1000000
 |.chg d=>0<=d.t/\d.t<=B/\d.hi<=B/\(∀m,d.lay=some m->GI A m/\(m.wd="clip"->m.mo<=C)/\(m.wd="clip"\/m.wd="nest")/\m.mo<=10)/\(match d with
  |.opn _ l=>1<=l
  |.cls t u=>t<u
  |.lft t u=>t<u
  |.hel _=>False
  |_=>True)
theorem Chd.again{A M:Int}{c:Nat}{C:Int}{L:Nat}{ts:List (List Im)}{ns:List Int}{lo hi:Int}(h:Chd A M c C L ts ns lo hi)(hlt:lo<hi){tie:List Int}{cu:List (List Im)}(hc:AllG (GB A (M+14) (c+14) C) L cu)(hg:∀(j:Nat) (ms:List Im),ts[j]?=some ms->cu[j]?=some (if (j:Int)∈ns then xC ms lo hi [.gap (hi-lo)]else ms)):
 Gone (rlE A) tie (AllG (GB A (M+14) (c+14) C) L) (OkB A C (M+30)) cu (xN ns (zp ts lo hi)) ts:=by
 have l0:=h.l0;have lh:=h.lh;have lM:=h.lM;have lw:=h.lw;refine qEo (h.all.mono λx hx=>hx.mono (by omega) (by omega) (YH C)) _ ns cu hc (λk hk=>?_) h.nd λj hj=>?_
 . obtain⟨j,ms,rfl,e,g,r⟩:=h.get hk
   have:=hg j ms e;rw[YB hk]at this;refine⟨j,ms,_,O,e,this,?_⟩;unfold zp;rw[qMr e,qSc r];refine g.again r hlt lw lM (λx t gx cx kx t0 t1 m10=>⟨by show 0<=t;omega,by show t<=M+30;omega,by show t+x.mo<=M+30;omega,λm hm=>by cases hm;exact⟨gx,cx,kx,m10⟩,trivial⟩) (λt t0 t1=>by show 0<=t;omega)
 . cases e:ts[j]? with
   |none=>
    have h1:=ZR.mp e;exact ZR.mpr (by rw[hc.1,<-h.all.1];exact h1)
   |some ms=>
    have:=hg j ms e;rw[YA hj]at this;exact this
theorem Chd.room{ts:List (List Im)}{t:Int}(h:Chd A M c C L ts ns t t)(hc:AllG (GB A (M+14) (c+14) C) L cu)(hg:∀(j:Nat) (ms:List Im),ts[j]?=some ms->cu[j]?=some (if (j:Int)∈ns then xC ms t t []else ms)):
 Gone (rlE A) tie (AllG (GB A (M+14) (c+14) C) L) (OkB A C (M+30)) cu (xN ns (qFk ts t)) ts:=by
 refine qEo (h.all.mono λx hx=>hx.mono (by omega) (by omega) (YH C)) _ ns cu hc (λk hk=>?_) h.nd λj hj=>?_
 . obtain⟨j,ms,rfl,e,g,r⟩:=h.get hk
   have:=hg j ms e;rw[YB hk]at this;refine⟨j,ms,_,O,e,this,?_⟩;unfold qFk;rw[qMr e];refine qMv r g.gt.os ?_ h.l0;exact(g.rel (B:=0) (n:=0) r (λm hm=>by cases hm) h.lM (by decide) (YI 0)).mono (by omega) (by omega) (YH C)
 . cases e:ts[j]? with
   |none=>
    have h1:=ZR.mp e;exact ZR.mpr (by rw[hc.1,<-h.all.1];exact h1)
   |some ms=>
    have:=hg j ms e;rw[YA hj]at this;exact this
theorem Chd.chg{ts:List (List Im)}{d:Dk}(h:Chd A M c C L ts ns d.t d.hi)(n:Int)(hl:∀k,∀m∈j4 d n k,GI A m/\m.wd≠"mix"/\(m.wd="clip"->m.mo<=C))(h10:∀k,qY (j4 d n k)<=10/\(j4 d n k).length<=1):AllG (GB A (M+14) (c+14) C) L (vN ts d n ns)/\(∀(j:Nat) (ms:List Im),ts[j]?=some ms->(j:Int)∈ns->Rel ms d.t d.hi (j4 d n j)):=by
 have rl:∀(j:Nat) (ms:List Im),ts[j]?=some ms->(j:Int)∈ns->Rel ms d.t d.hi (j4 d n j)/\GB A M c C ms:=λj ms e hk=>by
  obtain⟨j',ms',e1,e2,g,r⟩:=h.get hk;obtain rfl:j=j':=by omega
  rw[e]at e2;cases e2;exact⟨⟨r.wf,r.mo,r.l0,r.lh,r.nt,λm hm=>(hl j m hm).1.wf,λm hm=>(hl j m hm).2.1⟩,g⟩
 refine⟨AllG.of_get h.all.1 (by rw[qD4];exact h.all.1) λj ms e=>⟨_,qHh h.pos e,?_⟩,λj ms e hk=>(rl j ms e hk).1⟩;by_cases hk:(j:Int)∈ns
 . rw[YB hk]
   obtain⟨r,g⟩:=rl j ms e hk;exact(g.rel r (λm hm=>⟨(hl j m hm).1,(hl j m hm).2.2⟩) h.lM (h10 j).1 (h10 j).2).mono (by omega) (by omega) (YH C)
 . rw[YA hk]
   exact(h.all.2 ms (YF e)).mono (by omega) (by omega) (YH C)
theorem qK6{hi:Int}{X:List Im}(h:Rel ms lo hi X)(hl:∀m∈ls,Wf m)(hn:∀m∈ls,m.wd≠"mix"):xC (xC ms lo hi X) lo (lo+qY X) ls=xC ms lo hi ls:=by
 have e:X=[]++(X++[]):=by simp
 have h2:=h;rw[e]at h2;have:=qPs (ls:=ls) h2 hl hn;rw[<-e,qf,Yc]at this;rw[this];simp
theorem Chd.two{ts:List (List Im)}{d1 d2:Dk}{F:List Im->List Im}(h:Chd A M c C L ts ns d1.t d1.hi)(hn:(n:Int)∈ns)(hns:chF tie (n:Int) d2.push=ns)(hw:∀ms,wiB ms d2=true)
 (hl:∀k,∀m∈j4 d1 (n:Int) k,GI A m/\m.wd≠"mix"/\(m.wd="clip"->m.mo<=C)) (h10:∀k,qY (j4 d1 (n:Int) k)<=10/\(j4 d1 (n:Int) k).length<=1) (ht:d2.t=d1.t) (h2:d2.t<=d2.hi/\∀k,d2.hi<=d1.t+qY (j4 d1 (n:Int) k))
 (hF:∀(j:Nat) (ms:List Im),(j:Int)∈ns->GB A M c C ms->Rel ms d1.t d1.hi (j4 d1 (n:Int) j)->xC (xC ms d1.t d1.hi (j4 d1 (n:Int) j)) d2.t d2.hi (j4 d2 (n:Int) j)=F ms/\GB A (M+14) (c+14) C (F ms)):
 ∃ms',(vN ts d1 (n:Int) ns)[n]?=some ms'/\AllG (GB A (M+14) (c+14) C) L (vN ts d1 (n:Int) ns)/\kH (rlE A) (vN ts d1 (n:Int) ns) tie n ms' (.chg d2)=.good (vN (vN ts d1 (n:Int) ns) d2 (n:Int) ns)/\AllG (GB A (M+14) (c+14) C) L (vN (vN ts d1 (n:Int) ns) d2 (n:Int) ns)/\∀(j:Nat) (ms:List Im),ts[j]?=some ms->(vN (vN ts d1 (n:Int) ns) d2 (n:Int) ns)[j]?=some (if (j:Int)∈ns then F ms else ms):=by
 obtain⟨a1,a2⟩:=h.chg (n:Int) hl h10;obtain⟨n',ms,e,en,g,r⟩:=h.get hn;obtain rfl:n=n':=by omega
 have g1:=λ{j:Nat} {ms:List Im} (e:ts[j]?=some ms)=>qHh (d:=d1) (n:=(n:Int)) h.pos e;have g2:∀(j:Nat) (ms:List Im),ts[j]?=some ms->(vN (vN ts d1 (n:Int) ns) d2 (n:Int) ns)[j]?=some (if (j:Int)∈ns then F ms else ms):=λj ms e=>by
  rw[qHh (d:=d2) (n:=(n:Int)) h.pos (g1 e)];by_cases hj:(j:Int)∈ns
  . rw[YB hj,YB hj,YB hj,(hF j ms hj (h.all.2 ms (YF e)) (a2 j ms e hj)).1]
  . rw[YA hj,YA hj,YA hj]
 have tf:¬jJ (vN ts d1 (n:Int) ns) (chF tie (n:Int) d2.push) d2.t d2.hi=true:=by rw[hns];unfold jJ;rw[List.any_eq_true];rintro⟨k,hk,q⟩;obtain⟨j,ms2,rfl,ej,_,_⟩:=h.get hk;have:=g1 ej;rw[YB hk]at this;rw[vG this,((a2 j ms2 ej hk).touch (by omega) h2.1 (h2.2 j))]at q;cases q
 refine⟨_,g1 en,a1,?_,?_,g2⟩
 . rw[kH,YB (hw _),YA tf,hns]
 . refine AllG.of_get h.all.1 (by rw[qD4,qD4];exact h.all.1) λj ms e=>⟨_,g2 j ms e,?_⟩
   have gm:=h.all.2 ms (YF e);by_cases hj:(j:Int)∈ns
   . rw[YB hj]
     exact(hF j ms hj gm (a2 j ms e hj)).2
   . rw[YA hj]
     exact gm.mono (by omega) (by omega) (YH C)
noncomputable def qLw(ts:List (List Im))(tie:List Int)(n:Nat)(l:Int):De->List (Nat×De)
 |.hel t=>[(n,.chg (.cut t))]
 |.mix t _=>[(n,.unm t)]
 |.unm t=>[(n,.mix t l)]
 |.rol w t b=>[(n,.rol w (if w="slip" then t else t+b) (-b))]
 |.chg (.cut t)=>[(n,.hel t)]
 |.chg (.hel _)=>[]
 |.chg (.opn t l)=>(n,.chg (.cls t (t+l)))::xN (chF tie (n:Int) true) (qFk ts t)
 |.chg (.lin t m)=>(n,.chg (.cls t (t+m.mo)))::xN (chF tie (n:Int) true) (qFk ts t)
 |.chg (.cls t u)=>(n,.chg (.opn t (u-t)))::xN (chF tie (n:Int) true) (zp ts t u)
 |.chg (.lft t u)=>xN (chF tie (n:Int) false) (zp ts t u)
 |.chg (.lov t m)=>(n,.chg (.lft t (t+m.mo)))::xN (chF tie (n:Int) false) (zp ts t (t+m.mo))
theorem vX(d:Dk){l:Int}(e:d.laid=[.gap l])(n k:Int):j4 d n k=[.gap l]:=by unfold j4;rw[e];split <;> rfl
theorem zT(d:Dk)(e:d.laid=[])(n k:Int):j4 d n k=[]:=by unfold j4;rw[e];split <;> rfl
theorem qA8{d:Dk}(e:d.laid=[m])(n k:Int):j4 d n k=[m]\/j4 d n k=[.gap m.mo]:=by
 unfold j4;rw[e];split
 . exact .inl rfl
 . exact .inr rfl
theorem wI{l:Int}(l1:1<=l):∀m∈[Im.gap l],GI A m/\m.wd≠"mix"/\(m.wd="clip"->m.mo<=C):=λm hm=>by rw[YY]at hm;subst hm;exact⟨l1,by show ("gap":Str)≠"mix";decide+kernel,λe=>YC (show ("gap":Str)="clip" from e) (by decide+kernel)⟩
theorem qB8(m:Im):qY [m]=m.mo:=by rw[qK,qf,Yc]
theorem qJw{ts:List (List Im)}{d:Dk}(h:Chd A M c C L ts (chF tie (n:Int) true) d.t d.hi)(hn:(n:Int)∈chF tie (n:Int) true)(hh:d.hi=d.t)(hm:d.laid=[m])(hg:GI A m/\m.wd≠"mix"/\(m.wd="clip"->m.mo<=C))(m1:1<=m.mo)(m10:m.mo<=10):
 Gone (rlE A) tie (AllG (GB A (M+14) (c+14) C) L) (OkB A C (M+30)) (vN ts d (n:Int) (chF tie (n:Int) true)) ((n,.chg (.cls d.t (d.t+m.mo)))::xN (chF tie (n:Int) true) (qFk ts d.t)) ts:=by
 have ll:∀k,qY (j4 d (n:Int) k)=m.mo/\(j4 d (n:Int) k).length=1:=λk=>by
  rcases qA8 hm (n:Int) k with e|e <;> rw[e,qB8]
  . exact⟨O,O⟩
  . exact⟨O,O⟩
 have gl:∀k,∀x∈j4 d (n:Int) k,GI A x/\x.wd≠"mix"/\(x.wd="clip"->x.mo<=C):=λk x hx=>by
  rcases qA8 hm (n:Int) k with e|e <;> rw[e]at hx
  . rw[YY]at hx;subst hx;exact hg
  . exact wI m1 x hx
 obtain⟨ms',a1,a2,a3,a4,a5⟩:=h.two (d2:=.cls d.t (d.t+m.mo)) (F:=λms=>xC ms d.t d.t []) hn rfl (λ_=>rfl) gl (λk=>by rw[(ll k).1,(ll k).2];exact⟨m10,YI 1⟩) rfl ⟨by show d.t<=d.t+m.mo;omega,λk=>by rw[(ll k).1];exact YH _⟩ λj ms hj g r=>by rw[hh]at r⊢;rw[zT (.cls d.t (d.t+m.mo)) rfl];have:=qK6 (ls:=[]) r (λ_ hm=>by cases hm) (λ_ hm=>by cases hm);rw[(ll j).1]at this;refine⟨this,?_⟩;exact(g.rel (B:=0) (n:=0) (r.cut0 (YH _) (YH _)) (λm hm=>by cases hm) h.lM (by decide) (YI 0)).mono (by omega) (by omega) (YH C)
 have lM:=h.lM;refine .cons a2 ⟨h.l0,by show d.t<=M+30;omega,by show d.t+m.mo<=M+30;omega,(λm hm=>by cases hm),by show d.t<d.t+m.mo;omega⟩ a1 a3 ?_;rw[hh]at h;exact h.room a4 a5
theorem qOj{ts:List (List Im)}{t u:Int}(h:Chd A M c C L ts (chF tie (n:Int) true) t u)(hn:(n:Int)∈chF tie (n:Int) true)(hlt:t<u):
 Gone (rlE A) tie (AllG (GB A (M+14) (c+14) C) L) (OkB A C (M+30)) (vN ts (.cls t u) (n:Int) (chF tie (n:Int) true)) ((n,.chg (.opn t (u-t)))::xN (chF tie (n:Int) true) (zp ts t u)) ts:=by
 have lw:=h.lw;obtain⟨ms',a1,a2,a3,a4,a5⟩:=Chd.two (d1:=.cls t u) (d2:=.opn t (u-t)) (F:=λms=>xC ms t u [.gap (u-t)]) h hn rfl (λ_=>rfl) (λk x hx=>by rw[zT _ rfl]at hx;cases hx) (λk=>by rw[zT _ rfl];exact⟨by decide,by decide⟩) rfl ⟨YH _,λk=>by rw[zT _ rfl,qf];show t<=t+0;omega⟩ λj ms hj g r=>by rw[zT (.cls t u) rfl]at r⊢;rw[vX (.opn t (u-t)) rfl];have w1:∀m∈[Im.gap (u-t)],GI A m/\m.wd≠"mix"/\(m.wd="clip"->m.mo<=C):=wI (by omega);have:=qK6 (ls:=[.gap (u-t)]) r (λm hm=>(w1 m hm).1.wf) (λm hm=>(w1 m hm).2.1);rw[qf,Yc]at this;refine⟨this,?_⟩;exact(g.rel (B:=10) (n:=1) (ls:=[.gap (u-t)]) ⟨r.wf,r.mo,r.l0,r.lh,r.nt,λm hm=>(w1 m hm).1.wf,λm hm=>(w1 m hm).2.1⟩ (λm hm=>⟨(w1 m hm).1,(w1 m hm).2.2⟩) h.lM (by rw[qB8];show u-t<=10;omega) (YI 1)).mono (by omega) (by omega) (YH C)
 have lM:=h.lM;exact .cons a2 ⟨h.l0,by show t<=M+30;omega,by show t<=M+30;omega,(λm hm=>by cases hm),by show 1<=u-t;omega⟩ a1 a3 (h.again hlt a4 a5)
theorem qQs{ts:List (List Im)}{t:Int}(h:Chd A M c C L ts (chF tie (n:Int) false) t (t+m.mo))(hn:(n:Int)∈chF tie (n:Int) false)(hg:GI A m/\m.wd≠"mix"/\(m.wd="clip"->m.mo<=C))(m1:1<=m.mo):
 Gone (rlE A) tie (AllG (GB A (M+14) (c+14) C) L) (OkB A C (M+30)) (vN ts (.lov t m) (n:Int) (chF tie (n:Int) false)) ((n,.chg (.lft t (t+m.mo)))::xN (chF tie (n:Int) false) (zp ts t (t+m.mo))) ts:=by
 have lw:=h.lw;have ll:∀k,qY (j4 (.lov t m) (n:Int) k)=m.mo/\(j4 (.lov t m) (n:Int) k).length=1:=λk=>by
  rcases qA8 (d:=.lov t m) rfl (n:Int) k with e|e <;> rw[e,qB8]
  . exact⟨O,O⟩
  . exact⟨O,O⟩
 have gl:∀k,∀x∈j4 (.lov t m) (n:Int) k,GI A x/\x.wd≠"mix"/\(x.wd="clip"->x.mo<=C):=λk x hx=>by
  rcases qA8 (d:=.lov t m) rfl (n:Int) k with e|e <;> rw[e]at hx
  . rw[YY]at hx;subst hx;exact hg
  . exact wI m1 x hx
 obtain⟨ms',a1,a2,a3,a4,a5⟩:=Chd.two (d1:=.lov t m) (d2:=.lft t (t+m.mo)) (F:=λms=>xC ms t (t+m.mo) [.gap (t+m.mo-t)]) h hn rfl (λ_=>rfl) gl (λk=>by rw[(ll k).1,(ll k).2];exact⟨by omega,YI 1⟩) rfl ⟨by show t<=t+m.mo;omega,λk=>by rw[(ll k).1];exact YH _⟩ λj ms hj g r=>by rw[vX (.lft t (t+m.mo)) rfl];have w1:∀x∈[Im.gap (t+m.mo-t)],GI A x/\x.wd≠"mix"/\(x.wd="clip"->x.mo<=C):=wI (by omega);have:=qK6 (ls:=[.gap (t+m.mo-t)]) r (λm hm=>(w1 m hm).1.wf) (λm hm=>(w1 m hm).2.1);rw[(ll j).1]at this;refine⟨this,?_⟩;exact(g.rel (B:=10) (n:=1) (ls:=[.gap (t+m.mo-t)]) ⟨r.wf,r.mo,r.l0,r.lh,r.nt,λm hm=>(w1 m hm).1.wf,λm hm=>(w1 m hm).2.1⟩ (λm hm=>⟨(w1 m hm).1,(w1 m hm).2.2⟩) h.lM (by rw[qB8];show t+m.mo-t<=10;omega) (YI 1)).mono (by omega) (by omega) (YH C)
 have lM:=h.lM;exact .cons a2 ⟨h.l0,by show t<=M+30;omega,by show t+m.mo<=M+30;omega,(λm hm=>by cases hm),by show t<t+m.mo;omega⟩ a1 a3 (h.again (by omega) a4 a5)
theorem qP1{ts:List (List Im)}{t u:Int}(h:Chd A M c C L ts (chF tie (n:Int) false) t u)(hlt:t<u):
 Gone (rlE A) tie (AllG (GB A (M+14) (c+14) C) L) (OkB A C (M+30)) (vN ts (.lft t u) (n:Int) (chF tie (n:Int) false)) (xN (chF tie (n:Int) false) (zp ts t u)) ts:=by
 have lw:=h.lw;obtain⟨a1,_⟩:=Chd.chg (d:=.lft t u) h (n:Int) (λk x hx=>by rw[vX (.lft t u) rfl]at hx;exact wI (by omega) x hx) (λk=>by rw[vX (.lft t u) rfl,qB8];exact⟨by show u-t<=10;omega,YI 1⟩);refine h.again hlt a1 λj ms e=>?_;rw[qHh h.pos e,vX (.lft t u) rfl];rfl
theorem qPy{ms':List Im}{t:Int}(h:GW A M c ms)(h0:0<=t)(hh:wX ms t=some ms')(ht:jL ms t t=false):∃(U:List Im) (x y:Im) (B:List Im),ms=U++x::y::B/\ms'=U++glue x y::B/\qJ3 x y=true/\t=qY U+x.mo:=by
 cases hn:nbF ms t with
 |none=>unfold wX at hh;rw[hn]at hh;cases hh
 |some x=>
 obtain⟨i,j⟩:=x;rcases qK0 hn with ⟨U,x,y,B,e,rfl,rfl,et,_⟩|⟨U,l,y,B,e,_,_,et,_⟩
 . subst e
   rw[qQh hn]at hh;by_cases hc:qJ3 x y=true
   . rw[YB hc]at hh
     cases hh;exact⟨U,x,y,B,O,O,hc,et⟩
   . rw[YA hc]at hh;cases hh
 . exfalso
   have hR:=h.rel0 h0 (YH t) ht;have hs:(0+qY U-l.fdiv 2,0+qY U,0+qY U+(l-l.fdiv 2))∈ql 0 ms:=by rw[e,jd];refine Yf _ ?_;rw[ql];simp
   have:=hR.far _ hs;dsimp only at this;omega
theorem qP3{ms':List Im}{t:Int}(h:GB A M c C ms)(h0:0<=t)(hh:wX ms t=some ms')(ht:jL ms t t=false):GB A M c (2*C) ms'/\qv ms' t=true/\jL ms' t t=false/\xC ms' t t []=ms:=by
 obtain⟨U,x,y,B,rfl,rfl,hc,rfl⟩:=qPy h.gt h0 hh ht;have g':=h.gt.glued hc;have hx:=h.gt.wf x (by simp);have hy:=h.gt.wf y (by simp);obtain⟨e1,e2,e3,e4,e5,e6⟩:=qOm hx hy hc;have hW:Wi (U++glue x y::B) (qY U+x.mo) U (glue x y) B x.mo:=⟨rfl,rfl,e5,e6,e4⟩;have ec:wG U (glue x y) B x.mo=U++x::y::B:=by unfold wG;rw[<-e1,<-e2]
 have nn:Nn (U++glue x y::B):=g'.nn;have t2:jL (U++glue x y::B) (qY U+x.mo) (qY U+x.mo)=false:=by unfold jL at ht⊢;rw[<-ec,qGh hW.nm.1]at ht;exact ht
 have hR:=g'.rel0 h0 (YH _) t2;refine⟨⟨g',λm hm e=>?_⟩,(xk nn).mpr ⟨_,_,_,_,hW⟩,t2,(qGk hR hW g'.os).trans ec⟩;have pos:∀z∈U++x::y::B,z.wd="clip"->0<=C:=λz hz ez=>by have:=(h.gt.wf z hz).mo;have:=h.cl z hz ez;omega
 rcases YO.mp hm with hm|hm
 . have:=h.cl m (by simp[hm]) e
   have:=pos m (by simp[hm]) e;omega
 . rcases YU.mp hm with rfl|hm
   . obtain⟨m1,m2⟩:=qQf hc
     rw[m2]at e;have a1:=h.cl x (by simp) e;have a2:=h.cl y (by simp) ((qT2 hc).1.symm.trans e);rw[m1];omega
   . have:=h.cl m (by simp[hm]) e
     have:=pos m (by simp[hm]) e;omega
theorem GB.set1(h:∀m∈ms,m.wd="clip"->m.mo<=C)(hm:ms[i]?=some m)(hc:m'.wd="clip"->m'.mo<=C):∀x∈ms.set i m',x.wd="clip"->x.mo<=C:=λx hx e=>(List.mem_or_eq_of_mem_set hx).elim (λq=>h x q e) (λq=>by subst q;exact hc e)
theorem qR7{C':Int}{ts:List (List Im)}(hA:60<=A/\A<360)(hT:AllG (GB A M c C) L ts)(hF:∀ms∈ts,FS (RmR (rlE A)) 0 none ms)(tin:∀x∈tie,∃k:Nat,x=(k:Int)/\k<L)(nd:tie.Nodup)(hm:ts[n]?=some ms){d:De}(hd:DeN A M d)(hC:10<=C)(hC':C'=2*C){ts':List (List Im)}(hr:kH (rlE A) ts tie n ms d=.good ts'):
 ∃l,(∀t,d=.unm t->∃i:Nat,cbF ms t=some ((i:Int),((i+2:Nat):Int))/\ms[i+1]?=some (.mix l))/\Gone (rlE A) tie (AllG (GB A (M+14) (c+14) C') L) (OkB A C' (M+30)) ts' (qLw ts tie n l d) ts:=by
 have hn:=(glt hm);have hg:=hT.2 ms (YF hm);have up:∀{x:List Im} {c1:Nat} {C1:Int},c1<=c+14->C1<=C'->GB A M c1 C1 x->GB A (M+14) (c+14) C' x:=λa b q=>q.mono (by omega) a b;have all:∀{x:List Im},GB A (M+14) (c+14) C' x->AllG (GB A (M+14) (c+14) C') L (ts.set n x):=λq=>(hT.mono λy hy=>up (by omega) (by omega) hy).set n q;have gs:∀x:List Im,(ts.set n x)[n]?=some x:=λx=>ZA hn;have tA:∀{ts:List (List Im)} {x:List Im} {lo hi:Int},ts[n]?=some x->jL x lo hi=false->¬jJ ts (chF tie (n:Int) false) lo hi=true:=λ{ts x lo hi} e q=>by unfold jJ;rw[qGg,List.any_cons,List.any_nil,Bool.or_false,vG e,q];decide
 have tN:∀{lo hi:Int},¬jJ ts (chF tie (n:Int) false) lo hi=true->jL ms lo hi=false:=λ{lo hi} q=>by have:=qMf q (n:Int) (by rw[qGg];simp);rw[vG hm]at this;exact this
 have back:∀x:List Im,(ts.set n x).set n ms=ts:=λx=>by rw[List.set_set,qGq hm]
 cases d with
 |hel t=>
  refine⟨0,(λt e=>by cases e),?_⟩;rw[kH]at hr;cases hh:wX ms t with
  |none=>rw[hh]at hr;cases hr
  |some ms'=>
   rw[hh]at hr;dsimp only at hr;split at hr
   . cases hr
   . rename_i q
     cases hr;obtain⟨g1,g2,g3,g4⟩:=qP3 hg hd.1 hh (tN q);refine .cons (all (up (by omega) (by omega) g1)) ⟨hd.1,by show t<=M+30;have:=hd.2;omega,by show t<=M+30;have:=hd.2;omega,(λm hm=>by cases hm),trivial⟩ (gs ms') ?_ .nil;rw[kH,YB (show wiB ms' (.cut t)=true from g2)];show (if jJ (ts.set n ms') (chF tie (n:Int) false) t t=true then Res.mixed else .good (vN (ts.set n ms') (.cut t) (n:Int) (chF tie (n:Int) false)))=_;rw[YA (tA (gs ms') g3),qGg];unfold vN;rw[List.foldl_cons,List.foldl_nil,vG (gs ms'),YQ,zT (.cut t) rfl];show Res.good ((ts.set n ms').set n (xC ms' t t []))=_;rw[g4,back]
 |mix t l=>
  refine⟨0,(λt e=>by cases e),?_⟩;rw[kH]at hr;cases hc:cbF ms t with
  |none=>rw[hc]at hr;cases hr
  |some x=>
   obtain⟨i,j⟩:=x;rw[hc]at hr;dsimp only at hr;split at hr
   . rename_i e
     cases hM:mmF (rlE A) ms t with
     |none=>rw[hM]at hr;cases hr
     |some M'=>
      rw[hM]at hr;dsimp only at hr;split at hr
      . cases hr
      . obtain⟨k,rfl,_⟩:=qT1 hc
        rw[YQ]at hr;have hc':cbF ms t=some ((k:Int),((k+1:Nat):Int)):=by rw[hc,e];rfl
        have g1:=hg.gt.mixd hc' hd.2.2.1;obtain⟨b1,b2⟩:=qSl (l:=l) hg.gt.wf hc';cases hr;refine .cons (all ((⟨g1,λm hm' e'=>?_⟩:GB A M (c+1) C _) |> up (by omega) (by omega))) hd.1 (gs _) ?_ .nil
        . rcases YO.mp hm' with q|q
          . rcases YO.mp q with q|q
            . exact hg.cl m (List.mem_of_mem_take q) e'
            . rw[YY]at q;subst q;exact YC (show ("mix":Str)="clip" from e') (by decide+kernel)
          . exact hg.cl m (List.mem_of_mem_drop q) e'
        . rw[kH,b1]
          dsimp only;rw[YA (by omega),YQ,b2,back]
   . cases hr
 |unm t=>
  rw[kH]at hr;cases hc:cbF ms t with
  |none=>rw[hc]at hr;cases hr
  |some x=>
   obtain⟨i,j⟩:=x;rw[hc]at hr;dsimp only at hr;split at hr
   . cases hr
   . rename_i e
     obtain⟨k,rfl,e2⟩:=qT1 hc;rw[YQ]at hr;have hc':cbF ms t=some ((k:Int),((k+2:Nat):Int)):=by rw[hc];congr 2;omega
     obtain⟨l,M',a1,a2,a3,a4,a5,a6⟩:=qOb (⟨hg.gt.it,⟨hg.gt.os,hg.gt.mo,hF ms (YF hm)⟩,hg.gt.le,hg.gt.ct⟩:GT A M c ms) hc';have g1:=hg.gt.unmixed hc';cases hr;refine⟨l,(λt' e'=>by cases e';exact⟨k,hc',a1⟩),.cons (all ((⟨g1,λm hm' e'=>?_⟩:GB A M c C _) |> up (by omega) (by omega))) ⟨hd.1,a2⟩ (gs _) ?_ .nil⟩
     . rcases YO.mp hm' with q|q
       . exact hg.cl m (List.mem_of_mem_take q) e'
       . exact hg.cl m (List.mem_of_mem_drop q) e'
     . rw[kH,a3]
       dsimp only;rw[YB (by omega),a4];dsimp only;rw[YA (by omega),YQ,a6,back]
 |rol w t b=>
  refine⟨0,(λt e=>by cases e),?_⟩;obtain⟨hw,t0,tM,hb⟩:=hd;rw[kH]at hr;cases hp:plF w ms t with
  |none=>rw[hp]at hr;cases hr
  |some is=>
   rw[hp]at hr;dsimp only at hr;split at hr
   . cases hr
   . rename_i hx
     split at hr
     . rename_i hc
       have hx:is.any (hmB ms)=false:=by simpa using hx
       have g1:=hg.gt.rolled hw hp hx hc;have cl:∀m∈qB6 ms w is b,m.wd="clip"->m.mo<=C+4:=by
        have h4:∀m∈ms,m.wd="clip"->m.mo<=C+4:=λm hm e=>by have:=hg.cl m hm e;omega
        rcases qWe (λn p q r s l hm=>let ⟨N,c⟩:=hg.gt.it _ hm;⟨N,c.rn⟩) hw hp with ⟨rfl,i,n,p,q,r,s,l,N,rfl,hi,hN,hv⟩|⟨_,_,i,j,n,p,q,r,s,l,N,n',p',q',r',s',l',N',hlt,m1,m2,_,_,hi,hi',hN,hN',hv⟩
        . rw[(hv b).2]
          have:=hg.cl _ (YF hi) rfl;exact GB.set1 h4 hi λ_=>by show l<=C+4;have:l<=C:=this;omega
        . rw[(hv b).2]
          unfold qOa;have a1:l<=C:=hg.cl _ (YF hi) rfl;have a2:l'<=C:=hg.cl _ (YF hi') rfl;refine GB.set1 (m:=.clip n' p' q' r' s' l') (GB.set1 h4 hi λ_=>by show l+b<=C+4;omega) ?_ λ_=>by show l'-b<=C+4;omega
          rw[List.getElem?_set,YA (by omega)];exact hi'
       cases hr;have fin:∀{t2:Int},0<=t2->plF w (qB6 ms w is b) t2=some is->is.any (hmB (qB6 ms w is b))=false->wb (-b)<=qHd (rlE A) (qB6 ms w is b) w is (-b)->qB6 (qB6 ms w is b) w is (-b)=ms->Gone (rlE A) tie (AllG (GB A (M+14) (c+14) C') L) (OkB A C' (M+30)) (ts.set n (qB6 ms w is b)) [(n,.rol w t2 (-b))] ts:=λ{t2} t20 f1 f2 f3 f4=>by refine .cons (all (up (by omega) (by omega:C+4<=C') ⟨g1,cl⟩)) ⟨hw,t20,by omega⟩ (gs _) ?_ .nil;rw[kH,f1];dsimp only;rw[f2,YA (by decide),YB f3,f4,back]
       show Gone _ _ _ _ _ [(n,.rol w (if w="slip" then t else t+b) (-b))] _;by_cases hs:w="slip"
       . subst hs
         rw[YB rfl];obtain⟨f1,f2,f3,f4⟩:=qP5 hg.gt hp hx hc (by omega);exact fin t0 f1 f2 f3 f4
       . rw[YA hs]
         obtain⟨f1,f2,f3,f4,f5⟩:=qPj hg.gt (hw.elim .inl λq=>q.elim (λz=>YC z hs) .inr) hp hx hc (by omega);exact fin f5 f1 f2 f3 f4
     . cases hr
 |chg d=>
  refine⟨0,(λt e=>by cases e),?_⟩;rw[kH]at hr;split at hr
  . rename_i hwi
    split at hr
    . cases hr
    . rename_i hq
      cases hr;obtain⟨a1,a2,a3,a4,a5,a6⟩:=DkN.lay hd hA;have hT':AllG (GB A M c C') L ts:=hT.mono λx hx=>hx.mono (YH M) (YI c) (by omega);have cnd:(chF tie (n:Int) d.push).Nodup:=by
       unfold chF;split
       . exact List.nodup_cons.mpr ⟨λz=>by have:=(List.mem_filter.mp z).2;simp at this,nd.filter _⟩
       . simp
      have hi10:d.hi<=d.t+10:=by
       cases d with
       |hel t=>exact(hd:False).elim
       |cut t=>show t<=t+10;omega
       |opn t l=>show t<=t+10;omega
       |lin t m=>show t<=t+10;omega
       |cls t u=>obtain⟨_,_,_,z⟩:=hd;show u<=t+10;omega
       |lft t u=>obtain⟨_,_,_,z⟩:=hd;show u<=t+10;omega
       |lov t m=>have:=(hd.2.2.mo hA).2.2;show t+m.mo<=t+10;omega
      have hch:Chd A M c C' L ts (chF tie (n:Int) d.push) d.t d.hi:=⟨hT',qXg (by rw[<-hT.1];exact hn) tin _,cnd,qMf hq,a1,a2,a3,hi10⟩;have hin:(n:Int)∈chF tie (n:Int) d.push:=by unfold chF;split <;> simp
      have one:∀m∈d.laid,GI A m/\m.wd≠"mix"/\(m.wd="clip"->m.mo<=C'):=λm hm=>by obtain⟨b1,b2,b3⟩:=a4 m hm;have:m.mo<=qY d.laid:=qJq (λx hx=>by have:=(a4 x hx).2.2;omega) m hm;exact⟨b1,b2,λ_=>by omega⟩
      cases d with
      |hel t=>exact(hd:False).elim
      |cut t=>
       have hs:qv ms t=true:=hwi;have hR:Rel ms t t []:=hg.rel0 a1 (YH t) (tN hq);have g1:GB A (M+14) (c+14) C' (xC ms t t []):=(hg.rel (B:=0) (n:=0) hR (λm hm=>by cases hm) a3 (by decide) (YI 0)).mono (by omega) (by omega) (by omega);have e:vN ts (.cut t) (n:Int) (chF tie (n:Int) (Dk.cut t).push)=ts.set n (xC ms t t []):=by show vN ts (.cut t) (n:Int) (chF tie (n:Int) false)=_;rw[qGg];unfold vN;rw[List.foldl_cons,List.foldl_nil,vG hm,YQ,zT (.cut t) rfl];rfl
       rw[e];have hrow:=qMv (G:=GB A (M+14) (c+14) C') (O9:=OkB A C' (M+30)) hR hg.gt.os g1 a1;have he:xZ ms [t]=[.hel t]:=by unfold xZ;rw[List.filter_cons_of_pos hs];rfl
       rw[he]at hrow;have:=hrow.lift (rl:=rlE A) (tie:=tie) (k:=n) _ (all g1) (gs _);rw[back]at this;exact this
      |opn t l=>exact qJw (d:=.opn t l) hch hin rfl rfl (one _ (by simp[Dk.laid])) hd.2.2.1 (by show l<=10;have:=hd.2.2.2;omega)
      |lin t m=>exact qJw (d:=.lin t m) hch hin rfl rfl (one _ (by simp[Dk.laid])) (hd.2.2.mo hA).2.1 (hd.2.2.mo hA).2.2
      |cls t u=>exact qOj hch hin hd.2.2.1
      |lft t u=>exact qP1 hch hd.2.2.1
      |lov t m=>exact qQs hch hin (one _ (by simp[Dk.laid])) (hd.2.2.mo hA).2.1
  . cases hr
theorem GI.lay(h:GI A m)(hk:m.wd="clip"\/m.wd="nest")(hl:m.mo<=100000){re:Addr}(hr:RE H re A):LayOk H re m:=by
 cases m with
 |gap l=>rcases hk with e|e <;> exact YC (show ("gap":Str)=_ from e) (by decide+kernel)
 |mix l=>rcases hk with e|e <;> exact YC (show ("mix":Str)=_ from e) (by decide+kernel)
 |nest n b l=>
  obtain⟨rfl,b0,l1⟩:=h;exact⟨by decide+kernel,b0,l1⟩
 |clip n p q r s l=>
  have hb:=h.ib;obtain⟨N,c⟩:=h;have rc:=c.rc hl;have hnm:qKf n=true/\n.length<=1000:=by
   have e:=c.rn;unfold rlE at e;split at e
   . rename_i q;subst q;exact⟨by decide+kernel,by decide+kernel⟩
   . split at e
     . rename_i q;subst q;exact⟨by decide+kernel,by decide+kernel⟩
     . cases e
  exact⟨N,hr.at _ _ c.rn,⟨hnm.1,hnm.2,hb,c.g1,c.g2,c.l1,rc.bl⟩,c.i0,c.i1⟩
theorem GB.ih{A M:Int}{c:Nat}{C:Int}{ms:List Im}(h:GB A M c C ms)(hC:C<=100000):∀m∈ms,ImH m/\ItR (rlE A) m:=λm hm=>by
 by_cases hk:m.wd="clip"
 . have:=h.cl m hm hk
   exact⟨(h.gt.it m hm).ih (by omega),(h.gt.it m hm).it (by omega)⟩
 . cases m with
   |clip n p q r s l=>exact YC rfl hk
   |_=>exact⟨trivial,λ_ _ _ _ _ _ e=>by cases e⟩
theorem qWd{B:Int}{d:De}(h:OkB A C B d)(hg:GB A M c C ms)(hC:C<=100000)(hB:B<=2 ^ 400){re:Addr}(hr:RE H re A):DeOk H re ms d:=by
 cases d with
 |hel t=>exact⟨h,λm hm=>(hg.ih hC m hm).1,λi j hn=>qTl hg.gt.mo hn⟩
 |mix t l=>exact h
 |unm t=>exact h
 |rol w t b=>exact⟨h.2.1,h.2.2⟩
 |chg d=>
  refine qS λ_ Y=>?_;obtain⟨h1,h2,h3,h4,h5⟩:=h;apply Y;have lay:∀m,d.lay=some m->LayOk H re m/\0<=m.mo/\m.mo<=2 ^ 400:=λm e=>by
   obtain⟨a1,a2,a3,a4⟩:=h4 m e;have e10:(10:Int)<=2 ^ 400:=by decide
   exact⟨a1.lay a3 (by omega) hr,a1.wf.mo,Int.le_trans a4 e10⟩
  cases d with
  |hel t=>exact h5.elim
  |cut t=>
   cases hw:qv ms t with
   |false=>exact .inl ⟨t,rfl,h1,hw⟩
   |true=>exact .inr ⟨h1,Int.le_trans h2 hB,hw⟩
  |opn t l=>exact .inr ⟨h1,Int.le_trans h2 hB,h5⟩
  |cls t u=>exact .inr ⟨h1,h5,Int.le_trans h3 hB⟩
  |lft t u=>exact .inr ⟨h1,h5,Int.le_trans h3 hB⟩
  |lin t m=>exact .inr ⟨h1,Int.le_trans h2 hB,(lay m rfl).1⟩
  |lov t m=>obtain⟨a1,a2,a3⟩:=lay m rfl;exact .inr ⟨h1,Int.le_trans h2 hB,a1,a2,a3⟩
theorem qBr{ts:List (List Im)}(h:AllG (GB A M c C) 3 ts)(hC:C<=100000)(hc:c<=100)(tl:tie.length<=3)(tin:∀x∈tie,∃k:Nat,x=(k:Int)/\k<3){re:Addr}(ht:TabF H (.ref tz) ts tie)(hr:RE H re A):TabD H tz re (rlE A) ts tie:=by refine⟨ht,λms hm=>?_,by have:=h.1;omega,by omega,λx hx=>by rw[h.1];exact tin x hx,hr.at⟩;have q:=h.2 ms hm;have a2:=q.gt.ct;exact⟨⟨λm hm'=>⟨(q.gt.it m hm').ib,(q.gt.wf m hm').mo⟩,by omega⟩,by omega,λm hm'=>(q.ih hC m hm').2⟩
theorem qXj{d:De}(h:DeN A M d)(hg:GB A M c C ms)(hC:C<=100000)(hM:M<=10 ^ 30){re:Addr}(hr:RE H re A):DeOk H re ms d:=by
 have e:(10 ^ 30+100:Int)<=2 ^ 400:=by decide
 cases d with
 |hel t=>exact⟨h.1,λm hm=>(hg.ih hC m hm).1,λi j hn=>qTl hg.gt.mo hn⟩
 |mix t l=>exact⟨h.1,h.2.2.1⟩
 |unm t=>exact h.1
 |rol w t b=>exact⟨h.2.1,by have:=h.2.2.2;omega⟩
 |chg d=>
  cases d with
  |hel t=>exact h.elim
  |cut t=>
   obtain⟨h1,h2⟩:=h;cases hw:qv ms t with
   |false=>exact .inl ⟨t,rfl,h1,hw⟩
   |true=>exact .inr ⟨h1,by generalize (2:Int) ^ 400=B at e⊢;omega,hw⟩
  |opn t l=>obtain⟨h1,h2,h3,h4⟩:=h;exact .inr ⟨h1,by generalize (2:Int) ^ 400=B at e⊢;omega,h3⟩
  |cls t u=>obtain⟨h1,h2,h3,h4⟩:=h;exact .inr ⟨h1,h3,by generalize (2:Int) ^ 400=B at e⊢;omega⟩
  |lft t u=>obtain⟨h1,h2,h3,h4⟩:=h;exact .inr ⟨h1,h3,by generalize (2:Int) ^ 400=B at e⊢;omega⟩
  |lin t m=>obtain⟨h1,h2,h3⟩:=h;exact .inr ⟨h1,by generalize (2:Int) ^ 400=B at e⊢;omega,(h3.ok hr).1⟩
  |lov t m=>obtain⟨h1,h2,h3⟩:=h;obtain⟨q1,_,q3,q4⟩:=h3.ok hr;exact .inr ⟨h1,by generalize (2:Int) ^ 400=B at e⊢;omega,q1,by omega,by generalize (2:Int) ^ 400=B at e⊢;omega⟩
noncomputable def qUk(ms:List Im)(f:Int):List Im:=match ms with
 |[]=>[]
 |.gap l::r=>.gap (l+f)::r
 |m::r=>.gap f::m::r
theorem qPt{R:Im->Int->Im->Prop}:∀(ms:List Im) (tb:Int) (p:Option Im) (b b0:Int),(∀m∈ms,Wf m)->0<=tb->FS R tb p ms->MO p ms->b0<=b->(qKl p->b0+tkE ms<=b)->∀x∈ql b ms,b0<=x.1
 |[],_,_,_,_,_,_,_,_,_,_,x,hx=>by cases hx
 |m::ms,tb,p,b,b0,hw,t0,hF,hM,hb,hc,x,hx=>by
  have hwm:=hw m (by simp);have hw':∀x∈ms,Wf x:=λx hx=>hw x (by simp[hx]);by_cases hm:m.wd="mix"
  . obtain⟨l,rfl⟩:=jw hm
    have l1:1<=l:=hwm;have:=qz (p:=l) (q:=2) (by decide);rw[ql]at hx;have hcl:b0+l.fdiv 2<=b:=hc hM.1.1;rcases YU.mp hx with rfl|hx
    . show b0<=b-l.fdiv 2;omega
    . exact qPt ms _ _ b b0 hw' (by omega) hF.2 hM.2 hb (λ⟨_,_,_,_,_,_,e⟩=>by cases e) x hx
  . have hp:=hwm.pos hm
    rw[qr hm]at hx;obtain⟨f1,f2⟩:=(xJ hm).mp hF;rw[qy hm]at hM;refine qPt ms 0 (some m) (b+m.mo) b0 hw' (YH 0) f2 hM (by omega) (λq=>?_) x hx;obtain⟨n,p',q',r,s,l,e⟩:=q;cases e;have:=f1 rfl;omega
theorem GB.far(h:GB A M c C ms)(hF:FS (RmR (rlE A)) 0 none ms){f:Int}(f1:1<=f)(M0:0<=M):GB A (M+4+f) (c+3) C (qUk ms f)/\FS (RmR (rlE A)) 0 none (qUk ms f):=by
 cases ms with
 |nil=>exact⟨h.mono (by omega) (by omega) (YH C),trivial⟩
 |cons m r=>
 have hm:m.wd≠"mix":=λe=>by obtain⟨l,rfl⟩:=jw e;exact h.gt.mo.nh (λ⟨_,_,_,_,_,_,e⟩=>by cases e) l rfl
 have hp:=(h.gt.wf m (by simp)).pos hm;have ht:jL (m::r) 0 0=false:=by unfold jL;rw[List.any_eq_false];intro x hx;have b:=qPt (m::r) 0 none 0 0 h.gt.wf (YH 0) hF h.gt.mo (YH 0) (λ⟨_,_,_,_,_,_,e⟩=>by cases e) x hx;rw[qr hm]at hx;have o:=xU r (0+m.mo) (λy hy=>h.gt.wf y (by simp[hy])) x hx;unfold qO8;simp only[Bool.or_eq_true,Yl,decide_eq_true_eq];omega
 have hg:∀m∈[Im.gap f],GI A m/\m.wd≠"mix"/\(m.wd="clip"->m.mo<=C):=wI f1;have hR:Rel (m::r) 0 0 [.gap f]:=⟨h.gt.wf,h.gt.mo,YH 0,YH 0,ht,λm hm=>(hg m hm).1.wf,λm hm=>(hg m hm).2.1⟩;have e:xC (m::r) 0 0 [.gap f]=qUk (m::r) f:=by
  have hl:=Nn.len h.gt.nn;have e0:xr (0-qY (m::r)) 0=0:=by unfold xr;split <;> omega
  rw[hR.eq2];unfold qB2;rw[wF hp,e0];show qx 0 (.gap 0:: .gap f::m::r)=_;rw[qx,qx];have hO:=h.gt.os;by_cases hgp:m.wd="gap"
  . obtain⟨l,rfl⟩:=xc hgp
    rw[qx,OS.one.2 hO.2.2 _ (by have:=hO.2.1;omega)];show _=Im.gap (l+f)::r;congr 2;omega
  . rw[jE hgp]at hO
    rw[qU hgp,YB (by omega),OS.one.1 hO,show (0:Int)+0+f=f by omega];cases m with
    |gap l=>exact YC rfl hgp
    |_=>rfl
 refine⟨e ▸ h.rel hR (λm hm=>⟨(hg m hm).1,(hg m hm).2.2⟩) (B:=f) (n:=1) (by omega) (by rw[qB8];exact YH f) (YI 1),?_⟩;have ng:("gap":Str)≠"clip":=by decide+kernel
 by_cases hgp:m.wd="gap"
 . obtain⟨l,rfl⟩:=xc hgp
   exact(xJ (m:=.gap (l+f)) (by show ("gap":Str)≠"mix";decide+kernel)).mpr ⟨λz=>YC z ng,qPn (MO.nh (p:=some (.gap l)) h.gt.mo λ⟨_,_,_,_,_,_,z⟩=>by cases z) ((xJ hm).mp hF).2⟩
 . have:qUk (m::r) f=.gap f::m::r:=by
    cases m with
    |gap l=>exact YC rfl hgp
    |_=>rfl
   rw[this];exact(xJ (m:=.gap f) (by show ("gap":Str)≠"mix";decide+kernel)).mpr ⟨λz=>YC z ng,qPn (λk z=>hm (by rw[Yb z];rfl)) hF⟩
theorem DeAt.ts{H H':Hp}{dz:Addr}{n:Nat}{d:De}(e:TS H H')(h:DeAt H dz n d):DeAt H' dz n d:=by
 cases d with
 |rol w t b=>exact⟨h.1,e _ _ h.2⟩
 |chg d=>
  refine⟨?_,h.2⟩;have h:=h.1;cases d with
  |lin t m=>obtain⟨v,h1,h2⟩:=h;exact⟨v,e _ _ h1,h2.ts e⟩
  |lov t m=>obtain⟨v,h1,h2⟩:=h;exact⟨v,e _ _ h1,h2.ts e⟩
  |_=>exact e _ _ h
 |_=>exact e _ _ h
def IsRw(H:Hp):List (Nat×De)->List V->Prop
 |[],[]=>True
 |d::ds,v::vs=>(∃z:Addr,v=.ref z/\DeAt H z d.1 d.2)/\IsRw H ds vs
 |_,_=>False
theorem IsRw.len{H:Hp}:∀{ds:List (Nat×De)} {vs:List V},IsRw H ds vs->vs.length=ds.length
 |[],[],_=>rfl
 |_::_,_::_,h=>by rw[YE,YE,IsRw.len h.2]
 |[],_::_,h=>h.elim
 |_::_,[],h=>h.elim
theorem IsRw.ts{H H':Hp}(e:TS H H'):∀{ds:List (Nat×De)} {vs:List V},IsRw H ds vs->IsRw H' ds vs
 |[],[],_=>trivial
 |_::_,_::_,h=>⟨let ⟨z,a,b⟩:=h.1;⟨z,a,b.ts e⟩,h.2.ts e⟩
 |[],_::_,h=>h.elim
 |_::_,[],h=>h.elim
theorem IsRw.app{H:Hp}:∀{ds:List (Nat×De)} {vs:List V} {ds':List (Nat×De)} {vs':List V},IsRw H ds vs->IsRw H ds' vs'->IsRw H (ds++ds') (vs++vs')
 |[],[],_,_,_,h=>h
 |_::_,_::_,_,_,h,h'=>⟨h.1,h.2.app h'⟩
 |[],_::_,_,_,h,_=>h.elim
 |_::_,[],_,_,h,_=>h.elim
theorem IsRw.one{d:De}(h:DeAt H z n d):IsRw H [(n,d)] [.ref z]:=⟨⟨z,rfl,h⟩,trivial⟩
def DL(H:Hp)(z:Addr)(ds:List (Nat×De)):Prop:= ∃vs,H z=some (.lst vs)/\IsRw H ds vs
theorem DL.same{ds:List (Nat×De)}(e:Same H H')(h:DL H z ds):DL H' z ds:=let ⟨vs,h1,h2⟩:=h;⟨vs,e _ _ h1,h2.ts (qV e)⟩
noncomputable def onT(n:Nat)(ds:List De):List (Nat×De):=ds.map λd=>(n,d)
inductive qSy(vs:List V)(H:Hp)(Q:VK)(_:XK):Prop
|mk (tz tl ti mz z:Addr) (zs:List V) (n:Nat) (ms:List Im) (ts:List Int) (_:vs=[.ref tz,.int (n:Int),.ref mz]) (_:H tz=some (.tup [.ref tl,.ref ti])) (_:H tl=some (.lst zs)) (_:zs[n]?=some (.ref z)) (_:Tr H z ms) (_:H mz=some (.tup (ts.map V.int))) (_:ts.length<=10) (_:∀(y:Addr) (H':Hp),Same H H'->H y=none->DL H' y (onT n (xZ ms ts))->Q (.ref y) H')
theorem vk(ms:List Im)(ts:List Int):(xZ ms ts).length<=ts.length:=by unfold xZ;rw[YS];exact List.length_filter_le _ _
theorem qMt(T:Tx K mg a):FnOk P w K mg base CX0 5 a.A71 a.B71 ["table","number","moments"] qSy:=by
 refine oL T.D71.F qS3 λ_ _ _ _ H _ _ _ hr h _ Y=>?_;obtain⟨tz,tl,ti,mz,z,zs,n,ms,ts,rfl,htz,htl,hzn,tT,hmz,hlt,kk⟩:=h;apply Y;refine⟨_,(qF (qM (qGt ["table","number"] [0,1] rfl (qT0 (pv 2)) (λ_ _ _ _=>(jO (qJ T.D33 (wo T) hr rfl (qA (jP (qMd (K:=K) rfl) (jP (qHk (K:=K) rfl) (pv 1) qG (λ_ _=>rfl)) (pv 2) (λ_ _=>rfl)) (qA (pv 0) qB))))) (λ_ _ _ _=>(qh (qA qN (qA (pv 2) (qA (pv 0) qB)))))))),?_⟩
 try dsimp only[jV,qk]
 refine⟨_,O,mz,O,⟨_,SqT.of hmz⟩,qQ1 (K:=K) (a:=mz) (xs:=ts.map V.int) (λj acc H2=>IsRw H2 (onT n (xZ ms (ts.take j))) acc/\Same H H2) ⟨trivial,Same.refl _⟩ ?_ ?_ ?_⟩
 . rintro j acc H2 hj ⟨ht,e2⟩
   rw[YS]at hj;refine⟨SqT.of (e2 _ _ hmz),qi ?_⟩;rw[ht.len];unfold onT;rw[YS];have:=vk ms (ts.take j);rw[Yk]at this;omega
 . rintro j x acc H2 hj hx ⟨ht,e2⟩
   refine qS λ_ Y=>?_;obtain⟨xi,hxi,rfl⟩:∃xi:Int,ts[j]?=some xi/\x=.int xi:=by
    rw[Yj]at hx;cases hq:ts[j]? with
    |none=>rw[hq]at hx;cases hx
    |some k=>rw[hq]at hx;cases hx;exact⟨k,rfl,rfl⟩
   apply Y;have etk:ts.take (j+1)=ts.take j++[xi]:=by rw[Yt,hxi];rfl
   refine(ixO (e2 _ _ htz) at0 ⟨_,O,tl,_,_,_,O,O,SqL.of (e2 _ _ htl),q8 hzn,_,O,z,ms,xi,O,tT.same e2,λH3 e3=>?_⟩);have es:onT n (xZ ms (ts.take j++[xi]))=onT n (xZ ms (ts.take j))++onT n (xZ ms [xi]):=by unfold onT xZ;rw[List.filter_append,Ys,Ys]
   cases hw:qv ms xi with
   |true=>
    refine⟨true,O,j5 ⟨_,O,_,O,sL3,λg hg=>Nxt.mk hj ⟨?_,(e2.trans e3).trans (qE hg _)⟩⟩⟩;have:onT n (xZ ms [xi])=[(n,.hel xi)]:=by unfold onT xZ;rw[List.filter_cons_of_pos hw];rfl
    rw[etk,es,this];exact(ht.ts (qV (e3.trans (qE hg _)))).app (.one (d:=.hel xi) qC)
   |false=>
    refine⟨false,O,jH (Nxt.mk hj ⟨?_,e2.trans e3⟩)⟩;have:onT n (xZ ms [xi])=[]:=by unfold onT xZ;rw[List.filter_cons_of_neg (by rw[hw];decide)];rfl
    rw[etk,es,this,Ye];exact ht.ts (qV e3)
 rintro acc H2 ⟨ht,e2⟩ y hy;rw[YS,Yx]at ht;exact kk y _ (e2.trans (qE hy _)) (e2.free hy) ⟨_,qC,ht.ts (qV (qE hy _))⟩
theorem wD{j:Nat}(h:j<=1100):j<=sizeLine:=ZD h (by decide)
theorem qL8:∀(t:Int) (ms:List Im),(qKs t ms).length<=ms.length
 |_,[]=>by simp[qKs]
 |t,m::r=>by have:=qL8 (t+m.mo) r;rw[qKs,YN,YE];split <;> simp <;> omega
inductive qG8(vs:List V)(H:Hp)(Q:VK)(_:XK):Prop
|mk (tz tl ti z:Addr) (zs:List V) (n:Nat) (ms:List Im) (lo hi:Int) (_:vs=[.ref tz,.int (n:Int),.int lo,.int hi]) (_:H tz=some (.tup [.ref tl,.ref ti])) (_:H tl=some (.lst zs)) (_:zs[n]?=some (.ref z)) (_:Tr H z ms) (_:MsB ms) (_:ms.length<=100) (_:0<=lo) (_:lo<=2 ^ 500) (_:∀(y:Addr) (H':Hp),Same H H'->H y=none->DL H' y (onT n (qKs lo (ji lo hi 0 ms)++xZ ms [lo,hi]))->Q (.ref y) H')
theorem qHs(T:Tx K mg a):FnOk P w K mg base CX0 8 a.A72 a.B72 ["table","number","low","high"] qG8:=by
 refine oL T.D72.F xS λ_ _ _ _ H _ _ _ hr h _ Y=>?_;obtain⟨tz,tl,ti,z,zs,n,ms,lo,hi,rfl,htz,htl,hzn,tT,hB,hl1,h0,h1,kk⟩:=h;apply Y;refine⟨_,(qD (qZ 4 xS.nd (q9 qB))
  (qD (qZ 5 xS.nd (pv 2))
  (qD (xj PassesOwn.never rfl (jc (qJ T.D35 (zF T) hr rfl (qA (jP qo (qI (pv 0)) (pv 1) (λ_ _=>rfl)) (qA (pv 2) (qA (pv 3) qB))))) (jX (i:=6) xS.nd rfl (Or.inl rfl)) (qD (qc (qL jF (qI (pv 6)) (qh (qA qN (qA qN qB))) rfl) (qF (jD (wT F.plainAttrs_list F.slot_list_append F.type_list_append jZ (pv 4) (qA (qh (qA qN (qA (pv 1) (qA (pv 5) (qA (pv 6) qB))))) qB)))) qO)
  (qF (qZ 5 xS.nd (qQ qm (pv 5) (qJ T.D23 (jI T) hr rfl (qA (pv 6) qB)))))))
  (qF (qM (qQ vH (pv 4) (qJ T.D71 (qMt T) hr rfl (qA (pv 0) (qA (pv 1) (qA (qh (qA (pv 2) (qA (pv 3) qB))) qB)))))))))),?_⟩
 try dsimp only[jV,qk]
 refine⟨sL0,λdy hdy=>?_⟩;have w0:=qE hdy (.lst []);refine⟨_,O,?_⟩;refine(ixO (w0 _ _ htz) at0 ⟨_,rfl,tl,_,_,_,rfl,rfl,SqL.of (w0 _ _ htl),q8 hzn,_,rfl,_,rfl,z,ms,lo,hi,rfl,tT.same w0,hB,h0,h1,λpz H1 e1 hpz ⟨us,hpu,his⟩=>?_⟩);have hul:=his.len;have hpl:=v9 lo hi 0 ms;refine⟨pz,O,⟨_,SqL.of hpu⟩,j8 (K:=K) (a:=pz) (xs:=us) (λi σ H'=> ∃(o:Option V) (t:Int) (ds:List De),σ=[some (.ref tz),some (.int (n:Int)),some (.int lo),some (.int hi),some (.ref dy),some (.int t),o]/\DL H' dy (onT n ds)/\ds++qKs t ((ji lo hi 0 ms).drop i)=qKs lo (ji lo hi 0 ms)/\ds.length<=i/\Same H H'/\SB dy H1 H')
  ⟨none,lo,[],rfl,⟨[],e1 _ _ qC,trivial⟩,rfl,YI _,w0.trans e1,SB.refl _ _⟩ ?_ ?_ ?_⟩
 . rintro i σ H' hi' ⟨o,t,ds,rfl,_,_,_,_,sb⟩
   exact SqL.of (sb _ _ (λz=>by rw[z]at hpz;rw[qC]at hpz;cases hpz) hpu)
 . rintro i x σ H' hx ⟨o,t,ds,rfl,⟨us2,hdu,hDs⟩,hap,hdl,e,sb⟩
   refine qS λ_ Y=>?_;obtain⟨m,hm,hIx⟩:=his.get hx;apply Y;have hI:=hIx.ts (sb.ts (e1 _ _ qC));have hil:i<(ji lo hi 0 ms).length:=(glt hm);have hdul:=hDs.len;unfold onT at hdul;rw[YS]at hdul;refine qS λ_ Y=>?_;obtain⟨zi,xi,rfl,hzi,a0,_⟩:=id hI.opn;apply Y;rw[xT hm,qKs]at hap;refine⟨_,O,zi,xi,_,_,O,O,SqT.of hzi,a0,sL2,λq hq=>?_⟩;have wq:=qE hq (.tup [.str "clip",.str "nest"]);refine⟨q,_,O,.inr (SqT.of qC),O,O,_,xf qTm,je (λc=>?_) (λc=>?_)⟩
   . have hw:m.wd="clip"\/m.wd="nest":=by simpa using c
     rw[YB hw]at hap;refine⟨_,O,.inl ⟨O,_,SqL.of (wq _ _ hdu)⟩,_,O,_,O,_,O,sL4,λg hg=>?_⟩;have wg:=qE hg (.tup [.str "lay_over",.int (n:Int),.int t,.ref zi]);refine⟨dy,_,_,O,O,wg _ _ (wq _ _ hdu),qi (by omega),?_⟩;have ww:=wq.trans wg;have tl:=jx (o:=.lst (us2++[.ref g])) (ww _ _ hdu);refine⟨_,O,_,O,_,m,O,(hI.ts (qV ww)).ts tl,_,_,O,O,?_⟩;refine⟨_,_,ds++[.chg (.lov t m)],O,⟨_,qC,?_⟩,by rw[Yw];exact hap,by rw[YN];show ds.length+1<=i+1;omega,jQ (e.trans ww) hdy,(sb.trans (jk ww)).trans qMy⟩;unfold onT;rw[Ys];exact((hDs.ts (qV ww)).app (.one (d:=.chg (.lov t m)) ⟨⟨_,qC,hI.ts (qV ww)⟩,λ_ e=>by cases e⟩)).ts tl
   . have hw:¬(m.wd="clip"\/m.wd="nest"):=by simpa using c
     rw[YA hw,Yg]at hap;exact⟨_,O,_,O,_,m,O,hI.ts (qV wq),_,_,O,O,_,_,ds,O,⟨_,wq _ _ hdu,hDs.ts (qV wq)⟩,hap,by omega,e.trans wq,sb.trans (jk wq)⟩
 . rintro σ H' ⟨o,t,ds,rfl,⟨us2,hdu,hDs⟩,hap,hdl,e,sb⟩
   rw[hul,ZJ,qKs,Ye]at hap;refine⟨_,O,_,O,_,O,_,O,_,O,sL2,λg hg=>?_⟩;have wg:=qE hg (.tup [.int lo,.int hi]);have eg:=e.trans wg;refine⟨tz,tl,ti,g,z,zs,n,ms,[lo,hi],rfl,eg _ _ htz,eg _ _ htl,hzn,tT.same eg,qC,(by show 2<=10;decide),λy H3 e3 hy ⟨us3,hyu,hD3⟩=>?_⟩;have l3:=hD3.len;have l4:(xZ ms [lo,hi]).length<=2:=vk ms [lo,hi];have l2:=hDs.len;unfold onT at l2 l3;rw[YS]at l2 l3;refine⟨dy,y,_,_,O,O,(wg.trans e3) _ _ hdu,hyu,wD (by omega),λy2 hy2=>?_⟩;have w5:=qE hy2 (.lst (us2++us3));refine kk y2 _ ((eg.trans e3).trans w5) ((eg.trans e3).free hy2) ⟨_,qC,?_⟩;unfold onT;rw[<-hap,Ys];exact(hDs.ts (qV ((wg.trans e3).trans w5))).app (hD3.ts (qV w5))
theorem TabF.tr{zs:List V}{ts:List (List Im)}(g:TrsAt H ts zs){k:Nat}(hk:k<ts.length):∃(z:Addr) (ms:List Im),zs[k]?=some (.ref z)/\ts[k]?=some ms/\Tr H z ms:=by have hzl:=g.len;have ez:zs[k]?=some (zs[k]'(by omega)):=YD (by omega);obtain⟨ms,z,hms,ezz,tT⟩:=g.get ez;rw[ezz]at ez;exact⟨z,ms,ez,hms,tT⟩
theorem qTy{xs:List Int}{x:V}(hx:(xs.map V.int)[i]?=some x):∃xi:Int,xs[i]?=some xi/\x=.int xi:=by
 rw[Yj]at hx;cases hq:xs[i]? with
 |none=>rw[hq]at hx;cases hx
 |some k=>rw[hq]at hx;cases hx;exact⟨k,rfl,rfl⟩
inductive qFs(vs:List V)(H:Hp)(Q:VK)(_:XK):Prop
|mk (tz dz:Addr) (n:Nat) (t l:Int) (_:vs=[.ref tz,.ref dz]) (_:(H dz=some (.tup [.str "mix",.int (n:Int),.int t,.int l])/\(∀(y:Addr) (H':Hp),Same H H'->DL H' y [(n,.unm t)]->Q (.ref y) H')\/(∃(ts:List (List Im)) (tie:List Int) (ms:List Im) (i:Nat),H dz=some (.tup [.str "unmix",.int (n:Int),.int t])/\TabF H (.ref tz) ts tie/\ts[n]?=some ms/\cbF ms t=some ((i:Int),((i+2:Nat):Int))/\ms[i+1]?=some (.mix l)/\∀(y:Addr) (H':Hp),Same H H'->DL H' y [(n,.mix t l)]->Q (.ref y) H')))
theorem qFz(T:Tx K mg a):FnOk P w K mg base CX0 6 a.A73 a.B73 ["table","deed"] qFs:=by
 refine oL T.D73.F kA λ_ _ _ _ _ _ _ _ hr h _ Y=>?_;obtain⟨tz,dz,n,t,l,rfl,h⟩:=h;apply Y;refine⟨_,(qD (qc (qL jW (qI (pv 1)) qN (qR _)) (qF (qM (q9 (qA (qh (qA qN (qA (qI (pv 1)) (qA (qI (pv 1)) qB)))) qB)))) qO)
  (qD (qZ 2 kA.nd (jP qo (qI (pv 0)) (qI (pv 1)) (λ_ _=>rfl)))
  (qD (qZ 3 kA.nd (qJ T.D32 (ja T) hr rfl (qA (pv 2) (qA (qI (pv 1)) qB))))
  (qF (qM (q9 (qA (qh (qA qN (qA (qI (pv 1)) (qA (qI (pv 1)) (qA (qI (jP qo (pv 2) (qQ qm (qI (pv 3)) qG) (λ_ _=>rfl))) qB))))) qB))))))),?_⟩
 try dsimp only[jV,qk]
 have one:(1:Nat)<=sizeLine:=by decide
 have qPq:(3:Nat)<=sizeLine:=by decide
 have qJ4:(4:Nat)<=sizeLine:=by decide
 rcases h with ⟨hd,kk⟩|⟨ts,tie,ms,i,hd,hT,hms,hcb,hm,kk⟩
 . refine(ixO hd qBp ⟨O,_,O,j5 ?_⟩)
   refine(ixO hd qC0 (ixO hd wO ⟨qPq,λg hg=>⟨one,λy hy=>?_⟩⟩));exact kk y _ ((qE hg _).trans (qE hy _)) ⟨_,qC,.one (d:=.unm t) (qE hy _ _ _ qC)⟩
 . obtain⟨tt,tl,ti,zs,e0,g2,g3,g4,g5⟩:=id hT
   refine qS λ_ Y=>?_;cases e0;obtain⟨z,ms',ez,hms',tT⟩:=TabF.tr g4 (glt hms);rw[hms]at hms';cases hms';apply Y;refine(ixO hd qYs ⟨O,_,O,jH ?_⟩);refine(ixO g2 at0 (ixO hd qLi ⟨tl,_,_,_,O,O,SqL.of g3,q8 ez,?_⟩));refine⟨_,O,ixO hd qOe ⟨z,ms,t,O,tT,?_⟩⟩;rw[hcb];intro p H1 e1 hp;refine qS λ_ Y=>?_;obtain⟨us,hzu,his⟩:=id (tT.same e1);obtain⟨x,hx,hI⟩:=his.get' hm;obtain⟨zi,rfl,hzi⟩:=hI;apply Y;have hix:atI us ((i:Int)+1)=some (.ref zi):=by have:=q8 hx;rw[Int.natCast_succ]at this;exact this
   refine(ixO (e1 _ _ hd) qLi (ixO (e1 _ _ hd) qOe ?_));refine⟨_,O,ixO hp at0 ⟨_,_,O,O,z,_,_,_,O,O,SqL.of hzu,hix,ixT (SqT.of hzi) at1 ⟨qJ4,λg hg=>⟨one,λy hy=>?_⟩⟩⟩⟩;exact kk y _ (e1.trans ((qE hg _).trans (qE hy _))) ⟨_,qC,.one (d:=.mix t l) (qE hy _ _ _ qC)⟩
noncomputable def Dk.room:Dk->Option Int
 |.opn _ l=>some l
 |.lin _ m=>some m.mo
 |_=>none
noncomputable def qU3(ts:List (List Im))(tie:List Int)(n:Nat)(t len:Int):List (Nat×De):=(n,.chg (.cls t (t+len)))::xN (chF tie (n:Int) true) (qFk ts t)
theorem qJu{j:Nat}(f:Int->List De)(h:ns[i]?=some (j:Int)):xN (ns.drop i) f=onT j (f j)++xN (ns.drop (i+1)) f:=by unfold xN onT;rw[xT h,List.flatMap_cons,YQ]
theorem qHf(n:Nat)(ds:List De):(onT n ds).length=ds.length:=YS _
inductive qDy(vs:List V)(H:Hp)(Q:VK)(_:XK):Prop
|mk (tz dz:Addr) (ts:List (List Im)) (tie:List Int) (n:Nat) (d:Dk) (len:Int) (_:vs=[.ref tz,.ref dz]) (_:TabG H tz ts tie n) (_:DAt H dz (n:Int) d) (_:d.room=some len) (_:∀(y:Addr) (H':Hp),Same H H'->DL H' y (qU3 ts tie n d.t len)->Q (.ref y) H')
theorem qDu(T:Tx K mg a):FnOk P w K mg base CX0 6 a.A74 a.B74 ["table","deed"] qDy:=by
 refine oL T.D74.F xO λ_ _ _ _ H _ _ _ hr h _ Y=>?_;obtain⟨tz,dz,ts,tie,n,d,len,rfl,hP,hD,hrm,kk⟩:=h;apply Y;refine⟨_,(qD (xV (qZ 2 xO.nd (zw (qL jW (qI (pv 1)) qN (qR _)) (qI (pv 1)) (qJ T.D23 (jI T) hr rfl (qA (qI (pv 1)) qB)))))
  (qD (qZ 3 xO.nd (q9 (qA (qh (qA qN (qA (qI (pv 1)) (qA (qI (pv 1)) (qA (qQ qm (qI (pv 1)) (pv 2)) qB))))) qB)))
  (qD (xj PassesOwn.never rfl (jc (qJ T.D58 (xA T) hr rfl (qA (pv 0) (qA (pv 1) qB)))) (jX (i:=4) xO.nd rfl (Or.inl rfl)) (qF (jD (wT F.plainAttrs_list F.slot_list_extend F.type_list_extend qJk (pv 3) (qA (qJ T.D71 (qMt T) hr rfl (qA (pv 0) (qA (pv 4) (qA (qh (qA (qI (pv 1)) qB)) qB)))) qB)))))
  (qF (qM (pv 3)))))),?_⟩
 try dsimp only[jV,qk]
 have one:(1:Nat)<=sizeLine:=by decide
 have qJ4:(4:Nat)<=sizeLine:=by decide
 have hpu:d.push=true:=by cases d <;> first|rfl|cases hrm
 refine qS λ_ Y=>?_;obtain⟨tt,tl,ti,zs,e0,g2,g3,g4,g5⟩:=id hP.tab;cases e0;obtain⟨hcl,hch⟩:=hP.ch true;obtain⟨xs,hd,a0,a1,a2⟩:=hD.opn;apply Y;refine⟨λσ H3=>σ=[some (.ref tz),some (.ref dz),some (.int len),none,none]/\H3=H,?_,?_⟩
 . cases d with
   |opn t l=>
    have hd':H dz=some (.tup [.str "open",.int n,.int t,.int l]):=hD;cases hrm;exact(ixO hd' qBp ⟨O,_,O,j5 (ixO hd' kf ⟨O,O⟩)⟩)
   |lin t m=>
    refine qS λ_ Y=>?_;cases hrm;obtain⟨v,hd',hI⟩:=hD;apply Y;exact(ixO hd' qBp ⟨O,_,O,jH (ixO hd' kf ⟨v,m,O,hI,O,O⟩)⟩)
   |_=>cases hrm
 rintro σ H3 ⟨rfl,rfl⟩;refine(ixO hd a1 (ixO hd a2 ?_));refine(ixO hd a2 ⟨_,O,_,_,O,O,qJ4,λg hg=>⟨one,λdy hdy=>?_⟩⟩);have wg:=qE hg (.tup [.str "close",.int n,.int d.t,.int (d.t+len)]);have wd:=qE hdy (.lst [.ref g]);have w1:=wg.trans wd;have hdn:H3 dy=none:=wg.free hdy;refine⟨_,rfl,_,rfl,tz,tl,ti,dz,tie,_,d,rfl,w1 _ _ g2,w1 _ _ g5,by have:=hP.tl;omega,hD.same w1,λy H2 e2 hy hy2=>?_⟩;rw[hpu]at hy2;have e12:=w1.trans e2;refine⟨y,O,⟨_,SqL.of hy2⟩,j8 (K:=K) (a:=y) (xs:=(chF tie (n:Int) true).map V.int) (λi σ H'=> ∃(o:Option V) (ds:List (Nat×De)),σ=[some (.ref tz),some (.ref dz),some (.int len),some (.ref dy),o]/\DL H' dy ds/\ds++xN ((chF tie (n:Int) true).drop i) (qFk ts d.t)=qU3 ts tie n d.t len/\ds.length<=1+i/\Same H3 H'/\SB dy H2 H')
  ⟨none,[(n,.chg (.cls d.t (d.t+len)))],rfl,⟨_,e2 _ _ qC,.one (d:=.chg (.cls d.t (d.t+len))) ⟨(wd.trans e2) _ _ qC,(λ_ z=>by cases z)⟩⟩,rfl,YI _,e12,SB.refl _ _⟩ ?_ ?_ ?_⟩
 . rintro i σ H' hi' ⟨o,ds,rfl,_,_,_,_,sb⟩
   exact SqL.of (sb _ _ (λz=>by rw[z]at hy;rw[qC]at hy;cases hy) hy2)
 . rintro i x σ H' hx ⟨o,ds,rfl,⟨us2,hdu,hDs⟩,hap,hdl,e,sb⟩
   refine qS λ_ Y=>?_;obtain⟨xi,hxi,rfl⟩:=qTy hx;obtain⟨k,rfl,hk⟩:=hch xi (YF hxi);have hil:=(glt hxi);obtain⟨z,ms1,ez,hms,tT⟩:=TabF.tr g4 hk;apply Y;have hdul:=hDs.len;rw[qJu _ hxi,<-Yw,qFk,qMr hms]at hap;refine⟨_,O,.inl ⟨O,_,SqL.of hdu⟩,_,O,_,O,ixO (e _ _ hd) a2 ⟨one,λq hq=>?_⟩⟩;have wq:=qE hq (.tup [.int d.t]);have eq:=e.trans wq;refine⟨tz,tl,ti,q,z,zs,k,ms1,[d.t],rfl,eq _ _ g2,eq _ _ g3,ez,tT.same eq,qC,(by show 1<=10;decide),λy2 H4 e4 hy' ⟨us3,hyu,hD3⟩=>?_⟩;have l3:=hD3.len;have l4:(xZ ms1 [d.t]).length<=1:=vk ms1 [d.t];rw[qHf]at l3;have wq4:=wq.trans e4;refine⟨dy,y2,_,_,O,O,wq4 _ _ hdu,hyu,wD (by omega),?_⟩;have tl':=jx (o:=.lst (us2++us3)) (wq4 _ _ hdu);exact⟨_,_,O,⟨_,qC,((hDs.ts (qV wq4)).app hD3).ts tl'⟩,hap,by rw[YN,qHf];omega,jQ (e.trans wq4) hdn,(sb.trans (jk wq4)).trans qMy⟩
 . rintro σ H' ⟨o,ds,rfl,hDL,hap,hdl,e,sb⟩
   rw[YS,ZJ,xN,List.flatMap_nil,Ye]at hap;rw[hap]at hDL;exact⟨_,O,kk dy H' e hDL⟩
noncomputable def Dk.hd(n:Nat):Dk->List (Nat×De)
 |.cls t u=>[(n,.chg (.opn t (u-t)))]
 |.lov t m=>[(n,.chg (.lft t (t+m.mo)))]
 |_=>[]
noncomputable def qYc(ts:List (List Im))(tie:List Int)(n:Nat)(d:Dk):List (Nat×De):=d.hd n++xN (chF tie (n:Int) d.push) (zp ts d.t d.hi)
theorem qIk(lo hi:Int)(ms:List Im):(qKs lo (ji lo hi 0 ms)++xZ ms [lo,hi]).length<=ms.length+2:=by have h1:=qL8 lo (ji lo hi 0 ms);have h2:=v9 lo hi 0 ms;have h3:(xZ ms [lo,hi]).length<=2:=vk ms [lo,hi];rw[YN];omega
theorem Dk.of_wd{d:Dk}:(d.wd="close"->∃t u,d=.cls t u)/\(d.wd="lay_over"->∃t m,d=.lov t m):=by
 have no:∀{a b:Str} {p:Prop},a≠b->a=b->p:=λh e=>YC e h;cases d with
 |cls t u=>exact⟨λ_=>⟨t,u,rfl⟩,no (a:="close") (by decide+kernel)⟩
 |lov t m=>exact⟨no (a:="lay_over") (by decide+kernel),λ_=>⟨t,m,rfl⟩⟩
 |cut=>exact⟨no (a:="cut") (by decide+kernel),no (a:="cut") (by decide+kernel)⟩
 |hel=>exact⟨no (a:="heal") (by decide+kernel),no (a:="heal") (by decide+kernel)⟩
 |opn=>exact⟨no (a:="open") (by decide+kernel),no (a:="open") (by decide+kernel)⟩
 |lft=>exact⟨no (a:="lift") (by decide+kernel),no (a:="lift") (by decide+kernel)⟩
 |lin=>exact⟨no (a:="lay_in") (by decide+kernel),no (a:="lay_in") (by decide+kernel)⟩
inductive qAy(vs:List V)(H:Hp)(Q:VK)(_:XK):Prop
|mk (tz dz:Addr) (ts:List (List Im)) (tie:List Int) (n:Nat) (d:Dk) (_:vs=[.ref tz,.ref dz]) (_:TabG H tz ts tie n) (_:DAt H dz (n:Int) d) (_:0<=d.t) (_:d.t<=2 ^ 500) (_:∀(y:Addr) (H':Hp),Same H H'->DL H' y (qYc ts tie n d)->Q (.ref y) H')
theorem qBg(T:Tx K mg a):FnOk P w K mg base CX0 9 a.A75 a.B75 ["table","deed"] qAy:=by
 refine oL T.D75.F j3 λ_ _ _ _ H _ _ _ hr h _ Y=>?_;obtain⟨tz,dz,ts,tie,n,d,rfl,hP,hD,h0,h1,kk⟩:=h;apply Y;refine⟨_,(qD (qZ 2 j3.nd (qJ T.D55 (kU T) hr rfl (qA (pv 1) qB)))
  (qD (qZ 3 j3.nd (q9 qB))
  (qD (xV (qc (qL jW (qI (pv 1)) qN (qR _)) (qF (jD (wT F.plainAttrs_list F.slot_list_append F.type_list_append jZ (pv 3) (qA (qh (qA qN (qA (qI (pv 1)) (qA (qI (pv 2)) (qA (qQ jR (qI (pv 2)) (qI (pv 2))) qB))))) qB)))) qO))
  (qD (xV (qc (qL jW (qI (pv 1)) qN (qR _)) (qF (jD (wT F.plainAttrs_list F.slot_list_append F.type_list_append jZ (pv 3) (qA (qh (qA qN (qA (qI (pv 1)) (qA (qI (pv 2)) (qA (qI (pv 2)) qB))))) qB)))) qO))
  (qD (xj PassesOwn.never rfl (jc (qJ T.D58 (xA T) hr rfl (qA (pv 0) (qA (pv 1) qB)))) (jX (i:=4) j3.nd rfl (Or.inl rfl)) (qF (jD (wT F.plainAttrs_list F.slot_list_extend F.type_list_extend qJk (pv 3) (qA (qJ T.D72 (qHs T) hr rfl (qA (pv 0) (qA (pv 4) (qA (qI (pv 2)) (qA (qI (pv 2)) qB))))) qB)))))
  (qF (qM (pv 3)))))))),?_⟩
 try dsimp only[jV,qk]
 have qJ4:(4:Nat)<=sizeLine:=by decide
 refine qS λ_ Y=>?_;obtain⟨tt,tl,ti,zs,e0,g2,g3,g4,g5⟩:=id hP.tab;cases e0;obtain⟨hcl,hch⟩:=hP.ch d.push;obtain⟨xs,hd,a0,a1,a2⟩:=hD.opn;apply Y;refine⟨_,O,dz,_,d,O,hD,λp H1 e1 hp=>⟨sL0,λdy hdy=>?_⟩⟩;have w0:=qE hdy (.lst []);have e10:=e1.trans w0;have hdn:H dy=none:=e1.free hdy;have hp0:=w0 _ _ hp;generalize hH2:upd H1 dy (.lst [])=H2 at w0 e10 hp0;have hdy2:H2 dy=some (.lst []):=by rw[<-hH2];exact qC
 refine⟨λσ H3=>σ=[some (.ref tz),some (.ref dz),some (.ref p),some (.ref dy),none]/\DL H3 dy (if d.wd="close" then d.hd n else [])/\Same H H3/\H3 p=some (.tup [.int d.t,.int d.hi]),?_,?_⟩
 . refine(ixO (e10 _ _ hd) a0 ⟨O,_,O,je (λc=>?_) (λc=>?_)⟩)
   . have hw:d.wd="close":=by simpa using c
     rw[YB hw];refine qS λ_ Y=>?_;obtain⟨t,u,rfl⟩:=Dk.of_wd.1 hw;apply Y;refine⟨_,O,.inl ⟨O,_,SqL.of hdy2⟩,ixO (e10 _ _ hd) a1 (ixO hp0 at0 ?_)⟩;refine(ixO hp0 at1 (ixO hp0 at0 ⟨_,_,O,O,qJ4,λg hg=>?_⟩));have wg:=qE hg (.tup [.str "open",.int n,.int t,.int (u-t)]);refine⟨dy,_,_,O,O,wg _ _ hdy2,(by show 0<sizeLine;decide),?_⟩;have ts1:=jx (o:=.lst ([]++[.ref g])) (wg _ _ hdy2);exact⟨rfl,⟨_,qC,.one (d:=.chg (.opn t (u-t))) ⟨ts1 _ _ qC,(λ_ z=>by cases z)⟩⟩,jQ (e10.trans wg) hdn,ts1 _ _ (wg _ _ hp0)⟩
   . have hw:d.wd≠"close":=by simpa using c
     rw[YA hw];exact⟨O,⟨_,hdy2,trivial⟩,e10,hp0⟩
 clear hH2 w0 hp0 hdy2 e10;rintro σ H3 hZ_;refine qS λ_ Y=>?_;obtain⟨rfl,⟨us1,hdu1,hDs1⟩,e3,hp3⟩:=hZ_;apply Y;refine⟨λσ H4=>σ=[some (.ref tz),some (.ref dz),some (.ref p),some (.ref dy),none]/\DL H4 dy (d.hd n)/\Same H H4/\H4 p=some (.tup [.int d.t,.int d.hi]),?_,?_⟩
 . refine(ixO (e3 _ _ hd) a0 ⟨O,_,O,je (λc=>?_) (λc=>?_)⟩)
   . have hw:d.wd="lay_over":=by simpa using c
     refine qS λ_ Y=>?_;obtain⟨t,m,rfl⟩:=Dk.of_wd.2 hw;apply Y;rw[YA (show ¬(Dk.lov t m).wd="close" from show ¬("lay_over":Str)="close" by decide+kernel)]at hDs1;have:=hDs1.len;obtain rfl:us1=[]:=List.eq_nil_of_length_eq_zero this;refine⟨_,O,.inl ⟨O,_,SqL.of hdu1⟩,ixO (e3 _ _ hd) a1 (ixO hp3 at0 ?_)⟩;refine(ixO hp3 at1 ⟨qJ4,λg hg=>?_⟩);have wg:=qE hg (.tup [.str "lift",.int n,.int t,.int (t+m.mo)]);refine⟨dy,_,_,O,O,wg _ _ hdu1,(by show 0<sizeLine;decide),?_⟩;have ts1:=jx (o:=.lst ([]++[.ref g])) (wg _ _ hdu1);exact⟨rfl,⟨_,qC,.one (d:=.chg (.lft t (t+m.mo))) ⟨ts1 _ _ qC,(λ_ z=>by cases z)⟩⟩,jQ (e3.trans wg) hdn,ts1 _ _ (wg _ _ hp3)⟩
   . have hw:d.wd≠"lay_over":=by simpa using c
     have:(if d.wd="close" then d.hd n else [])=d.hd n:=by
      split
      . rfl
      . rename_i hc
        cases d <;> first|rfl|exact YC rfl hc|exact YC rfl hw
     rw[this]at hDs1;exact⟨O,⟨_,hdu1,hDs1⟩,e3,hp3⟩
 clear hdu1 hDs1 hp3 e3;rintro σ H4 ⟨rfl,hDL4,e4,hp4⟩;refine⟨_,rfl,_,rfl,tz,tl,ti,dz,tie,_,d,rfl,e4 _ _ g2,e4 _ _ g5,by have:=hP.tl;omega,hD.same e4,λy H2 e2 hy hy2=>?_⟩;have ny:y≠dy:=λz=>by obtain⟨_,hh,_⟩:=hDL4;rw[z,hh]at hy;cases hy
 have npd:p≠dy:=λz=>by obtain⟨_,hh,_⟩:=hDL4;rw[z,hh]at hp4;cases hp4
 have hdlen:(d.hd n).length<=1:=by cases d <;> simp[Dk.hd]
 refine⟨y,O,⟨_,SqL.of hy2⟩,j8 (K:=K) (a:=y) (xs:=(chF tie (n:Int) d.push).map V.int) (λi σ H'=> ∃(o:Option V) (ds:List (Nat×De)),σ=[some (.ref tz),some (.ref dz),some (.ref p),some (.ref dy),o]/\DL H' dy ds/\ds++xN ((chF tie (n:Int) d.push).drop i) (zp ts d.t d.hi)=qYc ts tie n d/\ds.length<=1+102*i/\Same H H'/\SB dy H2 H')
  ⟨none,d.hd n,rfl,hDL4.same e2,rfl,by omega,e4.trans e2,SB.refl _ _⟩ ?_ ?_ ?_⟩
 . rintro i σ H' hi' hZ_
   refine qS λ_ Y=>?_;obtain⟨o,ds,rfl,_,_,_,_,sb⟩:=hZ_;apply Y;exact SqL.of (sb _ _ ny hy2)
 . rintro i x σ H' hx hZ_
   refine qS λ_ Y=>?_;obtain⟨o,ds,rfl,⟨us2,hdu,hDs⟩,hap,hdl,e,sb⟩:=hZ_;apply Y;refine qS λ_ Y=>?_;obtain⟨xi,hxi,rfl⟩:=qTy hx;obtain⟨k,rfl,hk⟩:=hch xi (YF hxi);have hil:=(glt hxi);obtain⟨z,ms1,ez,hms,tT⟩:=TabF.tr g4 hk;obtain⟨hMB,hM1⟩:=hP.ok ms1 (YF hms);apply Y;have hdul:=hDs.len;have hp5:=sb _ _ npd (e2 _ _ hp4);rw[qJu _ hxi,<-Yw,zp,qMr hms]at hap;refine⟨_,O,.inl ⟨O,_,SqL.of hdu⟩,_,O,_,O,ixO hp5 at0 (ixO hp5 at1 ?_)⟩;refine⟨tz,tl,ti,z,zs,k,ms1,d.t,d.hi,rfl,e _ _ g2,e _ _ g3,ez,tT.same e,hMB,hM1,h0,h1,λy2 H4 e4 hy' ⟨us3,hyu,hD3⟩=>?_⟩;have l3:=hD3.len;have l4:=qIk d.t d.hi ms1;rw[qHf]at l3;refine⟨dy,y2,_,_,O,O,e4 _ _ hdu,hyu,wD (by omega),?_⟩;have tl':=jx (o:=.lst (us2++us3)) (e4 _ _ hdu);exact⟨_,_,O,⟨_,qC,((hDs.ts (qV e4)).app hD3).ts tl'⟩,hap,by rw[YN,qHf];omega,jQ (e.trans e4) hdn,(sb.trans (jk e4)).trans qMy⟩
 . rintro σ H' hZ_
   refine qS λ_ Y=>?_;obtain⟨o,ds,rfl,hDL,hap,hdl,e,sb⟩:=hZ_;apply Y;rw[YS,ZJ,xN,List.flatMap_nil,Ye]at hap;rw[hap]at hDL;exact⟨_,O,kk dy H' e hDL⟩
theorem qXr{w a b:Str}:inV (.str w) [.str a,.str b]=(decide (w=a) || decide (w=b)):=by
 unfold inV;rw[Yv];simp[eqV];constructor
 . rintro(h|h)
   . exact .inl h.symm
   . exact .inr h.symm
 . rintro(h|h)
   . exact .inl h.symm
   . exact .inr h.symm
noncomputable def De.wd:De->Str
 |.hel _=>"heal"
 |.mix .. =>"mix"
 |.unm _=>"unmix"
 |.rol w .. =>w
 |.chg d=>d.wd
theorem DeAt.opn{H:Hp}{dz:Addr}{n:Nat}{d:De}(h:DeAt H dz n d):∃xs,H dz=some (.tup xs)/\atI xs 0=some (.str d.wd):=by
 cases d with
 |rol w t b=>exact⟨_,h.2,rfl⟩
 |chg d=>obtain⟨xs,h1,h2,_⟩:=h.1.opn;exact⟨xs,h1,h2⟩
 |_=>exact⟨_,h,rfl⟩
def BkA(d:De)(w:Str):Prop:=
 if w="cut" then ∃t,d=.chg (.cut t)
 else if w="heal" then ∃t,d=.hel t
 else if w="mix"\/w="unmix" then (∃t k,d=.mix t k)\/∃t,d=.unm t
 else if w="lay_in"\/w="open" then ∃e len,d=.chg e/\e.room=some len
 else if w="slip" then ∃t b,d=.rol w t b
 else if w="roll"\/w="slide" then ∃t b,d=.rol w t b
 else (∃t u,d=.chg (.cls t u))\/(∃t u,d=.chg (.lft t u))\/∃t m,d=.chg (.lov t m)
theorem BkA.of{d:De}(h:DeAt H dz n d):BkA d d.wd:=by
 cases d with
 |hel t=>show BkA _ ("heal":Str);unfold BkA;rw[YA (show ¬("heal":Str)="cut" by decide+kernel),YB rfl];exact⟨t,rfl⟩
 |mix t k=>show BkA _ ("mix":Str);unfold BkA;rw[YA (show ¬("mix":Str)="cut" by decide+kernel),YA (show ¬("mix":Str)="heal" by decide+kernel),YB (.inl rfl)];exact .inl ⟨t,k,rfl⟩
 |unm t=>show BkA _ ("unmix":Str);unfold BkA;rw[YA (show ¬("unmix":Str)="cut" by decide+kernel),YA (show ¬("unmix":Str)="heal" by decide+kernel),YB (.inr rfl)];exact .inr ⟨t,rfl⟩
 |rol w t b=>
  have n6:∀w:Str,Wd3 w->(w≠"cut"/\w≠"heal"/\¬(w="mix"\/w="unmix")/\¬(w="lay_in"\/w="open"))/\(w="slip"\/(w≠"slip"/\(w="roll"\/w="slide"))):=by rintro w (rfl|rfl|rfl) <;> decide+kernel
  obtain⟨⟨a1,a2,a3,a4⟩,a5⟩:=n6 w h.1;show BkA _ w;unfold BkA;rw[YA a1,YA a2,YA a3,YA a4];rcases a5 with e|⟨e1,e2⟩
  . rw[YB e];exact⟨t,b,rfl⟩
  . rw[YA e1,YB e2];exact⟨t,b,rfl⟩
 |chg d=>
  obtain⟨h,hn⟩:=h;cases d with
  |hel t=>exact YC rfl (hn t)
  |cut t=>show BkA _ ("cut":Str);unfold BkA;rw[YB rfl];exact⟨t,rfl⟩
  |lin t m=>show BkA _ ("lay_in":Str);unfold BkA;rw[YA (show ¬("lay_in":Str)="cut" by decide+kernel),YA (show ¬("lay_in":Str)="heal" by decide+kernel),YA (show ¬(("lay_in":Str)="mix"\/("lay_in":Str)="unmix") by decide+kernel),YB (.inl rfl)];exact⟨_,_,rfl,rfl⟩
  |opn t l=>show BkA _ ("open":Str);unfold BkA;rw[YA (show ¬("open":Str)="cut" by decide+kernel),YA (show ¬("open":Str)="heal" by decide+kernel),YA (show ¬(("open":Str)="mix"\/("open":Str)="unmix") by decide+kernel),YB (.inr rfl)];exact⟨_,_,rfl,rfl⟩
  |cls t u=>show BkA _ ("close":Str);unfold BkA;rw[YA (show ¬("close":Str)="cut" by decide+kernel),YA (show ¬("close":Str)="heal" by decide+kernel),YA (show ¬(("close":Str)="mix"\/("close":Str)="unmix") by decide+kernel),YA (show ¬(("close":Str)="lay_in"\/("close":Str)="open") by decide+kernel),YA (show ¬("close":Str)="slip" by decide+kernel),YA (show ¬(("close":Str)="roll"\/("close":Str)="slide") by decide+kernel)];exact .inl ⟨t,u,rfl⟩
  |lft t u=>show BkA _ ("lift":Str);unfold BkA;rw[YA (show ¬("lift":Str)="cut" by decide+kernel),YA (show ¬("lift":Str)="heal" by decide+kernel),YA (show ¬(("lift":Str)="mix"\/("lift":Str)="unmix") by decide+kernel),YA (show ¬(("lift":Str)="lay_in"\/("lift":Str)="open") by decide+kernel),YA (show ¬("lift":Str)="slip" by decide+kernel),YA (show ¬(("lift":Str)="roll"\/("lift":Str)="slide") by decide+kernel)];exact .inr (.inl ⟨t,u,rfl⟩)
  |lov t m=>show BkA _ ("lay_over":Str);unfold BkA;rw[YA (show ¬("lay_over":Str)="cut" by decide+kernel),YA (show ¬("lay_over":Str)="heal" by decide+kernel),YA (show ¬(("lay_over":Str)="mix"\/("lay_over":Str)="unmix") by decide+kernel),YA (show ¬(("lay_over":Str)="lay_in"\/("lay_over":Str)="open") by decide+kernel),YA (show ¬("lay_over":Str)="slip" by decide+kernel),YA (show ¬(("lay_over":Str)="roll"\/("lay_over":Str)="slide") by decide+kernel)];exact .inr (.inr ⟨t,m,rfl⟩)
inductive qLj(K:W.Frag)(N M S:Addr)(vs:List V)(H:Hp)(Q:VK)(E:XK):Prop
|mk (tz dz rd:Addr) (rl:Rls) (ts:List (List Im)) (tie:List Int) (n:Nat) (ms:List Im) (d:De) (r:Res) (l:Int) (_:vs=[.ref tz,.ref dz,.ref rd]) (_:TabD H tz rd rl ts tie) (_:ts[n]?=some ms) (_:DeAt H dz n d) (_:DeOk H rd ms d) (_:r=kH rl ts tie n ms d) (_:(r=.place->∀H',Same H H'->E (.ref N) none H')) (_:(r=.mixed->∀H',Same H H'->E (.ref M) none H')) (_:(∀m,r=.short m->∀(dx:Addr) (H':Hp),Same H H'->H' dx=some (.xd [("most",.int m)])->E (.ref S) (some dx) H')) (_:(∀ts',r=.good ts'->(∀t,d=.unm t->∃i:Nat,cbF ms t=some ((i:Int),((i+2:Nat):Int))/\ms[i+1]?=some (.mix l))/\(∀e,d=.chg e->0<=e.t/\e.t<=2 ^ 500)/\∀(y:Addr) (H':Hp),Same H H'->DL H' y (qLw ts tie n l d)->Q (.ref y) H'))
theorem qLl(T:Tx K mg a):FnOk P w K mg base (CXR P w) 11 a.A76 a.B76 ["table","deed","reels"] (qLj K a.k_NoPlace a.k_Mixed a.k_Short):=by
 refine oX T.D76.F qOl λ_ _ _ _ H _ _ _ hr h _ Y=>?_;obtain⟨tz,dz,rd,rl,ts,tie,n,ms,d,r,l,rfl,hP,hm,hA,hO,hR,k0,k1,k4,k2⟩:=h;apply Y;refine⟨_,(qD (jD (xM T.D70 (zW T) hr rfl (qA (pv 0) (qA (pv 1) (qA (pv 2) qB)))))
  (qD (qc (qL jW (qI (pv 1)) qN (qR _)) (qF (qM (q9 (qA (qh (qA qN (qA (qI (pv 1)) (qA (qI (pv 1)) qB)))) qB)))) qO)
  (qD (qc (qL jW (qI (pv 1)) qN (qR _)) (qF (qM (q9 (qA (qh (qA qN (qA (qI (pv 1)) (qA (qI (pv 1)) qB)))) qB)))) qO)
  (qD (qc (qL jF (qI (pv 1)) (qh (qA qN (qA qN qB))) rfl) (qF (qM (qJ T.D73 (qFz T) hr rfl (qA (pv 0) (qA (pv 1) qB))))) qO)
  (qD (qc (qL jF (qI (pv 1)) (qh (qA qN (qA qN qB))) rfl) (qF (qM (qJ T.D74 (qDu T) hr rfl (qA (pv 0) (qA (pv 1) qB))))) qO)
  (qD (qc (qL jW (qI (pv 1)) qN (qR _)) (qF (qM (q9 (qA (qh (qA qN (qA (qI (pv 1)) (qA (qI (pv 1)) (qA (wS zI (qI (pv 1))) qB))))) qB)))) qO)
  (qD (qc (qL jF (qI (pv 1)) (qh (qA qN (qA qN qB))) rfl) (qF (qM (q9 (qA (qh (qA (qI (pv 1)) (qA (qI (pv 1)) (qA (qQ qm (qI (pv 1)) (qI (pv 1))) (qA (wS zI (qI (pv 1))) qB))))) qB)))) qO)
  (qF (qM (qJ T.D75 (qBg T) hr rfl (qA (pv 0) (qA (pv 1) qB)))))))))))),?_⟩
 try dsimp only[jV,qk]
 have one:(1:Nat)<=sizeLine:=by decide
 have two:(2:Nat)<=sizeLine:=by decide
 have qPq:(3:Nat)<=sizeLine:=by decide
 have qJ4:(4:Nat)<=sizeLine:=by decide
 refine⟨_,O,_,O,_,O,tz,dz,rd,rl,ts,tie,r,O,hP,⟨n,ms,d,hm,hA,hO,hR⟩,k0,k1,k4,λts' er t' H1 e1 _=>?_⟩;refine qS λ_ Y=>?_;obtain⟨kl,kt,kk⟩:=k2 ts' er;have hn:=(glt hm);obtain⟨xs,hd,a0⟩:=hA.opn;apply Y;have hB:=BkA.of hA;unfold BkA at hB;refine(ixO (e1 _ _ hd) a0 ⟨O,_,O,je (λc=>?_) (λc=>?_)⟩)
 . rw[YB (by simpa using c)]at hB
   obtain⟨t,rfl⟩:=hB;have hd1:H1 dz=some (.tup [.str "cut",.int (n:Int),.int t]):=e1 _ _ hA.1;refine(ixO hd1 qLi (ixO hd1 qOe ⟨qPq,λg hg=>⟨one,λy hy=>?_⟩⟩));exact kk y _ (e1.trans ((qE hg _).trans (qE hy _))) ⟨_,qC,.one (d:=.hel t) (qE hy _ _ _ qC)⟩
 rw[YA (by simpa using c)]at hB;clear c;refine(ixO (e1 _ _ hd) a0 ⟨O,_,O,je (λc=>?_) (λc=>?_)⟩)
 . rw[YB (by simpa using c)]at hB
   obtain⟨t,rfl⟩:=hB;have hd1:H1 dz=some (.tup [.str "heal",.int (n:Int),.int t]):=e1 _ _ hA;refine(ixO hd1 qLi (ixO hd1 qOe ⟨qPq,λg hg=>⟨one,λy hy=>?_⟩⟩));exact kk y _ (e1.trans ((qE hg _).trans (qE hy _))) ⟨_,qC,.one (d:=.chg (.cut t)) ⟨qE hy _ _ _ qC,(λ_ z=>by cases z)⟩⟩
 rw[YA (by simpa using c)]at hB;clear c;refine(ixO (e1 _ _ hd) a0 ⟨two,λq hq=>?_⟩);have e2:=e1.trans (qE hq (.tup [.str "mix",.str "unmix"]));refine⟨q,_,O,.inr (SqT.of qC),O,O,_,xf qXr,?_⟩;generalize upd H1 q (.tup [.str "mix",.str "unmix"])=H2 at e2;refine je (λc=>?_) (λc=>?_)
 . rw[YB (by simpa using c)]at hB
   rcases hB with ⟨t,k,rfl⟩|⟨t,rfl⟩
   . exact⟨_,O,_,O,tz,dz,n,t,k,O,.inl ⟨e2 _ _ hA,λy H' e h=>kk y H' (e2.trans e) h⟩⟩
   . obtain⟨i,h4,h5⟩:=kl t rfl
     exact⟨_,O,_,O,tz,dz,n,t,l,O,.inr ⟨ts,tie,ms,i,e2 _ _ hA,hP.tab.same e2,hm,h4,h5,λy H' e h=>kk y H' (e2.trans e) h⟩⟩
 rw[YA (by simpa using c)]at hB;clear c;refine(ixO (e2 _ _ hd) a0 ⟨two,λq hq=>?_⟩);have e3:=e2.trans (qE hq (.tup [.str "lay_in",.str "open"]));refine⟨q,_,O,.inr (SqT.of qC),O,O,_,xf qXr,?_⟩;generalize upd H2 q (.tup [.str "lay_in",.str "open"])=H3 at e3;refine je (λc=>?_) (λc=>?_)
 . rw[YB (by simpa using c)]at hB
   refine qS λ_ Y=>?_;obtain⟨e,len,rfl,hl⟩:=hB;apply Y;refine⟨_,O,_,O,tz,dz,ts,tie,n,e,len,O,(hP.g hn).same e3,hA.1.same e3,hl,λy H' e' h=>kk y H' (e3.trans e') ?_⟩;have:qLw ts tie n l (.chg e)=qU3 ts tie n e.t len:=by cases e <;> cases hl <;> rfl
   rw[this];exact h
 rw[YA (by simpa using c)]at hB;clear c;refine(ixO (e3 _ _ hd) a0 ⟨O,_,O,je (λc=>?_) (λc=>?_)⟩)
 . have cw:d.wd="slip":=by simpa using c
   rw[YB cw]at hB;refine qS λ_ Y=>?_;obtain⟨t,b,ed⟩:=hB;rw[cw]at ed;subst ed;apply Y;have hd1:=e3 _ _ hA.2;refine(ixO hd1 qC0 (ixO hd1 wO (ixO hd1 kf ⟨_,O,qJ4,λg hg=>⟨one,λy hy=>?_⟩⟩)));exact kk y _ (e3.trans ((qE hg _).trans (qE hy _))) ⟨_,qC,.one (d:=.rol "slip" t (-b)) ⟨hA.1,qE hy _ _ _ qC⟩⟩
 have ns:d.wd≠"slip":=by simpa using c
 rw[YA ns]at hB;clear c;refine(ixO (e3 _ _ hd) a0 ⟨two,λq hq=>?_⟩);have e4:=e3.trans (qE hq (.tup [.str "roll",.str "slide"]));refine⟨q,_,O,.inr (SqT.of qC),O,O,_,xf qXr,?_⟩;generalize upd H3 q (.tup [.str "roll",.str "slide"])=H4 at e4;refine je (λc=>?_) (λc=>?_)
 . rw[YB (by simpa using c)]at hB
   refine qS λ_ Y=>?_;obtain⟨t,b,ed⟩:=hB;apply Y;generalize d.wd=w at ed ns;subst ed;have hd1:=e4 _ _ hA.2;refine(ixO hd1 qBp (ixO hd1 qC0 (ixO hd1 wO ?_)));refine(ixO hd1 kf ⟨_,_,O,O,ixO hd1 kf ⟨_,O,qJ4,λg hg=>⟨one,λy hy=>?_⟩⟩⟩);refine kk y _ (e4.trans ((qE hg _).trans (qE hy _))) ⟨_,qC,?_⟩;show IsRw _ [(n,.rol w (if w="slip" then t else t+b) (-b))] _;rw[YA ns];exact .one (d:=.rol w (t+b) (-b)) ⟨hA.1,qE hy _ _ _ qC⟩
 rw[YA (by simpa using c)]at hB;refine qS λ_ Y=>?_;obtain⟨e,ed,hb⟩:∃e,d=.chg e/\qLw ts tie n l (.chg e)=qYc ts tie n e:=by
  rcases hB with ⟨t,u,ed⟩|⟨t,u,ed⟩|⟨t,m,ed⟩
  . exact⟨_,ed,O⟩
  . exact⟨_,ed,O⟩
  . exact⟨_,ed,O⟩
 subst ed;obtain⟨h3,h4⟩:=kt e rfl;apply Y;exact⟨_,O,_,O,tz,dz,ts,tie,n,e,O,(hP.g hn).same e4,hA.1.same e4,h3,h4,λy H' e' h=>kk y H' (e4.trans e') (by rw[hb];exact h)⟩
def qX2(K:W.Frag)(C:Addr)(i:Option Nat)(tb:(Value->Option Addr->L2.St->Hp->Prop)->L2.TS)(ts:L2.TS):L2.TS:=λD σ H=> ∃Ex,qV9 K Ex C i (tb Ex) ts D σ H
theorem qUb{X:Cx}{body:List Stmt}{b₀:Stmt}{suite:List Stmt}{x:Str}{C:Addr}{nm:Option Str}{i:Option Nat}{np hpos pos:PySem.Pos}{tb:(Value->Option Addr->L2.St->Hp->Prop)->L2.TS}{ts:L2.TS}
 (hcl:qI1 X nm i) (hN:X.N.Nodup) (hg:Gl X x) (hm:X.mg x=some (.ref C))
 (hb:∀Ex l,PSs ((pnX X l).wish (XES (pnX X l) Ex)) body (tb Ex)) (hs:∀l ea,PSs (hdX (pnX X l) ea).nox (b₀::suite) ts)
 (hstk:X.stack=X.env::X.outer:=by rfl) (hfr:X.env.frame=some X.env.locals:=by rfl) (hex:X.ex=[]:=by rfl) (hdb:(x==("__debug__":Str))=false:=by decide):
 PS X (.Try body [.ExceptHandler (some (.Name x np)) nm (b₀::suite) hpos] [] [] pos) (qX2 X.K C i tb ts):=by
 have q:=λEx=>qU1 (np:=np) (hpos:=hpos) (pos:=pos) Ex hcl hN hg hm (hb Ex) hs hstk hfr hex hdb;unfold L2.PS at q⊢;rintro pins s σ H D I ⟨Ex,h⟩;exact q Ex pins s σ H D I h
theorem qS7{ts:List (List Im)}(h:ts[i]?=some ms):ts.set i ms=ts:=by
 apply List.ext_getElem?;intro k;rw[List.getElem?_set];split
 . rename_i e
   subst e;rw[YB (glt h),h]
 . rfl
theorem qEw:∀{ms:List Im} {b:Int},(∀m∈ms,Wf m)->(∀x∈jy b ms,b<x)/\(jy b ms).Pairwise (· < ·)
 |[],b,_=>⟨λx h=>(by cases h),.nil⟩
 |m::ms,b,hw=>by
  by_cases hm:m.wd="mix"
  . obtain⟨l,rfl⟩:=jw hm
    rw[jy];exact qEw λx hx=>hw x (by simp[hx])
  . have h1:=(hw m (by simp)).pos hm
    obtain⟨i1,i2⟩:=qEw (ms:=ms) (b:=b+m.l) λx hx=>hw x (by simp[hx]);rw[qAh hm];rw[qYz hm]at h1;refine⟨λx hx=>?_,List.Pairwise.cons i1 i2⟩;rcases YU.mp hx with rfl|hx
    . omega
    . have:=i1 x hx
      omega
theorem qNl(hw:∀m∈ms,Wf m):(0::jy 0 ms).Pairwise (· < ·):=List.Pairwise.cons (qEw hw).1 (qEw hw).2
theorem qT9{t i:Int}(h:cbF ms t=some (i,j))(hn:∀x∈ql 0 ms,x.2.1≠t):∃k:Nat,i=(k:Int)/\j=((k+1:Nat):Int)/\qY (ms.take (k+1))=t:=by
 have hb:nbF ms t=some (i,j):=by
  unfold cbF at h;split at h
  . split at h
    . rename_i q _;rw[q];exact h
    . cases h
  . cases h
 rcases qK0 hb with ⟨U,x,y,B,e,rfl,rfl,et,_⟩|⟨U,l,y,B,e,_,_,et,_⟩
 . refine⟨U.length,O,by omega,?_⟩
   rw[e,show U++x::y::B=(U++[x])++y::B by simp,ZI (by simp),qX,qK,qf,et];omega
 . refine YC ?_ (hn (0+qY U-l.fdiv 2,0+qY U,0+qY U+(l-l.fdiv 2)) ?_)
   . show 0+qY U=t
     omega
   . rw[e,jd]
     refine Yf _ ?_;rw[ql];simp
theorem qSp{k:Nat}{l:Int}{x:Int×Int×Int}(h:x∈ql 0 (ms.take k++[.mix l]++ms.drop k)):x∈ql 0 ms\/x.2.1=qY (ms.take k):=by
 have e:=jd (ms.take k) (ms.drop k) 0;rw[List.take_append_drop]at e;rw[e];rw[jd,jd,YO,YO]at h;rw[YO];rcases h with (h|h)|h
 . exact .inl (.inl h)
 . rw[ql,ql]at h
   rw[YY]at h;right;rw[h];dsimp only;omega
 . rw[qX,qK,qf,show (Im.mix l).mo=0 from rfl,Yc,Yc]at h
   exact .inl (.inr h)
inductive qH5(vs:List V)(H:Hp)(Q:VK)(_:XK):Prop
|mk (tz re:Addr) (ts:List (List Im)) (tie:List Int) (A c:Int) (_:vs=[.ref tz,.ref re,.int c]) (_:TabF H (.ref tz) ts tie) (_:TB A 50 11 ts tie) (_:(∀ms∈ts,GT A 50 5 ms/\∀m∈ms,m.wd≠"mix")) (_:RE H re A) (_:0<=c) (_:c<2147483700) (_:∀(t':Addr) (ts':List (List Im)) (H':Hp),Same H H'->TabF H' (.ref t') ts' tie->TB A 50 11 ts' tie->Q (.ref t') H')
theorem qHy(T:Tx K mg a):FnOk P w K mg base CX0 11 a.A83 a.B83 ["_law_table_here","_law_reels_here","_law_cell"] qH5:=by
 refine oL T.D83.F jb λ_ _ _ _ H vs Q _ hr h _ Y=>?_;obtain⟨tz,re,ts,tie,A',c,rfl,hT,hM,hI,hre,c0,c1,kk⟩:=h;apply Y;refine⟨_,(qD (xj PassesOwn.never rfl (vi rfl T.b_range (qA (qd jM rfl T.b_len rfl (qA (qI (pv 0)) qB)) qB)) (jX (i:=3) jb.nd rfl (Or.inl rfl)) (qF (xj PassesOwn.never rfl (jc (qJ T.D26 (qBh T) hr rfl (qA (jP qo (qI (pv 0)) (pv 3) (λ_ _=>rfl)) qB))) (jX (i:=4) jb.nd rfl (Or.inl rfl)) (qD (qZ 2 jb.nd (qQ qq (qQ qm (qQ jK (pv 2) qG) qG) qG))
  (qD (xV (qUb .none jb.nd rfl T.c_NoPlace (λ_ _=>(qF (qZ 5 jb.nd (qSq T.D41 (qCr T) hr rfl (qA (jP (qMd (K:=K) rfl) (jP (qHk (K:=K) rfl) (pv 0) qG (λ_ _=>rfl)) (pv 3) (λ_ _=>rfl)) (qA (pv 4) (qA (pv 1) qB))))))) (λ_ _=>(qF (qZ 5 jb.nd qG)))))
  (qF (qc (qNe (PW.pt (zn (qL wM (pv 5) qG (qR _)) (xX (qL wM (qQ qq (qQ qj (pv 2) qG) qG) qG (qR _)))))) (qF (qZ 0 jb.nd (qJ T.D70 (qCs T) hr rfl (qA (pv 0) (qA (qh (qA qN (qA (pv 3) (qA (pv 4) (qA (qQ qm qG (qQ qq (qQ qj (pv 2) qG) (qd (zf rfl) rfl T.b_min rfl (qA (pv 5) (qA qG qB))))) qB))))) (qA (pv 1) qB)))))) qO)))))))
  (qF (qM (pv 0)))),?_⟩
 try dsimp only[jV,qk]
 refine qS λ_ Y=>?_;obtain⟨tt,tl,ti,zs,e0,g2,g3,g4,g5⟩:=id hT;cases e0;apply Y;have hzl:=g4.len;have l3:=hM.l3;refine⟨_,O,tz,_,_,_,O,O,SqT.of g2,at0,tl,zs,O,.inl (SqL.of g3),_,O,by omega,by omega,qBo (n:=((zs.length:Nat):Int).toNat) (λi σ H'=> ∃(t1:Addr) (ts1:List (List Im)) (c:Int) (o1 o2 o3:Option V),σ=[some (.ref t1),some (.ref re),some (.int c),o1,o2,o3]/\TabF H' (.ref t1) ts1 tie/\TB A' 50 11 ts1 tie/\(∀k ms,i<=k->ts1[k]?=some ms->GT A' 50 5 ms/\∀m∈ms,m.wd≠"mix")/\0<=c/\c<2147483700/\Same H H')
  ⟨tz,ts,c,none,none,none,rfl,hT,hM,λk ms _ hk=>hI ms (YF hk),c0,c1,Same.refl _⟩ ?_ ?_⟩
 . rintro i σ H' hi hZ_
   refine qS λ_ Y=>?_;obtain⟨t1,ts1,c,o1,o2,o3,rfl,hT1,hM1,hI1,c0,c1,e⟩:=hZ_;apply Y;refine qS λ_ Y=>?_;obtain⟨_,tl1,ti1,zs1,e0,q2,q3,q4,q5⟩:=id hT1;cases e0;have hzl1:=q4.len;have l31:=hM1.l3;obtain⟨v1,hv1⟩:∃v,zs1[i]?=some v:=⟨_,YD (by omega)⟩;obtain⟨ms0,z,hms,rfl,tT⟩:=q4.get hv1;have ai:atI zs1 (0+(i:Int))=some (.ref z):=by rw[Yp];exact q8 hv1
   obtain⟨m5,mT⟩:=hI1 i ms0 (YI _) hms;apply Y;refine(ixO q2 at0 ⟨_,rfl,tl1,_,_,_,rfl,rfl,SqL.of q3,ai,z,ms0,rfl,tT,by have:=m5.ct;omega,λy H2 e2 hy hy2=>?_⟩);have hpw:=qNl m5.wf;have hbl:(0::jy 0 ms0).length<=6:=by rw[YE];have:=qEt 0 ms0;have:=m5.ct;omega
   refine⟨y,rfl,⟨_,SqL.of hy2⟩,j8 (K:=K) (a:=y) (xs:=(0::jy 0 ms0).map V.int) (λj σ H'=> ∃(t2:Addr) (ms:List Im) (c:Int) (o2 o3:Option V),σ=[some (.ref t2),some (.ref re),some (.int c),some (.int (0+(i:Int))),o2,o3]/\TabF H' (.ref t2) (ts1.set i ms) tie/\GT A' 50 (5+j) ms/\(∀x∈ql 0 ms,∀k t,j<=k->(0::jy 0 ms0)[k]?=some t->x.2.1<t)/\0<=c/\c<2147483700/\Same H2 H') ⟨t1,ms0,c,o2,o3,rfl,?_,m5,(λx hx=>by rw[qQ7 mT]at hx;cases hx),c0,c1,Same.refl _⟩ ?_ ?_ ?_⟩
   . rw[qS7 hms];exact hT1.same e2
   . rintro j σ H3 hj hZ_
     refine qS λ_ Y=>?_;obtain⟨t2,ms,c,o2,o3,rfl,_,_,_,_,_,e3⟩:=hZ_;apply Y;exact SqL.of (e3 _ _ hy2)
   . rintro j x σ H3 hx hZ_
     refine qS λ_ Y=>?_;obtain⟨t2,ms,c,o2,o3,rfl,hT2,hW,hsp,c0,c1,e3⟩:=hZ_;apply Y;refine qS λ_ Y=>?_;obtain⟨t,ht,rfl⟩:∃t:Int,(0::jy 0 ms0)[j]?=some t/\x=.int t:=by
      rw[Yj]at hx;cases hq:(0::jy 0 ms0)[j]? with
      |none=>rw[hq]at hx;cases hx
      |some k=>rw[hq]at hx;cases hx;exact⟨k,rfl,rfl⟩
     apply Y;have hj5:j<=5:=by have h1:=(glt ht);omega
     have ht0:0<=t:=by
      rcases YU.mp (YF ht)with q|q
      . omega
      . exact Int.le_of_lt ((qEw m5.wf).1 t q)
     have hlt:∀k t',j+1<=k->(0::jy 0 ms0)[k]?=some t'->t<t':=λk t' hk h=>by obtain⟨a1,a2⟩:=Ya.mp ht;obtain⟨b1,b2⟩:=Ya.mp h;have:=List.pairwise_iff_getElem.mp hpw j k a1 b1 (by omega);rw[a2,b2]at this;exact this
     have hMs:=hM1.set i (YH _) (YI _) (hW.mono (YH _) (show 5+j<=11 by omega));have eH3:=(e.trans e2).trans e3;have hre3:=hre.same eH3;have hD3:=hMs.tabD (by decide) (by decide) hT2 hre3;have f0:=fm (c*48271+11) (show (0:Int)<2147483647 by decide);refine⟨_,O,_,_,O,O,cmR (by decide) (by decide),_,_,O,O,_,_,O,O,nz,?_⟩;dsimp only;generalize (c*48271+11).fmod 2147483647=c' at f0⊢;refine qS λ_ Y=>?_;obtain⟨_,tl2,ti2,zs2,e0,r2,r3,r4,r5⟩:=id hT2;cases e0;have hil:i<ts1.length:=by omega
     have hms2:(ts1.set i ms)[i]?=some ms:=by rw[List.getElem?_set,YB rfl,YB hil]
     obtain⟨v2,hv2⟩:∃v,zs2[i]?=some v:=⟨_,YD (by rw[r4.len,ZN];omega)⟩;obtain⟨ms',z2,hms',rfl,tT2⟩:=r4.get hv2;rw[hms2]at hms';cases hms';apply Y;have ai2:atI zs2 (0+(i:Int))=some (.ref z2):=by rw[Yp];exact q8 hv2
     refine⟨λσ H'=> ∃M:Int,σ=[some (.ref t2),some (.ref re),some (.int c'),some (.int (0+(i:Int))),some (.int t),some (.int M)]/\Same H3 H'/\(0<M->mmF (rlE A') ms t=some M),?_,?_⟩
     . refine⟨λB od σ' H'=>B=.ref a.k_NoPlace/\Same H3 H'/\σ'=[some (.ref t2),some (.ref re),some (.int c'),some (.int (0+(i:Int))),some (.int t),o3],?_,?_⟩
       . exact(ixO r2 at0 ⟨_,O,tl2,_,_,_,O,O,SqL.of r3,ai2,_,O,_,O,z2,re,ms,t,rlE A',O,tT2,(hD3.ok ms (YF hms2)).2.2,hD3.re,λ_ H' e'=>⟨O,e',O⟩,λM h H' e'=>⟨M,O,e',λ_=>h⟩⟩)
       . rintro ea ⟨B1,B2⟩ σ' H' ⟨hB,sH,rfl⟩ hn hl'
         dsimp only at hB;subst hB;exact⟨T.yPP,0,O,sH.trans (qE hn _),λh=>YC h (by decide)⟩
     rintro σ H4 ⟨M,rfl,e4,hMM⟩;refine⟨λb H'=>H'=H4/\(b=true->0<M),?_,?_⟩
     . refine⟨_,O,_,_,O,O,_,O,je (λq=>?_) (λ_=>⟨O,by simp⟩)⟩
       have hp:0<M:=by simpa using q
       exact⟨_,O,_,_,O,O,cdB (by decide) (by decide),_,_,O,O,nz,_,_,O,O,_,O,O,λ_=>hp⟩
     rintro b H' ⟨rfl,hp⟩;refine je (λcb=>?_) (λ_=>⟨t2,ms,c',_,_,O,hT2.same e4,hW.mono (YH _) (by omega),λx hx k t' hk h=>hsp x hx k t' (by omega) h,f0.1,by omega,e3.trans e4⟩);have hp:=hp cb;have hmm:=hMM hp;refine qS λ_ Y=>?_;obtain⟨i2,hc,hl2⟩:∃i2:Nat,cbF ms t=some ((i2:Int),((i2+1:Nat):Int))/\qY (ms.take (i2+1))=t:=by
      cases hq:cbF ms t with
      |none=>unfold mmF at hmm;rw[hq]at hmm;cases hmm
      |some x=>
       obtain⟨x,y⟩:=x;obtain⟨k,rfl,rfl,h⟩:=qT9 hq (λx hx=>Int.ne_of_lt (hsp x hx j t (YI _) ht));exact⟨k,O,h⟩
     apply Y;have hq:0<(if (5:Int)<M then 5 else M)/\(if (5:Int)<M then 5 else M)<=M/\(if (5:Int)<M then 5 else M)<=5:=by split <;> omega
     refine⟨_,O,_,O,_,O,_,O,_,_,O,O,cdB (by decide) (by decide),_,O,_,_,O,_,_,O,O,(by omega),_,_,O,O,qJ4,λp hp'=>?_⟩;have f1:=fm (c'.fdiv 21) hq.1;generalize (c'.fdiv 21).fmod (if (5:Int)<M then 5 else M)=u at f1;have w5:=qE hp' (.tup [.str "mix",.int (0+(i:Int)),.int t,.int (1+u)]);have e5:=e4.trans w5;refine⟨_,O,t2,p,re,rlE A',_,tie,_,O,hD3.same e5,.mix (n:=i) (i:=i2) (t:=t) (l:=1+u) (M:=M) (ms:=ms) (by rw[show HO.tup [V.str "mix",.int (i:Int),.int t,.int (1+u)]=HO.tup [V.str "mix",.int (0+(i:Int)),.int t,.int (1+u)] by rw[Yp]];exact qC) hms2 ht0 (by omega) hc hmm (by rw[YA (by omega)]),λt' H' e' hN=>?_⟩;refine⟨t',_,c',_,_,O,?_,hW.mixd (l:=1+u) hc hmm (by omega) (by omega),λx hx k t'' hk h=>?_,f0.1,by omega,(e3.trans e5).trans e'⟩
     . have hN':=hN
       rw[List.set_set]at hN';exact hN'
     . rcases qSp hx with q|q
       . exact hsp x q k t'' (by omega) h
       . rw[q,hl2]
         exact hlt k t'' hk h
   . rintro σ H3 hZ_
     refine qS λ_ Y=>?_;obtain⟨t2,ms,c,o2,o3,rfl,hT2,hW,hsp,c0,c1,e3⟩:=hZ_;apply Y;rw[YS]at hW;refine⟨t2,ts1.set i ms,c,_,_,_,O,hT2,hM1.set i (YH _) (YI _) (hW.mono (YH _) (by omega)),λk ms' hk h=>?_,c0,c1,(e.trans e2).trans e3⟩;rw[List.getElem?_set,YA (by omega)]at h;exact hI1 k ms' (by omega) h
 . rintro σ H' hZ_
   refine qS λ_ Y=>?_;obtain⟨t1,ts1,c,o1,o2,o3,rfl,hT1,hM1,hI1,c0,c1,e⟩:=hZ_;apply Y;exact⟨_,O,kk t1 ts1 _ e hT1 hM1⟩
inductive qFl(vs:List V)(H:Hp)(Q:VK)(_:XK):Prop
|mk (tz:Addr) (ts:List (List Im)) (tie:List Int) (_:vs=[.ref tz]) (_:TabF H (.ref tz) ts tie) (_:ts.length<=8) (_:∀(t:Addr) (H':Hp),Same H H'->TabF H' (.ref t) ts tie->Q (.ref t) H')
theorem qF2(T:Tx K mg a):FnOk P w K mg base CX0 1 a.A85 a.B85 ["_law_table_here"] qFl:=by
 refine oL T.D85.F qFy λ_ _ _ _ H _ _ _ hr h _ Y=>?_;obtain⟨tz,ts,tie,rfl,⟨tt,tl,ti,zs,e0,h2,h3,h4,h5⟩,hl,kk⟩:=h;cases e0;apply Y;have hzl:=h4.len;refine⟨_,(qF (qM (qh (qA (vq [] [] rfl (jc (qI (pv 0))) (λ_ _ _ _=>(zg (qBi (K:=K) rfl) rfl T.b_list rfl (qA (pv 0) qB)))) (qA (zg xt rfl T.b_list rfl (qA (qI (pv 0)) qB)) qB))))),?_⟩
 try dsimp only[jV,qk]
 refine(ixO h2 at0 ⟨tl,O,⟨_,SqL.of h3⟩,kI (K:=K) (a:=tl) (xs:=zs) (λj acc H2=>TrsAt H2 (ts.take j) acc/\Same H H2) ⟨trivial,Same.refl _⟩ ?_ ?_ ?_⟩)
 . rintro j acc H2 hj ⟨ht,e2⟩
   exact⟨SqL.of (e2 _ _ h3),qi (by rw[ht.len,Yk];omega)⟩
 . rintro j x acc H2 hj hx ⟨ht,e2⟩
   refine qS λ_ Y=>?_;obtain⟨ms1,z,hms,rfl,us,hz,his⟩:=h4.get hx;apply Y;refine⟨_,O,z,us,O,.inl (SqL.of (e2 _ _ hz)),λl hl'=>Nxt.mk hj ⟨?_,e2.trans (qE hl' _)⟩⟩;have w3:=qE hl' (.lst us);have etk:ts.take (j+1)=ts.take j++[ms1]:=by rw[Yt,hms];rfl
   rw[etk];exact qEc (ht.same w3) ⟨us,qC,his.ts (qV (e2.trans w3))⟩
 rintro acc H2 ⟨ht,e2⟩ d hd;rw[hzl,Yx]at ht;have w3:=qE hd (.lst acc);have e3:=e2.trans w3;refine(ixO (e3 _ _ h2) at1 ⟨ti,_,O,.inl (SqL.of (e3 _ _ h5)),λl hl'=>⟨sL2,λt ht'=>?_⟩⟩);have w5:=qE hl' (.lst (tie.map V.int));have w6:=qE ht' (.tup [.ref d,.ref l]);exact kk t _ ((e3.trans w5).trans w6) ⟨t,d,l,acc,O,qC,(w5.trans w6) _ _ qC,ht.same ((w3.trans w5).trans w6),w6 _ _ qC⟩
def qJg(n:Int):Int->List Int->Prop
 |_,[]=>True
 |l,x::r=>l<=x/\x<n/\qJg n (x+1) r
theorem qQi{n:Int}:∀{l:Int} {xs:List Int},qJg n l xs->(∀x∈xs,l<=x)/\xs.Nodup
 |_,[],_=>⟨(λx hx=>by cases hx),List.nodup_nil⟩
 |l,y::ys,h=>by
  obtain⟨h1,h2⟩:=qQi h.2.2;have h0:=h.1;refine⟨λx hx=>?_,List.nodup_cons.mpr ⟨λq=>by have:=h1 y q;omega,h2⟩⟩;rcases YU.mp hx with rfl|hx
  . exact h0
  . have:=h1 x hx;omega
theorem qRc{i:Int}(h0:0<=i)(h1:i<(xs.length:Int)):∃v,atI xs i=some v/\v∈xs:=by
 obtain⟨k,rfl⟩:=Int.eq_ofNat_of_zero_le h0;have hk:k<xs.length:=by omega
 exact⟨xs[k],q8 (YD hk),List.getElem_mem hk⟩
theorem TrsAt.sb{z:Addr}{H H':Hp}{us:List V}(e:SB z H H')(hz:H z=some (.lst us)):∀{ts:List (List Im)} {vs:List V},(∀b,V.ref b∈vs->b≠z)->TrsAt H ts vs->TrsAt H' ts vs
 |[],[],_,_=>trivial
 |_::_,v::vs,hn,⟨⟨y,h1,⟨ys,h2,h3⟩⟩,r⟩=>by subst h1;exact⟨⟨y,O,ys,e _ _ (hn y (by simp)) h2,h3.ts (e.ts hz)⟩,TrsAt.sb e hz (λb hb=>hn b (by simp[hb])) r⟩
 |[],_::_,_,h=>h.elim
 |_::_,[],_,h=>h.elim
theorem qUy(hA:60<=A/\A<360)(hl:ms.length<=5)(hT:∀m∈ms,TI A m)(hG:GG ms)(hL:qCv ms):GT A 50 5 ms:=by
 refine⟨λm hm=>(hT m hm).gi hA,⟨qWp ms false (λl hm=>((hT _ hm).gi hA).wf) hG hL (λe=>by cases e),qOy (λm hm=>(hT m hm).nm) none,qXh none λm hm=>⟨((hT m hm).gi hA).wf,(hT m hm).nm⟩⟩,?_,hl⟩;have key:∀xs:List Im,(∀m∈xs,TI A m)->qY xs<=10*(xs.length:Int):=by
  intro xs
  induction xs with
  |nil=>intro _;decide
  |cons x xs ih=>
   intro hx;have:=ih λm hm=>hx m (by simp[hm]);have:=(hx x (by simp)).mo;rw[qK,YE];omega
 have:=key ms hT;omega
inductive qIe(vs:List V)(H:Hp)(Q:VK)(_:XK):Prop
|mk (c:Int) (re:Addr) (A:Int) (_:vs=[.int c,.ref re,.int 3,.int 10]) (_:RE H re A) (_:∀(t':Addr) (ts:List (List Im)) (tie:List Int) (H':Hp),Same H H'->TabF H' (.ref t') ts tie->TB A 50 11 ts tie->qJg 3 0 tie->Q (.ref t') H')
theorem qG6(T:Tx K mg a):FnOk P w K mg base CX0 12 a.A84 a.B84 ["_law_cell","_law_reels_here","_law_tracks","_law_size"] qIe:=by
 refine oL T.D84.F zL λ_ _ _ _ H _ _ _ hr h _ Y=>?_;obtain⟨c,re,A',rfl,hre,kk⟩:=h;apply Y;refine⟨_,(qD (qMs (i:=4) zL.nd rfl (Or.inr rfl) (qJ T.D78 (wj T) hr rfl (qA (pv 0) (qA qG qB))))
  (qD (qZ 5 zL.nd (jP qo (q9 (qA (q9 qB) (qA (q9 (qA qG (qA qG qB))) (qA (q9 (qA qG (qA qG qB))) (qA (q9 (qA qG (qA qG (qA qG qB)))) (qA (q9 (qA qG qB)) qB)))))) (qQ qq (qQ qj (jo F.plainAttrs_list F.slot_list_pop F.type_list_pop jv (pv 4)) qG) qG) (λ_ _=>rfl)))
  (qD (qZ 6 zL.nd (qh (qA (vq ["_law_reels_here","_law_size","_law_xs"] [1,3,4] rfl (vi rfl T.b_range (qA (pv 2) qB)) (λ_ _ _ _=>(qJ T.D81 (qGl T) hr rfl (qA (pv 3) (qA (pv 1) (qA (pv 2) qB)))))) (qA (qGt ["_law_tracks"] [2] rfl (jc (pv 5)) (λ_ _ _ _=>(qL wN (pv 0) (pv 1) (qR _))) (λ_ _ _ _=>(pv 0))) qB))))
  (qD (qc (qL wM (qQ qq (qQ qj (jo F.plainAttrs_list F.slot_list_pop F.type_list_pop jv (pv 4)) qG) qG) qG (qR _)) (qF (qM (qJ T.D83 (qHy T) hr rfl (qA (pv 6) (qA (pv 1) (qA (qQ qm (qQ qq (pv 0) qG) qG) qB)))))) qO)
  (qF (qM (pv 6))))))),?_⟩
 try dsimp only[jV,qk]
 refine⟨_,O,c,200,O,by decide,by decide,λxz xs H1 e1 hxz hxs hxl _=>?_⟩;refine qS λ_ Y=>?_;obtain⟨y1,x1,rfl,l1⟩:=xF (n:=199) (by rw[hxl];decide);apply Y;refine⟨sL0,λa0 h0=>⟨sL2,λa1 h1=>⟨sL2,λa2 h2=>⟨sL3,λa3 h3=>⟨sL1,λa4 h4=>⟨sL5,λld hld=>?_⟩⟩⟩⟩⟩⟩;have w0:=qE h0 (.lst []);have w1:=qE h1 (.lst [.int 0,.int 1]);have w2:=qE h2 (.lst [.int 1,.int 2]);have w3:=qE h3 (.lst [.int 0,.int 1,.int 2]);have w4:=qE h4 (.lst [.int 2]);have w5:=qE hld (.lst [.ref a0,.ref a1,.ref a2,.ref a3,.ref a4]);have k0:upd H1 a0 (.lst []) a0=some (.lst []):=qC;generalize upd H1 a0 (.lst [])=G0 at*;have k1:upd G0 a1 (.lst [.int 0,.int 1]) a1=some (.lst [.int 0,.int 1]):=qC;generalize upd G0 a1 (.lst [.int 0,.int 1])=G1 at*;have k2:upd G1 a2 (.lst [.int 1,.int 2]) a2=some (.lst [.int 1,.int 2]):=qC;generalize upd G1 a2 (.lst [.int 1,.int 2])=G2 at*;have k3:upd G2 a3 (.lst [.int 0,.int 1,.int 2]) a3=some (.lst [.int 0,.int 1,.int 2]):=qC;generalize upd G2 a3 (.lst [.int 0,.int 1,.int 2])=G3 at*;have k4:upd G3 a4 (.lst [.int 2]) a4=some (.lst [.int 2]):=qC;generalize upd G3 a4 (.lst [.int 2])=G4 at*;have k5:upd G4 ld (.lst [.ref a0,.ref a1,.ref a2,.ref a3,.ref a4]) ld=some (.lst [.ref a0,.ref a1,.ref a2,.ref a3,.ref a4]):=qC;have nld:ld≠xz:=(qW ((w0.trans (w1.trans (w2.trans (w3.trans w4)))) _ _ hxs) hld).symm;generalize upd G4 ld (.lst [.ref a0,.ref a1,.ref a2,.ref a3,.ref a4])=G5 at*;have hx5:=((w0.trans (w1.trans (w2.trans (w3.trans w4)))).trans w5) _ _ hxs;refine⟨_,O,.inl ⟨O,_,SqL.of hx5⟩,qDp hx5 λH2 s2 hz2 _=>?_⟩;have f1:=fm (x1.fdiv 3) (show (0:Int)<5 by decide);refine qS λ_ Y=>?_;obtain⟨v,hv,hmem⟩:=qRc (xs:=[V.ref a0,.ref a1,.ref a2,.ref a3,.ref a4]) (i:=(x1.fdiv 3).fmod 5) f1.1 (show _<((5:Nat):Int) by omega);apply Y;refine⟨_,_,O,O,cdB (by decide) (by decide),_,_,O,O,nz,ld,_,_,v,O,O,SqL.of (s2 _ _ nld k5),hv,?_⟩;refine qS λ_ Y=>?_;obtain⟨li,is,rfl,hli,hil,hin,hti3⟩:∃(li:Addr) (is:List Int),v=.ref li/\G5 li=some (.lst (is.map V.int))/\is.length<=3/\(∀x∈is,∃k:Nat,x=(k:Int)/\k<3)/\qJg 3 0 is:=by
  simp only[YU,ZE,or_false]at hmem;rcases hmem with rfl|rfl|rfl|rfl|rfl
  . exact⟨a0,[],O,(w1.trans (w2.trans (w3.trans (w4.trans w5)))) _ _ k0,by simp,by simp,trivial⟩
  . exact⟨a1,[0,1],O,(w2.trans (w3.trans (w4.trans w5))) _ _ k1,by simp,(λx hx=>by
     simp only[YU,ZE,or_false]at hx;rcases hx with rfl|rfl
     . exact⟨0,O,by decide⟩
     . exact⟨1,O,by decide⟩),by simp[qJg]⟩
  . exact⟨a2,[1,2],O,(w3.trans (w4.trans w5)) _ _ k2,by simp,(λx hx=>by
     simp only[YU,ZE,or_false]at hx;rcases hx with rfl|rfl
     . exact⟨1,O,by decide⟩
     . exact⟨2,O,by decide⟩),by simp[qJg]⟩
  . exact⟨a3,[0,1,2],O,(w4.trans w5) _ _ k3,by simp,(λx hx=>by
     simp only[YU,ZE,or_false]at hx;rcases hx with rfl|rfl|rfl
     . exact⟨0,O,by decide⟩
     . exact⟨1,O,by decide⟩
     . exact⟨2,O,by decide⟩),by simp[qJg]⟩
  . exact⟨a4,[2],O,w5 _ _ k4,by simp,(λx hx=>by simp only[YU,ZE,or_false]at hx;subst hx;exact⟨2,O,by decide⟩),by simp[qJg]⟩
 apply Y;have w15:Same H1 G5:=(w0.trans (w1.trans (w2.trans (w3.trans w4)))).trans w5;have sH:SB xz H H2:=(jk (e1.trans w15)).trans s2;have nli:li≠xz\/li=xz:=by by_cases h:li=xz;exact .inr h;exact .inl h
 have nli:li≠xz:=by
  intro e;rcases (by simpa using hmem:V.ref li=.ref a0\/V.ref li=.ref a1\/V.ref li=.ref a2\/V.ref li=.ref a3\/V.ref li=.ref a4)with h|h|h|h|h
  . cases h;rw[e,hxs]at h0;cases h0
  . cases h;rw[e,w0 _ _ hxs]at h1;cases h1
  . cases h;rw[e,(w0.trans w1) _ _ hxs]at h2;cases h2
  . cases h;rw[e,(w0.trans (w1.trans w2)) _ _ hxs]at h3;cases h3
  . cases h;rw[e,(w0.trans (w1.trans (w2.trans w3))) _ _ hxs]at h4;cases h4
 have hli2:=s2 _ _ nli hli;have nre:re≠xz:=by
  rcases hre.1 with q|⟨o,q⟩
  . exact qW q hxz
  . exact qW q hxz
 clear w0 w1 w2 w3 w4 w5 k0 k1 k2 k3 k4 k5 h0 h1 h2 h3 h4 hld hmem hv;refine⟨_,O,3,O,by decide,by decide,qOg (n:=3) (λi acc H3=> ∃(ts:List (List Im)) (xs':List Int),TrsAt H3 ts acc/\ts.length=i/\(∀ms∈ts,GT A' 50 5 ms/\∀m∈ms,m.wd≠"mix")/\H3 xz=some (.lst (xs'.map V.int))/\199<=xs'.length+36*i/\(∀b,V.ref b∈acc->b≠xz)/\SB xz H2 H3) ⟨[],y1,trivial,O,by simp,hz2,by omega,by simp,SB.refl _ _⟩ ?_ ?_ ?_⟩
 . rintro i acc H3 hi ⟨ts,xs',hT,hl,_⟩
   exact qi (by rw[hT.len];omega)
 . rintro i acc H3 hi hZ_
   refine qS λ_ Y=>?_;obtain⟨ts,xs',hT,hl,hI,hz3,hlx,hne,sb⟩:=hZ_;apply Y;refine⟨_,O,_,O,_,O,xz,re,xs',A',O,hz3,by omega,hre.sb (sH.trans sb) nre,λy ms xs'' H4 s4 hy hz4 hl4 tT m5 mT mG mL=>?_⟩;have ny:y≠xz:=λe=>by rw[e,hz3]at hy;cases hy
   refine Nxt.mk hi ⟨ts++[ms],xs'',qEc (hT.sb s4 hz3 hne) tT,by simp[hl],λms' hm'=>?_,hz4,by omega,λb hb=>?_,sb.trans s4⟩
   . rcases YO.mp hm' with h|h
     . exact hI ms' h
     . rw[YY]at h;subst h;exact⟨qUy hre.2 m5 mT mG mL,λm hm=>(mT m hm).nm⟩
   . rcases YO.mp hb with h|h
     . exact hne b h
     . rw[YY]at h;cases h;exact ny
 rintro acc H3 ⟨ts,xs',hT,hl,hI,hz3,hlx,hne,sb⟩ tl htl;have w3:=qE htl (.lst acc);have kl:upd H3 tl (.lst acc) tl=some (.lst acc):=qC;have ntl:tl≠xz:=(qW hz3 htl).symm;generalize upd H3 tl (.lst acc)=H4 at w3 kl;have hli4:=w3 _ _ (sb _ _ nli hli2);refine⟨_,O,li,O,⟨_,SqL.of hli4⟩,qGe (K:=K) (a:=li) (xs:=is.map V.int) (λj acc H5=>acc=(is.take j).map V.int/\H5=H4) ⟨O,O⟩ ?_ ?_ ?_⟩
 . rintro j acc H5 hj ⟨rfl,rfl⟩
   refine⟨SqL.of hli4,qi ?_⟩;rw[YS,Yk];omega
 . rintro j x acc H5 hj hx ⟨rfl,rfl⟩
   refine qS λ_ Y=>?_;obtain⟨xi,hxi,rfl⟩:∃xi:Int,is[j]?=some xi/\x=.int xi:=by
    rw[Yj]at hx;cases hq:is[j]? with
    |none=>rw[hq]at hx;cases hx
    |some k=>rw[hq]at hx;cases hx;exact⟨k,rfl,rfl⟩
   obtain⟨k,rfl,hk⟩:=hin xi (YF hxi);apply Y;refine⟨_,O,_,O,_,_,O,O,_,O,je (λ_=>?_) (λc=>?_)⟩
   . refine⟨_,O,Nxt.mk hj ⟨?_,O⟩⟩
     rw[Yt,hxi];simp
   . exact YC (by simp;omega) c
 rintro acc' H5 ⟨rfl,rfl⟩ ti hti;rw[YS,Yx]at*;have w5:=qE hti (.lst (is.map V.int));have ki:upd H5 ti (.lst (is.map V.int)) ti=some (.lst (is.map V.int)):=qC;have nti:ti≠xz:=(qW (w3 _ _ hz3) hti).symm;generalize upd H5 ti (.lst (is.map V.int))=H6 at w5 ki;refine⟨sL2,λtz htz=>?_⟩;have w6:=qE htz (.tup [.ref tl,.ref ti]);have kz:upd H6 tz (.tup [.ref tl,.ref ti]) tz=some (.tup [.ref tl,.ref ti]):=qC;generalize upd H6 tz (.tup [.ref tl,.ref ti])=H7 at w6 kz;have w37:=w3.trans (w5.trans w6);have hz7:=w37 _ _ hz3;refine qS λ_ Y=>?_;obtain⟨y2,x2,rfl,l2⟩:=xF (xs:=xs') (n:=xs'.length-1) (by omega);apply Y;refine⟨_,O,.inl ⟨O,_,SqL.of hz7⟩,qDp hz7 λH8 s8 hz8 _=>?_⟩;have sb8:SB xz H H8:=((sH.trans sb).trans (jk w37)).trans s8;have e8:Same H H8:=λb u hb=>sb8 b u (qW hb hxz) hb;have hT8:TrsAt H8 ts acc:=(hT.same w37).sb s8 hz7 hne;have hF:TabF H8 (.ref tz) ts is:=⟨tz,tl,ti,acc,rfl,s8 _ _ (qQv kz hz7 (by intro q;cases q)) kz,s8 _ _ ntl ((w5.trans w6) _ _ kl),hT8,s8 _ _ nti (w6 _ _ ki)⟩;have hM:TB A' 50 11 ts is:=⟨hl,λms hm=>(hI ms hm).1.mono (YH _) (by decide),hil,λx hx=>by rw[hl];exact hin x hx⟩;refine⟨_,_,O,O,cdB (by decide) (by decide),_,_,O,O,nz,_,_,O,O,_,O,je (λ_=>?_) (λ_=>?_)⟩
 . have f0:=fm c (show (0:Int)<2147483647 by decide)
   refine⟨_,O,_,O,_,O,_,_,O,O,nz,_,_,O,O,tz,re,ts,is,A',_,O,hF,hM,hI,hre.same e8,by omega,by omega,λt' ts' H9 e9 hT9 hM9=>?_⟩;exact kk t' ts' is H9 (e8.trans e9) hT9 hM9 hti3
 . exact⟨_,O,kk tz ts is _ e8 hF hM hti3⟩
theorem qN3{α:Type}{xs:List α}(h:xs.length=n+1):∃o r,xs=o::r/\r.length=n:=by
 cases xs with
 |nil=>cases h
 |cons o r=>exact⟨o,r,rfl,Nat.succ.inj h⟩
noncomputable def qZ7:Res->Str
 |.place=>"noplace"
 |.mixed=>"mixed"
 |.short m=>"short "++toString m
 |.good _=>""
inductive qJ1(K:W.Frag)(vs:List V)(H:Hp)(Q:VK)(_:XK):Prop
|mk (tz dz rd:Addr) (bk:Bool) (rl:Rls) (ts:List (List Im)) (tie:List Int) (n:Nat) (ms:List Im) (d:De) (l:Int) (_:vs=[.ref tz,.ref dz,.ref rd,.bl bk]) (_:TabD H tz rd rl ts tie) (_:ts[n]?=some ms) (_:DeAt H dz n d) (_:DeOk H rd ms d) (_:((∀ts',kH rl ts tie n ms d≠ .good ts')->∀H',Same H H'->Q (.str (qZ7 (kH rl ts tie n ms d))) H')) (_:(∀m,kH rl ts tie n ms d=.short m-> -4<=m/\m<=4)) (_:∀ts',kH rl ts tie n ms d=.good ts'->(bk=false->∀(t':Addr) (H':Hp),Same H H'->TabF H' (.ref t') ts' tie->Q (.ref t') H')/\(bk=true->(∀t,d=.unm t->∃i:Nat,cbF ms t=some ((i:Int),((i+2:Nat):Int))/\ms[i+1]?=some (.mix l))/\(∀e,d=.chg e->0<=e.t/\e.t<=2 ^ 500)/\∀(y:Addr) (H':Hp),Same H H'->DL H' y (qLw ts tie n l d)->Q (.ref y) H'))
theorem qCx(T:Tx K mg a):FnOk P w K mg base CX0 12 a.A87 a.B87 ["_law_table_here","_law_deed","_law_reels_here","_law_back"] (qJ1 K):=by
 refine oL T.D87.F jf λ_ _ _ _ H _ _ _ hr h _ Y=>?_;obtain⟨tz,dz,rd,bk,rl,ts,tie,n,ms,d,l,rfl,hP,hm,hA,hO,k0,km,k2⟩:=h;apply Y;generalize hR:kH rl ts tie n ms d=r at k0 km k2;obtain⟨Exn,hEx⟩:∃Exn:Value->Option Addr->Hp->Prop,Exn=λB od H'=>Same H H'/\((B=.ref a.k_NoPlace/\r=.place)\/(B=.ref a.k_Mixed/\r=.mixed)\/(B=.ref a.k_Short/\∃m dx,r=.short m/\od=some dx/\H' dx=some (.xd [("most",.int m)]))):=⟨_,rfl⟩;refine⟨_,(qD (qZ 4 jf.nd qBa)
  (qD (qVa (Exn) jf.nd (λ_=>(qF (qc (jO (pv 3)) (qF (qZ 4 jf.nd (xM T.D76 (qLl T) hr rfl (qA (pv 0) (qA (pv 1) (qA (pv 2) qB)))))) (qF (qZ 4 jf.nd (xM T.D70 (zW T) hr rfl (qA (pv 0) (qA (pv 1) (qA (pv 2) qB))))))))) (PHs.cons .none rfl T.c_NoPlace (λ_ _=>(qF (qZ 4 jf.nd qN))) (PHs.cons .none rfl T.c_Mixed (λ_ _=>(qF (qZ 4 jf.nd qN))) (PHs.cons (.some (i:=5) rfl rfl) rfl T.c_Short (λ_ _=>(qF (qZ 4 jf.nd (qQ qNz qN (zg qIl rfl T.b_str rfl (qA (qRo (K:=K) rfl (pv 5)) qB)))))) PHs.nil))))
  (qF (qM (pv 4))))),?_⟩
 try dsimp only[jV,qk]
 subst hEx;refine⟨?_,?_⟩
 . refine⟨_,O,_,O,?_⟩
   refine je (λcb=>?_) (λcb=>?_)
   . subst cb
     refine⟨_,O,_,O,_,O,tz,dz,rd,rl,ts,tie,n,ms,d,r,l,O,hP,hm,hA,hO,hR.symm,λh H' e=>⟨e,.inl ⟨O,h⟩⟩,λh H' e=>⟨e,.inr (.inl ⟨O,h⟩)⟩,λm h dx H' e hx=>⟨e,.inr (.inr ⟨O,m,dx,h,O,hx⟩)⟩,λts' h=>?_⟩;refine qS λ_ Y=>?_;obtain⟨b1,b2,b3⟩:=(k2 ts' h).2 rfl;apply Y;exact⟨b1,b2,λy H' e hN=>⟨_,O,b3 y H' e hN⟩⟩
   . have cb:=Bool.eq_false_iff.mpr cb
     subst cb;refine⟨_,O,_,O,_,O,tz,dz,rd,rl,ts,tie,r,O,hP,⟨n,ms,d,hm,hA,hO,hR.symm⟩,λh H' e=>⟨e,.inl ⟨O,h⟩⟩,λh H' e=>⟨e,.inr (.inl ⟨O,h⟩)⟩,λm h dx H' e hx=>⟨e,.inr (.inr ⟨O,m,dx,h,O,hx⟩)⟩,λts' h t' H' e hN=>?_⟩;exact⟨_,O,(k2 ts' h).1 rfl t' H' e hN⟩
 . rintro ea ⟨B1,B2⟩ σ' H' ⟨sH,hB⟩ hn hl'
   refine qS λ_ Y=>?_;obtain⟨o1,r1,rfl,h1⟩:=qN3 hl';obtain⟨o2,r2,rfl,h2⟩:=qN3 h1;obtain⟨o3,r3,rfl,h3⟩:=qN3 h2;obtain⟨o4,r4,rfl,h4⟩:=qN3 h3;obtain⟨o5,r5,rfl,h5⟩:=qN3 h4;obtain⟨o6,r6,rfl,h6⟩:=qN3 h5;apply Y;cases List.eq_nil_of_length_eq_zero h6;have eo:∀o:HO,Same H (upd H' ea o):=λo=>sH.trans (qE hn _);rcases hB with ⟨e1,h⟩|⟨e1,h⟩|⟨e1,m,dx,h,e2,hx⟩
   . dsimp only at e1;subst e1
     rw[h]at k0;exact⟨true,T.yPP,j5 ⟨_,rfl,k0 (λ_ z=>by cases z) _ (eo _)⟩⟩
   . dsimp only at e1;subst e1
     rw[h]at k0;exact⟨false,T.yMP,jH ⟨true,T.yMM,j5 ⟨_,rfl,k0 (λ_ z=>by cases z) _ (eo _)⟩⟩⟩
   . dsimp only at e1;subst e1
     obtain⟨hlog,hlen⟩:m.natAbs.log2<1920/\("short ":Str).length+(Str.ofString (toString m)).length<=sizeLine:=by
      obtain⟨m0,m1⟩:=km m h;have c:∀i:Fin 9,((i.val:Int)-4).natAbs.log2<1920/\("short ":Str).length+(Str.ofString (toString ((i.val:Int)-4))).length<=sizeLine:=by decide+kernel
      have e:m=(((m+4).toNat:Nat):Int)-4:=by omega
      rw[e];exact c ⟨(m+4).toNat,by omega⟩
     rw[h]at k0;refine⟨false,T.ySP,jH ⟨false,T.ySM,jH ⟨true,T.ySS,j5 ?_⟩⟩⟩;have e2':B2=some dx:=e2;subst e2';have w1:=qE hn (qE4 ea (.ref a.k_Short,some dx));have hE:(upd H' ea (qE4 ea (.ref a.k_Short,some dx))) ea=some (qE4 ea (.ref a.k_Short,some dx)):=qC;refine⟨_,O,ea,_,dx,_,_,O,hE,w1 _ _ hx,O,T.e_Short,T.m_Short.hd,T.f_most,m,O,hlog,?_⟩;exact⟨_,_,rfl,rfl,hlen,_,rfl,k0 (λ_ z=>by cases z) _ (sH.trans w1)⟩
theorem qL3:∀(ms:List Im) (b:Int),Nn ms->∀x∈jy b ms,b<=x/\x<=b+qY ms
 |[],b,_,x,h=>by cases h
 |m::ms,b,hn,x,h=>by
  have h0:=hn m (by simp);have h1:=Nn.len hn.tail;rw[qK];have key:∀x,x=b+m.mo\/x∈jy (b+m.mo) ms->b<=x/\x<=b+(m.mo+qY ms):=λx q=>by
   rcases q with rfl|q
   . omega
   . have:=qL3 ms (b+m.mo) hn.tail x q
     omega
  cases m with
  |mix l=>
   have e:(Im.mix l).mo=0:=rfl;rw[jy]at h;have:=qL3 ms b hn.tail x h;omega
  |clip n p q r s l=>exact key x (YU.mp h)
  |nest n b' l=>exact key x (YU.mp h)
  |gap l=>exact key x (YU.mp h)
theorem qR4{x:V}:∃v,atI (x::xs) (-1)=some v/\v∈x::xs:=by
 refine⟨(x::xs)[xs.length]'(by simp),?_,List.getElem_mem _⟩;have e:atI (x::xs) (-1)=(x::xs)[xs.length]?:=by unfold atI ixN;rw[YE,YA (by omega),YB (by omega)];show (x::xs)[((-1:Int)+((xs.length+1:Nat):Int)).toNat]?=_;congr 1;omega
 rw[e];exact YD (by simp)
theorem qSu{xs:List Int}{x l:Int}(hp:(x::xs).Pairwise (· < ·))(h:atI ((x::xs).map V.int) (-1)=some (.int l)):∀y∈x::xs,y<=l:=by
 have e:atI ((x::xs).map V.int) (-1)=((x::xs).map V.int)[xs.length]?:=by unfold atI ixN;rw[YS,YE,YA (by omega),YB (by omega)];show ((x::xs).map V.int)[((-1:Int)+((xs.length+1:Nat):Int)).toNat]?=_;congr 1;omega
 rw[e,Yj]at h;have hl:xs.length<(x::xs).length:=by simp
 rw[YD hl]at h;have h:(x::xs)[xs.length]=l:=by simpa using h
 intro y hy;obtain⟨i,hi,rfl⟩:=ZF.mp hy;by_cases c:i=xs.length
 . subst c;omega
 . have:=List.pairwise_iff_getElem.mp hp i xs.length hi hl (by rw[YE]at hi;omega)
   omega
theorem inS{w:Str}:∀{ws:List Str},inV (.str w) (ws.map V.str)=decide (w∈ws):=λ{ws}=>by unfold inV;rw[Yv];simp[eqV]
def Wds(w:Str):Prop:=w="cut"\/w="heal"\/w="unmix"\/w="close"\/w="lift"\/w="roll"\/w="slip"\/w="slide"\/w="open"\/w="mix"\/w="lay_in"\/w="lay_over"
inductive qC9(vs:List V)(H:Hp)(Q:VK)(_:XK):Prop
|mk (zx tz re:Addr) (xs:List Int) (ts:List (List Im)) (tie:List Int) (A M:Int) (c:Nat) (H0:Hp) (_:vs=[.ref zx,.ref tz,.ref re]) (_:H zx=some (.lst (xs.map V.int))) (_:12<=xs.length) (_:H0 zx=none) (_:Same H0 H) (_:TabF H0 (.ref tz) ts tie) (_:TB A M c ts tie) (_:c<=100) (_:RE H0 re A) (_:∀(dz:Addr) (n:Nat) (d:De) (H':Hp),Same H0 H'->n<3->DeAt H' dz n d->DeN A M d->Q (.ref dz) H')
theorem qDj(T:Tx K mg a):FnOk P w K mg base CX0 4 a.A86 a.B86 ["_law_xs","_law_table_here","_law_reels_here"] qC9:=by
 refine oL T.D86.F jA λ_ _ _ _ H vs Q _ hr h _ Y=>?_;obtain⟨zx,tz,re,xs,ts,tie,A',M,c,H0,rfl,hz,hl,hz0,e0,hT,hB,hc,hre,kk⟩:=h;obtain⟨k,hk⟩:∃k,xs.length=k+12:=⟨xs.length-12,by omega⟩;obtain⟨y1,x1,rfl,l1⟩:=xF (n:=k+11) hk;obtain⟨y2,x2,rfl,l2⟩:=xF (n:=k+10) l1;obtain⟨y3,x3,rfl,l3⟩:=xF (n:=k+9) l2;obtain⟨y4,x4,rfl,l4⟩:=xF (n:=k+8) l3;obtain⟨y5,x5,rfl,l5⟩:=xF (n:=k+7) l4;apply Y;refine⟨_,(qD (qZ 3 jA.nd (qQ qq (qQ qj (jo F.plainAttrs_list F.slot_list_pop F.type_list_pop jv (pv 0)) qG) (qd jM rfl T.b_len rfl (qA (qI (pv 1)) qB))))
  (qD (qZ 4 jA.nd (qJ T.D26 (qBh T) hr rfl (qA (jP qo (qI (pv 1)) (pv 3) (λ_ _=>rfl)) qB)))
  (qD (qZ 5 jA.nd (jP qo (q9 (qA qN (qA qN (qA qN (qA qN (qA qN (qA qN (qA qN (qA qN (qA qN (qA qN (qA qN (qA qN qB))))))))))))) (qQ qq (qQ qj (jo F.plainAttrs_list F.slot_list_pop F.type_list_pop jv (pv 0)) qG) qG) (λ_ _=>rfl)))
  (qD (qZ 6 jA.nd qG)
  (qD (xV (qc (PW.pt (zn (qL wM (qd jM rfl T.b_len rfl (qA (pv 4) qB)) qG (qR _)) (xX (qL wM (jP qo (pv 4) qG (λ_ _=>rfl)) qG (qR _))))) (qF (qZ 6 jA.nd (qQ jR (jP qo (pv 4) qG (λ_ _=>rfl)) qG))) qO))
  (qD (qZ 7 jA.nd (qQ qm (pv 6) (qQ qq (qQ qj (jo F.plainAttrs_list F.slot_list_pop F.type_list_pop jv (pv 0)) qG) (qQ qm (qQ jR (jP qo (pv 4) (wS zI qG) (λ_ _=>rfl)) (pv 6)) qG))))
  (qD (xV (qc (PW.pt (zn (qL jF (pv 5) (qh (qA qN (qA qN (qA qN (qA qN (qA qN (qA qN qB))))))) rfl) (xX (qL wM (qQ qq (qQ qj (jo F.plainAttrs_list F.slot_list_pop F.type_list_pop jv (pv 0)) qG) qG) qG (qR _))))) (qF (qZ 7 jA.nd (jP qo (pv 4) (qQ qq (qQ qj (jo F.plainAttrs_list F.slot_list_pop F.type_list_pop jv (pv 0)) qG) (qd jM rfl T.b_len rfl (qA (pv 4) qB))) (λ_ _=>rfl)))) qO))
  (qD (qc (qL jF (pv 5) (qh (qA qN (qA qN (qA qN qB)))) rfl) (qF (qM (qh (qA (pv 5) (qA (pv 3) (qA (pv 7) qB)))))) qO)
  (qD (qc (qL jF (pv 5) (qh (qA qN (qA qN qB))) rfl) (qF (qM (qh (qA (pv 5) (qA (pv 3) (qA (pv 7) (qA (qQ qm (qQ qm (pv 7) qG) (qQ qq (qQ qj (jo F.plainAttrs_list F.slot_list_pop F.type_list_pop jv (pv 0)) qG) qG)) qB))))))) qO)
  (qD (qc (qL jF (pv 5) (qh (qA qN (qA qN (qA qN qB)))) rfl) (qF (qM (qh (qA (pv 5) (qA (pv 3) (qA (pv 7) (qA (qQ jR (qQ qq (qQ qj (jo F.plainAttrs_list F.slot_list_pop F.type_list_pop jv (pv 0)) qG) qG) qG) qB))))))) qO)
  (qD (qc (qL jF (pv 5) (qh (qA qN (qA qN qB))) rfl) (qF (qM (qh (qA (pv 5) (qA (pv 3) (qA (pv 7) (qA (qQ qm qG (qQ qq (qQ qj (jo F.plainAttrs_list F.slot_list_pop F.type_list_pop jv (pv 0)) qG) qG)) qB))))))) qO)
  (qD (qc (qL jW (qQ qq (qQ qj (jo F.plainAttrs_list F.slot_list_pop F.type_list_pop jv (pv 0)) qG) qG) qG (qR _)) (qF (qM (qh (qA (pv 5) (qA (pv 3) (qA (pv 7) (qA (qh (qA qN (qA qN (qA (qQ qq (qQ qj (jo F.plainAttrs_list F.slot_list_pop F.type_list_pop jv (pv 0)) qG) qG) (qA (qQ qm qG (qQ qq (qQ qj (jo F.plainAttrs_list F.slot_list_pop F.type_list_pop jv (pv 0)) qG) qG)) qB))))) qB))))))) qO)
  (qF (qM (qh (qA (pv 5) (qA (pv 3) (qA (pv 7) (qA (qJ T.D80 (qCt T) hr rfl (qA (pv 0) (qA (pv 2) (qA qG qB)))) qB))))))))))))))))))),?_⟩
 try dsimp only[jV,qk]
 have sm:∀{H':Hp},SB zx H H'->Same H0 H':=λ{H'} e b u hb=>e b u (qW hb hz0) (e0 b u hb);refine qS λ_ Y=>?_;obtain⟨tt,tl,ti,zs,ett,g2,g3,g4,g5⟩:=id hT;cases ett;apply Y;have hzl:=g4.len;have l3':=hB.l3;refine⟨_,O,.inl ⟨O,_,SqL.of hz⟩,qDp hz λH1 s1 hz1 _=>?_⟩;have e1:=sm s1;have hlen:((zs.length:Nat):Int)=3:=by omega
 refine⟨_,_,O,O,cdB (by decide) (by decide),ixO (e1 _ _ g2) at0 ⟨tl,_,O,.inl (SqL.of (e1 _ _ g3)),_,_,O,O,(by omega),?_⟩⟩;dsimp only;rw[hlen];have f1:=fm (x1.fdiv 3) (show (0:Int)<3 by decide);obtain⟨n,hn⟩:=Int.eq_ofNat_of_zero_le f1.1;rw[hn]at f1⊢;have hn3:n<3:=by omega
 refine qS λ_ Y=>?_;obtain⟨v1,hv1⟩:∃v,zs[n]?=some v:=⟨_,YD (by omega)⟩;obtain⟨ms,z,hms,rfl,tT⟩:=g4.get hv1;apply Y;have hG:=hB.ms ms (YF hms);have hle:=hG.le;have hct:=hG.ct;refine(ixO (e1 _ _ g2) at0 ⟨_,O,tl,_,_,_,O,O,SqL.of (e1 _ _ g3),q8 hv1,z,ms,O,tT.same e1,by omega,λy H2 e2 hy hy2=>?_⟩);have nyz:y≠zx:=λq=>by rw[q,hz1]at hy;cases hy
 have hz2:=e2 _ _ hz1;have sb2:SB zx H H2:=s1.trans (jk e2);refine⟨(by show 12<=sizeLine;decide),λld hld=>?_⟩;have w3:=qE hld (.lst [.str "cut",.str "heal",.str "lay_in",.str "lay_over",.str "open",.str "close",.str "lift",.str "roll",.str "slip",.str "slide",.str "mix",.str "unmix"]);have nld:ld≠zx:=(qW hz2 hld).symm;have hz3:=w3 _ _ hz2;refine⟨_,O,.inl ⟨O,_,SqL.of hz3⟩,qDp hz3 λH3 s3 hz3' _=>?_⟩;have f2:=fm (x2.fdiv 3) (show (0:Int)<12 by decide);refine qS λ_ Y=>?_;obtain⟨v,hv,hmem⟩:=qRc (xs:=[V.str "cut",.str "heal",.str "lay_in",.str "lay_over",.str "open",.str "close",.str "lift",.str "roll",.str "slip",.str "slide",.str "mix",.str "unmix"]) (i:=(x2.fdiv 3).fmod 12) f2.1 (show _<((12:Nat):Int) by omega);apply Y;refine⟨_,_,O,O,cdB (by decide) (by decide),_,_,O,O,nz,ld,_,_,v,O,O,SqL.of (s3 _ _ nld qC),hv,?_⟩;refine qS λ_ Y=>?_;obtain⟨wd,rfl,hw⟩:∃wd:Str,v=.str wd/\Wds wd:=by unfold Wds;simp only[YU,ZE,or_false]at hmem;rcases hmem with rfl|rfl|rfl|rfl|rfl|rfl|rfl|rfl|rfl|rfl|rfl|rfl <;> exact⟨_,rfl,by simp⟩
 clear hmem hv;have sb3:SB zx H H3:=(sb2.trans (jk w3)).trans s3;have hy3:H3 y=some (.lst ((0::jy 0 ms).map V.int)):=s3 _ _ nyz (w3 _ _ hy2);have hbd:∀x∈0::jy 0 ms,0<=x/\x<=M:=λx hx=>by
  have:=Nn.len hG.nn;rcases YU.mp hx with rfl|hx
  . omega
  . have:=qL3 ms 0 hG.nn x hx
    omega
 have hbv:∀v∈(0::jy 0 ms).map V.int,∃x:Int,v=.int x/\0<=x/\x<=M:=λv hv=>by obtain⟨x,hx,rfl⟩:=List.mem_map.mp hv;exact⟨x,O,hbd x hx⟩
 obtain⟨vl,hvl,hvm⟩:=qR4 (x:=V.int 0) (xs:=(jy 0 ms).map V.int);obtain⟨last,rfl,la0,la1⟩:=hbv vl hvm;apply Y;have hmax:=qSu (qNl hG.wf) hvl;refine⟨λσ' H'=> ∃low:Int,σ'=[some (.ref zx),some (.ref tz),some (.ref re),some (.int (n:Int)),some (.ref y),some (.str wd),some (.int low),none]/\H'=H3/\0<=low/\low<=last,?_,?_⟩
 . refine⟨_,O,y,_,O,.inl (SqL.of hy3),_,_,O,O,_,O,je (λc=>?_) (λ_=>⟨0,O,O,YH 0,la0⟩)⟩
   have c1:1<(jy 0 ms).length+1:=by have:=ZM c;rw[YS,YE]at this;omega
   obtain⟨b1,hb1⟩:∃b,(0::jy 0 ms)[1]?=some b:=⟨_,YD (by rw[YE];exact c1)⟩;have ha1:atI ((0::jy 0 ms).map V.int) 1=some (.int b1):=by have:=q8 (j:=1) (v:=V.int b1) (xs:=(0::jy 0 ms).map V.int) (by rw[Yj,hb1];rfl);exact this
   have hb2:=hmax b1 (YF hb1);refine⟨_,O,y,_,_,_,O,O,SqL.of hy3,ha1,_,_,O,O,_,O,je (λc2=>?_) (λ_=>⟨0,O,O,YH 0,la0⟩)⟩;have c3:b1>1000:=ZM c2;exact⟨_,O,y,_,_,_,O,O,SqL.of hy3,ha1,_,_,O,O,_,O,O,by omega,by omega⟩
 rintro σ H3' ⟨low,rfl,rfl,lo0,lo1⟩;refine⟨_,O,_,O,.inl ⟨O,_,SqL.of hz3'⟩,qDp hz3' λH4 s4 hz4 _=>?_⟩;have hy4:=s4 _ _ nyz hy3;refine⟨_,_,O,O,cdB (by decide) (by decide),_,O,1,O,y,_,_,_,O,O,SqL.of hy4,hvl,_,O,_,_,O,O,_,_,O,O,_,_,O,O,(by omega),?_⟩;have f3:=fm (x3.fdiv 3) (show (0:Int)<last-low+4 by omega);dsimp only;generalize (x3.fdiv 3).fmod (last-low+4)=t00 at f3⊢;obtain⟨t0,et0⟩:∃t0,t0=low+t00:=⟨_,rfl⟩;refine⟨_,_,O,O,?_⟩;rw[<-et0];have sb4:=sb3.trans s4;refine⟨λσ' H'=> ∃(t:Int) (ys:List Int),σ'=[some (.ref zx),some (.ref tz),some (.ref re),some (.int (n:Int)),some (.ref y),some (.str wd),some (.int low),some (.int t)]/\SB zx H H'/\H' zx=some (.lst (ys.map V.int))/\7<=ys.length/\0<=t/\t<=M+4,?_,?_⟩
 . refine⟨_,O,(by show 6<=sizeLine;decide),λq hq=>?_⟩
   have w5:=qE hq (.tup [.str "heal",.str "roll",.str "mix",.str "unmix",.str "slide",.str "slip"]);have hz5:=w5 _ _ hz4;have hy5:=w5 _ _ hy4;refine⟨q,_,O,.inr (SqT.of qC),O,O,_,xf rfl,je (λ_=>?_) (λ_=>?_)⟩
   . change _
     generalize upd H4 q (.tup [.str "heal",.str "roll",.str "mix",.str "unmix",.str "slide",.str "slip"])=H5 at w5 hz5 hy5;have sb5:=sb4.trans (jk w5);refine⟨_,O,.inl ⟨O,_,SqL.of hz5⟩,qDp hz5 λH6 s6 hz6 _=>?_⟩;have hy6:=s6 _ _ nyz hy5;have sb6:=sb5.trans s6;refine⟨_,_,O,O,cdB (by decide) (by decide),_,_,O,O,nz,_,_,O,O,_,O,je (λ_=>?_) (λ_=>?_)⟩
     . refine⟨_,O,_,O,.inl ⟨O,_,SqL.of hz6⟩,qDp hz6 λH7 s7 hz7 _=>?_⟩
       have hy7:=s7 _ _ nyz hy6;have hyl:0<(((0::jy 0 ms).map V.int).length:Int):=by rw[YS,YE];omega
       have f5:=fm (x5.fdiv 3) hyl;refine qS λ_ Y=>?_;obtain⟨vm,hvm,hvi⟩:=qRc (xs:=(0::jy 0 ms).map V.int) f5.1 f5.2;obtain⟨tm,rfl,tm0,tm1⟩:=hbv vm hvi;apply Y;refine⟨_,_,O,O,cdB (by decide) (by decide),_,O,y,_,O,.inl (SqL.of hy7),_,_,O,O,(by omega),y,_,_,_,O,O,SqL.of hy7,hvm,?_⟩;exact⟨tm,y5,O,sb6.trans s7,hz7,by omega,tm0,by omega⟩
     . exact⟨t0,_,O,sb6,hz6,by omega,by omega,by omega⟩
   . exact⟨t0,_,O,sb4.trans (jk w5),hz5,by omega,by omega,by omega⟩
 clear hz hz1 hz2 hz3 hz3' hz4 hy2 hy3 hy4 s1 s3 s4 sb2 sb3 sb4 hvl hvm hk hl l1 l2 l3 l4 l5;rintro σ H5 hZ_;refine qS λ_ Y=>?_;obtain⟨t,ys,rfl,sb5,hz5,l7,t0',t1⟩:=hZ_;apply Y;have R:∀(ws:List Str) (b:Bool),inV (.str wd) (ws.map V.str)=b->(b=true->wd∈ws)/\(b=false->wd∉ws):=λws b h=>by rw[inS]at h;exact⟨λe=>ZM (h.trans e),λe=>of_decide_eq_false (h.trans e)⟩
 refine qS λ_ Y=>?_;obtain⟨m,hm⟩:∃m,ys.length=m+7:=⟨ys.length-7,by omega⟩;obtain⟨y6,x6,rfl,l6⟩:=xF (n:=m+6) hm;apply Y;have nre:re≠zx:=by
  rcases hre.1 with q|⟨o,q⟩
  . exact qW q hz0
  . exact qW q hz0
 have mem:∀{ws:List Str},inV (.str wd) (ws.map V.str)=true->wd∈ws:=λ{ws} h=>(R ws true h).1 rfl;have nme:∀{ws:List Str},¬inV (.str wd) (ws.map V.str)=true->wd∉ws:=λ{ws} h=>(R ws false (by cases q:inV (.str wd) (ws.map V.str)with|false=>rfl|true=>exact YC q h)).2 rfl;have fin:∀(dz:Addr) (d:De) (H':Hp),SB zx H H'->DeAt H' dz n d->DeN A' M d->Q (.ref dz) H':=λdz d H' e h1 h2=>kk dz n d H' (sm e) hn3 h1 h2;have j1:∀{G:Hp} {q:Addr} {o:HO},G q=none->SB zx H G->SB zx H (upd G q o):=λh1 h2=>h2.trans (jk (qE h1 _));have j2:∀{G:Hp} {q:Addr} {o u:HO},G q=none->G zx=some u->upd G q o zx=some u:=λh1 h2=>(qE h1 _) _ _ h2;refine⟨_,O,sL3,λq1 hq1=>⟨q1,_,O,.inr (SqT.of qC),O,O,_,xf rfl,je (λc=>?_) (λc=>?_)⟩⟩
 . have hm:=mem (ws:=["cut","heal","unmix"]) c
   refine⟨_,O,_,O,_,O,sL3,λdz hdz=>?_⟩;have e:=j1 (o:=.tup [.str wd,.int (n:Int),.int t]) hdz (j1 (o:=.tup [.str "cut",.str "heal",.str "unmix"]) hq1 sb5);simp only[YU,ZE,or_false]at hm;rcases hm with rfl|rfl|rfl
   . exact fin dz (.chg (.cut t)) _ e ⟨qC,nofun⟩ ⟨t0',t1⟩
   . exact fin dz (.hel t) _ e qC ⟨t0',t1⟩
   . exact fin dz (.unm t) _ e qC ⟨t0',t1⟩
 have n1:=nme (ws:=["cut","heal","unmix"]) c;have sb6:=j1 (o:=.tup [.str "cut",.str "heal",.str "unmix"]) hq1 sb5;have hz6:=j2 (o:=.tup [.str "cut",.str "heal",.str "unmix"]) hq1 hz5;change _;generalize upd H5 q1 (.tup [.str "cut",.str "heal",.str "unmix"])=H6 at sb6 hz6;refine⟨_,O,sL2,λq2 hq2=>⟨q2,_,O,.inr (SqT.of qC),O,O,_,xf rfl,je (λc=>?_) (λc=>?_)⟩⟩
 . have hm:=mem (ws:=["close","lift"]) c
   have sb7:=j1 (o:=.tup [.str "close",.str "lift"]) hq2 sb6;have hz7:=j2 (o:=.tup [.str "close",.str "lift"]) hq2 hz6;refine⟨_,O,_,O,_,O,_,O,_,_,O,O,_,O,.inl ⟨O,_,SqL.of hz7⟩,qDp hz7 λH8 s8 hz8 _=>?_⟩;have f6:=fm (x6.fdiv 3) (show (0:Int)<9 by decide);refine⟨_,_,O,O,cdB (by decide) (by decide),_,_,O,O,nz,_,_,O,O,qJ4,λdz hdz=>?_⟩;have e:=j1 (o:=.tup [.str wd,.int (n:Int),.int t,.int (t+1+(x6.fdiv 3).fmod 9)]) hdz (sb7.trans s8);simp only[YU,ZE,or_false]at hm;rcases hm with rfl|rfl
   . exact fin dz (.chg (.cls t (t+1+(x6.fdiv 3).fmod 9))) _ e ⟨qC,nofun⟩ ⟨t0',t1,by omega,by omega⟩
   . exact fin dz (.chg (.lft t (t+1+(x6.fdiv 3).fmod 9))) _ e ⟨qC,nofun⟩ ⟨t0',t1,by omega,by omega⟩
 have n2:=nme (ws:=["close","lift"]) c;have sb7:=j1 (o:=.tup [.str "close",.str "lift"]) hq2 sb6;have hz7:=j2 (o:=.tup [.str "close",.str "lift"]) hq2 hz6;change _;generalize upd H6 q2 (.tup [.str "close",.str "lift"])=H7 at sb7 hz7;refine⟨_,O,sL3,λq3 hq3=>⟨q3,_,O,.inr (SqT.of qC),O,O,_,xf rfl,je (λc=>?_) (λc=>?_)⟩⟩
 . have hm:=mem (ws:=["roll","slip","slide"]) c
   have sb8:=j1 (o:=.tup [.str "roll",.str "slip",.str "slide"]) hq3 sb7;have hz8:=j2 (o:=.tup [.str "roll",.str "slip",.str "slide"]) hq3 hz7;refine⟨_,O,_,O,_,O,_,O,.inl ⟨O,_,SqL.of hz8⟩,qDp hz8 λH9 s9 hz9 _=>?_⟩;have f6:=fm (x6.fdiv 3) (show (0:Int)<9 by decide);refine⟨_,_,O,O,cdB (by decide) (by decide),_,_,O,O,nz,_,_,O,O,qJ4,λdz hdz=>?_⟩;have e:=j1 (o:=.tup [.str wd,.int (n:Int),.int t,.int ((x6.fdiv 3).fmod 9-4)]) hdz (sb8.trans s9);have h3:Wd3 wd:=by unfold Wd3;simpa using hm
   exact fin dz (.rol wd t ((x6.fdiv 3).fmod 9-4)) _ e ⟨h3,qC⟩ ⟨h3,t0',t1,by omega⟩
 have n3:=nme (ws:=["roll","slip","slide"]) c;have sb8:=j1 (o:=.tup [.str "roll",.str "slip",.str "slide"]) hq3 sb7;have hz8:=j2 (o:=.tup [.str "roll",.str "slip",.str "slide"]) hq3 hz7;change _;generalize upd H7 q3 (.tup [.str "roll",.str "slip",.str "slide"])=H8 at sb8 hz8;refine⟨_,O,sL2,λq4 hq4=>⟨q4,_,O,.inr (SqT.of qC),O,O,_,xf rfl,je (λc=>?_) (λc=>?_)⟩⟩
 . have hm:=mem (ws:=["open","mix"]) c
   have sb9:=j1 (o:=.tup [.str "open",.str "mix"]) hq4 sb8;have hz9:=j2 (o:=.tup [.str "open",.str "mix"]) hq4 hz8;refine⟨_,O,_,O,_,O,_,O,.inl ⟨O,_,SqL.of hz9⟩,qDp hz9 λHa sa hza _=>?_⟩;have f6:=fm (x6.fdiv 3) (show (0:Int)<5 by decide);refine⟨_,_,O,O,cdB (by decide) (by decide),_,_,O,O,nz,_,_,O,O,qJ4,λdz hdz=>?_⟩;have e:=j1 (o:=.tup [.str wd,.int (n:Int),.int t,.int (1+(x6.fdiv 3).fmod 5)]) hdz (sb9.trans sa);simp only[YU,ZE,or_false]at hm;rcases hm with rfl|rfl
   . exact fin dz (.chg (.opn t (1+(x6.fdiv 3).fmod 5))) _ e ⟨qC,nofun⟩ ⟨t0',t1,by omega,by omega⟩
   . exact fin dz (.mix t (1+(x6.fdiv 3).fmod 5)) _ e qC ⟨t0',t1,by omega,by omega⟩
 have n4:=nme (ws:=["open","mix"]) c;have sb9:=j1 (o:=.tup [.str "open",.str "mix"]) hq4 sb8;have hz9:=j2 (o:=.tup [.str "open",.str "mix"]) hq4 hz8;change _;generalize upd H8 q4 (.tup [.str "open",.str "mix"])=H9 at sb9 hz9;have hwl:wd="lay_in"\/wd="lay_over":=by
  unfold Wds at hw;simp only[YU,ZE,or_false,not_or]at n1 n2 n3 n4;rcases hw with h|h|h|h|h|h|h|h|h|h|h|h
  . exact YC h n1.1
  . exact YC h n1.2.1
  . exact YC h n1.2.2
  . exact YC h n2.1
  . exact YC h n2.2
  . exact YC h n3.1
  . exact YC h n3.2.1
  . exact YC h n3.2.2
  . exact YC h n4.1
  . exact YC h n4.2
  . exact .inl h
  . exact .inr h
 have lay:∀(dz:Addr) (v:V) (m:Im) (H':Hp),SB zx H H'->H' dz=some (.tup [.str wd,.int (n:Int),.int t,v])->IsI H' m v->LayG A' m->Q (.ref dz) H':=λdz v m H' e h1 h2 h3=>by
  rcases hwl with rfl|rfl
  . exact fin dz (.chg (.lin t m)) H' e ⟨⟨v,h1,h2⟩,nofun⟩ ⟨t0',t1,h3⟩
  . exact fin dz (.chg (.lov t m)) H' e ⟨⟨v,h1,h2⟩,nofun⟩ ⟨t0',t1,h3⟩
 refine⟨_,O,.inl ⟨O,_,SqL.of hz9⟩,qDp hz9 λHa sa hza _=>?_⟩;have sba:=sb9.trans sa;refine⟨_,_,O,O,cdB (by decide) (by decide),_,_,O,O,nz,O,_,O,je (λ_=>?_) (λ_=>?_)⟩
 . obtain⟨y7,x7,rfl,l7'⟩:=xF (n:=m+5) l6
   refine qS λ_ Y=>?_;obtain⟨y8,x8,rfl,l8⟩:=xF (n:=m+4) l7';apply Y;refine⟨_,O,_,O,_,O,_,O,.inl ⟨O,_,SqL.of hza⟩,qDp hza λHb sb hzb _=>?_⟩;have f7:=fm (x7.fdiv 3) (show (0:Int)<5 by decide);refine⟨_,_,O,O,cdB (by decide) (by decide),_,_,O,O,nz,_,O,.inl ⟨O,_,SqL.of hzb⟩,qDp hzb λHc sc hzc _=>?_⟩;have f8:=fm (x8.fdiv 3) (show (0:Int)<6 by decide);refine⟨_,_,O,O,cdB (by decide) (by decide),_,_,O,O,nz,_,_,O,O,qJ4,λg hg=>⟨qJ4,λdz hdz=>?_⟩⟩;have sbg:=j1 (o:=.tup [.str "nest",.str "low",.int ((x7.fdiv 3).fmod 5),.int (1+(x8.fdiv 3).fmod 6)]) hg ((sba.trans sb).trans sc);exact lay dz (.ref g) (.nest "low" ((x7.fdiv 3).fmod 5) (1+(x8.fdiv 3).fmod 6)) _ (j1 hdz sbg) qC ⟨g,O,(qE hdz _) _ _ qC⟩ (.inl ⟨_,_,O,f7.1,f7.2,by omega,by omega⟩)
 . refine⟨_,O,_,O,_,O,_,O,_,O,zx,re,y6,A',8,O,hza,by omega,hre.same (sm sba),by decide,by decide,λv m u' Hb sb hzb _ hcf hI=>⟨qJ4,λdz hdz=>?_⟩⟩
   exact lay dz v m _ (j1 hdz (sba.trans sb)) qC (hI.ts (qV (qE hdz _))) (.inr hcf)
inductive qLf(vs:List V)(H:Hp)(Q:VK)(_:XK):Prop
|mk (z:Addr) (ms:List Im) (f:Int) (_:vs=[.ref z,.int f]) (_:Tr H z ms) (_:ms.length<=100) (_:∀(y:Addr) (H':Hp),Same H H'->H y=none->Tr H' y (qUk ms f)->Q (.ref y) H')
theorem qLx(T:Tx K mg a):FnOk P w K mg base CX0 3 a.A88 a.B88 ["_law_track_here","_law_far_here"] qLf:=by
 refine oL T.D88.F qL2 λ_ _ _ _ H vs _ _ hr h _ Y=>?_;obtain⟨z,ms,f,rfl,tT,hl,kk⟩:=h;apply Y;have hu:=hr.units;refine⟨_,(qD (qc (qL (qTk hu) (pv 0) (q9 qB) (qR _)) (qF (qM (q9 qB))) qO)
  (qD (qc (qL jW (qI (jP qo (pv 0) qG (λ_ _=>rfl))) qN (qR _)) (qF (qM (qQ vH (q9 (qA (qh (qA qN (qA (qQ qm (qI (jP qo (pv 0) qG (λ_ _=>rfl))) (pv 1)) qB))) qB)) (zO vU (pv 0) (zZ qG) wA)))) qO)
  (qF (qM (qQ vH (q9 (qA (qh (qA qN (qA (pv 1) qB))) qB)) (pv 0)))))),?_⟩
 try dsimp only[jV,qk]
 refine⟨_,O,sL0,λen hen=>qXd (tT.same (qE hen _)) qC ⟨_,O,?_⟩⟩;have w1:=qE hen (.lst []);have tT1:=tT.same w1;change _;generalize upd H en (.lst [])=H1 at w1 tT1⊢;cases ms with
 |nil=>exact j5 ⟨sL0,λy hy=>kk y _ (w1.trans (qE hy _)) (w1.free hy) ⟨[],qC,trivial⟩⟩
 |cons m r=>
  refine qS λ_ Y=>?_;obtain⟨vs,hv,his⟩:=id tT1;apply Y;cases vs with
  |nil=>exact his.elim
  |cons v vs=>
  refine qS λ_ Y=>?_;obtain⟨hI,hr'⟩:=id his;obtain⟨zi,xi,rfl,hzi,a0,_⟩:=id hI.opn;apply Y;have hat:atI (V.ref zi::vs) 0=some (V.ref zi):=q8 (j:=0) (v:=V.ref zi) rfl;refine jH ?_;refine⟨_,O,z,_,_,_,O,O,SqL.of hv,hat,ixT (SqT.of hzi) a0 ⟨O,_,O,je (λc=>?_) (λc=>?_)⟩⟩
  . have hw:m.wd="gap":=by simpa using c
    obtain⟨l,rfl⟩:=xc hw;change _;have hz2:H1 zi=some (.tup [.str "gap",.int l]):=let ⟨_,e2,h2⟩:=hI;by cases e2;exact h2
    refine⟨_,O,z,_,_,_,O,O,SqL.of hv,hat,ixT (SqT.of hz2) at1 ⟨_,O,_,_,O,O,sL2,λg hg=>⟨sL1,λq hq=>?_⟩⟩⟩;have wg:=qE hg (.tup [.str "gap",.int (l+f)]);have wq:=qE hq (.lst [.ref g]);have ww:=wg.trans wq;refine⟨_,O,1,O,z,_,O,SqL.of (ww _ _ hv),λzc hzc=>?_⟩;have ec:zd (V.ref zi::vs) (some ((1:Nat):Int)) none=vs:=by unfold zd;rw[HT.sIx_nat,YE,show min 1 (vs.length+1)=1 by omega];show vs.take (vs.length+1-1)=vs;rw[Nat.add_sub_cancel,Yx]
    have ec':zd (V.ref zi::vs) (some 1) none=vs:=ec;rw[ec'];have wc:=qE hzc (.lst vs);have hlen:=his.len;rw[YE,YE]at hlen;rw[YE]at hl;refine⟨q,zc,_,_,O,O,wc _ _ qC,qC,(by show 1+vs.length<=sizeLine;exact wD (by omega)),λy hy=>?_⟩;have wy:=qE hy (.lst ([.ref g]++vs));have w3:=wc.trans wy;exact kk y _ ((w1.trans ww).trans w3) ((w1.trans (ww.trans wc)).free hy) ⟨_,qC,⟨g,O,(wq.trans w3) _ _ qC⟩,hr'.ts (qV (ww.trans w3))⟩
  . have hw:m.wd≠"gap":=by simpa using c
    refine⟨_,O,sL2,λg hg=>⟨sL1,λq hq=>?_⟩⟩;have wg:=qE hg (.tup [.str "gap",.int f]);have wq:=qE hq (.lst [.ref g]);have ww:=wg.trans wq;have hlen:=his.len;rw[YE,YE]at hlen;rw[YE]at hl;refine⟨_,O,q,z,_,_,O,O,qC,ww _ _ hv,(by show 1+(vs.length+1)<=sizeLine;exact wD (by omega)),λy hy=>?_⟩;have wy:=qE hy (.lst ([.ref g]++(V.ref zi::vs)));have e:qUk (m::r) f=.gap f::m::r:=by
     cases m with
     |gap l=>exact YC rfl hw
     |_=>rfl
    refine kk y _ ((w1.trans ww).trans wy) ((w1.trans ww).free hy) ?_;rw[e];exact⟨_,qC,⟨g,O,(wq.trans wy) _ _ qC⟩,his.ts (qV (ww.trans wy))⟩
theorem IsRw.get{H:Hp}:∀{ds:List (Nat×De)} {vs:List V} {i:Nat} {x:V},IsRw H ds vs->vs[i]?=some x->∃(g:Addr) (d:Nat×De),x=.ref g/\ds[i]?=some d/\DeAt H g d.1 d.2
 |[],[],_,_,_,h=>by cases h
 |d::_,_::_,0,_,h,e=>by obtain⟨g,rfl,hg⟩:=h.1;cases e;exact⟨g,d,rfl,rfl,hg⟩
 |_::_,_::_,i+1,_,h,e=>IsRw.get (i:=i) h.2 e
 |[],_::_,_,_,h,_=>h.elim
 |_::_,[],_,_,h,_=>h.elim
theorem qUe{g:Addr}{d:De}(h:DeAt H g n d):inV (.str d.wd) [.str "cut",.str "heal",.str "lay_in",.str "lay_over",.str "open",.str "close",.str "lift",.str "roll",.str "slip",.str "slide",.str "mix",.str "unmix"]=true:=by
 cases d with
 |hel t=>show inV (.str "heal") _=true;decide+kernel
 |mix t l=>show inV (.str "mix") _=true;decide+kernel
 |unm t=>show inV (.str "unmix") _=true;decide+kernel
 |rol w t b=>
  have h3:=h.1;clear h;show inV (.str w) _=true;rcases h3 with rfl|rfl|rfl <;> decide+kernel
 |chg d=>
  cases d with
  |cut t=>show inV (.str "cut") _=true;decide+kernel
  |hel t=>show inV (.str "heal") _=true;decide+kernel
  |opn t l=>show inV (.str "open") _=true;decide+kernel
  |cls t u=>show inV (.str "close") _=true;decide+kernel
  |lft t u=>show inV (.str "lift") _=true;decide+kernel
  |lin t m=>show inV (.str "lay_in") _=true;decide+kernel
  |lov t m=>show inV (.str "lay_over") _=true;decide+kernel
inductive qGp(vs:List V)(H:Hp)(Q:VK)(_:XK):Prop
|mk (z:Addr) (ds:List (Nat×De)) (_:vs=[.ref z]) (_:DL H z ds) (_:ds.length<=1000) (_:∀H',Same H H'->Q (.bl true) H')
theorem qHx(T:Tx K mg a):FnOk P w K mg base CX0 3 a.A89 a.B89 ["_law_row"] qGp:=by
 refine oL T.D89.F qBn λ_ _ _ _ H _ _ _ hr h _ Y=>?_;obtain⟨z,ds,rfl,⟨us,hz,hds⟩,hl,kk⟩:=h;apply Y;refine⟨_,(qD (qMs (i:=1) qBn.nd rfl (Or.inr rfl) (q9 (qA qN (qA qN (qA qN (qA qN (qA qN (qA qN (qA qN (qA qN (qA qN (qA qN (qA qN (qA qN qB))))))))))))))
  (qF (qM (zq (qd jh rfl T.b_isinstance rfl (qA (pv 0) (qA (qGm rfl T.b_list rfl) qB))) (vK (qd (qIv rfl) rfl T.b_all rfl (qA (vq ["_law_some"] [1] rfl (jc (pv 0)) (λ_ _ _ _=>(zq (qd (qC7 (K:=K) rfl) rfl T.b_isinstance rfl (qA (pv 0) (qA (qGm rfl T.b_tuple rfl) qB))) (vK (jn (qNx (K:=K) rfl) (jP (qHk (K:=K) rfl) (pv 0) qG (λ_ _=>rfl)) (pv 1) rfl))))) qB))))))),?_⟩
 try dsimp only[jV,qk]
 refine⟨(by show 12<=sizeLine;decide),λld hld=>?_⟩;have w0:=qE hld (.lst [.str "cut",.str "heal",.str "lay_in",.str "lay_over",.str "open",.str "close",.str "lift",.str "roll",.str "slip",.str "slide",.str "mix",.str "unmix"]);have hld1:upd H ld (.lst [.str "cut",.str "heal",.str "lay_in",.str "lay_over",.str "open",.str "close",.str "lift",.str "roll",.str "slip",.str "slide",.str "mix",.str "unmix"]) ld=some (.lst [.str "cut",.str "heal",.str "lay_in",.str "lay_over",.str "open",.str "close",.str "lift",.str "roll",.str "slip",.str "slide",.str "mix",.str "unmix"]):=qC;have hz1:=w0 _ _ hz;change _;generalize upd H ld (.lst [.str "cut",.str "heal",.str "lay_in",.str "lay_over",.str "open",.str "close",.str "lift",.str "roll",.str "slip",.str "slide",.str "mix",.str "unmix"])=H1 at w0 hld1 hz1⊢;have hd1:=hds.ts (qV w0);have hul:=hd1.len;refine⟨_,O,_,_,_,true,O,.lst hz1,⟨_,.inl ⟨O,by kernel_rfl⟩⟩,⟨true,O,j5 ?_⟩⟩;refine⟨_,O,z,O,⟨_,SqL.of hz1⟩,kI (K:=K) (a:=z) (xs:=us) (λi acc H'=>H'=H1/\acc=(List.replicate i true).map V.bl) ⟨O,O⟩ ?_ ?_ ?_⟩
 . rintro i acc H' hi ⟨rfl,rfl⟩
   exact⟨SqL.of hz1,by rw[YS,List.length_replicate];exact qi (by omega)⟩
 . rintro i x acc H' hi hx ⟨rfl,rfl⟩
   refine qS λ_ Y=>?_;obtain⟨g,d,rfl,_,hA⟩:=hd1.get hx;obtain⟨xs,hg,a0⟩:=hA.opn;apply Y;refine⟨_,O,_,_,_,true,O,.tup hg,⟨_,.inl ⟨O,by kernel_rfl⟩⟩,⟨true,O,j5 ?_⟩⟩;refine(ixO hg a0 ⟨_,O,ld,_,O,.inl (SqL.of hld1),O,O,?_⟩);refine Nxt.mk hi ⟨O,?_⟩;rw[YA (by decide),qUe hA,List.replicate_succ',Ys];rfl
 . rintro acc H' ⟨rfl,rfl⟩ y hy
   refine⟨y,_,O,SqL.of qC,?_⟩;have eall:(List.replicate us.length true).all id=true:=by simp
   rw[eall];exact kk _ (w0.trans (qE hy _))
theorem qUt(h:GT A M c ms){w:Str}{t:Int}(hw:Wd3 w)(hp:plF w ms t=some is)(b:Int):0<=qHd (rlE A) ms w is b:=by
 have cl:∀{i:Nat} {n:Str} {p q r s l N:Int},ms[i]?=some (.clip n p q r s l)->rlE A n=some N->1<=l/\0<=xK p q r s l N/\0<=xL p q r s N:=λ{i n p q r s l N} hm hr=>by obtain⟨N',g⟩:=h.it _ (YF hm);have:=g.rn;rw[hr]at this;cases this;exact⟨g.l1,(qBu (k0:=l) (e:=1) g.q0 g.s0 (.inl rfl) (λ_=>g.i0)).1,(qBu (k0:= -1) (e:= -1) g.q0 g.s0 (.inr rfl) (λ_=>g.i0)).1⟩
 rcases qWe (λn p q r s l hm=>let ⟨N,c⟩:=h.it _ hm;⟨N,c.rn⟩) hw hp with ⟨rfl,i,n,p,q,r,s,l,N,rfl,hm,hN,hv⟩|⟨_,_,i,j,n,p,q,r,s,l,N,n',p',q',r',s',l',N',_,_,_,_,_,hm,hm',hN,hN',hv⟩
 . have:=cl hm hN
   rw[(hv b).1];split <;> omega
 . have:=cl hm hN
   have:=cl hm' hN';rw[(hv b).1];unfold qB0;split <;> split <;> omega
theorem qY7{t:Int}(h:mmF rl ms t=some M):0<=M:=by
 unfold mmF at h;split at h
 . cases h
 . split at h
   . split at h
     . cases h
       unfold mmV qW4;split <;> split <;> omega
     . cases h
   . cases h
theorem qYy{ts:List (List Im)}(hg:GT A M c ms){d:De}(hd:DeN A M d){m:Int}(h:kH (rlE A) ts tie n ms d=.short m): -4<=m/\m<=4:=by
 cases d with
 |hel t=>
  rw[kH]at h;split at h
  . cases h
  . split at h <;> cases h
 |unm t=>
  rw[kH]at h;split at h
  . cases h
  . split at h <;> cases h
 |chg d=>
  rw[kH]at h;split at h
  . split at h <;> cases h
  . cases h
 |mix t l=>
  rw[kH]at h;split at h
  . cases h
  . split at h
    . split at h
      . cases h
      . rename_i M' hM
        split at h
        . cases h
          have:=qY7 hM;have:=hd.2.2.2;omega
        . cases h
    . cases h
 |rol w t b=>
  obtain⟨hw,_,_,hb⟩:=hd;rw[kH]at h;split at h
  . cases h
  . rename_i is hp
    split at h
    . cases h
    . split at h
      . cases h
      . rename_i hc
        cases h;have:=qUt hg hw hp b;unfold wb at hc;unfold sgM;split at hc <;> split <;> omega
theorem qEs(f:Int->List De){B:Nat}:∀ns:List Int,(∀k∈ns,(f k).length<=B)->(xN ns f).length<=ns.length*B
 |[],_=>by simp[xN]
 |k::ns,h=>by have h1:=h k (by simp);have h2:=qEs f ns λx hx=>h x (by simp[hx]);unfold xN at h2⊢;rw[List.flatMap_cons,YN,YS,YE,Nat.add_mul];omega
theorem qSb{ts:List (List Im)}{l:Int}{d:De}(ht:tie.length<=3)(hm:∀ms∈ts,ms.length<=14):(qLw ts tie n l d).length<=1000:=by
 have ch:∀push,(chF tie (n:Int) push).length<=4:=λpush=>by
  unfold chF;split
  . rw[YE]
    have:=List.length_filter_le (λx=>decide (x≠(n:Int))) tie;omega
  . simp
 have tr:∀k,(trI ts k).length<=14:=λk=>by
  unfold trI;cases q:ts[k.toNat]? with
  |none=>simp
  |some ms=>exact hm ms (YF q)
 have ra:∀push lo hi,(xN (chF tie (n:Int) push) (zp ts lo hi)).length<=64:=λpush lo hi=>by
  have:=qEs (zp ts lo hi) (B:=16) (chF tie (n:Int) push) λk _=>by have h1:=qIk lo hi (trI ts k);have h2:=tr k;unfold zp;omega
  have:=ch push;omega
 have rr:∀t,(xN (chF tie (n:Int) true) (qFk ts t)).length<=4:=λt=>by have:=qEs (qFk ts t) (B:=1) (chF tie (n:Int) true) λk _=>vk (trI ts k) [t];have:=ch true;omega
 cases d with
 |chg d=>
  cases d with
  |opn t l=>have:=rr t;show (_::xN _ _).length<=1000;rw[YE];omega
  |lin t m=>have:=rr t;show (_::xN _ _).length<=1000;rw[YE];omega
  |cls t u=>have:=ra true t u;show (_::xN _ _).length<=1000;rw[YE];omega
  |lft t u=>have:=ra false t u;show (xN _ _).length<=1000;omega
  |lov t m=>have:=ra false t (t+m.mo);show (_::xN _ _).length<=1000;rw[YE];omega
  |cut t=>show (1:Nat)<=1000;decide
  |hel t=>show (0:Nat)<=1000;decide
 |_=>show (1:Nat)<=1000;decide
theorem qT8{x y:Addr}{ts:List (List Im)}(h1:TabF H (.ref x) ts tie)(h2:TabF H (.ref y) ts tie)(q:Q (.bl false) H):qVu K true (.ref x) (.ref y) H Q:=by refine⟨tabD ts tie,tabD ts tie,h1.rep,h2.rep,rfl,by have:=(qL7 ts tie).2;omega,?_⟩;rw[(qL7 ts tie).1];exact q
theorem qUs(xs:List V)(a b:Nat):(zd xs (some (a:Int)) (some (b:Int))).length<=b-a:=by
 unfold zd;rw[HT.sIx_nat,HT.sIx_nat,Yk];refine ZD (Nat.min_le_left _ _) ?_;rcases Nat.le_total a xs.length with h|h
 . rw[Nat.min_eq_left h];exact Nat.sub_le_sub_right (Nat.min_le_left _ _) _
 . rw[Nat.min_eq_right h,Nat.sub_eq_zero_of_le (Nat.min_le_right _ _)];exact ZT _
set_option maxHeartbeats 8000000 in
theorem qWa(T:Tx K mg a):FnOk P w K mg base CX0 15 a.A90 a.B90 ["_law_script"] (qSm K):=by
 refine oL T.D90.F vS λ_ _ _ _ _ _ _ _ hr h _ Y=>?_;obtain⟨zs,ns,rfl,hS,hlen,kk⟩:=h;apply Y;have hu:=hr.units;refine⟨_,(qD (qZ 1 vS.nd (qJ T.D82 (qIf T) hr rfl (qA (qJ T.D77 (xP T) hr rfl (qA (pv 0) (qA qG qB))) qB)))
  (qD (qZ 2 vS.nd (qJ T.D84 (qG6 T) hr rfl (qA (qJ T.D77 (xP T) hr rfl (qA (pv 0) (qA qG qB))) (qA (pv 1) (qA qG (qA qG qB))))))
  (qD (xV (qc (qL jW (qQ qq (qJ T.D77 (xP T) hr rfl (qA (pv 0) (qA qG qB))) qG) qG (qR _)) (qF (qZ 2 vS.nd (qh (qA (vq ["_law_script"] [0] rfl (jc (qI (pv 2))) (λ_ _ _ _=>(qJ T.D88 (qLx T) hr rfl (qA (pv 0) (qA (qQ qm qG (qQ qq (qQ qj (qJ T.D77 (xP T) hr rfl (qA (pv 1) (qA qG qB))) qG) (qQ qQw qG qG))) qB))))) (qA (qI (pv 2)) qB))))) qO))
  (qD (qZ 3 vS.nd (qJ T.D85 (qF2 T) hr rfl (qA (pv 2) qB)))
  (qD (xj PassesOwn.never rfl (jc (zO vU (pv 0) (zZ qG) (zZ qG))) (jX (i:=4) vS.nd rfl (Or.inl rfl)) (qD (qZ 5 vS.nd (qJ T.D86 (qDj T) hr rfl (qA (qJ T.D78 (wj T) hr rfl (qA (pv 4) (qA qG qB))) (qA (pv 2) (qA (pv 1) qB)))))
  (qD (qZ 6 vS.nd (qJ T.D87 (qCx T) hr rfl (qA (pv 2) (qA (pv 5) (qA (pv 1) (qA kL qB))))))
  (qD (qZ 7 vS.nd (qJ T.D87 (qCx T) hr rfl (qA (pv 2) (qA (pv 5) (qA (pv 1) (qA kL qB))))))
  (qD (qc (qL (qPf hu) (pv 2) (pv 3) (qR _)) (qF (qM kL)) qO)
  (qF (qc (jO (qd jh rfl T.b_isinstance rfl (qA (pv 6) (qA (qGm rfl T.b_str rfl) qB)))) (qF (qc (qL kD (pv 7) (pv 6) (qR _)) (qF (qM kL)) qO)) (qF (qc (jr (jO (qJ T.D89 (qHx T) hr rfl (qA (pv 7) qB)))) (qF (qM kL)) (qD (xj PassesOwn.never rfl (jc (pv 7)) (jX (i:=8) vS.nd rfl (Or.inl rfl)) (qF (qZ 6 vS.nd (qJ T.D70 (qCs T) hr rfl (qA (pv 6) (qA (pv 8) (qA (pv 1) qB)))))))
  (qF (qc (qL (qPf hu) (pv 6) (pv 3) (qR _)) (qF (qM kL)) qO))))))))))))
  (qF (qM kL))))))),?_⟩
 try dsimp only[jV,qk]
 refine⟨_,O,zs,ns,1,O,hS,hlen,by decide,λc1=>?_⟩;refine⟨c1,O,λre A' H1 e1 _ hre1 A0 A1=>?_⟩;have hre:RE H1 re A':=⟨.inl hre1,A0,A1⟩;refine⟨_,O,zs,ns,0,O,e1.seq hS,hlen,by decide,λc0=>⟨_,O,c0,re,A',O,hre,λtz0 ts0 tie H2 e2 hT0 hM0 htie=>?_⟩⟩;have hS2:=(e1.trans e2).seq hS;have hre2:=hre.same e2;have hG0:AllG (GB A' 50 11 50) 3 ts0:=⟨hM0.l3,λx hx=>⟨(hM0.ms x hx).gw,λm hm _=>by have:=qJq (hM0.ms x hx).nn m hm;have:=(hM0.ms x hx).le;omega⟩⟩;have hF0:∀x∈ts0,FS (RmR (rlE A')) 0 none x:=λx hx=>(hM0.ms x hx).gd.fs;have nz:(3:Int)≠0:=by decide
 refine⟨λσ' H'=> ∃(tz:Addr) (ts:List (List Im)),σ'=[some (.ref zs),some (.ref re),some (.ref tz),none,none,none,none,none,none]/\Same H2 H'/\TabF H' (.ref tz) ts tie/\AllG (GB A' 2000000000000 14 50) 3 ts/\∀x∈ts,FS (RmR (rlE A')) 0 none x,?_,?_⟩
 . refine⟨_,O,zs,ns,2,O,hS2,hlen,by decide,λc2=>⟨_,_,O,O,nz,O,_,O,je (λ_=>?_) (λ_=>⟨tz0,ts0,O,Same.refl _,hT0,hG0.mono λx hx=>hx.mono (by decide) (by decide) (YH 50),hF0⟩)⟩⟩
   refine qS λ_ Y=>?_;obtain⟨tt,tl,ti,zz,q0,g2,g3,g4,g5⟩:=id hT0;cases q0;apply Y;have hzl:=g4.len;have l3:=hG0.1;refine(ixO g2 at0 ⟨tl,rfl,⟨_,SqL.of g3⟩,kI (K:=K) (a:=tl) (xs:=zz) (λj acc H'=>Same H2 H'/\∃ts',TrsAt H' ts' acc/\ts'.length=j/\∀x∈ts',GB A' 2000000000000 14 50 x/\FS (RmR (rlE A')) 0 none x) ⟨Same.refl _,[],trivial,rfl,(λx hx=>by cases hx)⟩ ?_ ?_ ?_⟩)
   . rintro j acc H' hj ⟨e,ts',ht,hl',_⟩
     exact⟨SqL.of (e _ _ g3),qi (by rw[ht.len];omega)⟩
   . rintro j x acc H' hj hx ⟨e,ts',ht,hl',hg'⟩
     refine qS λ_ Y=>?_;obtain⟨ms1,z,hms,rfl,tT⟩:=g4.get hx;apply Y;have gm:=hG0.2 ms1 (YF hms);have p12:(10:Int) ^ ((12:Int)).toNat=1000000000000:=by decide
     refine⟨_,O,_,O,zs,ns,2,O,e.seq hS2,hlen,by decide,λc3=>⟨_,_,O,O,cdB (by decide) (by decide),_,_,O,O,cpw (n:=12) (by decide),_,_,O,O,(by rw[p12];decide),_,_,O,O,?_⟩⟩;dsimp only;rw[p12];have f3:=fm (c3.fdiv 3) (show (0:Int)<1000000000000 by decide);refine⟨z,ms1,_,rfl,tT.same e,by have:=gm.gt.ct;omega,λy H5 e5 hy hTr=>Nxt.mk hj ⟨e.trans e5,ts'++[qUk ms1 (1001+(c3.fdiv 3).fmod 1000000000000)],qEc (ht.same e5) hTr,by rw[YN,hl'];rfl,λx hx=>?_⟩⟩;rcases YO.mp hx with hx|hx
     . exact hg' x hx
     . rw[YY]at hx
       refine qS λ_ Y=>?_;subst hx;obtain⟨b1,b2⟩:=gm.far (hF0 ms1 (YF hms)) (f:=1001+(c3.fdiv 3).fmod 1000000000000) (by omega) (by decide);apply Y;exact⟨b1.mono (by omega) (by decide) (YH 50),b2⟩
   . rintro acc H' ⟨e,ts',ht,hl',hg'⟩ d hd
     have w3:=qE hd (.lst acc);have e3:=e.trans w3;refine(ixO (e3 _ _ g2) at1 ⟨sL2,λt ht'=>?_⟩);have w6:=qE ht' (.tup [.ref d,.ref ti]);exact⟨t,ts',O,e3.trans w6,⟨t,d,ti,acc,O,qC,w6 _ _ qC,ht.same (w3.trans w6),w6 _ _ (e3 _ _ g5)⟩,⟨by rw[hl',hzl,l3],λx hx=>(hg' x hx).1⟩,λx hx=>(hg' x hx).2⟩
 have htl:=hM0.tl;have htin:=hM0.tin;rw[hM0.l3]at htin;clear hT0 hM0 hG0 hF0;rintro σ H3 hZ_;refine qS λ_ Y=>?_;obtain⟨tz,ts,rfl,e3,hT,hG,hF⟩:=hZ_;apply Y;have hre3:=hre2.same e3;have hS3:=e3.seq hS2;clear hS hS2 hre hre2 hre1 e1 e2;refine⟨_,O,tz,ts,tie,O,hT,by rw[hG.1];decide,λcz H4 e4 hC=>?_⟩;have hT4:=hT.same e4;have hre4:=hre3.same e4;have hS4:=e4.seq hS3;refine qS λ_ Y=>?_;obtain⟨cs,hcut,hcl⟩:=qSn ns (some 3) (some 11);apply Y;have hfew:=qUs (ns.map V.int) 3 11;have hcut':zd (ns.map V.int) (some ((3:Nat):Int)) (some ((11:Nat):Int))=cs.map V.int:=hcut;rw[hcut',YS]at hfew;refine⟨_,O,3,O,11,O,zs,_,O,hS4,λzc hzc=>?_⟩;rw[hcut];have w10:=qE hzc (.lst (cs.map V.int));have kc:upd H4 zc (.lst (cs.map V.int)) zc=some (.lst (cs.map V.int)):=qC;generalize upd H4 zc (.lst (cs.map V.int))=H10 at w10 kc⊢;have hT10:=hT4.same w10;have hre10:=hre4.same w10;have hC10:=hC.same w10;have nd:=(qQi htie).2;clear hT4 hre4 hS4 hT hre3 hS3 hC;have hTB:TB A' 2000000000000 14 ts tie:=⟨hG.1,λx hx=>⟨(hG.2 x hx).gt.it,⟨(hG.2 x hx).gt.os,(hG.2 x hx).gt.mo,hF x hx⟩,(hG.2 x hx).gt.le,(hG.2 x hx).gt.ct⟩,htl,by rw[hG.1];exact htin⟩;refine⟨zc,O,⟨_,SqL.of kc⟩,j8 (K:=K) (a:=zc) (xs:=cs.map V.int) (λi σ H'=> ∃(o1 o2 o3 o4 o5:Option V),σ=[some (.ref zs),some (.ref re),some (.ref tz),some (.ref cz),o1,o2,o3,o4,o5]/\Same H10 H') ⟨none,none,none,none,none,O,Same.refl _⟩ ?_ ?_ ?_⟩
 . rintro i σ H' hi' hZ_
   refine qS λ_ Y=>?_;obtain⟨o1,o2,o3,o4,o5,rfl,e⟩:=hZ_;apply Y;exact SqL.of (e _ _ kc)
 . rintro i x σ H' hx hZ_
   refine qS λ_ Y=>?_;obtain⟨o1,o2,o3,o4,o5,rfl,e⟩:=hZ_;apply Y;obtain⟨c,rfl⟩:∃c:Int,x=.int c:=by
    rw[Yj]at hx;cases hq:cs[i]? with
    |none=>rw[hq]at hx;cases hx
    |some k=>rw[hq]at hx;cases hx;exact⟨k,rfl⟩
   have hreN:=hre10.same e;have hTN:=hT10.same e;refine⟨_,O,c,20,O,by decide,by decide,λxz xs H5 e5 hxz hxs hxl _=>?_⟩;refine⟨_,O,_,O,xz,tz,re,xs,ts,tie,A',2000000000000,14,H',O,hxs,by rw[hxl];decide,hxz,e5,hTN,hTB,by omega,hreN,λdz n d H6 e6 hn hD hN=>?_⟩;obtain⟨ms,hms⟩:∃ms,ts[n]?=some ms:=⟨_,YD (by rw[hG.1];exact hn)⟩;have hGm:=hG.2 ms (YF hms);have hre6:=hreN.same e6;have hT6:=hTN.same e6;have hOk:DeOk H6 re ms d:=qXj hN hGm (by decide) (by decide) hre6;have e06:=e.trans e6;have tin:=htin;have hTD:=qBr hG (by decide) (by decide) hTB.tl tin hT6 hre6;have hC6:=hC10.same e06;have km:∀m,kH (rlE A') ts tie n ms d=.short m-> -4<=m/\m<=4:=λm h=>qYy (hTB.ms ms (YF hms)) hN h;by_cases hgd:∃ts',kH (rlE A') ts tie n ms d=.good ts'
   . obtain⟨ts',hgd⟩:=hgd
     refine qS λ_ Y=>?_;obtain⟨l,hl,hGo⟩:=qR7 (C':=100) ⟨A0,A1⟩ hG hF tin nd hms hN (by decide) rfl hgd;apply Y;refine⟨_,rfl,_,rfl,_,rfl,tz,dz,re,false,rlE A',ts,tie,n,ms,d,0,rfl,hTD,hms,hD,hOk,λh=>YC hgd (h _),km,λts2 h2=>⟨λ_ t' Hb eb hTb=>?_,(λz=>by cases z)⟩⟩;rw[hgd]at h2;cases h2;have hTDb:=qBr hG (by decide) (by decide) hTB.tl tin (hT6.same eb) (hre6.same eb);refine⟨_,rfl,_,rfl,_,rfl,tz,dz,re,true,rlE A',ts,tie,n,ms,d,l,rfl,hTDb,hms,hD.same eb,hOk.same eb,λh=>YC hgd (h _),km,λts3 h3=>⟨(λz=>by cases z),λ_=>⟨hl,λe he=>?_,λy Hc ec hDL=>?_⟩⟩⟩
     . subst he
       refine qS λ_ Y=>?_;obtain⟨a1,_,a3,_⟩:=DkN.lay hN ⟨A0,A1⟩;apply Y;have e5:(3000000000000:Int)<=2 ^ 500:=by decide
       exact⟨a1,by generalize (2:Int) ^ 500=B at e5⊢;omega⟩
     have hTc:=(hT6.same eb).same ec;have hCc:=(hC6.same eb).same ec;have hrec:=(hre6.same eb).same ec;have hTb':=hTb.same ec;refine⟨_,O,_,O,qT8 hTc hCc ⟨false,O,jH ?_⟩⟩;refine qS λ_ Y=>?_;obtain⟨tt,tl,ti,zz,q1,q2,_⟩:=id hTb';cases q1;apply Y;refine⟨_,O,_,_,_,false,O,.tup q2,⟨_,.inl ⟨O,by kernel_rfl⟩⟩,false,O,jH ?_⟩;refine⟨_,O,y,_,O,hDL,qSb htl (λx hx=>(hG.2 x hx).gt.ct),λHd ed=>⟨true,O,jH ?_⟩⟩;refine qS λ_ Y=>?_;obtain⟨us,hy,hrw⟩:=hDL.same ed;apply Y;have e0d:Same H10 Hd:=((e06.trans eb).trans ec).trans ed;generalize hds:qLw ts tie n l d=ds at hGo hrw;refine⟨_,O,y,O,⟨_,SqL.of hy⟩,j8 (K:=K) (a:=y) (xs:=us) (λi σ H'=> ∃(tb:Addr) (cur:List (List Im)) (o:Option V),σ=[some (.ref zs),some (.ref re),some (.ref tz),some (.ref cz),some (.int c),some (.ref dz),some (.ref tb),some (.ref y),o]/\Same Hd H'/\TabF H' (.ref tb) cur tie/\Gone (rlE A') tie (AllG (GB A' (2000000000000+14) (14+14) 100) 3) (OkB A' 100 (2000000000000+30)) cur (ds.drop i) ts) ⟨t',ts',o5,O,Same.refl _,hTb'.same ed,hGo⟩ ?_ ?_ ?_⟩
     . rintro i σ H' hi' hZ_
       refine qS λ_ Y=>?_;obtain⟨tb,cur,o,rfl,e9,_⟩:=hZ_;apply Y;exact SqL.of (e9 _ _ hy)
     . rintro i x σ H' hx hZ_
       refine qS λ_ Y=>?_;obtain⟨tb,cur,o,rfl,e9,hTt,hGn⟩:=hZ_;apply Y;refine qS λ_ Y=>?_;obtain⟨g,nd',rfl,hnd,hAt⟩:=hrw.get hx;rw[xT hnd]at hGn;obtain⟨n',d'⟩:=nd';apply Y;have hre9:=(hrec.same ed).same e9;cases hGn with
       | @cons _ ts1 _ _ ms' _ _ g' o' hm' r' h'=>
        refine⟨_,O,_,O,_,O,tb,g,re,rlE A',cur,tie,ts1,O,qBr g' (by decide) (by decide) htl tin hTt hre9,⟨n',ms',d',hm',hAt.same e9,qWd o' (g'.2 ms' (YF hm')) (by decide) (by decide) hre9,r'.symm⟩,λt2 H2' e2' hT2=>?_⟩;exact⟨t2,ts1,_,O,e9.trans e2',hT2,h'⟩
     . rintro σ H' hZ_
       refine qS λ_ Y=>?_;obtain⟨tb,cur,o,rfl,e9,hTt,hGn⟩:=hZ_;apply Y;rw[hrw.len,ZJ]at hGn;cases hGn;refine⟨_,O,_,O,qT8 hTt ((hCc.same ed).same e9) ⟨false,O,jH ?_⟩⟩;exact⟨_,_,_,_,_,O,e0d.trans e9⟩
   . refine⟨_,O,_,O,_,O,tz,dz,re,false,rlE A',ts,tie,n,ms,d,0,O,hTD,hms,hD,hOk,λ_ Hb eb=>?_,km,λts2 h2=>YC ⟨ts2,h2⟩ hgd⟩
     have hTDb:=qBr hG (by decide) (by decide) hTB.tl tin (hT6.same eb) (hre6.same eb);refine⟨_,O,_,O,_,O,tz,dz,re,true,rlE A',ts,tie,n,ms,d,0,O,hTDb,hms,hD.same eb,hOk.same eb,λ_ Hc ec=>?_,km,λts2 h2=>YC ⟨ts2,h2⟩ hgd⟩;refine⟨_,O,_,O,qT8 ((hT6.same eb).same ec) ((hC6.same eb).same ec) ⟨false,O,jH ?_⟩⟩;refine⟨_,O,_,_,_,true,O,.str _,⟨_,.inl ⟨O,by kernel_rfl⟩⟩,true,O,j5 ?_⟩;exact⟨_,O,_,O,O,_,O,qAl (by simp) ⟨_,_,_,_,_,O,(e06.trans eb).trans ec⟩⟩
 rintro σ H' hZ_;refine qS λ_ Y=>?_;obtain⟨o1,o2,o3,o4,o5,rfl,e⟩:=hZ_;apply Y;exact kk _
end
structure DF(K:W.Frag)(x:Str)(st:Stmt)(f:Addr)(fd:FuncData):Prop where
 n:W.nsIn K mainGlobals x=some (some (.ref f))
 F:Fun K x x st f fd
theorem df_mk{K:W.Frag}{x:Str}{oc:Value}{od an:Option Addr}{osl:Array (Option Value)}{kV doc pm ct:Value}(n:W.nsIn K mainGlobals x=some (some (.ref f)))(l:K.lookup f=some ⟨oc,od,.func (W.fnOf x x (vW st) (zE st) (qH st) .none kV doc pm an cdv ct),osl⟩)(c:W.codeIn K cdv x=true)(k:W.keepIn K (.ref f)=true):DF K x st f (W.fnOf x x (vW st) (zE st) (qH st) .none kV doc pm an cdv ct):=⟨n,qTs l c k⟩
def GL(K:W.Frag)(x:Str)(v:Option Value):Prop:=W.nsIn K mainGlobals x=some v
theorem gl_mk{K:W.Frag}{x:Str}{v:Option Value}(h:W.nsIn K mainGlobals x=some v):GL K x v:=h
def Cur:List Str->(List Value->Prop)->Prop
 |[],F=>F []
 |_::ps,F=> ∀a,Cur ps λus=>F (a::us)
theorem Cur.all:∀{ps:List Str} {F:List Value->Prop},Cur ps F->∀us:List Value,us.length=ps.length->F us
 |[],_,h,[],_=>h
 |_::_,_,h,a::_,e=>Cur.all (h a) _ (Nat.succ.inj e)
theorem dG{K:W.Frag}{x:Str}{h:Heap}{mg:Str->Option Value}(X:K.In h)(G:h.Ns mainGlobals mg)(d:DF K x st f fd)
 (b:∀(kV doc pm:Value) (an:Option Addr) (cdv ct:Value),Cur ps λus=>bindArgs (W.fnOf x x (vW st) (zE st) (qH st) .none kV doc pm an cdv ct) ⟨us,[]⟩=pure (ps.zip us):=by (repeat intro _);exact rfl):L3.Def K mg x st ps f fd:=⟨d.F,d.F.binds λk c p n v t=>(b k c p n v t).all,W.mg_of X G d.n⟩
theorem all_mk{l:W.OpenLaw}{w:World}{K:W.Frag}{h:Heap}{mg:Str->Option Value}{fa f0 f1 f2 f3 f4 f5 f6 f7 f8 f9 f10 f11 f12 f13 f14 f15 f16 f17 f18 f19 f20 f21 f22 f23 f24 f25 f26 f27 f28 f29 f30 f31 f32 f33 f34 f35 f36 f37 f38 f39 f40 f41 f42 f43 f44 f45 f46 f47 f48 f49 f50 f51 f52 f53 f54 f55 f56 f57 f58 f59 f60 f61 f62 f63 f64 f65 f66 f67 f68 f69 f70 f71 f72 f73 f74 f75 f76 f77 f78 f79 f80 f81 f82 f83 f84 f85 f86 f87 f88 f89 f90 C0 C1 C2 C3 C4 C5 nNOUGHT nROLLS nLAYS nPUSHES nCHANGES fmShort:Addr}{g0 g1 g2 g3 g4 g5 g6 g7 g8 g9 g10 g11 g12 g13 g14 g15 g16 g17 g18 g19 g20 g21 g22 g23 g24 g25 g26 g27 g28 g29 g30 g31 g32 g33 g34 g35 g36 g37 g38 g39 g40 g41 g42 g43 g44 g45 g46 g47 g48 g49 g50 g51 g52 g53 g54 g55 g56 g57 g58 g59 g60 g61 g62 g63 g64 g65 g66 g67 g68 g69 g70 g71 g72 g73 g74 g75 g76 g77 g78 g79 g80 g81 g82 g83 g84 g85 g86 g87 g88 g89 g90:FuncData}(X:K.In h)(G:h.Ns mainGlobals mg)(hfa:mg "law"=some (.ref fa))
 {odNOUGHT odROLLS odLAYS odPUSHES odCHANGES odmShort anmShort:Option Addr} {slNOUGHT slROLLS slLAYS slPUSHES slCHANGES slmShort:Array (Option Value)} {ocmShort kVmShort dcmShort pmmShort cdmShort ctmShort:Value} {tLETTERS tLONGEST_NAME tMOST_ROOM tNOUGHT_0 tNOUGHT_1 tMOST_BY tROLLS_0 tROLLS_1 tROLLS_2 tLAYS_0 tLAYS_1 tPUSHES_0 tPUSHES_1 tPUSHES_2 tCHANGES_0 tCHANGES_1 tCHANGES_2 tCHANGES_3 tCHANGES_4 tCHANGES_5:Tok} {nnNOUGHT nnROLLS nnLAYS nnPUSHES nnCHANGES:Nat}
 (h0:DF K "is_whole" qCm f0 g0)
 (h1:DF K "common_divisor" zH f1 g1)
 (h2:DF K "is_fraction" kn f2 g2)
 (h3:DF K "fraction" qB9 f3 g3)
 (h4:DF K "sum_of" qGu f4 g4)
 (h5:DF K "less_by" qD9 f5 g5)
 (h6:DF K "times_of" qBy f6 g6)
 (h7:DF K "quotient" qCj f7 g7)
 (h8:DF K "is_before" qAr f8 g8)
 (h9:DF K "floor_of" qBx f9 g9)
 (h10:DF K "is_name" qD3 f10 g10)
 (h11:DF K "has_clip_form" zk f11 g11)
 (h12:DF K "place_at" qB4 f12 g12)
 (h13:DF K "picture_at" vO f13 g13)
 (h14:DF K "is_there" qB5 f14 g14)
 (h15:DF K "check_clip" ve f15 g15)
 (h16:DF K "clip_part" qAi f16 g16)
 (h17:DF K "goes_on" qEg f17 g17)
 (h18:DF K "moments_there" zX f18 g18)
 (h19:DF K "head_room" qAq f19 g19)
 (h20:DF K "tail_room" qAd f20 g20)
 (h21:DF K "is_length" qAb f21 g21)
 (h22:DF K "has_nest_form" zj f22 g22)
 (h23:DF K "moments_of" vo f23 g23)
 (h24:DF K "one_form" qB1 f24 g24)
 (h25:DF K "length_of" qAe f25 g25)
 (h26:DF K "borders_of" vt f26 g26)
 (h27:DF K "item_at" qE5 f27 g27)
 (h28:DF K "kind_at" qFb f28 g28)
 (h29:DF K "place_ahead" vF f29 g29)
 (h30:DF K "place_behind" kF f30 g30)
 (h31:DF K "neighbours_at" zU f31 g31)
 (h32:DF K "clips_at_border" xn f32 g32)
 (h33:DF K "lies_within" kW f33 g33)
 (h34:DF K "item_part" qAm f34 g34)
 (h35:DF K "part_of_track" zY f35 g35)
 (h36:DF K "part_ahead" vn f36 g36)
 (h37:DF K "part_behind" ke f37 g37)
 (h38:DF K "mix_spans" qAo f38 g38)
 (h39:DF K "taken_at_begin" zC f39 g39)
 (h40:DF K "taken_at_end" kG f40 g40)
 (h41:DF K "most_mix" qCk f41 g41)
 (h42:DF K "check_place" kj f42 g42)
 (h43:DF K "check_by" qBt f43 g43)
 (h44:DF K "clip_there" vT f44 g44)
 (h45:DF K "clip_and_sides" zB f45 g45)
 (h46:DF K "places_named" z0 f46 g46)
 (h47:DF K "has_mix" qEv f47 g47)
 (h48:DF K "check_short" kR f48 g48)
 (h49:DF K "most_slip" qAc f49 g49)
 (h50:DF K "most_roll" qAj f50 g50)
 (h51:DF K "slipped" qEi f51 g51)
 (h52:DF K "with_rolled_ends" xR f52 g52)
 (h53:DF K "table_with" v6 f53 g53)
 (h54:DF K "rolled" qHm f54 g54)
 (h55:DF K "stretch_of" vw f55 g55)
 (h56:DF K "laid_by" qEk f56 g56)
 (h57:DF K "laid_on_tied" kC f57 g57)
 (h58:DF K "tracks_changed" zD f58 g58)
 (h59:DF K "check_numbers" zV f59 g59)
 (h60:DF K "touches_mix" vB f60 g60)
 (h61:DF K "check_mixes" kX f61 g61)
 (h62:DF K "check_change" zy f62 g62)
 (h63:DF K "nest_goes_on" z7 f63 g63)
 (h64:DF K "can_heal" qCc f64 g64)
 (h65:DF K "healed" qHg f65 g65)
 (h66:DF K "mixed" qLt f66 g66)
 (h67:DF K "unmixed" qFc f67 g67)
 (h68:DF K "relaid" qGj f68 g68)
 (h69:DF K "changed" qE0 f69 g69)
 (h70:DF K "deed_done" wv f70 g70)
 (h71:DF K "heals" qLy f71 g71)
 (h72:DF K "laid_again" vf f72 g72)
 (h73:DF K "back_of_mix" kP f73 g73)
 (h74:DF K "back_of_room" z8 f74 g74)
 (h75:DF K "back_of_stretch" xm f75 g75)
 (h76:DF K "back_of" qE6 f76 g76)
 (h77:DF K "_law_cell_at" kB f77 g77)
 (h78:DF K "_law_stream" vD f78 g78)
 (h79:DF K "_law_lowest" vA f79 g79)
 (h80:DF K "_law_clip" vE f80 g80)
 (h81:DF K "_law_track" vQ f81 g81)
 (h82:DF K "_law_reels" vv f82 g82)
 (h83:DF K "_law_mixed" vd f83 g83)
 (h84:DF K "_law_table" vZ f84 g84)
 (h85:DF K "_law_copied" vC f85 g85)
 (h86:DF K "_law_any_deed" ze f86 g86)
 (h87:DF K "_law_done" qAg f87 g87)
 (h88:DF K "_law_far" qCf f88 g88)
 (h89:DF K "_law_words" vY f89 g89)
 (h90:DF K "law" qVq f90 g90)
 (xg0:GL K "CutError" (some (.ref C0)))
 (xg1:GL K "NoNumber" (some (.ref C1)))
 (xg2:GL K "NoClip" (some (.ref C2)))
 (xg3:GL K "NoPlace" (some (.ref C3)))
 (xg4:GL K "Mixed" (some (.ref C4)))
 (xg5:GL K "Short" (some (.ref C5)))
 (x_NoPlace:L3.OwnX K C3)
 (x_Mixed:L3.OwnX K C4)
 (yPP:W.exmOne K (.ref C3) (.ref C3)=some true)
 (yMM:W.exmOne K (.ref C4) (.ref C4)=some true)
 (yMP:W.exmOne K (.ref C4) (.ref C3)=some false)
 (ySP:W.exmOne K (.ref C5) (.ref C3)=some false)
 (ySM:W.exmOne K (.ref C5) (.ref C4)=some false)
 (ySS:W.exmOne K (.ref C5) (.ref C5)=some true)
 (e_Short:L3.ExcK K C5)
 (f_most:W.findIn K (.ref C5) "most"=some none)
 (xz0:GL K "isinstance" none)
 (xz1:GL K "int" none)
 (xz2:GL K "bool" none)
 (xz3:GL K "abs" none)
 (xz4:GL K "tuple" none)
 (xz5:GL K "len" none)
 (xz6:GL K "all" none)
 (xz7:GL K "str" none)
 (xz8:GL K "min" none)
 (xz9:GL K "sum" none)
 (xz10:GL K "enumerate" none)
 (xz11:GL K "max" none)
 (xz12:GL K "list" none)
 (xz13:GL K "any" none)
 (xz14:GL K "range" none)
 (xcLETTERS:GL K "LETTERS" (some (.str "abcdefghijklmnopqrstuvwxyz" tLETTERS)))
 (xcLONGEST_NAME:GL K "LONGEST_NAME" (some (.int 8 tLONGEST_NAME)))
 (xcMOST_ROOM:GL K "MOST_ROOM" (some (.int 1000000 tMOST_ROOM)))
 (xcNOUGHT:GL K "NOUGHT" (some (.ref nNOUGHT))) (xlNOUGHT:K.lookup nNOUGHT=some ⟨.type "tuple",odNOUGHT,.seq #[.int 0 tNOUGHT_0,.int 1 tNOUGHT_1] nnNOUGHT,slNOUGHT⟩)
 (xcMOST_BY:GL K "MOST_BY" (some (.int 1000000 tMOST_BY)))
 (xcROLLS:GL K "ROLLS" (some (.ref nROLLS))) (xlROLLS:K.lookup nROLLS=some ⟨.type "tuple",odROLLS,.seq #[.str "roll" tROLLS_0,.str "slip" tROLLS_1,.str "slide" tROLLS_2] nnROLLS,slROLLS⟩)
 (xcLAYS:GL K "LAYS" (some (.ref nLAYS))) (xlLAYS:K.lookup nLAYS=some ⟨.type "tuple",odLAYS,.seq #[.str "lay_in" tLAYS_0,.str "lay_over" tLAYS_1] nnLAYS,slLAYS⟩)
 (xcPUSHES:GL K "PUSHES" (some (.ref nPUSHES))) (xlPUSHES:K.lookup nPUSHES=some ⟨.type "tuple",odPUSHES,.seq #[.str "lay_in" tPUSHES_0,.str "open" tPUSHES_1,.str "close" tPUSHES_2] nnPUSHES,slPUSHES⟩)
 (xcCHANGES:GL K "CHANGES" (some (.ref nCHANGES))) (xlCHANGES:K.lookup nCHANGES=some ⟨.type "tuple",odCHANGES,.seq #[.str "cut" tCHANGES_0,.str "lay_in" tCHANGES_1,.str "open" tCHANGES_2,.str "close" tCHANGES_3,.str "lift" tCHANGES_4,.str "lay_over" tCHANGES_5] nnCHANGES,slCHANGES⟩)
 (iaShort:W.findIn K (.ref C5) "__init__"=some (some (.ref fmShort))) (ilShort:K.lookup fmShort=some ⟨ocmShort,odmShort,.func (W.fnOf "__init__" "Short.__init__" (vW wH) (zE wH) (qH wH) .none kVmShort dcmShort pmmShort anmShort cdmShort ctmShort),slmShort⟩) (icShort:W.codeIn K cdmShort "Short.__init__"=true) (ikShort:W.keepIn K (.ref fmShort)=true) (ifShort:W.isFn K (.ref fmShort)=true)
 (ivShort:L3.exOver K C5 C0=true) (ihShort:W.hasDictIn K C5=true) (isShort:W.findIn K (.ref C5) "__setattr__"=some (some (.builtin "object.__setattr__"))) (ixShort:L3.excInitIn K C5 fmShort=true) (itShort:W.takerIn K C5 "most"=some none)
 :∃fd:FuncData,(∀(s:Shared) (v:Value),BindsTo s fd ⟨[v],[]⟩ [("_law_script",v)])/\∀base:Heap,K.In base->base.Ns mainGlobals mg->FnOk l.prog w K mg base CX0 15 fa fd ["_law_script"] (qSm K):=by
 have e:=hfa.symm.trans (W.mg_of X G h90.n);obtain rfl:f90=fa:=by cases e;rfl
 obtain⟨_,_,_,_,_,_,_,_,_,rfl,_,_⟩:=h90.F.ex;have FmShort:=qTs (st:=wH) ilShort icShort ikShort;have bmShort:=FmShort.binds (ps:=["self","most"]) λ_ _ _ _ _ _=>Cur.all (by (repeat intro _);exact rfl);have T:Tx K mg ⟨f0,_,f1,_,f2,_,f3,_,f4,_,f5,_,f6,_,f7,_,f8,_,f9,_,f10,_,f11,_,f12,_,f13,_,f14,_,f15,_,f16,_,f17,_,f18,_,f19,_,f20,_,f21,_,f22,_,f23,_,f24,_,f25,_,f26,_,f27,_,f28,_,f29,_,f30,_,f31,_,f32,_,f33,_,f34,_,f35,_,f36,_,f37,_,f38,_,f39,_,f40,_,f41,_,f42,_,f43,_,f44,_,f45,_,f46,_,f47,_,f48,_,f49,_,f50,_,f51,_,f52,_,f53,_,f54,_,f55,_,f56,_,f57,_,f58,_,f59,_,f60,_,f61,_,f62,_,f63,_,f64,_,f65,_,f66,_,f67,_,f68,_,f69,_,f70,_,f71,_,f72,_,f73,_,f74,_,f75,_,f76,_,f77,_,f78,_,f79,_,f80,_,f81,_,f82,_,f83,_,f84,_,f85,_,f86,_,f87,_,f88,_,f89,_,f90,_,C0,C1,C2,C3,C4,C5,tLETTERS,tLONGEST_NAME,tMOST_ROOM,nNOUGHT,tMOST_BY,nROLLS,nLAYS,nPUSHES,nCHANGES,fmShort,_⟩:=⟨dG X G h0,dG X G h1,dG X G h2,dG X G h3,dG X G h4,dG X G h5,dG X G h6,dG X G h7,dG X G h8,dG X G h9,dG X G h10,dG X G h11,dG X G h12,dG X G h13,dG X G h14,dG X G h15,dG X G h16,dG X G h17,dG X G h18,dG X G h19,dG X G h20,dG X G h21,dG X G h22,dG X G h23,dG X G h24,dG X G h25,dG X G h26,dG X G h27,dG X G h28,dG X G h29,dG X G h30,dG X G h31,dG X G h32,dG X G h33,dG X G h34,dG X G h35,dG X G h36,dG X G h37,dG X G h38,dG X G h39,dG X G h40,dG X G h41,dG X G h42,dG X G h43,dG X G h44,dG X G h45,dG X G h46,dG X G h47,dG X G h48,dG X G h49,dG X G h50,dG X G h51,dG X G h52,dG X G h53,dG X G h54,dG X G h55,dG X G h56,dG X G h57,dG X G h58,dG X G h59,dG X G h60,dG X G h61,dG X G h62,dG X G h63,dG X G h64,dG X G h65,dG X G h66,dG X G h67,dG X G h68,dG X G h69,dG X G h70,dG X G h71,dG X G h72,dG X G h73,dG X G h74,dG X G h75,dG X G h76,dG X G h77,dG X G h78,dG X G h79,dG X G h80,dG X G h81,dG X G h82,dG X G h83,dG X G h84,dG X G h85,dG X G h86,dG X G h87,dG X G h88,dG X G h89,dG X G h90,W.mg_of X G xg0,W.mg_of X G xg1,W.mg_of X G xg2,W.mg_of X G xg3,W.mg_of X G xg4,W.mg_of X G xg5,W.mg_none_of X G xz0,W.mg_none_of X G xz1,W.mg_none_of X G xz2,W.mg_none_of X G xz3,W.mg_none_of X G xz4,W.mg_none_of X G xz5,W.mg_none_of X G xz6,W.mg_none_of X G xz7,W.mg_none_of X G xz8,W.mg_none_of X G xz9,W.mg_none_of X G xz10,W.mg_none_of X G xz11,W.mg_none_of X G xz12,W.mg_none_of X G xz13,W.mg_none_of X G xz14,W.mg_of X G xcLETTERS,W.mg_of X G xcLONGEST_NAME,W.mg_of X G xcMOST_ROOM,W.mg_of X G xcNOUGHT,λH=>.inr ⟨_,_,_,xlNOUGHT,rfl,rfl,by show 2<=sizeLine;decide,.cons ⟨_,rfl⟩ (.cons ⟨_,rfl⟩ (.nil))⟩,W.mg_of X G xcMOST_BY,W.mg_of X G xcROLLS,λH=>.inr ⟨_,_,_,xlROLLS,rfl,rfl,by show 3<=sizeLine;decide,.cons ⟨_,rfl⟩ (.cons ⟨_,rfl⟩ (.cons ⟨_,rfl⟩ (.nil)))⟩,W.mg_of X G xcLAYS,λH=>.inr ⟨_,_,_,xlLAYS,rfl,rfl,by show 2<=sizeLine;decide,.cons ⟨_,rfl⟩ (.cons ⟨_,rfl⟩ (.nil))⟩,W.mg_of X G xcPUSHES,λH=>.inr ⟨_,_,_,xlPUSHES,rfl,rfl,by show 3<=sizeLine;decide,.cons ⟨_,rfl⟩ (.cons ⟨_,rfl⟩ (.cons ⟨_,rfl⟩ (.nil)))⟩,W.mg_of X G xcCHANGES,λH=>.inr ⟨_,_,_,xlCHANGES,rfl,rfl,by show 6<=sizeLine;decide,.cons ⟨_,rfl⟩ (.cons ⟨_,rfl⟩ (.cons ⟨_,rfl⟩ (.cons ⟨_,rfl⟩ (.cons ⟨_,rfl⟩ (.cons ⟨_,rfl⟩ (.nil))))))⟩,x_NoPlace,x_Mixed,yPP,yMM,yMP,ySP,ySM,ySS,e_Short,f_most,FmShort,bmShort,⟨ivShort,ihShort,isShort,ixShort,ifShort⟩,itShort⟩;exact⟨_,λs v=>.of_eq rfl,λbase _ _=>qWa T⟩
theorem walk{l:W.OpenLaw}{q:Program}{loose:List Str}{XP:(Str->Option Value)->Heap->Prop}{YP:World->Heap->Prop}{d:DefRec}{K:Params->W.Frag}(hn:l.most=some 63)(hdf:d.params.defaults=[])
 (hY:∀(w:World) (h:Heap),YP w h->(K w.params).In h)
 (F:∀(w:World) (mg:Str->Option Value) (fa:Addr) (h:Heap),(K w.params).In h->h.Ns mainGlobals mg->mg d.name=some (.ref fa)->
   ∃fd:FuncData,(∀(s:Shared) (u:Value),BindsTo s fd ⟨[u],[]⟩ [("_law_script",u)])/\∀base:Heap,(K w.params).In base->base.Ns mainGlobals mg->FnOk l.prog w (K w.params) mg base CX0 15 fa fd ["_law_script"] (qSm (K w.params))):
 W.WalkO q loose XP YP l.row.toRowW d [] (λf vs=>PySem.call f vs):=
 L2.walk_of (n:=63) (k:=15) (x:="_law_script") (CX:=λ_=>CX0) (sp:=λw=>qSm (K w.params)) hn (by decide) hdf ⟨rfl,by decide,by decide⟩ hY F (λ_ _ a ns hl _ hS=>⟨a,ns,rfl,hS,hl,λ_=>rfl⟩) λ_ _ _ _ _ z=>z
end Lw
set_option genInjectivity false in
set_option genSizeOf false in
structure PySem.W.Fast:Prop where
 (tw15939246308790638624 tw10846448507604881696 tw12538630472434131617 tw7131143203248583170 tw10531779380416530370 tw11320506941275681668 tw830594311956815205 tw164275181414420102 tw5122299937719862503 tw12730537129603666855 tw8511534070367540808 tw5180808174927566025 tw5072688821076651849 tw8133268195036137802 tw2976179295594591818 tw13032698420327473323 tw18189666240241104652 tw9113921687888698188 tw4797525107343258317 tw16577870021308074797 tw11847259478577215919 tw2664466665223183699 tw1327333870616593876 tw6148340867746148373 tw544787246042063957 tw3042213670562674773 tw6781604918831377975 tw6374686911282928280 tw1081611721321153625 tw13388702001459618619 tw13661499173362723422 tw5587855053487132670 tw3324831063968795231 tw9195887666311564854 tw7075125163055608421 tw6818932811815600613 tw14849095947561023913 tw4973494442821017606 tw12871227212617438995 tw2577550719845903438 tw16398116813260299100 tw15940218756860941831 tw13249801640573882870 tw4617032992588323850 tw8719332179936821721 tw2291329880579270832 tw547367475389339489 tw6622123198481411864 tw3106533338528563410 tw554704815552891750 tw13262470421253351704 tw12406353906889920259 tw12184336766773145045 tw17418067852447476636 tw13191716258857719993 tw14303298325517387729 tw9533143519905830845 tw8205630250661595748 tw3179102803858684648 tw244347374230566868 tw12404958660639794376 tw6421849051279639638 tw5721093586381450855 tw1221311072519316855 tw289945852233426763 tw3469860496816823042 tw14461444165102443729 tw16170995391765542766 tw14610037584871933066 tw5945936500951650559 tw6699013180969130376 tw16361608311205832292 tw2015010411944060949 tw875847950817132628 tw17583890650453161874 tw6927752365089206646 tw13357900096943254357 tw8811686597796071588 tw10558573446626502461 tw17302049146248282685 tw559083868157990401 tw2203280562797019225 tw12994799947045971797 tw484732812035315817 tw9803519534923029576 tw12891921325067795169 tw14571094978863870684 tw5662602908649744995 tw3938336521203318873 tw9273692810009953085 tw165038007331285528 tw14160141085894022717 tw376120850465302004 tw17778926982664713883 tw15383374419450298083 tw6028557513400313263 tw1133894176124426547 tw2048392612952398138 tw5589671459919271661 tw9851754927947118177 tw18312507844353192368 tw12166631300383014257 tw494454514354996295 tw10262908202278615827 tw10114278897961934384 tw8996535303416075337 tw3891517708744694986 tw7429139221409985002 tw14903012308812755383 tw7064656471661129165 tw5066754846875422638 tw10801501110309515667 tw16912461515869260677 tw982784455588568077 tw2835601030107586638 tw13426634948245847243 tw4535943597289374592 tw654507691620663614 tw596182199373837892 tw15352509021863320783 tw18280628123113276266 tw18291603999127975241 tw6750378249982176030 tw4742982194439179301 tw17729919188449543285 tw7862487708863622505 tw9311840707867435669 tw1203864329190970390 tw5479711321729032114 tw1569405437558219080 tw12953125077491162399 tw17818380285346332215 tw7069638677729319793 tw15257843932041384037 tw14766632478197882479 tw16435714274592948171 tw3065832971328246082 tw13685024480492409198 tw1364349253276941882 tw7364995760720269552 tw11312933253365879487 tw4847082604863717643 tw17152432605684355 tw10950176670563308879 tw15264812773040784238 tw6231312424372842392 tw4957378627995980314 tw17334109062006888680 tw2417566411226843367 tw12164250678336462660 tw9373928993674262306 tw6163996210910863772 tw3361472094569162447 tw3861439648259205028 tw4507919015083480214 tw14666036939507159859 tw2394061447268821904 tw1011058237643742711 tw11476082707237944553 tw10272863204851542479 tw6807529808663341684 tw196759833051960954 tw17237900974252568492 tw7641111090154943723 tw9956350611095091111 tw12810638661881146607 tw5407555212228744133 tw1604576185681828944 tw5879397271339964862 tw12446538258764489951 tw17997272124968779917 tw8618327842567990916 tw6337399174769962020 tw7407901797366245013 tw7175635795516683586 tw5051844943862112481 tw2546867703922956062 tw1091722424193758031 tw4650203245664475276 tw7983248559419584497 tw12429770887292841713 tw10210372852037102581 tw11879646951120475707 tw8468193590306088516 tw1912595455431100559 tw9712877736737888383 tw1143462380768178571 tw8881829307886279830 tw17038931686389810921 tw6163265428692700930 tw14670907730352933531 tw1855543849685702446 tw6452489838990453312 tw10890806646318590771 tw5383083112131772305 tw4722201371265867750 tw1852200340146872606 tw5606886471962826584 tw596557918208085247 tw5615729570130286561 tw11698090629327979819 tw9606006759411181462 tw14097946724331820505 tw11674849525128949327 tw13687334381674623754 tw12771293570091423865 tw6634627742437022260 tw10870082908696023917 tw13609024259399238073 tw10786704013275731456 tw1295054144196916861 tw17956608374642163024 tw8929003098068897147 tw5272386018755952302 tw309713802126266490 tw15408427088873280766 tw8685685599548917725 tw11053395542325069714 tw4120422032218086452 tw8511881004616287411 tw11856618579633520600 tw2459939528343590912 tw671946570123264436 tw4673158848158708590 tw11886303140451110471 tw10531572435307277617 tw9943163098273770722 tw4085711036988711265 tw2582531351885807182 tw16373211786054111163 tw9243396627265757805 tw1957266378692812907 tw8632805413309065084 tw4994969093840574397 tw11621504699573168255 tw8751591294257363813 tw14843029159511869383 tw10836898700323767658 tw16660652108188494463 tw8150608075896851152 tw15358813159521050509 tw14352544994652462857 tw13202946042541426529 tw8536726829226053210 tw15828509509030659741 tw16110922725634946377 tw10273519337493242416 tw4108043027323727810 tw11156893581391685712 tw1033888168745588784 tw14075139798354478155 tw2854529062824437999 tw12623139324111736864 tw1746514836877623208 tw6818305071595076201 tw6674957662853601319 tw4167987208751979346 tw12666659216280365389 tw5258777679935075638 tw10664596023838051721 tw10836934265785422920 tw4858104568934580585 tw13794263244642958339 tw14122896199371422731 tw13000359236615707367 tw17681976055717677446 tw18048954826886897265 tw9647953869501907872 tw17601557819106008486 tw14529393080007058677 tw15519811625423894717 tw1190594092753706322 tw7579615404468943665 tw7391198529802846200 tw3753030471421378487 tw16026796455807588587 tw7117550173300329024 tw3697084444631566140 tw9111173532781346454 tw6041207700407708151 tw10799934689972787127 tw9534776450414212004 tw7020068400009748461 tw5665078164244836916 tw17495313937895424701 tw4794466486440718166 tw9675571887699109156 tw16711429948298072409 tw3397374419870647261 tw18205535494985060291 tw2546588093226596760 tw11114966803033772962 tw17606296641940165811 tw4761021387527906820 tw17946175677109762557 tw17017326408387153824 tw13356885060310543930 tw6854996334688368179 tw12686600990180863183 tw1070945761797671630 tw14138006512314907524 tw8511241971414490691 tw11811575577039809222 tw10611430699378843475 tw2862160809488095982 tw17531165261155302540 tw9195870370887550700 tw7694131674786116980 tw13406836305657450686 tw8215675967696835614 tw12893850742628414828 tw18267359565826983601 tw3960967146370265689 tw2949385993926413568 tw15966170665895132708 tw3035750103101371190 tw11502312266508455505 tw1169062787851280902 tw6264165170379992393 tw12354787698096889499 tw10229498104023540430 tw10178152949947050886 tw8733136222560220441 tw2914004858758042049 tw329548329708119558 tw16663969451602069625 tw18199991078397411926 tw8112680057386058217 tw11244170556364203284 tw17036130713804863736 tw14534398662229710492 tw14745154071654868539 tw7392786342542394330 tw12511941392082336324 tw2563530161347919447 tw9229763602690838659 tw3398532117227112779 tw14023684550990704532 tw5178717633310078780 tw11212738668764716258 tw500725124359925273 tw7989293188225714803 tw14079622464497783323 tw17257996411438141811 tw16157712696317537889 tw16466429922630808770 tw11894337893982120746 tw15051204098099777707 tw6990927565665603224 tw17198678005594794088 tw5238911521112689835 tw578113458753538728 tw8894278138341172394 tw14615484535184097992 tw9188087277539211295 tw9076570500882889591 tw4046781902934513809 tw12834785365554237418 tw237709547095650399 tw17576053233219450966 tw5230358733330336168 tw13788606237507145151 tw15119210796914612553 tw2330340770821710390 tw16140454619644060442 tw453232510355172071 tw14732506618667922928 tw8639217006600220458 tw11064292082019364748 tw681547974659659488 tw11011021860672284283 tw13655831958809073632 tw4677173938974637634 tw1208966124019659075 tw10864839693635301928 tw15551196838680211521 tw186240480305204233 tw11736123968676044860 tw9373132202754275193 tw2455077678064320927 tw5666870613323651834 tw11204805414669610640 tw9934513068400234402 tw3056065554221201017 tw13310432006629263701 tw13580339430027885958 tw12928414869033203630 tw2389366229003085953 tw11072865909106238932 tw14169574242103619602 tw557016756448235285 tw10521618368187951503 tw3932979375612338544 tw10319551110725978893 tw7890261180757473370 tw8557785233381208784 tw12677238169072003588 tw9568017524163151442 tw4524270358832449194 tw16080461092972029124 tw8129420492428995076 tw15307653619130931841 tw5389403910392023438 tw12444104734667440950 tw17882797576133093660 tw18038977160675614905 tw7301036097772594953 tw8611824269923798031 tw8833285492656921524 tw15429943177225227079 tw9840533886704847622 tw135638847248901413 tw1103459246619521186 tw10306463189713966560 tw9690153713793708329 tw3185277668567251393 tw11620994380913647011:True)
open PySem PySem.W PyProof.Rows
set_option maxRecDepth 100000 in
set_option maxHeartbeats 0 in
theorem PySem.Challenge.cw_reelcut_k51_ways_back_holds : PySem.Challenge.rw_reelcut_k51_ways_back.Holds := by
 w_on;o_law;k_head;(case hw=>w_witness2)
 k_fill
 refine Lw.walk (l:=PySem.Challenge.rw_reelcut_k51_ways_back) rfl rfl (λw h Y=>PySem.W.kIn_of Y) ?F
 case F=>
  intro w mg fa h KX G hmg
  refine' Lw.all_mk KX G hmg (Lw.df_mk ?a0 ?l0 ?c0 ?k0) (Lw.df_mk ?a1 ?l1 ?c1 ?k1) (Lw.df_mk ?a2 ?l2 ?c2 ?k2) (Lw.df_mk ?a3 ?l3 ?c3 ?k3) (Lw.df_mk ?a4 ?l4 ?c4 ?k4) (Lw.df_mk ?a5 ?l5 ?c5 ?k5) (Lw.df_mk ?a6 ?l6 ?c6 ?k6) (Lw.df_mk ?a7 ?l7 ?c7 ?k7) (Lw.df_mk ?a8 ?l8 ?c8 ?k8) (Lw.df_mk ?a9 ?l9 ?c9 ?k9) (Lw.df_mk ?a10 ?l10 ?c10 ?k10) (Lw.df_mk ?a11 ?l11 ?c11 ?k11) (Lw.df_mk ?a12 ?l12 ?c12 ?k12) (Lw.df_mk ?a13 ?l13 ?c13 ?k13) (Lw.df_mk ?a14 ?l14 ?c14 ?k14) (Lw.df_mk ?a15 ?l15 ?c15 ?k15) (Lw.df_mk ?a16 ?l16 ?c16 ?k16) (Lw.df_mk ?a17 ?l17 ?c17 ?k17) (Lw.df_mk ?a18 ?l18 ?c18 ?k18) (Lw.df_mk ?a19 ?l19 ?c19 ?k19) (Lw.df_mk ?a20 ?l20 ?c20 ?k20) (Lw.df_mk ?a21 ?l21 ?c21 ?k21) (Lw.df_mk ?a22 ?l22 ?c22 ?k22) (Lw.df_mk ?a23 ?l23 ?c23 ?k23) (Lw.df_mk ?a24 ?l24 ?c24 ?k24) (Lw.df_mk ?a25 ?l25 ?c25 ?k25) (Lw.df_mk ?a26 ?l26 ?c26 ?k26) (Lw.df_mk ?a27 ?l27 ?c27 ?k27) (Lw.df_mk ?a28 ?l28 ?c28 ?k28) (Lw.df_mk ?a29 ?l29 ?c29 ?k29) (Lw.df_mk ?a30 ?l30 ?c30 ?k30) (Lw.df_mk ?a31 ?l31 ?c31 ?k31) (Lw.df_mk ?a32 ?l32 ?c32 ?k32) (Lw.df_mk ?a33 ?l33 ?c33 ?k33) (Lw.df_mk ?a34 ?l34 ?c34 ?k34) (Lw.df_mk ?a35 ?l35 ?c35 ?k35) (Lw.df_mk ?a36 ?l36 ?c36 ?k36) (Lw.df_mk ?a37 ?l37 ?c37 ?k37) (Lw.df_mk ?a38 ?l38 ?c38 ?k38) (Lw.df_mk ?a39 ?l39 ?c39 ?k39) (Lw.df_mk ?a40 ?l40 ?c40 ?k40) (Lw.df_mk ?a41 ?l41 ?c41 ?k41) (Lw.df_mk ?a42 ?l42 ?c42 ?k42) (Lw.df_mk ?a43 ?l43 ?c43 ?k43) (Lw.df_mk ?a44 ?l44 ?c44 ?k44) (Lw.df_mk ?a45 ?l45 ?c45 ?k45) (Lw.df_mk ?a46 ?l46 ?c46 ?k46) (Lw.df_mk ?a47 ?l47 ?c47 ?k47) (Lw.df_mk ?a48 ?l48 ?c48 ?k48) (Lw.df_mk ?a49 ?l49 ?c49 ?k49) (Lw.df_mk ?a50 ?l50 ?c50 ?k50) (Lw.df_mk ?a51 ?l51 ?c51 ?k51) (Lw.df_mk ?a52 ?l52 ?c52 ?k52) (Lw.df_mk ?a53 ?l53 ?c53 ?k53) (Lw.df_mk ?a54 ?l54 ?c54 ?k54) (Lw.df_mk ?a55 ?l55 ?c55 ?k55) (Lw.df_mk ?a56 ?l56 ?c56 ?k56) (Lw.df_mk ?a57 ?l57 ?c57 ?k57) (Lw.df_mk ?a58 ?l58 ?c58 ?k58) (Lw.df_mk ?a59 ?l59 ?c59 ?k59) (Lw.df_mk ?a60 ?l60 ?c60 ?k60) (Lw.df_mk ?a61 ?l61 ?c61 ?k61) (Lw.df_mk ?a62 ?l62 ?c62 ?k62) (Lw.df_mk ?a63 ?l63 ?c63 ?k63) (Lw.df_mk ?a64 ?l64 ?c64 ?k64) (Lw.df_mk ?a65 ?l65 ?c65 ?k65) (Lw.df_mk ?a66 ?l66 ?c66 ?k66) (Lw.df_mk ?a67 ?l67 ?c67 ?k67) (Lw.df_mk ?a68 ?l68 ?c68 ?k68) (Lw.df_mk ?a69 ?l69 ?c69 ?k69) (Lw.df_mk ?a70 ?l70 ?c70 ?k70) (Lw.df_mk ?a71 ?l71 ?c71 ?k71) (Lw.df_mk ?a72 ?l72 ?c72 ?k72) (Lw.df_mk ?a73 ?l73 ?c73 ?k73) (Lw.df_mk ?a74 ?l74 ?c74 ?k74) (Lw.df_mk ?a75 ?l75 ?c75 ?k75) (Lw.df_mk ?a76 ?l76 ?c76 ?k76) (Lw.df_mk ?a77 ?l77 ?c77 ?k77) (Lw.df_mk ?a78 ?l78 ?c78 ?k78) (Lw.df_mk ?a79 ?l79 ?c79 ?k79) (Lw.df_mk ?a80 ?l80 ?c80 ?k80) (Lw.df_mk ?a81 ?l81 ?c81 ?k81) (Lw.df_mk ?a82 ?l82 ?c82 ?k82) (Lw.df_mk ?a83 ?l83 ?c83 ?k83) (Lw.df_mk ?a84 ?l84 ?c84 ?k84) (Lw.df_mk ?a85 ?l85 ?c85 ?k85) (Lw.df_mk ?a86 ?l86 ?c86 ?k86) (Lw.df_mk ?a87 ?l87 ?c87 ?k87) (Lw.df_mk ?a88 ?l88 ?c88 ?k88) (Lw.df_mk ?a89 ?l89 ?c89 ?k89) (Lw.df_mk ?a90 ?l90 ?c90 ?k90) (Lw.gl_mk ?xg0) (Lw.gl_mk ?xg1) (Lw.gl_mk ?xg2) (Lw.gl_mk ?xg3) (Lw.gl_mk ?xg4) (Lw.gl_mk ?xg5) ?x_NoPlace ?x_Mixed ?yPP ?yMM ?yMP ?ySP ?ySM ?ySS ?e_Short ?f_most (Lw.gl_mk ?xz0) (Lw.gl_mk ?xz1) (Lw.gl_mk ?xz2) (Lw.gl_mk ?xz3) (Lw.gl_mk ?xz4) (Lw.gl_mk ?xz5) (Lw.gl_mk ?xz6) (Lw.gl_mk ?xz7) (Lw.gl_mk ?xz8) (Lw.gl_mk ?xz9) (Lw.gl_mk ?xz10) (Lw.gl_mk ?xz11) (Lw.gl_mk ?xz12) (Lw.gl_mk ?xz13) (Lw.gl_mk ?xz14) (Lw.gl_mk ?xcLETTERS) (Lw.gl_mk ?xcLONGEST_NAME) (Lw.gl_mk ?xcMOST_ROOM) (Lw.gl_mk ?xcNOUGHT) ?xlNOUGHT (Lw.gl_mk ?xcMOST_BY) (Lw.gl_mk ?xcROLLS) ?xlROLLS (Lw.gl_mk ?xcLAYS) ?xlLAYS (Lw.gl_mk ?xcPUSHES) ?xlPUSHES (Lw.gl_mk ?xcCHANGES) ?xlCHANGES ?iaShort ?ilShort ?icShort ?ikShort ?ifShort ?ivShort ?ihShort ?isShort ?ixShort ?itShort
  (case a0|l0|c0|k0|a1|l1|c1|k1|a2|l2|c2|k2|a3|l3|c3|k3|a4|l4|c4|k4|a5|l5|c5|k5|a6|l6|c6|k6|a7|l7|c7|k7|a8|l8|c8|k8|a9|l9|c9|k9|a10|l10|c10|k10|a11|l11|c11|k11|a12|l12|c12|k12|a13|l13|c13|k13|a14|l14|c14|k14|a15|l15|c15|k15|a16|l16|c16|k16|a17|l17|c17|k17|a18|l18|c18|k18|a19|l19|c19|k19|a20|l20|c20|k20|a21|l21|c21|k21|a22|l22|c22|k22|a23|l23|c23|k23|a24|l24|c24|k24|a25|l25|c25|k25|a26|l26|c26|k26|a27|l27|c27|k27|a28|l28|c28|k28|a29|l29|c29|k29|a30|l30|c30|k30|a31|l31|c31|k31|a32|l32|c32|k32|a33|l33|c33|k33|a34|l34|c34|k34|a35|l35|c35|k35|a36|l36|c36|k36|a37|l37|c37|k37|a38|l38|c38|k38|a39|l39|c39|k39|a40|l40|c40|k40|a41|l41|c41|k41|a42|l42|c42|k42|a43|l43|c43|k43|a44|l44|c44|k44|a45|l45|c45|k45|a46|l46|c46|k46|a47|l47|c47|k47|a48|l48|c48|k48|a49|l49|c49|k49|a50|l50|c50|k50|a51|l51|c51|k51|a52|l52|c52|k52|a53|l53|c53|k53|a54|l54|c54|k54|a55|l55|c55|k55|a56|l56|c56|k56|a57|l57|c57|k57|a58|l58|c58|k58|a59|l59|c59|k59|a60|l60|c60|k60|a61|l61|c61|k61|a62|l62|c62|k62|a63|l63|c63|k63|a64|l64|c64|k64|a65|l65|c65|k65|a66|l66|c66|k66|a67|l67|c67|k67|a68|l68|c68|k68|a69|l69|c69|k69|a70|l70|c70|k70|a71|l71|c71|k71|a72|l72|c72|k72|a73|l73|c73|k73|a74|l74|c74|k74|a75|l75|c75|k75|a76|l76|c76|k76|a77|l77|c77|k77|a78|l78|c78|k78|a79|l79|c79|k79|a80|l80|c80|k80|a81|l81|c81|k81|a82|l82|c82|k82|a83|l83|c83|k83|a84|l84|c84|k84|a85|l85|c85|k85|a86|l86|c86|k86|a87|l87|c87|k87|a88|l88|c88|k88|a89|l89|c89|k89|a90|l90|c90|k90|xg0|xg1|xg2|xg3|xg4|xg5=>k_is)
  (case x_NoPlace=>(unfold L3.OwnX;kernel_rfl))
  (case x_Mixed=>(unfold L3.OwnX;kernel_rfl))
  (case yPP=>kernel_rfl)
  (case yMM=>kernel_rfl)
  (case yMP=>kernel_rfl)
  (case ySP=>kernel_rfl)
  (case ySM=>kernel_rfl)
  (case ySS=>kernel_rfl)
  (case e_Short=>exact⟨by k_is,by k_is,by k_is,by k_is,by k_is,by k_is,by k_is⟩)
  (case f_most|xz0|xz1|xz2|xz3|xz4|xz5|xz6|xz7|xz8|xz9|xz10|xz11|xz12|xz13|xz14|xcLETTERS|xcLONGEST_NAME|xcMOST_ROOM|xcNOUGHT|xlNOUGHT|xcMOST_BY|xcROLLS|xlROLLS|xcLAYS|xlLAYS|xcPUSHES|xlPUSHES|xcCHANGES|xlCHANGES|iaShort|ilShort|icShort|ikShort|ifShort=>k_is)
  (case ivShort=>(unfold L3.exOver;kernel_rfl))
  (case ihShort|isShort=>k_is)
  (case ixShort=>(unfold L3.excInitIn;kernel_rfl))
  (case itShort=>k_is)

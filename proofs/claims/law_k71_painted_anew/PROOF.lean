import PyProof.Rows.All
import Wide.All
import OpenK.AllK
import Wide.FinOn
import Lean
import PyProof.EqAt
import PyProof.EqKinds
import PyProof.TupleCall
import PyProof.StrLawsTight
import KE.KIntText
import KE.KxPart
import KE.KDictLaws
import KE.KMinKey
import PySem.Challenge.RW_reelcut_k71_painted_anew
set_option maxRecDepth 100000
set_option maxHeartbeats 4000000
set_option Elab.async false
set_option linter.all false
noncomputable section
local macro_rules|`(tactic|trivial)=>`(tactic|first|exact Or.inl rfl|exact Or.inr rfl|exact Or.inr (Or.inl rfl)|exact Or.inr (Or.inr rfl)|assumption|exact⟨rfl,rfl,rfl,rfl,rfl,rfl,rfl,rfl,fun _=>rfl,by decide⟩|(intro _ _ _ _ h;cases h;subst_vars;rfl))
theorem O.{u}{α:Sort u}{a:α}:a=a:=rfl
abbrev YA:=@if_neg
abbrev YB:=@if_pos
abbrev YC:=@absurd
abbrev YD:=@List.getElem?_eq_getElem
abbrev YE:=@List.length_cons
abbrev YF:=@List.mem_of_getElem?
abbrev YG:=@List.size_toArray
abbrev YH:=@Int.le_refl
abbrev YI:=@Nat.le_refl
abbrev YJ:=@PySem.wpAny_bind
abbrev YK:=@PySem.wpAny_pure
abbrev YL:=@PySem.wpAny_mono
abbrev YM:=@PySem.Heap.get?_push_of_some
abbrev YN:=@List.length_append
abbrev YO:=@List.mem_append
abbrev YQ:=@Int.toNat_natCast
abbrev YR:=@Nat.lt_of_lt_of_le
abbrev YS:=@List.length_map
abbrev YT:=@List.cons_append
abbrev YU:=@List.mem_cons
abbrev YV:=@PySem.Heap.lt_size
abbrev YW:=@decide_eq_false
abbrev YX:=@decide_eq_true
abbrev YY:=@List.mem_singleton
abbrev YZ:=@Bool.false_ne_true
abbrev Ya:=@List.getElem?_eq_some_iff
abbrev Yb:=@Option.some.inj
abbrev Yc:=@Int.add_zero
abbrev Yd:=@Nat.lt_of_le_of_lt
abbrev Ye:=@List.append_nil
abbrev Yf:=@List.mem_append_right
abbrev Yg:=@List.nil_append
abbrev Yh:=@Nat.pow_le_pow_right
abbrev Yi:=@Int.mul_assoc
abbrev Yj:=@List.getElem?_map
abbrev Yk:=@List.length_take
abbrev Yl:=@Bool.and_eq_true
abbrev Ym:=@Int.mul_le_mul_of_nonneg_right
abbrev Yn:=@PySem.Heap.get?_push_size
abbrev Yo:=@Nat.ne_of_lt
abbrev Yp:=@List.mem_append_left
abbrev Yq:=@Int.lt_of_mul_lt_mul_right
abbrev Yr:=@List.map_append
abbrev Ys:=@List.take_add_one
abbrev Yt:=@Int.mul_pos
abbrev Yu:=@Bool.eq_iff_iff
abbrev Yv:=@List.append_assoc
abbrev Yw:=@List.take_length
abbrev Yx:=@List.length_singleton
abbrev Yy:=@List.getElem?_append_right
abbrev Yz:=@List.getElem?_set_self
abbrev ZA:=@PySem.Heap.get?_update_other
abbrev ZB:=@List.getElem?_append_left
abbrev ZC:=@Nat.le_trans
abbrev ZD:=@List.not_mem_nil
abbrev ZE:=@List.mem_iff_getElem
abbrev ZF:=@Ne.symm
abbrev ZG:=@List.map_cons
abbrev ZH:=@List.drop_length
abbrev ZI:=@Int.mul_comm
abbrev ZJ:=@List.getElem?_set_ne
abbrev ZK:=@of_decide_eq_true
abbrev ZL:=@List.length_set
abbrev ZM:=@List.length_nil
abbrev ZN:=@PySem.mem_of_lookup
abbrev ZO:=@Array.getElem?_eq_some_iff
abbrev ZP:=@Nat.zero_le
abbrev ZQ:=@Int.sub_zero
abbrev ZR:=@List.length_drop
abbrev ZS:=@Int.mul_ne_zero
abbrev ZT:=@Int.eq_of_mul_eq_mul_right
namespace L2
open PySem PySem.Spec PyProof.Rows
abbrev Key:=Sum Int Str
noncomputable def qOn:Key->Value->Bool
 |.inl k,v=>Value.isInt k v
 |.inr x,v=>Value.isStrOf x v
noncomputable def jAe(w:World):Key->Int
 |.inl k=>hashInt k
 |.inr x=>hashStr w x
theorem jY:∀{k:Key} {v:Value},qOn k v=true->(∃i t,k=Sum.inl i/\v=Value.int i t)\/(∃x t,k=Sum.inr x/\v=Value.str x t)
 |.inl i,v,h=>by obtain⟨t,e⟩:=Value.isInt_shape (k:=i) (v:=v) h;exact .inl ⟨i,t,O,e⟩
 |.inr x,v,h=>by obtain⟨t,e⟩:=Value.isStrOf_shape (x:=x) (v:=v) h;exact .inr ⟨x,t,O,e⟩
theorem qO8(i:Int)(t:Tok):qOn (.inl i) (.int i t)=true:=by simp[qOn,Value.isInt]
theorem qRg(x:Str)(t:Tok):qOn (.inr x) (.str x t)=true:=by simp[qOn,Value.isStrOf]
theorem qWs(a b:Int):decide ((Sum.inl a:Key)=Sum.inl b)=(a==b):=by
 by_cases e:a=b
 . subst e;simp
 . have h:¬(Sum.inl a:Key)=Sum.inl b:=λq=>e (Sum.inl.inj q)
   rw[YW h];exact(beq_eq_false_iff_ne.mpr e).symm
theorem qW3(a b:Str):decide ((Sum.inr a:Key)=Sum.inr b)=decide (a=b):=by
 by_cases e:a=b
 . subst e;simp
 . have h:¬(Sum.inr a:Key)=Sum.inr b:=λq=>e (Sum.inr.inj q)
   rw[YW h,YW e]
theorem qXp(a:Int)(b:Str):decide ((Sum.inl a:Key)=Sum.inr b)=false:=YW (λq=>nomatch q)
theorem qX4(a:Str)(b:Int):decide ((Sum.inr a:Key)=Sum.inl b)=false:=YW (λq=>nomatch q)
noncomputable def q9(prog:Program)(w:World):PySem.KeyKind prog w Key where
 is:=qOn
 hash:=jAe w
 inj:=λv a b ha hb=>by
  rcases jY ha with ⟨i,t,rfl,rfl⟩|⟨x,t,rfl,rfl⟩
  . rcases jY hb with ⟨j,u,rfl,e⟩|⟨y,u,rfl,e⟩
    . injection e with e1 _;rw[e1]
    . exact nomatch e
  . rcases jY hb with ⟨j,u,rfl,e⟩|⟨y,u,rfl,e⟩
    . exact nomatch e
    . injection e with e1 _;rw[e1]
 byValue:=λk v h=>by rcases jY h with ⟨i,t,rfl,rfl⟩|⟨x,t,rfl,rfl⟩ <;> rfl
 pyHash:=λhv h=>by
  rcases jY hv with ⟨i,t,rfl,rfl⟩|⟨x,t,rfl,rfl⟩
  . exact wpAny_pyHash_int h
  . exact wpAny_pyHash_str h
 eqBool:=λhu hv h=>by
  rcases jY hu with ⟨i,t,rfl,rfl⟩|⟨x,t,rfl,rfl⟩
  . rcases jY hv with ⟨j,u,rfl,rfl⟩|⟨y,u,rfl,rfl⟩
    . rw[qWs]at h;exact wpAny_eqBool_int h
    . rw[qXp]at h;exact SeqAt.EqAt.int_str i t y u _ _ _ _ h
  . rcases jY hv with ⟨j,u,rfl,rfl⟩|⟨y,u,rfl,rfl⟩
    . rw[qX4]at h;exact SeqAt.EqAt.str_int x t j u _ _ _ _ h
    . rw[qW3]at h;exact wpAny_eqBool_str h
 «strs»:=λk x t v h=>by
  rcases jY h with ⟨i,u,rfl,e⟩|⟨y,u,rfl,e⟩
  . exact nomatch e
  . injection e with e1 _
    subst e1;cases v <;> rfl
theorem qK6(prog:Program)(w:World)(i:Int)(t:Tok):(q9 prog w).is (.inl i) (.int i t)=true:=qO8 i t
theorem qLu(prog:Program)(w:World)(x:Str)(t:Tok):(q9 prog w).is (.inr x) (.str x t)=true:=qRg x t
inductive V where
 |non|bl (b:Bool)|int (i:Int)|str (x:Str)|byt (b:Array UInt8)|flt (b:UInt64)|ref (a:Addr)|ty (n:String)
 deriving DecidableEq
def RelV:V->Value->Prop
 |.non,u=>u=Value.none
 |.bl b,u=>u=Value.bool b
 |.int i,u=> ∃t,u=Value.int i t
 |.str x,u=> ∃t,u=Value.str x t
 |.byt b,u=> ∃t,u=Value.bytes b t
 |.flt b,u=> ∃t,u=Value.float b t
 |.ref a,u=>u=Value.ref a
 |.ty n,u=>u=Value.type n
abbrev Vals:List V->List Value->Prop:=Paired RelV
theorem Vals.length{xs:List V}{us:List Value}(r:Vals xs us):xs.length=us.length:=Paired.length r
theorem Vals.get:∀{xs:List V} {us:List Value} {i:Nat} {x:V},Vals xs us->xs[i]?=some x->∃u,us[i]?=some u/\RelV x u
 |_,_,_,_,.nil,e=>by simp at e
 |_,_,0,_,.cons r _,e=>by simp at e;subst e;exact⟨_,rfl,r⟩
 |_,_,i+1,x,.cons _ t,e=>by obtain⟨u,h1,h2⟩:=Vals.get (i:=i) (x:=x) t (by simpa using e);exact⟨u,by simpa using h1,h2⟩
theorem Vals.set{x:V}{u:Value}(r:RelV x u):∀{xs:List V} {us:List Value} (i:Nat),Vals xs us->Vals (xs.set i x) (us.set i u)
 |_,_,_,.nil=>.nil
 |_,_,0,.cons _ t=>.cons r t
 |_,_,i+1,.cons q t=>.cons q (Vals.set r i t)
theorem Vals.append:∀{xs ys:List V} {us ws:List Value},Vals xs us->Vals ys ws->Vals (xs++ys) (us++ws)
 |_,_,_,_,.nil,s=>s
 |_,_,_,_,.cons r t,s=>.cons r (Vals.append t s)
theorem Vals.take:∀{xs:List V} {us:List Value} (n:Nat),Vals xs us->Vals (xs.take n) (us.take n)
 |_,_,0,_=>.nil
 |_,_,_+1,.nil=>.nil
 |_,_,n+1,.cons r t=>.cons r (Vals.take n t)
theorem Vals.drop:∀{xs:List V} {us:List Value} (n:Nat),Vals xs us->Vals (xs.drop n) (us.drop n)
 |_,_,0,r=>r
 |_,_,_+1,.nil=>.nil
 |_,_,n+1,.cons _ t=>Vals.drop n t
def RelO:Option V->Option Value->Prop
 |some v,some u=>RelV v u
 |none,none=>True
 |_,_=>False
def KV{κ:Type}:List (κ×V)->List (κ×Value)->Prop:=Paired λ(p:κ×V) (q:κ×Value)=>p.1=q.1/\RelV p.2 q.2
noncomputable def kV:Key->V
 |.inl i=>.int i
 |.inr x=>.str x
inductive HO where
 |lst (xs:List V)
 |tup (xs:List V)
 |dK (kvs:List (Key×V))|dT (kvs:List (List Key×V))
 |set (S:Int->Bool) (n:Nat)
 |ins (C dx:Addr) (fs:List (Str×V))
 |own (x:Addr)
 |xd (fs:List (Str×V))
 |met (f x:Addr)
 |rng (lo hi:Int)
 |frz (o:Obj) (u:HO)
 |tbl (ps:Array Value)
 |ext (φ:Heap->Prop)
abbrev Hp:=Addr->Option HO
noncomputable def upd(H:Hp)(a:Addr)(o:HO):Hp:=λb=>if b=a then some o else H b
theorem qC{H:Hp}{a:Addr}{o:HO}:upd H a o a=some o:=by unfold upd;rw[YB rfl]
theorem qQ{H:Hp}{a b:Addr}{o:HO}(h:b≠a):upd H a o b=H b:=by unfold upd;rw[YA h]
theorem qIj{H:Hp}{a:Addr}{o u:HO}:upd (upd H a o) a u=upd H a u:=by funext b;unfold upd;split <;> rfl
theorem xC{H:Hp}{a b:Addr}{o u:HO}(h:H a=some o)(h':H b=some u)(d:o≠u):a≠b:=by intro e;subst e;rw[h]at h';exact d (Yb h')
theorem qV{H:Hp}{a b:Addr}{o:HO}(h:H a=some o)(h':H b=none):a≠b:=by intro e;subst e;rw[h]at h';cases h'
section
variable(P:Program)(w:World)
def ObjOk(H:Hp)(h:Heap)(a:Addr):HO->Prop
 |.lst xs=>xs.length<=sizeLine/\∃(its:List Value) (n:Nat),Vals xs its/\h.get? a=some {cls:=.type "list",data:=.seq its.toArray n}
 |.tup xs=>xs.length<=sizeLine/\∃its:List Value,Vals xs its/\IsTup h a its.toArray
 |.dK kvs=>kvs.length<=sizeLine/\(a==sysModules)=false/\∃vs,KV kvs vs/\h.DictOf (q9 P w) a vs
 |.dT kvs=>kvs.length<=sizeLine/\(a==sysModules)=false/\∃xs:List (List Key×Addr×Value),
  Paired (λ(p:List Key×V) (q:List Key×Addr×Value)=>p.1=q.1/\H q.2.1=some (.tup (p.1.map kV))/\RelV p.2 q.2.2) kvs xs/\
  ∃o es ep,h.get? a=some o/\o.ExactDict/\o.data=.dict es ep/\es.toList=xs.map (entryOfKey (tupleKind (q9 P w)))/\(xs.map (·.1)).Nodup
 |.set S n=>h.SetOf (intKind P w) a S n
 |.ins C dx fs=>H dx=some (.own a)/\fs.length<=1000/\dx≠a/\h.get? a=some (PySem.W.instObj C dx)/\
  ∃mA,h.Ns1 dx mA/\(∀f,RelO (fs.lookup f) (mA f))/\PySem.Within mA (fs.map (·.1))
 |.own _=> ∃o,h.get? a=some o
 |.xd fs=> ∃mA,h.Ns1 a mA/\∀f,RelO (fs.lookup f) (mA f)
 |.rng lo hi=> ∃t u v,h.get? a=some {cls:=.type "range",data:=.fields #[.int lo t,.int hi u,.int 1 v]}
 |.frz o u=>h.get? a=some o/\ObjOk H h a u
 |.tbl ps=>h.get? a=some {cls:=.none,data:=.fields ps}
 |.met f x=>h.get? a=some (PySem.W.methodObj (.ref f) (.ref x))
 |.ext φ=>φ h/\(∃o,h.get? a=some o)/\∀h1 h2:Heap,φ h1->(∀o,h1.get? a=some o->h2.get? a=some o)->φ h2
def HOk(H:Hp)(h:Heap):Prop:= ∀a o,H a=some o->ObjOk P w H h a o
end
section
variable{P:Program}{w:World}{H H':Hp}{h h':Heap}{a:Addr}{o:HO}
theorem ObjOk.lt(x:ObjOk P w H h a o):a<h.objs.size:=by
 cases o with
 |lst xs=>obtain⟨_,_,_,_,e⟩:=x;exact YV e
 |tup xs=>obtain⟨_,_,_,p⟩:=x;exact p.lt
 |dK kvs=>obtain⟨_,_,_,_,o,_,_,e,_⟩:=x;exact YV e
 |dT kvs=>obtain⟨_,_,_,_,o,_,_,e,_⟩:=x;exact YV e
 |set S n=>obtain⟨o,_,_,_,e,_⟩:=x;exact YV e
 |ins C dx fs=>obtain⟨_,_,_,e,_⟩:=x;exact YV e
 |own y=>obtain⟨_,e⟩:=x;exact YV e
 |xd fs=>obtain⟨_,⟨_,_,_,e,_⟩,_⟩:=x;exact YV e
 |rng lo hi=>obtain⟨_,_,_,e⟩:=x;exact YV e
 |frz ob u=>obtain⟨e,_⟩:=x;exact YV e
 |tbl ps=>exact YV (show h.get? a=some _ from x)
 |met f y=>exact YV (show h.get? a=some _ from x)
 |ext φ=>obtain⟨_,⟨_,e⟩,_⟩:=x;exact YV e
theorem Paired.mapP{α β:Type}{F G:α->β->Prop}:∀{l₁:List α} {l₂:List β},Paired F l₁ l₂->(∀a b,F a b->G a b)->Paired G l₁ l₂
 |_,_,.nil,_=>.nil
 |_,_,.cons r t,f=>.cons (f _ _ r) (Paired.mapP t f)
theorem ObjOk.stay(x:ObjOk P w H h a o)(k:∀b u,(b=a\/H b=some (.own a))->h.get? b=some u->h'.get? b=some u)
 (ho:∀b,H b=some (.own a)->H' b=some (.own a)) (ht:∀b xs,H b=some (.tup xs)->H' b=some (.tup xs)):ObjOk P w H' h' a o:=by
 induction o with
 |lst xs=>obtain⟨z,its,n,r,e⟩:=x;exact⟨z,its,n,r,k _ _ (.inl rfl) e⟩
 |tup xs=>obtain⟨z,its,r,ob,e,c⟩:=x;exact⟨z,its,r,ob,k _ _ (.inl rfl) e,c⟩
 |dK kvs=>obtain⟨z,y,vs,r,ob,es,ep,e,c⟩:=x;exact⟨z,y,vs,r,ob,es,ep,k _ _ (.inl rfl) e,c⟩
 |dT kvs=>
  obtain⟨z,y,xs,r,ob,es,ep,e,c⟩:=x;exact⟨z,y,xs,Paired.mapP r λp q z=>⟨z.1,ht _ _ z.2.1,z.2.2⟩,ob,es,ep,k _ _ (.inl rfl) e,c⟩
 |set S n=>obtain⟨ob,es,ep,t,e,c⟩:=x;exact⟨ob,es,ep,t,k _ _ (.inl rfl) e,c⟩
 |ins C dx fs=>
  obtain⟨d,z,ne,e,mA,⟨od,es,ep,e2,c⟩,r⟩:=x;exact⟨ho _ d,z,ne,k _ _ (.inl rfl) e,mA,⟨od,es,ep,k _ _ (.inr d) e2,c⟩,r⟩
 |own y=>obtain⟨ob,e⟩:=x;exact⟨ob,k _ _ (.inl rfl) e⟩
 |xd fs=>obtain⟨mA,⟨od,es,ep,e,c⟩,r⟩:=x;exact⟨mA,⟨od,es,ep,k _ _ (.inl rfl) e,c⟩,r⟩
 |rng lo hi=>obtain⟨t,u,v,e⟩:=x;exact⟨t,u,v,k _ _ (.inl rfl) e⟩
 |frz ob u ih=>obtain⟨e,q⟩:=x;exact⟨k _ _ (.inl rfl) e,ih q⟩
 |tbl ps=>
  have e:h.get? a=some {cls:=.none,data:=.fields ps}:=x;show h'.get? a=some {cls:=.none,data:=.fields ps};exact k a _ (.inl rfl) e
 |met f y=>
  have e:h.get? a=some (PySem.W.methodObj (.ref f) (.ref y)):=x;show h'.get? a=some (PySem.W.methodObj (.ref f) (.ref y));exact k a _ (.inl rfl) e
 |ext φ=>obtain⟨p,⟨o,e⟩,st⟩:=x;exact⟨st _ _ p λo q=>k _ _ (.inl rfl) q,⟨o,k _ _ (.inl rfl) e⟩,st⟩
theorem HOk.lt(x:HOk P w H h)(e:H a=some o):a<h.objs.size:=(x a o e).lt
theorem HOk.fresh(x:HOk P w H h)(e:h.objs.size<=a):H a=none:=by
 cases q:H a with
 |none=>rfl
 |some u=>exact YC (YR (x.lt q) e) (Nat.lt_irrefl _)
theorem HOk.kept(x:HOk P w H h)(k:∀b u,h.get? b=some u->h'.get? b=some u):HOk P w H h':=λa o e=>
 (x a o e).stay (λb u _ q=>k b u q) (λ_ q=>q) λ_ _ q=>q
theorem HOk.laid(x:HOk P w H h)(k:∀b u,h.get? b=some u->h'.get? b=some u)(hp:h.objs.size<=a)(new:ObjOk P w (upd H a o) h' a o):HOk P w (upd H a o) h':=λb u e=>by
 have hn:=x.fresh hp;by_cases hb:b=a
 . subst hb;rw[qC]at e;cases e;exact new
 . rw[qQ hb]at e
   exact(x b u e).stay (λc v _ q=>k c v q) (λc q=>by rw[qQ (qV q hn)];exact q) λc xs q=>by rw[qQ (qV q hn)];exact q
end
def Rd(H:Hp)(a:Addr)(u:HO):Prop:=H a=some u\/∃o,H a=some (.frz o u)
theorem Rd.of{H:Hp}{a:Addr}{u:HO}(h:H a=some u):Rd H a u:=.inl h
theorem Rd.ok{P:Program}{w:World}{H:Hp}{h:Heap}{a:Addr}{u:HO}(r:Rd H a u)(x:HOk P w H h):ObjOk P w H h a u:=by
 rcases r with r|⟨o,r⟩
 . exact x a u r
 . obtain⟨_,q⟩:=x a _ r
   exact q
def Mut:Option HO->Prop
 |some (.lst _)=>True
 |some (.dK _)=>True
 |some (.dT _)=>True
 |some (.set _ _)=>True
 |some (.ins _ _ _)=>True
 |some (.ext _)=>True
 |_=>False
section
variable{P:Program}{w:World}{H:Hp}{h h':Heap}{x e:Addr}{o':HO}
theorem HOk.write(ok:HOk P w H h)(mu:Mut (H x))(he:e=x\/H e=some (.own x))(k:∀b u,b≠e->h.get? b=some u->h'.get? b=some u)(heo:∃u,h'.get? e=some u)
 (new:ObjOk P w (upd H x o') h' x o'):HOk P w (upd H x o') h':=λb u q=>by
 have nown:∀c y,H c=some (.own y)->c≠x:=λc y r z=>by subst z;rw[r]at mu;exact mu
 have ntup:∀c xs,H c=some (.tup xs)->c≠x:=λc xs r z=>by subst z;rw[r]at mu;exact mu
 by_cases hb:b=x
 . subst hb;rw[qC]at q;cases q;exact new
 . rw[qQ hb]at q
   by_cases hbe:b=e
   . have q':H b=some (.own x):=by
      rcases he with z|z
      . exact YC (hbe.trans z) hb
      . rw[hbe];exact z
     rw[q]at q';cases q';obtain⟨v,hv⟩:=heo;exact⟨v,by rw[hbe];exact hv⟩
   . refine(ok b u q).stay (λc v hc r=>k c v ?_ r) (λc r=>by rw[qQ (nown c b r)];exact r) λc xs r=>by rw[qQ (ntup c xs r)];exact r
     rcases hc with rfl|hc
     . exact hbe
     . rintro rfl
       rcases he with z|z
       . exact nown c b hc z
       . rw[hc]at z;cases z;exact hb rfl
end
structure Un(fs ex:List Addr)(H H':Hp)(h h':Heap):Prop where
 keep:∀b o,h.get? b=some o->H b=none->b∉fs->b∉ex->h'.get? b=some o
 slot:∀b o,h.get? b=some o->H b=none->b∈fs->b∉ex->∃sl,h'.get? b=some {o with slots:=sl}
 free:∀b o,h.get? b=some o->H b=none->b∉ex->H' b=none
 there:∀b o,h.get? b=some o->b∉ex->∃o',h'.get? b=some o'
 tups:∀b xs,H b=some (.tup xs)->H' b=some (.tup xs)
 frzs:∀b o u,H b=some (.frz o u)->H' b=some (.frz o u)
 tbls:∀b ps,H b=some (.tbl ps)->∃more,H' b=some (.tbl (ps++more))
section
variable{fs fs' ex ex':List Addr}{H H1 H2:Hp}{h h1 h2 h':Heap}{a x e:Addr}{o:HO}
theorem Un.any(u:Un fs ex H H1 h h1){b:Addr}{ob:Obj}(q:h.get? b=some ob)(n:H b=none)(hx:b∉ex):∃sl,h1.get? b=some {ob with slots:=sl}:=by
 by_cases hb:b∈fs
 . exact u.slot b ob q n hb hx
 . exact⟨ob.slots,u.keep b ob q n hb hx⟩
theorem Un.kept(k:∀b u,h.get? b=some u->h'.get? b=some u):Un fs ex H H h h':=
 ⟨λb ob q _ _ _=>k b ob q,λb ob q _ _ _=>⟨ob.slots,k b ob q⟩,λ_ _ _ n _=>n,λb ob q _=>⟨ob,k b ob q⟩,λ_ _ q=>q,λ_ _ _ q=>q,λ_ ps q=>⟨#[],by rw[q];simp⟩⟩
theorem Un.refl:Un fs ex H H h h:=Un.kept λ_ _ q=>q
theorem Un.laid(k:∀b u,h.get? b=some u->h'.get? b=some u)(hp:h.objs.size<=a)(hn:H a=none):Un fs ex H (upd H a o) h h' where
 keep:=λb u q _ _ _=>k b u q
 slot:=λb u q _ _ _=>⟨u.slots,k b u q⟩
 free:=λb u q n _=>by rw[qQ (Yo (YR (YV q) hp))];exact n
 there:=λb u q _=>⟨u,k b u q⟩
 tups:=λb xs q=>by rw[qQ (qV q hn)];exact q
 frzs:=λb u xs q=>by rw[qQ (qV q hn)];exact q
 tbls:=λb ps q=>⟨#[],by rw[qQ (qV q hn),q];simp⟩
theorem Un.write(mu:Mut (H x))(he:e=x\/H e=some (.own x))(k:∀b u,b≠e->h.get? b=some u->h'.get? b=some u)(heo:∃u,h'.get? e=some u):Un fs ex H (upd H x o) h h':=by
 have hx:∀b,H b=none->b≠x:=λb n z=>by subst z;rw[n]at mu;exact mu
 have hb:∀b,H b=none->b≠e:=λb n z=>by
  subst z;rcases he with r|r
  . exact hx b n r
  . rw[n]at r;cases r
 have hm:∀b u,H b=some u->¬Mut (some u)->b≠x:=λb u q nm z=>by subst z;rw[q]at mu;exact nm mu
 refine⟨λb u q n _ _=>k b u (hb b n) q,λb u q n _ _=>⟨u.slots,k b u (hb b n) q⟩,λb u q n _=>by rw[qQ (hx b n)];exact n,λb u q _=>?_,
  λb xs q=>by rw[qQ (hm b _ q λz=>z)];exact q,λb u xs q=>by rw[qQ (hm b _ q λz=>z)];exact q,λb ps q=>⟨#[],by rw[qQ (hm b _ q λz=>z),q];simp⟩⟩
 by_cases hbe:b=e
 . subst hbe;exact heo
 . exact⟨u,k b u hbe q⟩
end
noncomputable def trk(h:Heap)(H:Hp):List Addr:=(List.range h.objs.size).filter λa=>(H a).isSome
noncomputable def qSw(h:Heap)(H:Hp):Heap:=PySem.W.hideAll h (trk h H)
theorem qRd(h:Heap)(H:Hp):(qSw h H).objs.size=h.objs.size:=PySem.W.hideAll_size _ _
theorem qSx{h:Heap}{H:Hp}{b:Addr}{o:Obj}(e:h.get? b=some o)(n:H b=none):(qSw h H).get? b=some o:=
 PySem.W.hideAll_get _ e λhm=>by have q:(H b).isSome=true:=(List.mem_filter.mp hm).2;rw[n]at q;simp at q
theorem qVy{h:Heap}{H:Hp}{b:Addr}{o:Obj}(e:(qSw h H).get? b=some o):h.get? b=some o/\H b=none:=by
 have e':h.get? b=some o:=PySem.W.of_hideAll (trk h H) e;refine⟨e',?_⟩;cases q:H b with
 |none=>rfl
 |some x=>
  have hm:b∈trk h H:=List.mem_filter.mpr ⟨List.mem_range.mpr (YV e'),by simp[q]⟩;have z:(qSw h H).get? b=none:=PySem.W.hideAll_none (trk h H) hm;rw[z]at e;cases e
structure Mod(K:PySem.W.Frag)(mg:Str->Option Value)(base:Heap):Prop where
 kin:K.In base
 glob:base.Ns mainGlobals mg
 blt:∃mb,base.Ns builtinsNs mb/\∀x:Str,x≠"__name__"->mb x=bootBuiltins x
 nolimit:base.NoLimit
structure Cx where
 prog:Program
 w:World
 K:PySem.W.Frag
 mg:Str->Option Value
 base:Heap
 A:Around
 N:List Str
 s₀:Shared
 H₀:Hp
 env:Env
 outer:List Env
 stack:List Env
 ex:List Addr
 fn:Str->Bool
 calm:Bool
 pn:List (Addr×Obj)
 xe:Value->Shared->Prop
noncomputable def frs(l:List Env):List Addr:=l.filterMap (·.frame)
abbrev Cx.fs(X:Cx):List Addr:=frs X.outer
def Vis(sc:Scope)(x:Str):Prop:=sc.names.lookup x=some .local\/sc.names.lookup x=some .cell\/sc.names.lookup x=some .free
def Loc(sc:Scope)(x:Str):Prop:=sc.names.lookup x=some .local\/sc.names.lookup x=some .cell
def jAo(env:Env)(h:Heap)(m:Str->Option Value)(x:Str)(u:Value):Prop:=
 (env.kindOf x=some .local/\m x=some u)\/((env.kindOf x=some .cell\/env.kindOf x=some .free)/\∃c,env.cells.lookup x=some c/\h.IsCell c (some u))
structure Cx.Ok(X:Cx):Prop where
 mod:Mod X.K X.mg X.base
 kind:X.env.scope.kind=.function
 glob:X.env.globals=mainGlobals
 blt:X.env.builtins=builtinsNs
 above:X.s₀.heap.objs.size<=X.env.locals
 inj:∀x y c,X.env.cells.lookup x=some c->X.env.cells.lookup y=some c->x=y
 has:∀x,(X.env.kindOf x=some .cell\/X.env.kindOf x=some .free)->∃c,X.env.cells.lookup x=some c
 cab:∀x c,X.fn x=true->X.env.cells.lookup x=some c->X.s₀.heap.objs.size<=c
 hd:X.calm=true->X.A.handled=none
 frames:X.A.frames=some X.stack
 stk:X.stack=X.outer\/(X.stack=X.env::X.outer/\X.env.frame=some X.env.locals)
 exf:∀b∈X.ex,b≠X.env.locals/\∀x c,X.env.cells.lookup x=some c->c≠b
 bs:∀b o,X.base.get? b=some o->X.s₀.heap.get? b=some o/\X.H₀ b=none
 bsz:X.base.objs.size<=X.s₀.heap.objs.size
 noex:∀b o,X.base.get? b=some o->b∉X.ex
 exfs:∀b∈X.ex,b∉X.fs
 funs:X.s₀.heap.FunFrames X.base X.outer
 frf:∀b∈X.fs,X.H₀ b=none
structure Inv(X:Cx)(pins:List (Addr×Obj))(σ:List (Option V))(H:Hp)(s:Shared):Prop where
 ok:X.Ok
 os:s.os=X.s₀.os
 bare:AllBare s.gens
 base:Un X.fs X.ex X.H₀ H X.s₀.heap s.heap
 loc:∃m,s.heap.Ns X.env.locals m/\∀(i:Nat) (x:Str) (v:V),X.N[i]?=some x->σ[i]?=some (some v)->Vis X.env.scope x->∃u,RelV v u/\jAo X.env s.heap m x u
 cell:∀x c,X.env.cells.lookup x=some c->∃v,s.heap.IsCell c v
 free:H X.env.locals=none
 freeC:∀x c,X.env.cells.lookup x=some c->H c=none
 pin:∀p∈X.pn++pins,s.heap.get? p.1=some p.2/\H p.1=none/\p.1≠X.env.locals/\p.1∉X.fs/\∀v,p.2.data≠ .cell v
 hok:HOk X.prog X.w H s.heap
 len:σ.length=X.N.length
section
variable{X:Cx}{pins:List (Addr×Obj)}{σ:List (Option V)}{H H':Hp}{s:Shared}{h':Heap}
theorem Cx.Ok.nofr(ok:X.Ok){b:Addr}{o:Obj}(e:X.base.get? b=some o):b∉X.fs:=λhb=>by have:=(ok.funs.mem hb).1;rw[e]at this;cases this
theorem Inv.bs(I:Inv X pins σ H s):∀b o,X.base.get? b=some o->s.heap.get? b=some o/\H b=none:=λb o e=>
 ⟨I.base.keep b o (I.ok.bs b o e).1 (I.ok.bs b o e).2 (I.ok.nofr e) (I.ok.noex b o e),I.base.free b o (I.ok.bs b o e).1 (I.ok.bs b o e).2 (I.ok.noex b o e)⟩
theorem Inv.bk(I:Inv X pins σ H s):∀b o,X.base.get? b=some o->s.heap.get? b=some o:=λb o e=>(I.bs b o e).1
theorem Inv.mod(I:Inv X pins σ H s):Mod X.K X.mg X.base:=I.ok.mod
theorem Inv.kIn(I:Inv X pins σ H s):X.K.In s.heap:=I.ok.mod.kin.keeps I.bk
theorem Inv.lt(I:Inv X pins σ H s):X.env.locals<s.heap.objs.size:=let ⟨_,hn,_⟩:=I.loc;hn.lt
theorem Inv.sz(I:Inv X pins σ H s):X.s₀.heap.objs.size<=s.heap.objs.size:=ZC I.ok.above (Nat.le_of_lt I.lt)
theorem Inv.nofs(I:Inv X pins σ H s){a:Addr}(h:s.heap.objs.size<=a):a∉X.fs:=λhb=>by obtain⟨_,o,ho,_⟩:=I.ok.funs.mem hb;exact YC (YR (YV ho) (ZC I.sz h)) (Nat.lt_irrefl _)
theorem Inv.cne(I:Inv X pins σ H s):∀x c,X.env.cells.lookup x=some c->c≠X.env.locals:=λx c e z=>by obtain⟨v,o,ho,hd⟩:=I.cell x c e;obtain⟨m,⟨o',es,ep,ho',hd',_⟩,_⟩:=I.loc;rw[z,ho']at ho;cases ho;rw[hd']at hd;cases hd
theorem Inv.funs(I:Inv X pins σ H s):s.heap.FunFrames X.base X.outer:=by
 have all:∀(l:List Env),(∀b∈frs l,b∈X.fs)->X.s₀.heap.FunFrames X.base l->s.heap.FunFrames X.base l:=by
  intro l
  induction l with
  |nil=>intro _ _;trivial
  |cons env r ih=>
   intro hs hl;obtain⟨hk,⟨L,o,hf,hn,ho,hd⟩,hr⟩:=hl;have hL:L∈X.fs:=hs L (by unfold frs;rw[List.filterMap_cons,hf];exact List.mem_cons_self);obtain⟨sl,e⟩:=I.base.slot L o ho (I.ok.frf L hL) hL λz=>I.ok.exfs L z hL;exact⟨hk,⟨L,_,hf,hn,e,hd⟩,ih (λb hb=>hs b (by unfold frs;rw[List.filterMap_cons,hf];exact List.mem_cons_of_mem _ hb)) hr⟩
 exact all X.outer (λ_ hb=>hb) I.ok.funs
theorem Inv.stack(I:Inv X pins σ H s):s.heap.FunFrames X.base X.stack:=by
 rcases I.ok.stk with e|⟨e,hf⟩
 . rw[e];exact I.funs
 . rw[e]
   obtain⟨m,hn,_⟩:=I.loc;refine .cons (by rw[I.ok.kind];decide) hf hn ?_ I.funs;exact Heap.get?_none_of_le (ZC I.ok.bsz I.ok.above)
theorem Inv.stkSub(I:Inv X pins σ H s):∀b∈frs X.stack,b∈X.env.locals::X.fs:=λb hb=>by
 rcases I.ok.stk with e|⟨e,hf⟩
 . rw[e]at hb;exact List.mem_cons_of_mem _ hb
 . rw[e]at hb
   unfold frs at hb;rw[List.filterMap_cons,hf]at hb;exact hb
theorem Inv.stkFree(I:Inv X pins σ H s):∀b∈frs X.stack,H b=none:=λb hb=>by
 rcases YU.mp (I.stkSub b hb)with e|hb
 . rw[e];exact I.free
 . obtain⟨_,o,ho,_⟩:=I.ok.funs.mem hb
   exact I.base.free b o ho (I.ok.frf b hb) λz=>I.ok.exfs b z hb
theorem Inv.step{g':Array GenState}{t':Nat}{d':Drawn}{ch:List Addr}(I:Inv X pins σ H s)
 (hch:∀b∈ch,(b∈X.ex\/X.s₀.heap.objs.size<=b)/\b≠X.env.locals/\(∀x c,X.env.cells.lookup x=some c->c≠b)/\∀p∈X.pn++pins,p.1≠b)
 (keep:∀b o,b≠X.env.locals->b∉X.fs->b∉ch->s.heap.get? b=some o->H b=none->h'.get? b=some o)
 (slot:∀b o,b≠X.env.locals->b∈X.fs->b∉ch->s.heap.get? b=some o->H b=none->∃sl,h'.get? b=some {o with slots:=sl}) (free:∀b o,b∉ch->s.heap.get? b=some o->H b=none->H' b=none)
 (there:∀b o,b∉ch->s.heap.get? b=some o->∃o',h'.get? b=some o')
 (tups:∀b xs,H b=some (.tup xs)->H' b=some (.tup xs)) (frzs:∀b o u,H b=some (.frz o u)->H' b=some (.frz o u)) (tbls:∀b ps,H b=some (.tbl ps)->∃more,H' b=some (.tbl (ps++more)))
 (ns:∀m,s.heap.Ns X.env.locals m->h'.Ns X.env.locals m) (hok:HOk X.prog X.w H' h') (hg:AllBare g'):
 Inv X pins σ H' {s with heap:=h',gens:=g',drawn:=d',toks:=t'}:=by
 have neL:∀b o,X.s₀.heap.get? b=some o->b≠X.env.locals:=λb o e=>Yo (YR (YV e) I.ok.above);have neC:∀b o,X.s₀.heap.get? b=some o->b∉X.ex->b∉ch:=λb o e hx hb=>by
  rcases (hch b hb).1 with z|z
  . exact hx z
  . exact YC (YR (YV e) z) (Nat.lt_irrefl _)
 have cellK:∀x c,X.env.cells.lookup x=some c->∀v,s.heap.IsCell c v->h'.IsCell c v:=λx c e v ⟨o,ho,hd⟩=>by
  have nch:c∉ch:=λz=>(hch c z).2.2.1 x c e rfl;by_cases hc:c∈X.fs
  . obtain⟨sl,q⟩:=slot c o (I.cne x c e) hc nch ho (I.freeC x c e)
    exact⟨_,q,hd⟩
  . exact⟨o,keep c o (I.cne x c e) hc nch ho (I.freeC x c e),hd⟩
 refine⟨I.ok,I.os,hg,⟨λb o e n hb hx=>?_,λb o e n hb hx=>?_,λb o e n hx=>?_,λb o e hx=>?_,λb xs e=>tups b xs (I.base.tups b xs e),λb o xs e=>frzs b o xs (I.base.frzs b o xs e),λb ps e=>?_⟩,?_,λx c e=>?_,?_,λx c e=>?_,λp hp=>?_,hok,I.len⟩
 . exact keep b o (neL b o e) hb (neC b o e hx) (I.base.keep b o e n hb hx) (I.base.free b o e n hx)
 . obtain⟨sl,e1⟩:=I.base.slot b o e n hb hx
   obtain⟨sl',e2⟩:=slot b _ (neL b o e) hb (neC b o e hx) e1 (I.base.free b o e n hx);exact⟨sl',e2⟩
 . obtain⟨o',e1⟩:=I.base.there b o e hx
   exact free b o' (neC b o e hx) e1 (I.base.free b o e n hx)
 . obtain⟨o',e1⟩:=I.base.there b o e hx
   exact there b o' (neC b o e hx) e1
 . obtain⟨m1,e1⟩:=I.base.tbls b ps e
   obtain⟨m2,e2⟩:=tbls b _ e1;exact⟨m1++m2,by rw[e2,Array.append_assoc]⟩
 . obtain⟨m,hn,hl⟩:=I.loc
   refine⟨m,ns m hn,λi x v e1 e2 e3=>?_⟩;obtain⟨u,r,l⟩:=hl i x v e1 e2 e3;refine⟨u,r,?_⟩;rcases l with l|⟨k,c,e,z⟩
   . exact .inl l
   . exact .inr ⟨k,c,e,cellK x c e _ z⟩
 . obtain⟨v,z⟩:=I.cell x c e
   exact⟨v,cellK x c e v z⟩
 . obtain⟨m,⟨o,_,_,ho,_⟩,_⟩:=I.loc
   exact free _ o (λz=>(hch _ z).2.1 rfl) ho I.free
 . obtain⟨v,o,ho,hd⟩:=I.cell x c e
   exact free c o (λz=>(hch c z).2.2.1 x c e rfl) ho (I.freeC x c e)
 . obtain⟨e,n,ne,nf,d⟩:=I.pin p hp
   have nch:p.1∉ch:=λz=>(hch p.1 z).2.2.2 p hp rfl;exact⟨keep p.1 p.2 ne nf nch e n,free p.1 p.2 nch e n,ne,nf,d⟩
theorem Inv.un{t':Nat}(I:Inv X pins σ H s)(u:Un X.fs [] H H' s.heap h')(hok:HOk X.prog X.w H' h'):Inv X pins σ H' {s with heap:=h',toks:=t'}:=by
 obtain⟨m,⟨o,es,ep,ho,r⟩,_⟩:=id I.loc;obtain⟨sl,hL⟩:=u.any ho I.free (by simp);exact I.step (g':=s.gens) (d':=s.drawn) (ch:=[]) (λ_ z=>nomatch z) (λb o _ hb _ e n=>u.keep b o e n hb (by simp)) (λb o _ hb _ e n=>u.slot b o e n hb (by simp)) (λb o _ e n=>u.free b o e n (by simp)) (λb o _ e=>u.there b o e (by simp)) u.tups u.frzs u.tbls (λm' hm=>by obtain⟨o',es',ep',ho',r'⟩:=hm;rw[ho]at ho';cases ho';exact⟨_,es',ep',hL,r'⟩) hok I.bare
theorem Inv.call{g':Array GenState}{t':Nat}{d':Drawn}{ch:List Addr}(I:Inv X pins σ H s)(u:Un (frs X.stack) ch H H' s.heap h')(hok:HOk X.prog X.w H' h')(hg:AllBare g')
 (hch:∀b∈ch,(b∈X.ex\/X.s₀.heap.objs.size<=b)/\b≠X.env.locals/\(∀x c,X.env.cells.lookup x=some c->c≠b)/\∀p∈X.pn++pins,p.1≠b):
 Inv X pins σ H' {s with heap:=h',gens:=g',drawn:=d',toks:=t'}:=by
 obtain⟨m,⟨o,es,ep,ho,r⟩,_⟩:=id I.loc;obtain⟨sl,hL⟩:=u.any ho I.free λz=>(hch _ z).2.1 rfl;exact I.step (ch:=ch) hch (λb o hL hb hc e n=>u.keep b o e n (λz=>(YU.mp (I.stkSub b z)).elim hL hb) hc) (λb o _ _ hc e n=>u.any e n hc) (λb o hc e n=>u.free b o e n hc) (λb o hc e=>u.there b o e hc) u.tups u.frzs u.tbls (λm' hm=>by obtain⟨o',es',ep',ho',r'⟩:=hm;rw[ho]at ho';cases ho';exact⟨_,es',ep',hL,r'⟩) hok hg
theorem Inv.turned{t':Nat}{it:Addr}(I:Inv X pins σ H s)(k:∀b o,b≠it->s.heap.get? b=some o->h'.get? b=some o)(hn:H it=none)(hL:it≠X.env.locals)
 (h1:it∈X.ex\/X.s₀.heap.objs.size<=it) (h2:∀x c,X.env.cells.lookup x=some c->c≠it) (h3:∀p∈X.pn++pins,p.1≠it):Inv X pins σ H {s with heap:=h',toks:=t'}:=by
 have nit:∀b u,H b=some u->b≠it:=λb u e z=>by rw[z,hn]at e;cases e
 refine I.step (g':=s.gens) (d':=s.drawn) (ch:=[it]) (λb hb=>?_) (λb o _ _ hc e _=>k b o (λz=>hc (by simp[z])) e) (λb o _ _ hc e _=>⟨o.slots,k b o (λz=>hc (by simp[z])) e⟩) (λ_ _ _ _ n=>n)
  (λb o hc e=>⟨o,k b o (λz=>hc (by simp[z])) e⟩) (λ_ _ e=>e) (λ_ _ _ e=>e) (λb ps e=>⟨#[],by rw[e];simp⟩) (λm hm=>?_) (λb u e=>?_) I.bare
 . have e:b=it:=by simpa using hb
   subst e;exact⟨h1,hL,h2,h3⟩
 . obtain⟨o,es,ep,ho,r⟩:=hm
   exact⟨o,es,ep,k _ o (ZF hL) ho,r⟩
 . refine(I.hok b u e).stay (λc v hc q=>k c v ?_ q) (λ_ q=>q) λ_ _ q=>q
   rcases hc with z|z
   . rw[z];exact nit b u e
   . exact nit c _ z
theorem Inv.tok(I:Inv X pins σ H s)(t:Nat):Inv X pins σ H {s with toks:=t}:=I.un (h':=s.heap) (t':=t) Un.refl I.hok
theorem Inv.kept{t':Nat}(I:Inv X pins σ H s)(k:∀b u,s.heap.get? b=some u->h'.get? b=some u):Inv X pins σ H {s with heap:=h',toks:=t'}:=I.un (Un.kept k) (I.hok.kept k)
theorem Inv.laid{a:Addr}{o:HO}{t':Nat}(I:Inv X pins σ H s)(k:∀b u,s.heap.get? b=some u->h'.get? b=some u)(hp:s.heap.objs.size<=a)(new:ObjOk X.prog X.w (upd H a o) h' a o):
 Inv X pins σ (upd H a o) {s with heap:=h',toks:=t'}:=I.un (Un.laid k hp (I.hok.fresh hp)) (I.hok.laid k hp new)
theorem Inv.write{x e:Addr}{o:HO}{t':Nat}(I:Inv X pins σ H s)(mu:Mut (H x))(he:e=x\/H e=some (.own x))(k:∀b u,b≠e->s.heap.get? b=some u->h'.get? b=some u)(heo:∃u,h'.get? e=some u)
 (new:ObjOk X.prog X.w (upd H x o) h' x o):Inv X pins σ (upd H x o) {s with heap:=h',toks:=t'}:=I.un (Un.write mu he k heo) (I.hok.write mu he k heo new)
theorem Inv.weak{σ':List (Option V)}(I:Inv X pins σ H s)(hl:σ'.length=σ.length)(w:∀(i:Nat) v,σ'[i]?=some (some v)->σ[i]?=some (some v)):Inv X pins σ' H s:=
 ⟨I.ok,I.os,I.bare,I.base,let ⟨m,hn,hl'⟩:=I.loc;⟨m,hn,λi x v e1 e2 e3=>hl' i x v e1 (w i v e2) e3⟩,I.cell,I.free,I.freeC,I.pin,I.hok,hl.trans I.len⟩
theorem Inv.pins_of{pins':List (Addr×Obj)}(I:Inv X pins σ H s)(h:∀p∈pins',s.heap.get? p.1=some p.2/\H p.1=none/\p.1≠X.env.locals/\p.1∉X.fs/\∀v,p.2.data≠ .cell v):Inv X pins' σ H s:=
 ⟨I.ok,I.os,I.bare,I.base,I.loc,I.cell,I.free,I.freeC,λp hp=>(YO.mp hp).elim (λz=>I.pin p (Yp _ z)) (h p),I.hok,I.len⟩
theorem qHf{N:List Str}(hN:N.Nodup){i j:Nat}{x:Str}(a:N[i]?=some x)(b:N[j]?=some x):i=j:=by obtain⟨h1,e1⟩:=Ya.mp a;obtain⟨h2,e2⟩:=Ya.mp b;exact(List.getElem_inj hN).mp (e1.trans e2.symm)
theorem qI7{M:Model}{A:Around}{E:Value->Shared->Prop}{i:Nat}{x:Str}{v:V}{u:Value}{Q:Unit->Shared->Prop}(I:Inv X pins σ H s)(hN:X.N.Nodup)(hi:X.N[i]?=some x)(hx:Loc X.env.scope x)(r:RelV v u)
 (h:∀s',Inv X pins (σ.set i (some v)) H s'->(∃a,Heap.SameBut a s.heap s'.heap/\(a=X.env.locals\/X.env.cells.lookup x=some a))->Q () s') (hf:X.fn x=true\/X.env.scope.names.lookup x=some .local:=by trivial):wpAny M A (storeName X.env x u) Q E s:=by
 obtain⟨m,hn,hl⟩:=id I.loc;have hcls:(X.env.scope.kind== .class || (X.env.scope.kind== .module && X.env.locals != X.env.globals))=false:=by rw[I.ok.kind];rfl
 have hiσ:i<σ.length:=by rw[I.len];exact(Ya.mp hi).1
 have cne:=I.cne;have tracked:∀{a:Addr} {h':Heap},(∃o,s.heap.get? a=some o/\H a=none)->Heap.SameBut a s.heap h'->HOk X.prog X.w H h':=λ{a h'} ha hs b ob e=>by
  obtain⟨_,_,hfree⟩:=ha;refine(I.hok b ob e).stay (λc w' hc q=>(hs.2 c ?_).trans q) (λ_ q=>q) λ_ _ q=>q;rintro rfl;rcases hc with rfl|hc
  . rw[hfree]at e;cases e
  . rw[hfree]at hc;cases hc
 rcases hx with hk|hk
 . refine wpAny_storeName_local hk hn (λh' hn' hs=>?_) hcls
   obtain⟨oL,_,_,hoL,_⟩:=id hn;refine h _ ⟨I.ok,I.os,I.bare,⟨λb o e n hb hx=>?_,λb o e n hb hx=>?_,I.base.free,λb o e hx=>?_,I.base.tups,I.base.frzs,I.base.tbls⟩,⟨_,hn',λj y v' e1 e2 e3=>?_⟩,λy c e=>?_,I.free,I.freeC,λp hp=>?_,tracked ⟨oL,hoL,I.free⟩ hs,by simpa using I.len⟩ ⟨_,hs,.inl rfl⟩
   . exact(hs.2 b (Yo (YR (YV e) I.ok.above))).trans (I.base.keep b o e n hb hx)
   . obtain⟨sl,e1⟩:=I.base.slot b o e n hb hx
     exact⟨sl,(hs.2 b (Yo (YR (YV e) I.ok.above))).trans e1⟩
   . obtain⟨o',e1⟩:=I.base.there b o e hx
     exact⟨o',(hs.2 b (Yo (YR (YV e) I.ok.above))).trans e1⟩
   . by_cases hj:j=i
     . subst hj
       rw[hi]at e1;cases e1;rw[Yz hiσ]at e2;cases e2;exact⟨u,r,.inl ⟨hk,by simp⟩⟩
     . rw[ZJ (ZF hj)]at e2
       obtain⟨u',r',q⟩:=hl j y v' e1 e2 e3;refine⟨u',r',?_⟩;rcases q with ⟨k,e⟩|⟨k,c,e,z⟩
       . refine .inl ⟨k,?_⟩
         have:y≠x:=λe=>hj (qHf hN e1 (e ▸ hi));simp[this,e]
       . exact .inr ⟨k,c,e,z.sameBut hs (cne y c e)⟩
   . obtain⟨w',z⟩:=I.cell y c e
     exact⟨w',z.sameBut hs (cne y c e)⟩
   . obtain⟨e,n,ne,nf,d⟩:=I.pin p hp
     exact⟨(hs.2 p.1 ne).trans e,n,ne,nf,d⟩
 . have hfn:X.fn x=true:=by
    rcases hf with z|z
    . exact z
    . rw[z]at hk;cases hk
   obtain⟨c,hc⟩:=I.ok.has x (.inl hk);obtain⟨w',z⟩:=I.cell x c hc;refine wpAny_storeName_cell I.ok.kind hk hc z (λh' hc' hs=>?_);obtain⟨oc,hoc,hocd⟩:=id z;refine h {s with heap:=h'} ⟨I.ok,I.os,I.bare,⟨λb o e n hb hx=>?_,λb o e n hb hx=>?_,I.base.free,λb o e hx=>?_,I.base.tups,I.base.frzs,I.base.tbls⟩,⟨m,hn.sameBut hs (ZF (cne x c hc)),λj y v' e1 e2 e3=>?_⟩,λy c' e=>?_,I.free,I.freeC,λp hp=>?_,tracked ⟨oc,hoc,I.freeC x c hc⟩ hs,by simpa using I.len⟩ ⟨c,hs,.inr hc⟩
   . exact(hs.2 b (Yo (YR (YV e) (I.ok.cab x c hfn hc)))).trans (I.base.keep b o e n hb hx)
   . obtain⟨sl,e1⟩:=I.base.slot b o e n hb hx
     exact⟨sl,(hs.2 b (Yo (YR (YV e) (I.ok.cab x c hfn hc)))).trans e1⟩
   . obtain⟨o',e1⟩:=I.base.there b o e hx
     exact⟨o',(hs.2 b (Yo (YR (YV e) (I.ok.cab x c hfn hc)))).trans e1⟩
   . by_cases hj:j=i
     . subst hj
       rw[hi]at e1;cases e1;rw[Yz hiσ]at e2;cases e2;exact⟨u,r,.inr ⟨.inl hk,c,hc,hc'⟩⟩
     . rw[ZJ (ZF hj)]at e2
       obtain⟨u',r',q⟩:=hl j y v' e1 e2 e3;refine⟨u',r',?_⟩;rcases q with q|⟨k,c',e,z'⟩
       . exact .inl q
       . refine .inr ⟨k,c',e,z'.sameBut hs ?_⟩
         rintro rfl;exact hj (qHf hN e1 (I.ok.inj _ _ _ e hc ▸ hi))
   . by_cases hcc:c'=c
     . subst hcc;exact⟨_,hc'⟩
     . obtain⟨w2,z2⟩:=I.cell y c' e
       exact⟨w2,z2.sameBut hs hcc⟩
   . obtain⟨e,n,ne,nf,d⟩:=I.pin p hp
     refine⟨(hs.2 p.1 ?_).trans e,n,ne,nf,d⟩;intro q;rw[q,hoc]at e;have q':oc=p.2:=Yb e;exact d w' (by rw[<-q'];exact hocd)
theorem qDu{M:Model}{A:Around}{E:Value->Shared->Prop}{i:Nat}{x:Str}{v:V}{u:Value}{Q:Unit->Shared->Prop}(I:Inv X pins σ H s)(hN:X.N.Nodup)(hi:X.N[i]?=some x)(hx:Loc X.env.scope x)(r:RelV v u)
 (h:∀s',Inv X pins (σ.set i (some v)) H s'->Q () s') (hf:X.fn x=true\/X.env.scope.names.lookup x=some .local:=by trivial):wpAny M A (storeName X.env x u) Q E s:=
 qI7 I hN hi hx r (λs' I' _=>h s' I') hf
theorem Inv.call'{s':Shared}{ch:List Addr}(I:Inv X pins σ H s)(ho:s'.os=s.os)(u:Un (frs X.stack) ch H H' s.heap s'.heap)(hok:HOk X.prog X.w H' s'.heap)(hg:AllBare s'.gens)
 (hch:∀b∈ch,(b∈X.ex\/X.s₀.heap.objs.size<=b)/\b≠X.env.locals/\(∀x c,X.env.cells.lookup x=some c->c≠b)/\∀p∈X.pn++pins,p.1≠b):Inv X pins σ H' s':=by
 obtain⟨h',g',d',t',o'⟩:=s';have e:o'=s.os:=ho;subst e;exact I.call (g':=g') (t':=t') (d':=d') u hok hg hch
end
abbrev XK:=Value->Option Addr->Hp->Prop
abbrev St:=List (Option V)
abbrev VK:=V->Hp->Prop
abbrev TE:=St->Hp->VK->Prop
abbrev TT:=St->Hp->(Bool->Hp->Prop)->Prop
abbrev TA:=St->Hp->(List V->Hp->Prop)->Prop
structure qO4 where
 nx:St->Hp->Prop
 rt:VK
 bk:St->Hp->Prop:=λ_ _=>False
 ct:St->Hp->Prop:=λ_ _=>False
abbrev TS:=qO4->St->Hp->Prop
def EP(X:Cx)(pins:List (Addr×Obj))(σ:St)(Q:VK)(u:Value)(s':Shared):Prop:= ∃v H',Inv X pins σ H' s'/\RelV v u/\Q v H'
def TP(X:Cx)(pins:List (Addr×Obj))(σ:St)(Q:Bool->Hp->Prop)(b:Bool)(s':Shared):Prop:= ∃H',Inv X pins σ H' s'/\Q b H'
def AP(X:Cx)(pins:List (Addr×Obj))(σ:St)(Q:List V->Hp->Prop)(us:List Value)(s':Shared):Prop:= ∃vs H',Inv X pins σ H' s'/\Vals vs us/\Q vs H'
def SP(X:Cx)(pins:List (Addr×Obj))(D:qO4)(f:Flow)(s':Shared):Prop:=
 match f with
 |.next=> ∃σ' H',Inv X pins σ' H' s'/\D.nx σ' H'
 |.brk=> ∃σ' H',Inv X pins σ' H' s'/\D.bk σ' H'
 |.cont=> ∃σ' H',Inv X pins σ' H' s'/\D.ct σ' H'
 |.ret u=> ∃v σ' H',Inv X pins σ' H' s'/\RelV v u/\D.rt v H'
def PE(X:Cx)(e:Expr)(t:TE):Prop:=
 ∀(pins:List (Addr×Obj)) (s:Shared) (σ:St) (H:Hp) (Q:VK),Inv X pins σ H s->t σ H Q->wpAny (model X.prog X.w) X.A (eval e X.env) (EP X pins σ Q) X.xe s
def PT(X:Cx)(e:Expr)(t:TT):Prop:=
 ∀(pins:List (Addr×Obj)) (s:Shared) (σ:St) (H:Hp) (Q:Bool->Hp->Prop),Inv X pins σ H s->t σ H Q->wpAny (model X.prog X.w) X.A (isTrue e X.env (eval e X.env)) (TP X pins σ Q) X.xe s
def PW(X:Cx)(e:Expr)(t:TT):Prop:=
 ∀(whole:Sem Value) (pins:List (Addr×Obj)) (s:Shared) (σ:St) (H:Hp) (Q:Bool->Hp->Prop),Inv X pins σ H s->t σ H Q->wpAny (model X.prog X.w) X.A (isTrue e X.env whole) (TP X pins σ Q) X.xe s
theorem PW.pt{X:Cx}{e:Expr}{t:TT}(h:PW X e t):PT X e t:=h _
def PA(X:Cx)(es:List Expr)(t:TA):Prop:=
 ∀(pos:Pos) (pins:List (Addr×Obj)) (s:Shared) (σ:St) (H:Hp) (Q:List V->Hp->Prop),Inv X pins σ H s->t σ H Q->wpAny (model X.prog X.w) X.A (spliced (backTo pos (starEach es X.env))) (AP X pins σ Q) X.xe s
def PS(X:Cx)(st:Stmt)(t:TS):Prop:=
 ∀(pins:List (Addr×Obj)) (s:Shared) (σ:St) (H:Hp) (D:qO4),Inv X pins σ H s->t D σ H->wpAny (model X.prog X.w) X.A (exec st X.env) (SP X pins D) X.xe s
def PSs(X:Cx)(st:List Stmt)(t:TS):Prop:=
 ∀(pins:List (Addr×Obj)) (s:Shared) (σ:St) (H:Hp) (D:qO4),Inv X pins σ H s->t D σ H->wpAny (model X.prog X.w) X.A (execs st X.env) (SP X pins D) X.xe s
theorem thn{α:Type}{t:Sem α}{Q Q':α->Shared->Prop}{M:Model}{A:Around}{E:Value->Shared->Prop}{s:Shared}(h:wpAny M A t Q E s)(hQ:∀a s,Q a s->Q' a s):wpAny M A t Q' E s:=YL h hQ λ_ _ x=>x
section
variable{X:Cx}
inductive qIn(i:Nat)(σ:L2.St)(H:Hp)(Q:VK):Prop
|mk v (_:σ[i]?=some (some v)) (_:Q v H)
def tC(v:V):TE:=λ_ H Q=>Q v H
theorem qXi{i:Nat}{x:Str}{pos:Pos}(hN:X.N[i]?=some x)(hv:Vis X.env.scope x)(hd:(x==("__debug__":Str))=false:=by decide)(hcd:(x==("__classdict__":Str))=false:=by decide):PE X (.Name x pos) (qIn i):=by
 intro pins s σ H Q I h;obtain⟨v,e,h⟩:=h;obtain⟨m,hn,hl⟩:=I.loc;obtain⟨u,r,l⟩:=hl i x v hN e hv;have fin:EP X pins σ Q u s:=⟨v,H,I,r,h⟩;rcases l with ⟨hk,hm⟩|⟨hk,c,hc,hcell⟩
 . exact wpAny_Name (wpAny_loadName_local I.ok.kind hk hn hm fin) hd
 . rcases hk with hk|hk
   . exact wpAny_Name (wpAny_loadName_cell I.ok.kind hk hc hcell fin) hd
   . exact wpAny_Name (wpAny_loadName_free I.ok.kind hk hc hcell fin hcd) hd
theorem qG{i j pos}:PE X (.Constant (.int i) j pos) (tC (.int i)):=λ_ _ _ H _ I h=>wpAny_Constant_int ⟨.int i,H,I.tok _,⟨_,rfl⟩,h⟩
theorem zH{b j pos}:PE X (.Constant (.bool b) j pos) (tC (.bl b)):=λ_ _ _ H _ I h=>Constant_bool ⟨.bl b,H,I,rfl,h⟩
theorem vM{j pos}:PE X (.Constant .none j pos) (tC .non):=λ_ _ _ H _ I h=>Constant_none ⟨.non,H,I,rfl,h⟩
theorem qR{x j pos}:PE X (.Constant (.str x) j pos) (tC (.str x)):=λ_ _ _ H _ I h=>Calls.Constant_str ⟨.str x,H,I.tok _,⟨_,rfl⟩,h⟩
def Gl(X:Cx)(x:Str):Prop:=X.env.kindOf x=some .globalImplicit
theorem qAi{E:Value->Shared->Prop}{pins:List (Addr×Obj)}{s:Shared}{σ:St}{H:Hp}{x:Str}{u:Value}{pos:Pos}{Q:Value->Shared->Prop}(I:Inv X pins σ H s)(hg:Gl X x)(hm:X.mg x=some u)(h:Q u s)
 (hd:(x==("__debug__":Str))=false:=by decide):wpAny (model X.prog X.w) X.A (eval (.Name x pos) X.env) Q E s:=
 Calls.Name_function_global I.ok.kind hg (Calls.loadGlobal_global (by rw[I.ok.glob];exact I.mod.glob.keeps I.bk) hm h) hd
theorem qD9{E:Value->Shared->Prop}{pins:List (Addr×Obj)}{s:Shared}{σ:St}{H:Hp}{x:Str}{u:Value}{pos:Pos}{Q:Value->Shared->Prop}(I:Inv X pins σ H s)(hg:Gl X x)(hm:X.mg x=none)(hv:bootBuiltins x=some u)(h:Q u s)
 (hn:x≠"__name__":=by decide) (hd:(x==("__debug__":Str))=false:=by decide):wpAny (model X.prog X.w) X.A (eval (.Name x pos) X.env) Q E s:=by
 obtain⟨mb,h1,h2⟩:=I.mod.blt;exact Calls.Name_function_global I.ok.kind hg (Calls.loadGlobal_builtin (by rw[I.ok.glob];exact I.mod.glob.keeps I.bk) hm (by rw[I.ok.blt];exact h1.keeps I.bk) ((h2 x hn).trans hv) h) hd
theorem jQ{x:Str}{v:V}{u:Value}{pos:Pos}(hg:Gl X x)(hm:X.mg x=some u)(r:RelV v u)(hd:(x==("__debug__":Str))=false:=by decide):PE X (.Name x pos) (tC v):=
 λ_ _ _ H _ I h=>qAi I hg hm ⟨v,H,I,r,h⟩ hd
theorem qV7{x:Str}{v:V}{u:Value}{pos:Pos}(hg:Gl X x)(hm:X.mg x=none)(hv:bootBuiltins x=some u)(r:RelV v u)(hn:x≠"__name__":=by decide)(hd:(x==("__debug__":Str))=false:=by decide):PE X (.Name x pos) (tC v):=
 λ_ _ _ H _ I h=>qD9 I hg hm hv ⟨v,H,I,r,h⟩ hn hd
variable{a b:Expr}{ta tb:TE}{pos:Pos}
def PC(X:Cx)(op:CmpOp)(a b:Expr)(t:TE):Prop:=
 ∀(pins:List (Addr×Obj)) (s:Shared) (σ:St) (H:Hp) (Q:VK),Inv X pins σ H s->t σ H Q->
  wpAny (model X.prog X.w) X.A (eval a X.env) (λv s₁=>wpAny (model X.prog X.w) X.A (eval b X.env) (λu s₂=>wpAny (model X.prog X.w) X.A (compareOp op v u) (EP X pins σ Q) X.xe s₂) X.xe s₁) X.xe s
theorem qMy(b:Expr){op:CmpOp}(h:op≠ .In)(h2:op≠ .NotIn):behindInMarks op b=false:=by
 have e1:(op==CmpOp.In)=false:=by cases op <;> first|rfl|exact YC rfl h
 have e2:(op==CmpOp.NotIn)=false:=by cases op <;> first|rfl|exact YC rfl h2
 cases b <;> simp[behindInMarks,e1,e2]
def jAf(ta:TE):TE:=λσ H Q=>ta σ H λx H1=>Q (.bl (decide (x=.non))) H1
def qZj(ta:TE):TE:=λσ H Q=>ta σ H λx H1=>Q (.bl (!decide (x=.non))) H1
theorem RelV.none_iff{x:V}{v:Value}(r:RelV x v):(v==Value.none)=decide (x=.non):=by
 cases x with
 |non=>cases r;rfl
 |bl _=>cases r;rfl
 |int _=>obtain⟨t,rfl⟩:=r;rfl
 |str _=>obtain⟨t,rfl⟩:=r;rfl
 |byt _=>obtain⟨t,rfl⟩:=r;rfl
 |flt _=>obtain⟨t,rfl⟩:=r;rfl
 |ref _=>cases r;rfl
 |ty _=>cases r;rfl
theorem wO{j pos'}(ha:PE X a ta):PC X .Is a (.Constant .none j pos') (jAf ta):=by intro pins s σ H Q I h;refine thn (ha pins s σ H _ I h) λv s1 ⟨x,H1,I1,r1,q1⟩=>?_;exact Constant_none (is_none_gen ⟨.bl _,H1,I1,by rw[r1.none_iff];rfl,q1⟩)
theorem qQi{j pos'}(ha:PE X a ta):PC X .IsNot a (.Constant .none j pos') (qZj ta):=by intro pins s σ H Q I h;refine thn (ha pins s σ H _ I h) λv s1 ⟨x,H1,I1,r1,q1⟩=>?_;exact Constant_none (isnot_none_gen ⟨.bl _,H1,I1,by rw[r1.none_iff];rfl,q1⟩)
inductive tBI(Q:Bool->Hp->Prop)(x:V)(H1:Hp):Prop
|mk c (_:x=.bl c) (_:Q c H1)
def tB(t:TE):TT:=λσ H Q=>t σ H λx H1=>tBI Q x H1
theorem qXb{op:CmpOp}{t:TE}(h:PC X op a b t)(h1:behindInMarks op b=false:=by first|exact qMy _ (by decide) (by decide)|rfl):PE X (.Compare a [op] [b] pos) t:=λpins s σ H Q I hw=>wpAny_Compare1 (h pins s σ H Q I hw) h1
theorem zV{op:CmpOp}{t:TE}(h:PC X op a b t)(h1:behindInMarks op b=false:=by first|exact qMy _ (by decide) (by decide)|rfl):PT X (.Compare a [op] [b] pos) (tB t):=by intro pins s σ H Q I hw;refine wpAny_isTrue_Compare1 (thn (h pins s σ H _ I hw) λv s1 h1=>thn h1 λu s2 h2=>thn h2 λc s3 ⟨x,H1,I1,r1,q1⟩=>?_) h1;obtain⟨d,rfl,q⟩:=q1;cases r1;exact wpAny_truthy_bool ⟨H1,I1,q⟩
theorem qr{e:Expr}{t:TE}(h:PE X e t)(he:∀whole,isTrue e X.env whole=(do let v<-whole;standAt e.pos;holding [v] (truthy v)):=by intro _;rfl):PT X e (tB t):=by intro pins s σ H Q I hw;refine isTrue_plain (thn (h pins s σ H _ I hw) λv s1 ⟨x,H1,I1,r1,q1⟩=>?_) (he _);obtain⟨d,rfl,q⟩:=q1;cases r1;exact wpAny_truthy_bool ⟨H1,I1,q⟩
variable{tA tB':TT}{rest:List Expr}
def qZ9(t u:TT):TT:=λσ H Q=>t σ H λc H1=>if c=true then u σ H1 Q else Q false H1
def tOr(t u:TT):TT:=λσ H Q=>t σ H λc H1=>if c=true then Q true H1 else u σ H1 Q
def jAd(t:TT):TT:=λσ H Q=>t σ H λc H1=>Q (!c) H1
theorem zK(ha:PT X a tA):PW X (.BoolOp .And [a] pos) tA:=by
 intro wh pins s σ H Q I h;refine isTrue_and (thn (ha pins s σ H Q I h) λc s1 e=>?_);cases c with
 |true=>exact isTrue_and_nil e
 |false=>exact e
theorem jL(ha:PT X a tA):PW X (.BoolOp .Or [a] pos) tA:=by
 intro wh pins s σ H Q I h;refine isTrue_or (thn (ha pins s σ H Q I h) λc s1 e=>?_);cases c with
 |false=>exact isTrue_or_nil e
 |true=>exact e
theorem vO(ha:PT X a tA)(hb:PW X (.BoolOp .And (b::rest) pos) tB'):PW X (.BoolOp .And (a::b::rest) pos) (qZ9 tA tB'):=by
 intro wh pins s σ H Q I h;refine isTrue_and (thn (ha pins s σ H _ I h) λc s1 ⟨H1,I1,q1⟩=>?_);cases c with
 |true=>exact hb wh pins s1 σ H1 Q I1 q1
 |false=>exact⟨H1,I1,q1⟩
theorem jv(ha:PT X a tA)(hb:PW X (.BoolOp .Or (b::rest) pos) tB'):PW X (.BoolOp .Or (a::b::rest) pos) (tOr tA tB'):=by
 intro wh pins s σ H Q I h;refine isTrue_or (thn (ha pins s σ H _ I h) λc s1 ⟨H1,I1,q1⟩=>?_);cases c with
 |true=>exact⟨H1,I1,q1⟩
 |false=>exact hb wh pins s1 σ H1 Q I1 q1
theorem jK(ha:PT X a tA):PT X (.UnaryOp .Not a pos) (jAd tA):=by intro pins s σ H Q I h;exact isTrue_not (ha pins s σ H (λc H1=>Q (!c) H1) I h)
inductive qXa(tb:TE)(σ:L2.St)(Q:VK)(x:V)(H1:Hp):Prop
|mk c (_:x=.bl c) (_:if c=true then tb σ H1 Q else Q (.bl false) H1)
def qZn(ta tb:TE):TE:=λσ H Q=>ta σ H λx H1=>qXa tb σ Q x H1
inductive qZb(tb:TE)(σ:L2.St)(Q:VK)(x:V)(H1:Hp):Prop
|mk c (_:x=.bl c) (_:if c=true then Q (.bl true) H1 else tb σ H1 Q)
def jAm(ta tb:TE):TE:=λσ H Q=>ta σ H λx H1=>qZb tb σ Q x H1
inductive qXn(Q:VK)(x:V)(H1:Hp):Prop
|mk c (_:x=.bl c) (_:Q (.bl (!c)) H1)
def qY2(ta:TE):TE:=λσ H Q=>ta σ H λx H1=>qXn Q x H1
theorem kC{op}{t:TE}(h:PE X a t):PE X (.BoolOp op [a] pos) t:=λpins s σ H Q I hw=>BoolOp_one (h pins s σ H Q I hw)
theorem xy(ha:PE X a ta)(hb:PE X (.BoolOp .And (b::rest) pos) tb):PE X (.BoolOp .And (a::b::rest) pos) (qZn ta tb):=by
 intro pins s σ H Q I h;refine BoolOp_and (thn (ha pins s σ H _ I h) λv s1 ⟨x,H1,I1,r1,q1⟩=>?_);obtain⟨c,rfl,q1⟩:=q1;cases r1;refine wpAny_truthy_bool ?_;cases c with
 |true=>exact hb pins s1 σ H1 Q I1 q1
 |false=>exact⟨.bl false,H1,I1,rfl,q1⟩
theorem qYw(ha:PE X a ta)(hb:PE X (.BoolOp .Or (b::rest) pos) tb):PE X (.BoolOp .Or (a::b::rest) pos) (jAm ta tb):=by
 intro pins s σ H Q I h;refine BoolOp_or (thn (ha pins s σ H _ I h) λv s1 ⟨x,H1,I1,r1,q1⟩=>?_);obtain⟨c,rfl,q1⟩:=q1;cases r1;refine wpAny_truthy_bool ?_;cases c with
 |false=>exact hb pins s1 σ H1 Q I1 q1
 |true=>exact⟨.bl true,H1,I1,rfl,q1⟩
theorem qUi(ha:PE X a ta):PE X (.UnaryOp .Not a pos) (qY2 ta):=by intro pins s σ H Q I h;refine UnaryOp_ (thn (ha pins s σ H _ I h) λv s1 ⟨x,H1,I1,r1,q1⟩=>?_);obtain⟨c,rfl,q1⟩:=q1;cases r1;exact not_of (wpAny_truthy_bool ⟨.bl (!c),H1,I1,O,q1⟩)
def tIf(t:TT)(ta tb:TE):TE:=λσ H Q=>t σ H λc H1=>if c=true then ta σ H1 Q else tb σ H1 Q
theorem kc{c:Expr}(hc:PT X c tA)(ha:PE X a ta)(hb:PE X b tb):PE X (.IfExp c a b pos) (tIf tA ta tb):=by
 intro pins s σ H Q I h;refine wpAny_IfExp (thn (hc pins s σ H _ I h) λd s1 ⟨H1,I1,q1⟩=>?_);cases d with
 |true=>exact ha pins s1 σ H1 Q I1 q1
 |false=>exact hb pins s1 σ H1 Q I1 q1
end
def SqL(K:PySem.W.Frag)(H:Hp)(a:Addr)(xs:List V):Prop:=
 Rd H a (.lst xs)\/
  ∃(o:Obj) (its:Array Value) (n:Nat),K.lookup a=some o/\o.cls=.type "list"/\o.dict=none/\o.data=.seq its n/\its.size<=sizeLine/\Vals xs its.toList
def SqT(K:PySem.W.Frag)(H:Hp)(a:Addr)(xs:List V):Prop:=
 Rd H a (.tup xs)\/
  ∃(o:Obj) (its:Array Value) (n:Nat),K.lookup a=some o/\o.cls=.type "tuple"/\o.data=.seq its n/\its.size<=sizeLine/\Vals xs its.toList
noncomputable def jAb:Value->Option V
 |.none=>some .non
 |.bool b=>some (.bl b)
 |.int i _=>some (.int i)
 |.str x _=>some (.str x)
 |.bytes b _=>some (.byt b)
 |.float b _=>some (.flt b)
 |.ref a=>some (.ref a)
 |.type n=>some (.ty n)
 |_=>none
theorem RelV.abs{x:V}{u:Value}(r:RelV x u):jAb u=some x:=by
 cases x with
 |non=>cases r;rfl
 |bl _=>cases r;rfl
 |int _=>obtain⟨t,rfl⟩:=r;rfl
 |str _=>obtain⟨t,rfl⟩:=r;rfl
 |byt _=>obtain⟨t,rfl⟩:=r;rfl
 |flt _=>obtain⟨t,rfl⟩:=r;rfl
 |ref _=>cases r;rfl
 |ty _=>cases r;rfl
theorem RelV.inj{x y:V}{u:Value}(r:RelV x u)(q:RelV y u):x=y:=Yb (r.abs.symm.trans q.abs)
theorem Vals.inj:∀{xs ys:List V} {us:List Value},Vals xs us->Vals ys us->xs=ys
 |_,_,_,.nil,.nil=>rfl
 |_,_,_,.cons r t,.cons r' t'=>by rw[r.inj r',Vals.inj t t']
section
variable{X:Cx}{pins:List (Addr×Obj)}{σ:St}{H:Hp}{s:Shared}{a:Addr}{xs ys:List V}
theorem SqL.of{K:PySem.W.Frag}(h:H a=some (.lst xs)):SqL K H a xs:=.inl (.inl h)
theorem SqT.of{K:PySem.W.Frag}(h:H a=some (.tup xs)):SqT K H a xs:=.inl (.inl h)
theorem Inv.list(I:Inv X pins σ H s)(h:SqL X.K H a xs):∃its:List Value,Vals xs its/\PlainL s.heap a its.toArray/\xs.length<=sizeLine:=by
 rcases h with h|⟨o,its,n,hk,hc,hd,hs,hz,r⟩
 . obtain⟨z,its,n,r,e⟩:=h.ok I.hok
   exact⟨its,r,⟨_,n,e,O,O,O⟩,z⟩
 . refine⟨its.toList,r,⟨o,n,I.kIn a o hk,hc,hd,by simpa using hs⟩,?_⟩
   have e:=r.length;simp only[Array.length_toList]at e;omega
theorem Inv.tuple(I:Inv X pins σ H s)(h:SqT X.K H a xs):∃its:List Value,Vals xs its/\IsTup s.heap a its.toArray/\xs.length<=sizeLine:=by
 rcases h with h|⟨o,its,n,hk,hc,hs,hz,r⟩
 . obtain⟨z,its,r,p⟩:=h.ok I.hok
   exact⟨its,r,p,z⟩
 . refine⟨its.toList,r,⟨o,I.kIn a o hk,hc,n,by simpa using hs⟩,?_⟩
   have e:=r.length;simp only[Array.length_toList]at e;omega
theorem Inv.list_inj(I:Inv X pins σ H s)(h:SqL X.K H a xs)(h':SqL X.K H a ys):xs=ys:=by
 obtain⟨its,r,⟨o,n,e,_,_,d⟩,_⟩:=I.list h;obtain⟨its',r',⟨o',n',e',_,_,d'⟩,_⟩:=I.list h';rw[e]at e';cases e';rw[d]at d';injection d' with d1 _
 have:its=its':=by simpa using congrArg Array.toList d1
 subst this;exact r.inj r'
theorem Inv.tuple_inj(I:Inv X pins σ H s)(h:SqT X.K H a xs)(h':SqT X.K H a ys):xs=ys:=by
 obtain⟨its,r,⟨o,e,_,n,d⟩,_⟩:=I.tuple h;obtain⟨its',r',⟨o',e',_,n',d'⟩,_⟩:=I.tuple h';rw[e]at e';cases e';rw[d]at d';injection d' with d1 _
 have:its=its':=by simpa using congrArg Array.toList d1
 subst this;exact r.inj r'
end
abbrev Cx.wish(X:Cx)(E:Value->Shared->Prop):Cx:={X with xe:=E}
abbrev Cx.nox(X:Cx):Cx:=X.wish λ_ _=>False
theorem Cx.Ok.wish{X:Cx}(ok:X.Ok)(E:Value->Shared->Prop):(X.wish E).Ok:=
 ⟨ok.mod,ok.kind,ok.glob,ok.blt,ok.above,ok.inj,ok.has,ok.cab,ok.hd,ok.frames,ok.stk,ok.exf,ok.bs,ok.bsz,ok.noex,ok.exfs,ok.funs,ok.frf⟩
theorem Cx.Ok.unwish{X:Cx}{E:Value->Shared->Prop}(ok:(X.wish E).Ok):X.Ok:=
 ⟨ok.mod,ok.kind,ok.glob,ok.blt,ok.above,ok.inj,ok.has,ok.cab,ok.hd,ok.frames,ok.stk,ok.exf,ok.bs,ok.bsz,ok.noex,ok.exfs,ok.funs,ok.frf⟩
section
variable{X:Cx}{pins:List (Addr×Obj)}{σ:St}{H:Hp}{s:Shared}{E:Value->Shared->Prop}
theorem Inv.wish(I:Inv X pins σ H s)(E:Value->Shared->Prop):Inv (X.wish E) pins σ H s:=⟨I.ok.wish E,I.os,I.bare,I.base,I.loc,I.cell,I.free,I.freeC,I.pin,I.hok,I.len⟩
theorem Inv.unwish(I:Inv (X.wish E) pins σ H s):Inv X pins σ H s:=⟨I.ok.unwish,I.os,I.bare,I.base,I.loc,I.cell,I.free,I.freeC,I.pin,I.hok,I.len⟩
theorem SP.unwish{D:qO4}{f:Flow}{s':Shared}(h:SP (X.wish E) pins D f s'):SP X pins D f s':=by
 cases f with
 |next=>obtain⟨σ',H',I,q⟩:=h;exact⟨σ',H',I.unwish,q⟩
 |brk=>obtain⟨σ',H',I,q⟩:=h;exact⟨σ',H',I.unwish,q⟩
 |cont=>obtain⟨σ',H',I,q⟩:=h;exact⟨σ',H',I.unwish,q⟩
 |ret u=>obtain⟨v,σ',H',I,r,q⟩:=h;exact⟨v,σ',H',I.unwish,r,q⟩
theorem PSs.nox{st:List Stmt}{t:TS}(h:PSs X.nox st t):PSs X st t:=λpins s σ H D I hw=>
 YL (h pins s σ H D (I.wish _) hw) (λ_ _ q=>q.unwish) λ_ _ z=>False.elim z
end
section
variable{X:Cx}{st:Stmt}{rest:List Stmt}{t u:TS}{e:Expr}{te:TE}{pos:Pos}
def qYp:TS:=λD σ H=>D.nx σ H
def qZr(t u:TS):TS:=λD σ H=>t {D with nx:=u D} σ H
theorem qN:PSs X [] qYp:=λ_ _ σ H _ I h=>wpAny_execs_nil ⟨σ,H,I,h⟩
theorem qD(h1:PS X st t)(h2:PSs X rest u):PSs X (st::rest) (qZr t u):=by
 intro pins s σ H D I h;refine wpAny_execs_cons (thn (h1 pins s σ H {D with nx:=u D} I h) λf s1 q=>?_);cases f with
 |next=>
  obtain⟨σ',H',I',q⟩:=q;exact h2 pins s1 σ' H' D I' q
 |ret v=>exact q
 |brk=>exact q
 |cont=>exact q
theorem qF(h1:PS X st t):PSs X [st] t:=by
 intro pins s σ H D I h;refine wpAny_execs_cons (thn (h1 pins s σ H D I h) λf s1 q=>?_);cases f with
 |next=>exact wpAny_execs_nil q
 |ret v=>exact q
 |brk=>exact q
 |cont=>exact q
theorem Inv.quiet{pins:List (Addr×Obj)}{σ:St}{H:Hp}{s:Shared}(I:Inv X pins σ H s):interactive X.env=false:=by simp[interactive,I.ok.kind]
def qYf(te:TE):TS:=λD σ H=>te σ H λ_ H1=>D.nx σ H1
theorem jR(he:PE X e te)(hs:swapsWith e none pos.line X.env=pure false:=by rfl):PS X (.Expr e pos) (qYf te):=by intro pins s σ H D I h;exact wpAny_Expr_any (thn (he pins s σ H _ I h) λv s1 ⟨x,H1,I1,r1,q1⟩=>⟨σ,H1,I1,q1⟩) I.quiet hs
def jAk(te:TE):TS:=λD σ H=>te σ H D.rt
theorem qK(he:PE X e te):PS X (.Return (some e) pos) (jAk te):=by intro pins s σ H D I h;exact wpAny_Return_some (thn (he pins s σ H _ I h) λv s1 ⟨x,H1,I1,r1,q1⟩=>⟨x,σ,H1,I1,r1,q1⟩)
def jAc(c:TT)(t u:TS):TS:=λD σ H=>c σ H λb H1=>if b=true then t D σ H1 else u D σ H1
theorem qZ{c:Expr}{a b:List Stmt}{tc:TT}(hc:PT X c tc)(ha:PSs X a t)(hb:PSs X b u):PS X (.If c a b pos) (jAc tc t u):=by
 intro pins s σ H D I h;refine wpAny_If (thn (hc pins s σ H _ I h) λd s1 ⟨H1,I1,q1⟩=>?_);cases d with
 |true=>exact ha pins s1 σ H1 D I1 q1
 |false=>exact hb pins s1 σ H1 D I1 q1
def qWg:TS:=λ_ _ _=>False
theorem jc{sts:List Stmt}:PSs X sts qWg:=λ_ _ _ _ _ _ h=>h.elim
end
abbrev TG:=V->St->Hp->(St->Hp->Prop)->Prop
abbrev TGs:=List V->St->Hp->(St->Hp->Prop)->Prop
def PG(X:Cx)(target:Expr)(t:TG):Prop:=
 ∀(pins:List (Addr×Obj)) (s:Shared) (σ:St) (H:Hp) (v:V) (u:Value) (Q:St->Hp->Prop),Inv X pins σ H s->RelV v u->t v σ H Q->
  wpAny (model X.prog X.w) X.A (assign target X.env u) (λ_ s'=> ∃σ' H',Inv X pins σ' H' s'/\Q σ' H') X.xe s
def PGs(X:Cx)(ts:List Expr)(t:TGs):Prop:=
 ∀(pins:List (Addr×Obj)) (s:Shared) (σ:St) (H:Hp) (vs:List V) (us:List Value) (Q:St->Hp->Prop),Inv X pins σ H s->Vals vs us->t vs σ H Q->
  wpAny (model X.prog X.w) X.A (assignInOrder ((assignEach ts X.env).map (·.2)) us) (λ_ s'=> ∃σ' H',Inv X pins σ' H' s'/\Q σ' H') X.xe s
abbrev qYv:=V->V->V->Hp->(Hp->Prop)->Prop
def qZ3(X:Cx)(t:qYv):Prop:=
 ∀(pins:List (Addr×Obj)) (s:Shared) (σ:St) (H:Hp) (o i v:V) (ov iv u:Value) (Q:Hp->Prop),Inv X pins σ H s->RelV o ov->RelV i iv->RelV v u->t o i v H Q->
  wpAny (model X.prog X.w) X.A (setItem ov iv u) (λ_ s'=> ∃H',Inv X pins σ H' s'/\Q H') X.xe s
section
variable{X:Cx}{pos:Pos}
def vk(i:Nat):TG:=λv σ H Q=>Q (σ.set i (some v)) H
theorem q8{i:Nat}{x:Str}(hN:X.N.Nodup)(hi:X.N[i]?=some x)(hx:Loc X.env.scope x)(hf:X.fn x=true\/X.env.scope.names.lookup x=some .local:=by trivial):PG X (.Name x pos) (vk i):=by intro pins s σ H v u Q I r h;exact wpAny_assign_Name (qDu I hN hi hx r (λs' I'=>⟨_,H,I',h⟩) hf)
noncomputable def qYb:TGs:=λvs σ H Q=>vs=[]/\Q σ H
inductive qF0(t:TG)(u:TGs)(vs:List V)(σ:L2.St)(H:Hp)(Q:L2.St->Hp->Prop):Prop
|mk v r (_:vs=v::r) (_:t v σ H λσ' H'=>u r σ' H' Q)
theorem qH5:PGs X [] qYb:=by intro pins s σ H vs us Q I r h;obtain⟨e,h⟩:=h;subst e;cases r;exact assignInOrder_nil ⟨σ,H,I,h⟩
theorem zZ{e:Expr}{es:List Expr}{t:TG}{u:TGs}(h1:PG X e t)(h2:PGs X es u)
 (hs:(assignEach (e::es) X.env).map (·.2)=assign e X.env::(assignEach es X.env).map (·.2):=by rfl):PGs X (e::es) (qF0 t u):=by
 intro pins s σ H vs us Q I r h;obtain⟨v,vr,e1,h⟩:=h;subst e1;cases r with
 |cons r rr=>
  rw[hs];refine assignInOrder_cons (thn (h1 pins s σ H _ _ _ I r h) λ_ s1 ⟨σ1,H1,I1,q1⟩=>?_);exact h2 pins s1 σ1 H1 _ _ Q I1 rr q1
inductive qYc(K:PySem.W.Frag)(n:Nat)(t:TGs)(v:V)(σ:L2.St)(H:Hp)(Q:L2.St->Hp->Prop):Prop
|mk a xs (_:v=.ref a) (_:SqT K H a xs) (_:xs.length=n) (_:t xs σ H Q)
theorem qNh{es:List Expr}{k:Nat}{t:TGs}{n:Nat}(hc:X.calm=true)(h:PGs X es t)
 (hn:(assignEach es X.env).length=n:=by rfl) (hst:(assignEach es X.env).findIdx? (·.1)=none:=by rfl):PG X (.Tuple es k pos) (qYc X.K n t):=by
 intro pins s σ H v u Q I r hw;obtain⟨a,xs,e1,hq,hl,hw⟩:=hw;subst e1;cases r;obtain⟨its,rv,ht,hz⟩:=I.tuple hq;refine assign_Tuple_tuple (I.ok.hd hc) ht (by simp[hn,<-hl,rv.length]) hst λh' hx=>?_;have I1:Inv X pins σ H {s with heap:=h'}:=I.kept (t':=s.toks) λb o e=>hx b o (Yo (YV e)) e;exact h pins _ σ H xs _ Q I1 (by simpa using rv) hw
def jAi(to ti:TE)(t:qYv):TG:=λv σ H Q=>to σ H λo H1=>ti σ H1 λi H2=>t o i v H2 λH3=>Q σ H3
theorem qMu{o i:Expr}{to ti:TE}{t:qYv}(ho:PE X o to)(hi:PE X i ti)(hs:qZ3 X t)
 (ha:∀v,assign (.Subscript o i pos) X.env v=(do
   let ov<-holding [v] (eval o X.env)
   let iv<-holding [v,ov] (eval i X.env)
   standAt pos
   holding [v,ov,iv] (setItem ov iv v)
   release [v,ov,iv] []):=by intro _;rfl):PG X (.Subscript o i pos) (jAi to ti t):=by
 intro pins s σ H v u Q I r h;rw[ha];refine YJ (wpAny_holding (thn (ho pins s σ H _ I h) λov s1 ⟨x,H1,I1,r1,q1⟩=>?_));refine YJ (wpAny_holding (thn (hi pins s1 σ H1 _ I1 q1) λiv s2 ⟨y,H2,I2,r2,q2⟩=>?_));refine YJ (wpAny_standAt (YJ (wpAny_holding (thn (hs pins s2 σ H2 x y v ov iv u _ I2 r1 r2 r q2) λ_ s3 ⟨H3,I3,q3⟩=>?_))));exact wpAny_release ⟨σ,H3,I3,q3⟩
def qV9(te:TE)(g:TG):TS:=λD σ H=>te σ H λx H1=>g x σ H1 D.nx
theorem qJw{tg e:Expr}{te:TE}{g:TG}(he:PE X e te)(hg:PG X tg g)(hs:swapsWithSole [tg] e pos.line X.env=pure false:=by rfl)(hw:swappedStores [tg] e X.env=pure none:=by rfl)
 (h1:(assignEach [tg] X.env).map (·.2)=[assign tg X.env]:=by rfl):PS X (.Assign [tg] e pos) (qV9 te g):=by
 intro pins s σ H D I h;refine wpAny_Assign_stores (thn (he pins s σ H _ I h) λv s1 ⟨x,H1,I1,r1,q1⟩=>?_) hs hw;rw[h1];exact thn (hg pins s1 σ H1 x v _ I1 r1 q1) λ_ s2 q=>q
theorem qPr{i:Nat}{x:Str}{e:Expr}{te:TE}{pos':Pos}(hN:X.N.Nodup)(hi:X.N[i]?=some x)(hx:Loc X.env.scope x)(he:PE X e te)(hs:swapsWith e (some (.Name x pos')) pos.line X.env=pure false:=by rfl)(hf:X.fn x=true\/X.env.scope.names.lookup x=some .local:=by trivial):
 PS X (.Assign [.Name x pos'] e pos) (qV9 te (vk i)):=by
 intro pins s σ H D I h;refine wpAny_Assign_Name (thn (he pins s σ H _ I h) λv s1 ⟨y,H1,I1,r1,q1⟩=>?_) hs;exact qDu I1 hN hi hx r1 (λs2 I2=>⟨_,H1,I2,q1⟩) hf
end
section
variable{X:Cx}{pos:Pos}
def qT2(c:TT)(tb:TS):TS:=λD σ H=> ∃W:Nat->St->Hp->Prop,(∃m,W m σ H)/\∀m σ H,W m σ H->
 c σ H λb H1=>if b=true then ∃N:St->Hp->Prop,(∀σ' H',N σ' H'->∃m',m'<m/\W m' σ' H')/\tb {D with nx:=N,ct:=N,bk:=D.nx} σ H1 else D.nx σ H1
theorem qSv{c:Expr}{body:List Stmt}{tc:TT}{tb:TS}(hp:PassesOwn (model X.prog X.w) X.A X.env X.xe)(hc:PT X c tc)(hb:PSs X body tb):PS X (.While c body [] pos) (qT2 tc tb):=by
 intro pins s σ H D I h;obtain⟨W,⟨m0,w0⟩,turn⟩:=h;refine wpAny_While (codeAny_whileLoop (λn s'=> ∃σ' H',Inv X pins σ' H' s'/\W n σ' H') ?_ m0 ⟨σ,H,I,w0⟩);rintro n s1 ⟨σ1,H1,I1,w1⟩;refine wpAny_passesOwn hp (thn (hc pins s1 σ1 H1 _ I1 (turn n σ1 H1 w1)) λb s2 ⟨H2,I2,q2⟩=>?_);cases b with
 |true=>
  obtain⟨N,hN,q2⟩:=q2;rw[YB rfl];refine wpAny_passesOwn hp (thn (hb pins s2 σ1 H2 _ I2 q2) λf s3 q3=>?_);cases f with
  |next=>
   obtain⟨σ3,H3,I3,n3⟩:=q3;obtain⟨m',hm,w3⟩:=hN σ3 H3 n3;exact⟨m',hm,σ3,H3,I3,w3⟩
  |cont=>
   obtain⟨σ3,H3,I3,n3⟩:=q3;obtain⟨m',hm,w3⟩:=hN σ3 H3 n3;exact⟨m',hm,σ3,H3,I3,w3⟩
  |brk=>exact q3
  |ret v=>exact q3
 |false=>
  rw[YA YZ];exact wpAny_execs_nil ⟨σ1,H2,I2,q2⟩
end
structure It where
 go:Nat->Hp->Prop
 yld:Nat->Hp->V->Hp->Prop
 stop:Nat->Hp->Prop
def qTr(X:Cx)(pins:List (Addr×Obj))(H:Hp)(b:Addr):Prop:=
 H b=none/\b≠X.env.locals/\b∉X.fs/\(b∈X.ex\/X.s₀.heap.objs.size<=b)/\(∀x c,X.env.cells.lookup x=some c->c≠b)/\∀p∈X.pn++pins,p.1≠b
theorem Inv.fpOk{X:Cx}{pins:List (Addr×Obj)}{σ:St}{H H':Hp}{s:Shared}{b:Addr}(I:Inv X pins σ H s)(hb:s.heap.objs.size<=b)(hn:H' b=none):qTr X pins H' b:=by
 refine⟨hn,Nat.ne_of_gt (YR I.lt hb),I.nofs hb,.inr (ZC I.sz hb),λx c e z=>?_,λp hp z=>?_⟩
 . obtain⟨v,q⟩:=I.cell x c e
   exact YC (YR q.lt (by rw[z];exact hb)) (Nat.lt_irrefl _)
 . exact YC (YR (YV (I.pin p hp).1) (by rw[z];exact hb)) (Nat.lt_irrefl _)
structure qUg(P:Program)(w:World)(K:PySem.W.Frag)(tg:Expr)(J:It)(fp:List Addr)(it:Addr)(tn:Nat->Heap->Prop):Prop where
 mem:it∈fp
 obj:∀i h,tn i h->∀b∈fp,∃o,h.get? b=some o/\∀v,o.data≠ .cell v
 keep:∀i h h',tn i h->(∀b∈fp,∀o,h.get? b=some o->h'.get? b=some o)->tn i h'
 item:∀(X:Cx),X.prog=P->X.w=w->X.K=K->X.calm=true->∀(i:Nat) (pins:List (Addr×Obj)) (s:Shared) (σ:St) (H:Hp) (E:Value->Shared->Prop),Inv X pins σ H s->(∀b∈fp,qTr X pins H b)->tn i s.heap->J.go i H->
  wpAny (model P w) X.A (pyNext (.ref it)) (λr s1=> ∃u,r=some u/\
   wpAny (model P w) X.A (letOwnedTupleGo tg (.ref it) u) (λ_ s2=> ∃x H',Inv X pins σ H' s2/\RelV x u/\J.yld i H x H'/\tn (i+1) s2.heap/\∀b∈fp,H' b=none) E s1) E s
 done:∀(X:Cx),X.prog=P->X.w=w->X.K=K->X.calm=true->∀(i:Nat) (pins:List (Addr×Obj)) (s:Shared) (σ:St) (H:Hp) (E:Value->Shared->Prop),Inv X pins σ H s->(∀b∈fp,qTr X pins H b)->tn i s.heap->J.stop i H->
  wpAny (model P w) X.A (pyNext (.ref it)) (λr s1=>r=none/\Inv X pins σ H s1) E s
 self:∀(A:Around) (i:Nat) (s:Shared) (Q:Value->Shared->Prop) (E:Value->Shared->Prop),tn i s.heap->Q (.ref it) s->wpAny (model P w) A (pyIter (.ref it)) Q E s
abbrev TI:=St->Hp->(It->Hp->Prop)->Prop
def PIE(X:Cx)(pins:List (Addr×Obj))(σ:St)(tg:Expr)(R:It->Hp->Prop)(itv:Value)(s2:Shared):Prop:=
 ∃(it:Addr) (fp:List Addr) (tn:Nat->Heap->Prop) (J:It) (H':Hp),itv=.ref it/\Inv X pins σ H' s2/\qUg X.prog X.w X.K tg J fp it tn/\tn 0 s2.heap/\(∀b∈fp,qTr X pins H' b)/\R J H'
def PI(X:Cx)(tg iter:Expr)(wi:TI):Prop:=
 ∀(pins:List (Addr×Obj)) (s:Shared) (σ:St) (H:Hp) (R:It->Hp->Prop),Inv X pins σ H s->wi σ H R->
  wpAny (model X.prog X.w) X.A (eval iter X.env) (λv s1=>wpAny (model X.prog X.w) X.A (pyIter v) (PIE X pins σ tg R) X.xe s1) X.xe s
theorem qRq{M:Model}{A:Around}{E:Value->Shared->Prop}{s:Shared}{tg:Expr}{it:Addr}{u:Value}{o:Obj}{n:String}{vs:Array Value}{Q:Unit->Shared->Prop}(ho:s.heap.get? it=some o)(hc:o.cls=.type n)(hd:o.data=.fields vs)
 (hn:["enumerate","zip","dict_itemiterator","dict_reverseitemiterator","odict_iterator","itertools.zip_longest","itertools.pairwise"].contains n=false) (hQ:Q () s):wpAny M A (letOwnedTupleGo tg (.ref it) u) Q E s:=by
 unfold letOwnedTupleGo;cases tg <;> first
  |exact YK hQ
  |(cases u <;> first
     |exact YK hQ
     |(refine YJ (wpAny_load ho ?_)
       rw[hc,hd];show wpAny M A (if (["enumerate","zip","dict_itemiterator","dict_reverseitemiterator","odict_iterator","itertools.zip_longest","itertools.pairwise"].contains n && vs[0]?==some (rawInt _))=true then _ else _) Q E s;rw[YA (by intro h;rw[hn,Bool.false_and]at h;cases h)];exact YK hQ))
noncomputable def Itl(K:PySem.W.Frag)(a:Addr):It:=
 ⟨λi H=> ∃xs x,SqL K H a xs/\xs[i]?=some x,λi H x H'=>H'=H/\∀xs,SqL K H a xs->xs[i]?=some x,λi H=> ∃xs,SqL K H a xs/\xs.length<=i⟩
noncomputable def Itt(K:PySem.W.Frag)(a:Addr):It:=
 ⟨λi H=> ∃xs x,SqT K H a xs/\xs[i]?=some x,λi H x H'=>H'=H/\∀xs,SqT K H a xs->xs[i]?=some x,λi H=> ∃xs,SqT K H a xs/\xs.length<=i⟩
noncomputable def Itr(lo:Int)(n:Nat):It:=⟨λi _=>i<n,λi H x H'=>H'=H/\x=.int (lo+i),λi _=>n<=i⟩
theorem qQo{P:Program}{w:World}{K:PySem.W.Frag}{tg:Expr}(a it:Addr):qUg P w K tg (Itl K a) [it] it (λi h=>h.IsListIter it a i) where
 mem:=by simp
 obj:=λi h st b hb=>by
  have e:b=it:=by simpa using hb
  subst e;obtain⟨o,e,c,d⟩:=st;exact⟨o,e,λv z=>by rw[d]at z;cases z⟩
 keep:=λi h h' st k=>st.at λo e=>k it (by simp) o e
 item:=by intro X hP hw hK hc i pins s σ H E I hf st hg;subst hP hw hK;obtain⟨xs,x,hq,hx⟩:=hg;obtain⟨its,rv,p,hz⟩:=I.list hq;obtain⟨u,hu,ru⟩:=rv.get hx;obtain⟨f0,f1,f2,f3,f4,f5⟩:=hf it (by simp);refine wpAny_pyNext_list_item st p.isList (x:=u) (by simpa using hu) λh' st' sb=>?_;have I1:Inv X pins σ H {s with heap:=h'}:=I.turned (t':=s.toks) (λb o hb e=>(sb.2 b hb).trans e) f0 f1 f3 f4 f5;obtain⟨o,e,c,d⟩:=id st';exact⟨u,O,qRq (s:={s with heap:=h'}) e c d (by decide) ⟨x,H,I1,ru,⟨O,λys hy=>by rw[I.list_inj hy hq];exact hx⟩,st',λb hb=>(hf b hb).1⟩⟩
 done:=by intro X hP hw hK hc i pins s σ H E I hf st hg;subst hP hw hK;obtain⟨xs,hq,hx⟩:=hg;obtain⟨its,rv,p,hz⟩:=I.list hq;obtain⟨f0,f1,f2,f3,f4,f5⟩:=hf it (by simp);have hl:=rv.length;exact wpAny_pyNext_list_end (I.ok.hd hc) st p.isList (by simp;omega) λh' eb=>⟨O,I.turned (t':=s.toks) (λb o hb e=>eb b o hb e) f0 f1 f3 f4 f5⟩
 self:=λ_ _ _ _ _ st h=>wpAny_pyIter_listiter st h
theorem qN6{P:Program}{w:World}{K:PySem.W.Frag}{tg:Expr}(a it:Addr):qUg P w K tg (Itt K a) [it] it (λi h=>h.IsTupleIter it a i) where
 mem:=by simp
 obj:=λi h st b hb=>by
  have e:b=it:=by simpa using hb
  subst e;obtain⟨o,e,c,d⟩:=st;exact⟨o,e,λv z=>by rw[d]at z;cases z⟩
 keep:=λi h h' st k=>st.at λo e=>k it (by simp) o e
 item:=by intro X hP hw hK hc i pins s σ H E I hf st hg;subst hP hw hK;obtain⟨xs,x,hq,hx⟩:=hg;obtain⟨its,rv,p,hz⟩:=I.tuple hq;obtain⟨u,hu,ru⟩:=rv.get hx;obtain⟨f0,f1,f2,f3,f4,f5⟩:=hf it (by simp);refine wpAny_pyNext_tuple_item st (show s.heap.IsTuple a its.toArray from p) (x:=u) (by simpa using hu) λh' st' sb=>?_;have I1:Inv X pins σ H {s with heap:=h'}:=I.turned (t':=s.toks) (λb o hb e=>(sb.2 b hb).trans e) f0 f1 f3 f4 f5;obtain⟨o,e,c,d⟩:=id st';exact⟨u,O,qRq (s:={s with heap:=h'}) e c d (by decide) ⟨x,H,I1,ru,⟨O,λys hy=>by rw[I.tuple_inj hy hq];exact hx⟩,st',λb hb=>(hf b hb).1⟩⟩
 done:=by intro X hP hw hK hc i pins s σ H E I hf st hg;subst hP hw hK;obtain⟨xs,hq,hx⟩:=hg;obtain⟨its,rv,p,hz⟩:=I.tuple hq;obtain⟨f0,f1,f2,f3,f4,f5⟩:=hf it (by simp);have hl:=rv.length;exact wpAny_pyNext_tuple_end (I.ok.hd hc) st (show s.heap.IsTuple a its.toArray from p) (by simp;omega) λh' eb=>⟨O,I.turned (t':=s.toks) (λb o hb e=>eb b o hb e) f0 f1 f3 f4 f5⟩
 self:=λ_ _ _ _ _ st h=>wpAny_pyIter_tupleiter st h
theorem qNz{P:Program}{w:World}{K:PySem.W.Frag}{tg:Expr}(it:Addr)(lo:Int)(n:Nat):qUg P w K tg (Itr lo n) [it] it (λi h=>IsRangeIter h it (lo+(i:Nat)*1) ((n:Int)-(i:Nat)) 1) where
 mem:=by simp
 obj:=λi h st b hb=>by
  have e:b=it:=by simpa using hb
  subst e;exact⟨_,st,λv z=>by have z':Data.fields _=Data.cell v:=z;cases z'⟩
 keep:=λi h h' st k=>k it (by simp) _ st
 item:=by intro X hP hw hK hc i pins s σ H E I hf st hg;subst hP hw hK;obtain⟨f0,f1,f2,f3,f4,f5⟩:=hf it (by simp);have W:=Walks.range (prog:=X.prog) (w:=X.w) (I.ok.hd hc) it lo 1 n;refine W.item i s _ _ hg st λv h' tk hv st' kk=>?_;obtain⟨t,rfl⟩:=hv;have I1:Inv X pins σ H {s with heap:=h',toks:=tk}:=I.turned (λb o hb e=>kk b o (by simpa using hb) e) f0 f1 f3 f4 f5;refine⟨_,O,qRq (s:={s with heap:=h',toks:=tk}) (n:="range_iterator") st' rfl rfl (by decide) ⟨.int (lo+i),H,I1,⟨t,?_⟩,⟨O,O⟩,st',λb hb=>(hf b hb).1⟩⟩;rw[Int.mul_one]
 done:=by intro X hP hw hK hc i pins s σ H E I hf st hg;subst hP hw hK;obtain⟨f0,f1,f2,f3,f4,f5⟩:=hf it (by simp);exact wpAny_pyNext_range_end (I.ok.hd hc) st (by have:n<=i:=hg;omega) λh' eb=>⟨rfl,I.turned (t':=s.toks) (λb o hb e=>eb b o hb e) f0 f1 f3 f4 f5⟩
 self:=λ_ _ _ _ _ st h=>wpAny_pyIter_rangeiter st h
section
variable{X:Cx}{tg:Expr}
inductive qX3(K:PySem.W.Frag)(R:It->Hp->Prop)(x:V)(H1:Hp):Prop
|mk a (_:x=.ref a) (_:(∃xs,SqL K H1 a xs)) (_:R (Itl K a) H1)
def qY5(K:PySem.W.Frag)(tl:TE):TI:=λσ H R=>tl σ H λx H1=>qX3 K R x H1
inductive qYr(K:PySem.W.Frag)(R:It->Hp->Prop)(x:V)(H1:Hp):Prop
|mk a (_:x=.ref a) (_:(∃xs,SqT K H1 a xs)) (_:R (Itt K a) H1)
def jAv(K:PySem.W.Frag)(tl:TE):TI:=λσ H R=>tl σ H λx H1=>qYr K R x H1
theorem jl{l:Expr}{tl:TE}(hl:PE X l tl):PI X tg l (qY5 X.K tl):=by
 intro pins s σ H R I h;refine thn (hl pins s σ H _ I h) λv s1 ⟨x,H1,I1,r1,q1⟩=>?_;obtain⟨a,e,⟨xs,hq⟩,q⟩:=q1;subst e;cases r1;obtain⟨its,rv,p,hz⟩:=I1.list hq;refine wpAny_pyIter_list p.isList ?_;refine⟨s1.heap.objs.size,[s1.heap.objs.size],_,_,H1,O,I1.kept (t':=s1.toks) λb o e=>YM _ e,qQo a _,⟨_,Yn _ rfl,O,O⟩,λb hb=>?_,q⟩;have e:b=s1.heap.objs.size:=by simpa using hb
 subst e;exact I1.fpOk (YI _) (I1.hok.fresh (YI _))
theorem qT1{l:Expr}{tl:TE}(hl:PE X l tl):PI X tg l (jAv X.K tl):=by
 intro pins s σ H R I h;refine thn (hl pins s σ H _ I h) λv s1 ⟨x,H1,I1,r1,q1⟩=>?_;obtain⟨a,e,⟨xs,hq⟩,q⟩:=q1;subst e;cases r1;obtain⟨its,rv,p,hz⟩:=I1.tuple hq;refine wpAny_pyIter_tuple (show s1.heap.IsTuple a its.toArray from p) ?_;refine⟨s1.heap.objs.size,[s1.heap.objs.size],_,_,H1,O,I1.kept (t':=s1.toks) λb o e=>YM _ e,qN6 a _,⟨_,Yn _ rfl,O,O⟩,λb hb=>?_,q⟩;have e:b=s1.heap.objs.size:=by simpa using hb
 subst e;exact I1.fpOk (YI _) (I1.hok.fresh (YI _))
theorem qNd{pins:List (Addr×Obj)}{σ:St}{H:Hp}{s:Shared}{R:It->Hp->Prop}{E:Value->Shared->Prop}{lo hi:Int}{t u v:Tok}{tk:Nat}(I:Inv X pins σ H s)(h1: -(2 ^ 62)<=lo)(h2:lo<2 ^ 62)(h3: -(2 ^ 62)<=hi)(h4:hi<2 ^ 62)
 (q:R (Itr lo (hi-lo).toNat) H):wpAny (model X.prog X.w) X.A (pyIter (.ref s.heap.objs.size)) (PIE X pins σ tg R) E {s with heap:=s.heap.push {cls:=.type "range",data:=.fields #[.int lo t,.int hi u,.int 1 v]},toks:=tk}:=by
 refine wpAny_pyIter_range (IsRange.new ..) (small_one h1 h2 h3 h4) ?_;have I1:Inv X pins σ H {s with heap:=s.heap.push {cls:=.type "range",data:=.fields #[.int lo t,.int hi u,.int 1 v]},toks:=tk}:=I.kept λb o e=>YM _ e;refine⟨(s.heap.push {cls:=.type "range",data:=.fields #[.int lo t,.int hi u,.int 1 v]}).objs.size,[(s.heap.push {cls:=.type "range",data:=.fields #[.int lo t,.int hi u,.int 1 v]}).objs.size],_,_,H,O,
  I1.kept (t':=tk) λb o e=>YM _ e,qNz _ lo (hi-lo).toNat,?_,λb hb=>?_,q⟩
 . have e1:lo+((0:Nat):Int)*1=lo:=by simp
   have e2:(((hi-lo).toNat:Nat):Int)-((0:Nat):Int)=Builtin.Range.rangeSize lo hi 1:=by rw[rangeSize_one];split <;> omega
   show IsRangeIter _ _ (lo+((0:Nat):Int)*1) ((((hi-lo).toNat:Nat):Int)-((0:Nat):Int)) 1;rw[e1,e2];exact Yn _ rfl
 . have e:b=(s.heap.push {cls:=.type "range",data:=.fields #[.int lo t,.int hi u,.int 1 v]}).objs.size:=by simpa using hb
   subst e;exact I1.fpOk (YI _) (I1.hok.fresh (YI _))
def qZf(ta:TA):TI:=λσ H R=>ta σ H λvs H1=> ∃j:Int,vs=[.int j]/\ -(2 ^ 62)<=j/\j<2 ^ 62/\R (Itr 0 j.toNat) H1
def qYz(ta:TA):TI:=λσ H R=>ta σ H λvs H1=> ∃i j:Int,vs=[.int i,.int j]/\(-(2 ^ 62)<=i/\i<2 ^ 62/\ -(2 ^ 62)<=j/\j<2 ^ 62)/\R (Itr i (j-i).toNat) H1
theorem qE6{a:Expr}{ta:TA}{p pos:Pos}(hg:Gl X "range")(hm:X.mg "range"=none)(ha:PA X [a] ta)(hs:starEach [a] X.env=[(false,eval a X.env)]:=by rfl):PI X tg (.Call (.Name "range" p) [a] [] pos) (qZf ta):=by
 intro pins s σ H R I h;refine Call_ (qD9 I hg hm boot_range (PyProof.Rows.callWith_type1 (thn (ha pos pins s σ H _ I h) λus s1 ⟨vs,H1,I1,r1,q1⟩=>?_) hs rfl));obtain⟨j,e,q1,q2,q⟩:=q1;subst e;cases r1 with
 |cons r rr=>
  cases rr;obtain⟨t,rfl⟩:=r;exact call_range_1 (qNd I1 (by omega) (by omega) q1 q2 (by simpa using q))
theorem qQe{a b:Expr}{ta:TA}{p pos:Pos}(hg:Gl X "range")(hm:X.mg "range"=none)(ha:PA X [a,b] ta)(hs:starEach [a,b] X.env=[(false,eval a X.env),(false,eval b X.env)]:=by rfl)(hs2:starEach [b] X.env=[(false,eval b X.env)]:=by rfl):
 PI X tg (.Call (.Name "range" p) [a,b] [] pos) (qYz ta):=by
 intro pins s σ H R I h;refine Call_ (qD9 I hg hm boot_range (PyProof.Rows.callWith_type1 (thn (ha pos pins s σ H _ I h) λus s1 ⟨vs,H1,I1,r1,q1⟩=>?_) (by rw[hs,hs2]) (by rw[hs2];rfl)));obtain⟨i,j,e,⟨q1,q2,q3,q4⟩,q⟩:=q1;subst e;cases r1 with
 |cons r rr=>
  cases rr with
  |cons r' rr=>
   cases rr;obtain⟨t,rfl⟩:=r;obtain⟨t',rfl⟩:=r';exact call_range_2 (qNd I1 q1 q2 q3 q4 q)
def jAa(wi:TI)(g:TG)(tb:TS):TS:=λD σ H=>wi σ H λJ H1=> ∃W:Nat->Nat->St->Hp->Prop,(∃m,W 0 m σ H1)/\∀i m σ H,W i m σ H->
 (J.stop i H/\D.nx σ H)\/(J.go i H/\∃N:St->Hp->Prop,(∀σ' H',N σ' H'->∃m',m'<m/\W (i+1) m' σ' H')/\∀x H',J.yld i H x H'->g x σ H' λσ2 H2=>tb {D with nx:=N,ct:=N,bk:=D.nx} σ2 H2)
noncomputable def qJd(fp:List Addr)(h:Heap):List (Addr×Obj):=fp.filterMap λb=>(h.get? b).map λo=>(b,o)
theorem qCa{fp:List Addr}{h:Heap}{b:Addr}{o:Obj}(hb:b∈fp)(e:h.get? b=some o):(b,o)∈qJd fp h:=List.mem_filterMap.mpr ⟨b,hb,by rw[e];rfl⟩
theorem qQ9{fp:List Addr}{h:Heap}{p:Addr×Obj}(hp:p∈qJd fp h):p.1∈fp/\h.get? p.1=some p.2:=by
 obtain⟨b,hb,e⟩:=List.mem_filterMap.mp hp;cases q:h.get? b with
 |none=>rw[q]at e;cases e
 |some o=>
  rw[q]at e;have e':(b,o)=p:=Yb e;subst e';exact⟨hb,q⟩
theorem Inv.pinned{pins:List (Addr×Obj)}{σ:St}{H:Hp}{s:Shared}{fp:List Addr}(I:Inv X pins σ H s)(hf:∀b∈fp,qTr X pins H b)(ho:∀b∈fp,∃o,s.heap.get? b=some o/\∀v,o.data≠ .cell v):Inv X (pins++qJd fp s.heap) σ H s:=
 I.pins_of λp hp=>(YO.mp hp).elim (λz=>I.pin p (Yf _ z)) λz=>by obtain⟨hb,e⟩:=qQ9 z;obtain⟨f0,f1,f2,_⟩:=hf p.1 hb;obtain⟨o,e',d⟩:=ho p.1 hb;rw[e]at e';cases e';exact⟨e,f0,f1,f2,d⟩
theorem Inv.unpinned{pins pl:List (Addr×Obj)}{σ:St}{H:Hp}{s:Shared}(I:Inv X (pins++pl) σ H s):Inv X pins σ H s:=I.pins_of λp hp=>I.pin p (Yf _ (Yp _ hp))
theorem xj{iter:Expr}{body:List Stmt}{wi:TI}{g:TG}{tb:TS}{pos:Pos}(hp:PassesOwn (model X.prog X.w) X.A X.env X.xe)(hc:X.calm=true)(hi:PI X tg iter wi)(hg:PG X tg g)(hb:PSs X body tb)
 (hs:∀x,foldedSetIterable iter X.env x=pure x:=by intro _;rfl):PS X (.For tg iter body [] pos) (jAa wi g tb):=by
 intro pins s σ H D I h;refine wpAny_For (thn (hi pins s σ H _ I h) λv s1 h1=>thn h1 λitv s2 h2=>?_) hs;obtain⟨it,fp,tn,J,H2,e,I2,T,st2,f2,W,⟨m0,w0⟩,turn⟩:=h2;subst e;have stat:∀{H':Hp},(∀b∈fp,H' b=none)->∀b∈fp,qTr X pins H' b:=λhn b hb=>⟨hn b hb,(f2 b hb).2⟩;refine codeAny_forLoop_any (λn s'=> ∃i σ' H',Inv X pins σ' H' s'/\tn i s'.heap/\(∀b∈fp,H' b=none)/\W i n σ' H') ?_ m0 ⟨0,σ,H2,I2,st2,λb hb=>(f2 b hb).1,w0⟩;rintro n s3 ⟨i,σ3,H3,I3,st3,fr3,w3⟩;rcases turn i n σ3 H3 w3 with ⟨stop,qn⟩|⟨go,N,hN,step⟩
 . refine wpAny_passesOwn hp (thn (T.done X rfl rfl rfl hc i pins s3 σ3 H3 X.xe I3 (stat fr3) st3 stop) λr s4 ⟨hr,I4⟩=>?_)
   subst hr;exact wpAny_execs_nil ⟨σ3,H3,I4,qn⟩
 . refine wpAny_passesOwn hp (thn (T.item X rfl rfl rfl hc i pins s3 σ3 H3 X.xe I3 (stat fr3) st3 go) λr s4 ⟨u,hr,h4⟩=>?_)
   subst hr;refine wpAny_passesOwn hp (thn h4 λ_ s5 ⟨x,H5,I5,r5,y5,st5,fr5⟩=>?_);have I5':=I5.pinned (stat fr5) (T.obj _ _ st5);refine wpAny_passesOwn hp (thn (hg _ s5 σ3 H5 x u _ I5' r5 (step x H5 y5)) λ_ s6 ⟨σ6,H6,I6,q6⟩=>?_);refine wpAny_passesOwn hp (thn (hb _ s6 σ6 H6 _ I6 q6) λf s7 q7=>?_);have again:∀{σ7:St} {H7:Hp},Inv X (pins++qJd fp s5.heap) σ7 H7 s7->N σ7 H7->∃m,m<n/\∃i σ' H',Inv X pins σ' H' s7/\tn i s7.heap/\(∀b∈fp,H' b=none)/\W i m σ' H':=λ{σ7 H7} I7 n7=>by obtain⟨m',hm,w7⟩:=hN σ7 H7 n7;refine⟨m',hm,i+1,σ7,H7,I7.unpinned,T.keep _ _ _ st5 λb hb o e=>(I7.pin (b,o) (Yf _ (Yf _ (qCa hb e)))).1,λb hb=>?_,w7⟩;obtain⟨o,e,d⟩:=T.obj _ _ st5 b hb;exact(I7.pin (b,o) (Yf _ (Yf _ (qCa hb e)))).2.1
   cases f with
   |next=>obtain⟨σ7,H7,I7,n7⟩:=q7;exact again I7 n7
   |cont=>obtain⟨σ7,H7,I7,n7⟩:=q7;exact again I7 n7
   |brk=>obtain⟨σ7,H7,I7,q7⟩:=q7;exact⟨σ7,H7,I7.unpinned,q7⟩
   |ret v=>obtain⟨x7,σ7,H7,I7,r7,q7⟩:=q7;exact⟨x7,σ7,H7,I7.unpinned,r7,q7⟩
end
theorem j3{K:PySem.W.Frag}{a:Addr}{xs:List V}{g:TG}{tb:TS}{D:qO4}{σ:St}{H:Hp}(Pv:Nat->St->Hp->Prop)(h0:Pv 0 σ H)(hl:∀i σ H,i<=xs.length->Pv i σ H->SqL K H a xs)
 (hs:∀i x σ H,xs[i]?=some x->Pv i σ H->g x σ H λσ2 H2=>tb {D with nx:=Pv (i+1),ct:=Pv (i+1),bk:=D.nx} σ2 H2) (hd:∀σ H,Pv xs.length σ H->D.nx σ H):
 ∃W:Nat->Nat->St->Hp->Prop,(∃m,W 0 m σ H)/\∀i m σ H,W i m σ H->
  ((Itl K a).stop i H/\D.nx σ H)\/((Itl K a).go i H/\∃N:St->Hp->Prop,(∀σ' H',N σ' H'->∃m',m'<m/\W (i+1) m' σ' H')/\∀x H',(Itl K a).yld i H x H'->g x σ H' λσ2 H2=>tb {D with nx:=N,ct:=N,bk:=D.nx} σ2 H2):=by
 refine⟨λi m σ H=>m=xs.length-i/\i<=xs.length/\Pv i σ H,⟨xs.length,by simp,ZP _,h0⟩,?_⟩;rintro i m σ H ⟨rfl,hi,p⟩;have q:=hl i σ H hi p;by_cases hlt:i<xs.length
 . refine .inr ⟨⟨xs,xs[i],q,by simp[hlt]⟩,Pv (i+1),λσ' H' p'=>⟨xs.length-(i+1),by omega,O,hlt,p'⟩,λx H' y=>?_⟩
   obtain⟨e,y⟩:=y;subst e;exact hs i x σ _ (y xs q) p
 . have e:i=xs.length:=by omega
   subst e;exact .inl ⟨⟨xs,q,YI _⟩,hd σ H p⟩
theorem qE1{lo:Int}{n:Nat}{g:TG}{tb:TS}{D:qO4}{σ:St}{H:Hp}(Pv:Nat->St->Hp->Prop)(h0:Pv 0 σ H)
 (hs:∀i σ H,i<n->Pv i σ H->g (.int (lo+i)) σ H λσ2 H2=>tb {D with nx:=Pv (i+1),ct:=Pv (i+1),bk:=D.nx} σ2 H2) (hd:∀σ H,Pv n σ H->D.nx σ H):
 ∃W:Nat->Nat->St->Hp->Prop,(∃m,W 0 m σ H)/\∀i m σ H,W i m σ H->
  ((Itr lo n).stop i H/\D.nx σ H)\/((Itr lo n).go i H/\∃N:St->Hp->Prop,(∀σ' H',N σ' H'->∃m',m'<m/\W (i+1) m' σ' H')/\∀x H',(Itr lo n).yld i H x H'->g x σ H' λσ2 H2=>tb {D with nx:=N,ct:=N,bk:=D.nx} σ2 H2):=by
 refine⟨λi m σ H=>m=n-i/\i<=n/\Pv i σ H,⟨n,by simp,ZP _,h0⟩,?_⟩;rintro i m σ H ⟨rfl,hi,p⟩;by_cases hlt:i<n
 . refine .inr ⟨hlt,Pv (i+1),λσ' H' p'=>⟨n-(i+1),by omega,O,hlt,p'⟩,λx H' y=>?_⟩
   obtain⟨e,y⟩:=y;subst e y;exact hs i σ _ hlt p
 . have e:i=n:=by omega
   subst e;exact .inl ⟨YI _,hd σ H p⟩
theorem qTq{c:TT}{tb:TS}{D:qO4}{σ:St}{H:Hp}(Pv:St->Hp->Prop)(μ:St->Hp->Nat)(h0:Pv σ H)
 (hs:∀σ H,Pv σ H->c σ H λb H1=>if b=true then tb {D with nx:=λσ' H'=>Pv σ' H'/\μ σ' H'<μ σ H,ct:=λσ' H'=>Pv σ' H'/\μ σ' H'<μ σ H,bk:=D.nx} σ H1 else D.nx σ H1)
 (mono:∀σ H Q Q',(∀b H1,Q b H1->Q' b H1)->c σ H Q->c σ H Q'):qT2 c tb D σ H:=by
 refine⟨λm σ H=>m=μ σ H/\Pv σ H,⟨_,O,h0⟩,?_⟩;rintro m σ H ⟨rfl,p⟩;refine mono σ H _ _ (λb H1 q=>?_) (hs σ H p);cases b with
 |true=>exact⟨_,λσ' H' ⟨p',l⟩=>⟨_,l,rfl,p'⟩,q⟩
 |false=>exact q
abbrev R2:=V->V->Hp->VK->Prop
def OpR(X:Cx)(f:Value->Value->Sem Value)(r:R2):Prop:=
 ∀(pins:List (Addr×Obj)) (s:Shared) (σ:St) (H:Hp) (x y:V) (v u:Value) (Q:VK),Inv X pins σ H s->RelV x v->RelV y u->r x y H Q->
  wpAny (model X.prog X.w) X.A (f v u) (EP X pins σ Q) X.xe s
def UnR(X:Cx)(f:Value->Sem Value)(r:V->Hp->VK->Prop):Prop:=
 ∀(pins:List (Addr×Obj)) (s:Shared) (σ:St) (H:Hp) (x:V) (v:Value) (Q:VK),Inv X pins σ H s->RelV x v->r x H Q->
  wpAny (model X.prog X.w) X.A (f v) (EP X pins σ Q) X.xe s
def zD(X:Cx)(f:Value)(r:List V->Hp->VK->Prop):Prop:=
 ∀(pins:List (Addr×Obj)) (s:Shared) (σ:St) (H:Hp) (xs:List V) (us:List Value) (Q:VK),Inv X pins σ H s->Vals xs us->r xs H Q->
  wpAny (model X.prog X.w) X.A (call f us) (EP X pins σ Q) X.xe s
def tOp(r:R2)(ta tb:TE):TE:=λσ H Q=>ta σ H λx H1=>tb σ H1 λy H2=>r x y H2 Q
def tUn(r:V->Hp->VK->Prop)(ta:TE):TE:=λσ H Q=>ta σ H λx H1=>r x H1 Q
inductive rI(C:Int->Int->Prop)(g:Int->Int->V)(x:V)(y:V)(H:Hp)(Q:VK):Prop
|mk i j (_:x=.int i) (_:y=.int j) (_:C i j) (_:Q (g i j) H)
inductive rI0(g:Int->Int->V)(x:V)(y:V)(H:Hp)(Q:VK):Prop
|mk i j (_:x=.int i) (_:y=.int j) (_:Q (g i j) H)
inductive rU(g:Int->V)(x:V)(H:Hp)(Q:VK):Prop
|mk i (_:x=.int i) (_:Q (g i) H)
section
variable{X:Cx}{a b c:Expr}{ta tb tc:TE}{pos:Pos}
theorem qYl(ha:PE X a ta)(hb:PE X b tb){pins:List (Addr×Obj)}{s:Shared}{σ:St}{H:Hp}{R:V->V->Hp->Prop}(I:Inv X pins σ H s)
 (h:ta σ H λx H1=>tb σ H1 λy H2=>R x y H2) {Q:Value->Shared->Prop} {f:Value->Value->Sem Value}
 (hf:∀v u s2 x y H2,Inv X pins σ H2 s2->RelV x v->RelV y u->R x y H2->wpAny (model X.prog X.w) X.A (f v u) Q X.xe s2):
 wpAny (model X.prog X.w) X.A (eval a X.env) (λv s₁=>wpAny (model X.prog X.w) X.A (eval b X.env) (λu s₂=>wpAny (model X.prog X.w) X.A (f v u) Q X.xe s₂) X.xe s₁) X.xe s:=by
 refine thn (ha pins s σ H _ I h) λv s1 ⟨x,H1,I1,r1,q1⟩=>?_;refine thn (hb pins s1 σ H1 _ I1 q1) λu s2 ⟨y,H2,I2,r2,q2⟩=>?_;exact hf v u s2 x y H2 I2 r1 r2 q2
theorem qP{op:Operator}{r:R2}(ho:OpR X (binaryOp op) r)(ha:PE X a ta)(hb:PE X b tb):PE X (.BinOp a op b pos) (tOp r ta tb):=by intro pins s σ H Q I h;exact wpAny_BinOp (qYl ha hb I h λv u s2 x y H2 I2 rx ry q=>ho pins s2 σ H2 x y v u Q I2 rx ry q)
theorem qE7{op:UnaryOp}{r:V->Hp->VK->Prop}(ho:UnR X (unaryOp op) r)(ha:PE X a ta):PE X (.UnaryOp op a pos) (tUn r ta):=by intro pins s σ H Q I h;exact UnaryOp_ (thn (ha pins s σ H _ I h) λv s1 ⟨x,H1,I1,r1,q1⟩=>ho pins s1 σ H1 x v Q I1 r1 q1)
theorem opI{f:Value->Value->Sem Value}{C:Int->Int->Prop}{g:Int->Int->Int}
 (rule:∀(i j:Int) (t u:Tok) (s:Shared) (Q:Value->Shared->Prop) (E:Value->Shared->Prop),C i j->Q (.int (g i j) s.toks) {s with toks:=s.toks+1}->wpAny (model X.prog X.w) X.A (f (.int i t) (.int j u)) Q E s):
 OpR X f (rI C λi j=>.int (g i j)):=by
 intro pins s σ H x y v u Q I rx ry h;obtain⟨i,j,rfl,rfl,hc,q⟩:=h;obtain⟨t,rfl⟩:=rx;obtain⟨t',rfl⟩:=ry;exact rule i j t t' s _ _ hc ⟨.int (g i j),H,I.tok _,⟨_,O⟩,q⟩
theorem qZ0{f:Value->Value->Sem Value}{g:Int->Int->Int}
 (rule:∀(i j:Int) (t u:Tok) (s:Shared) (Q:Value->Shared->Prop) (E:Value->Shared->Prop),Q (.int (g i j) s.toks) {s with toks:=s.toks+1}->wpAny (model X.prog X.w) X.A (f (.int i t) (.int j u)) Q E s):
 OpR X f (rI0 λi j=>.int (g i j)):=by
 intro pins s σ H x y v u Q I rx ry h;obtain⟨i,j,rfl,rfl,q⟩:=h;obtain⟨t,rfl⟩:=rx;obtain⟨t',rfl⟩:=ry;exact rule i j t t' s _ _ ⟨.int (g i j),H,I.tok _,⟨_,O⟩,q⟩
theorem qYa{f:Value->Value->Sem Value}{g:Int->Int->Bool}
 (rule:∀(i j:Int) (t u:Tok) (s:Shared) (Q:Value->Shared->Prop) (E:Value->Shared->Prop),Q (.bool (g i j)) s->wpAny (model X.prog X.w) X.A (f (.int i t) (.int j u)) Q E s):
 OpR X f (rI0 λi j=>.bl (g i j)):=by
 intro pins s σ H x y v u Q I rx ry h;obtain⟨i,j,rfl,rfl,q⟩:=h;obtain⟨t,rfl⟩:=rx;obtain⟨t',rfl⟩:=ry;exact rule i j t t' s _ _ ⟨.bl (g i j),H,I,O,q⟩
def qZ2(i j:Int):Prop:=0<=j/\j<=1000000/\i.natAbs<2 ^ 64
def CMul(i j:Int):Prop:=(-(2 ^ 64)<i/\i<2 ^ 64)\/(-(2 ^ 64)<j/\j<2 ^ 64)
theorem CMul.ok{i j:Int}(h:CMul i j):IntMulOk i j:=by
 rcases h with ⟨h1,h2⟩|⟨h1,h2⟩
 . exact .of_left (intBits_le_64 h1 h2)
 . exact .of_right (intBits_le_64 h1 h2)
theorem qk:OpR X (binaryOp .Add) (rI0 λi j=>.int (i+j)):=qZ0 λ_ _ _ _ _ _ _ q=>add_int q
theorem jG:OpR X (binaryOp .Sub) (rI0 λi j=>.int (i-j)):=qZ0 λ_ _ _ _ _ _ _ q=>sub_int q
theorem qi:OpR X (binaryOp .Mod) (rI (λ_ j=>j≠0) λi j=>.int (i.fmod j)):=opI λ_ _ _ _ _ _ _ hc q=>mod_int' hc q
theorem qT7:OpR X (binaryOp .Pow) (rI qZ2 λi j=>.int (i ^ j.toNat)):=opI λ_ _ _ _ _ _ _ hc q=>pow_int_small hc.1 hc.2.1 hc.2.2 q
theorem unI{f:Value->Sem Value}{g:Int->Int}
 (rule:∀(i:Int) (t:Tok) (s:Shared) (Q:Value->Shared->Prop) (E:Value->Shared->Prop),Q (.int (g i) s.toks) {s with toks:=s.toks+1}->wpAny (model X.prog X.w) X.A (f (.int i t)) Q E s):
 UnR X f (rU λi=>.int (g i)):=by
 intro pins s σ H x v Q I rx h;obtain⟨i,rfl,q⟩:=h;obtain⟨t,rfl⟩:=rx;exact rule i t s _ _ ⟨.int (g i),H,I.tok _,⟨_,O⟩,q⟩
theorem vW:UnR X (unaryOp .USub) (rU λi=>.int (-i)):=unI λ_ _ _ _ _ q=>neg_int q
end
noncomputable def qZu:V->V->Bool
 |.non,.non=>true|.non,.int _=>true|.int _,.non=>true|.non,.bl _=>true|.bl _,.non=>true|.non,.str _=>true|.str _,.non=>true
 |.int _,.int _=>true|.bl _,.bl _=>true|.str _,.str _=>true|.byt _,.byt _=>true
 |.int _,.str _=>true|.str _,.int _=>true|.bl _,.str _=>true|.str _,.bl _=>true
 |_,_=>false
inductive rEq(x:V)(y:V)(H:Hp)(Q:VK):Prop
|mk (_:qZu x y=true) (_:Q (.bl (decide (x=y))) H)
inductive rNe(x:V)(y:V)(H:Hp)(Q:VK):Prop
|mk (_:qZu x y=true) (_:Q (.bl (!decide (x=y))) H)
theorem qP5{i j:Int}:decide (V.int i=V.int j)=(i==j):=by rw[Yu];simp
theorem qT6{i j:Bool}:decide (V.bl i=V.bl j)=(i==j):=by rw[Yu];simp
theorem qRm{i j:Str}:decide (V.str i=V.str j)=(i==j):=by rw[Yu];simp
theorem qQb{i j:Array UInt8}:decide (V.byt i=V.byt j)=(i.toList==j.toList):=by rw[Yu];cases i;cases j;simp
section
variable{X:Cx}{a b c:Expr}{ta tb tc:TE}{pos:Pos}
theorem jJ{pins:List (Addr×Obj)}{σ:St}{H:Hp}{s:Shared}{Q:VK}{k k':Bool}(I:Inv X pins σ H s)(q:Q (.bl k) H)(e:k=k'):EP X pins σ Q (.bool k') s:=by subst e;exact⟨.bl k,H,I,O,q⟩
theorem jM:OpR X (compareOp .Eq) rEq:=by
 intro pins s σ H x y v u Q I rx ry h;obtain⟨hs,q⟩:=h;cases x with
 |non=>
  cases rx;cases y with
  |non=>cases ry;exact PySem.EqNone.eq_none_none (jJ I q (by simp))
  |bl j=>cases ry;exact PySem.EqNone.eq_none_bool (jJ I q (by simp))
  |int j=>obtain⟨t',rfl⟩:=ry;exact PySem.EqNone.eq_none_int (jJ I q (by simp))
  |str j=>obtain⟨t',rfl⟩:=ry;exact PySem.EqNone.eq_none_str (jJ I q (by simp))
  |_=>exact YC (show false=true from hs) YZ
 |bl i=>
  cases rx;cases y with
  |non=>cases ry;exact PySem.EqNone.eq_bool_none (jJ I q (by simp))
  |bl j=>cases ry;exact eq_bool (jJ I q qT6)
  |str j=>obtain⟨t',rfl⟩:=ry;exact PySem.EqMixed.eq_bool_str (jJ I q (by simp))
  |_=>exact YC (show false=true from hs) YZ
 |int i=>
  obtain⟨t,rfl⟩:=rx;cases y with
  |non=>cases ry;exact PySem.EqNone.eq_int_none (jJ I q (by simp))
  |int j=>obtain⟨t',rfl⟩:=ry;exact eq_int (jJ I q qP5)
  |str j=>obtain⟨t',rfl⟩:=ry;exact PySem.EqMixed.eq_int_str (jJ I q (by simp))
  |_=>exact YC (show false=true from hs) YZ
 |str i=>
  obtain⟨t,rfl⟩:=rx;cases y with
  |non=>cases ry;exact PySem.EqNone.eq_str_none (jJ I q (by simp))
  |bl j=>cases ry;exact PySem.EqMixed.eq_str_bool (jJ I q (by simp))
  |int j=>obtain⟨t',rfl⟩:=ry;exact PySem.EqMixed.eq_str_int (jJ I q (by simp))
  |str j=>obtain⟨t',rfl⟩:=ry;exact eq_str (jJ I q qRm)
  |_=>exact YC (show false=true from hs) YZ
 |byt i=>
  obtain⟨t,rfl⟩:=rx;cases y with
  |byt j=>obtain⟨t',rfl⟩:=ry;exact PySem.W.eq_bytes (jJ I q qQb)
  |_=>exact YC (show false=true from hs) YZ
 |_=>cases y <;> exact YC (show false=true from hs) YZ
theorem z7:OpR X (compareOp .NotEq) rNe:=by
 intro pins s σ H x y v u Q I rx ry h;obtain⟨hs,q⟩:=h;cases x with
 |non=>
  cases rx;cases y with
  |non=>cases ry;exact PySem.EqNone.ne_none_none (jJ I q (by simp))
  |bl j=>cases ry;exact PySem.EqNone.ne_none_bool (jJ I q (by simp))
  |int j=>obtain⟨t',rfl⟩:=ry;exact PySem.EqNone.ne_none_int (jJ I q (by simp))
  |str j=>obtain⟨t',rfl⟩:=ry;exact PySem.EqNone.ne_none_str (jJ I q (by simp))
  |_=>exact YC (show false=true from hs) YZ
 |bl i=>
  cases rx;cases y with
  |non=>cases ry;exact PySem.EqNone.ne_bool_none (jJ I q (by simp))
  |bl j=>cases ry;exact ne_bool (jJ I q (congrArg not qT6))
  |str j=>obtain⟨t',rfl⟩:=ry;exact PySem.EqMixed.ne_bool_str (jJ I q (by simp))
  |_=>exact YC (show false=true from hs) YZ
 |int i=>
  obtain⟨t,rfl⟩:=rx;cases y with
  |non=>cases ry;exact PySem.EqNone.ne_int_none (jJ I q (by simp))
  |int j=>obtain⟨t',rfl⟩:=ry;exact ne_int (jJ I q (congrArg not qP5))
  |str j=>obtain⟨t',rfl⟩:=ry;exact PySem.EqMixed.ne_int_str (jJ I q (by simp))
  |_=>exact YC (show false=true from hs) YZ
 |str i=>
  obtain⟨t,rfl⟩:=rx;cases y with
  |non=>cases ry;exact PySem.EqNone.ne_str_none (jJ I q (by simp))
  |bl j=>cases ry;exact PySem.EqMixed.ne_str_bool (jJ I q (by simp))
  |int j=>obtain⟨t',rfl⟩:=ry;exact PySem.EqMixed.ne_str_int (jJ I q (by simp))
  |str j=>obtain⟨t',rfl⟩:=ry;exact ne_str (jJ I q (congrArg not qRm))
  |_=>exact YC (show false=true from hs) YZ
 |byt i=>
  obtain⟨t,rfl⟩:=rx;cases y with
  |byt j=>obtain⟨t',rfl⟩:=ry;exact PySem.W.ne_bytes (jJ I q (congrArg not qQb))
  |_=>exact YC (show false=true from hs) YZ
 |_=>cases y <;> exact YC (show false=true from hs) YZ
theorem zM:OpR X (compareOp .Lt) (rI0 λi j=>.bl (decide (i<j))):=qYa λ_ _ _ _ _ _ _ q=>lt_int q
theorem qRa:OpR X (compareOp .LtE) (rI0 λi j=>.bl (decide (i<=j))):=qYa λ_ _ _ _ _ _ _ q=>le_int q
theorem qGh:OpR X (compareOp .Gt) (rI0 λi j=>.bl (decide (j<i))):=qYa λ_ _ _ _ _ _ _ q=>gt_int q
theorem qMh:OpR X (compareOp .GtE) (rI0 λi j=>.bl (decide (j<=i))):=qYa λ_ _ _ _ _ _ _ q=>ge_int q
theorem qO(b:Expr){op:CmpOp}(h:op≠ .In:=by decide)(h2:op≠ .NotIn:=by decide):behindInMarks op b=false:=by
 have e1:(op==CmpOp.In)=false:=by cases op <;> first|rfl|exact YC rfl h
 have e2:(op==CmpOp.NotIn)=false:=by cases op <;> first|rfl|exact YC rfl h2
 cases b <;> simp[behindInMarks,e1,e2]
theorem jH{op:CmpOp}{r:R2}(ho:OpR X (compareOp op) r)(ha:PE X a ta)(hb:PE X b tb)(hm:behindInMarks op b=false):PE X (.Compare a [op] [b] pos) (tOp r ta tb):=by intro pins s σ H Q I h;exact wpAny_Compare1 (qYl ha hb I h λv u s2 x y H2 I2 rx ry q=>ho pins s2 σ H2 x y v u Q I2 rx ry q) hm
inductive qWd(Q:Bool->Hp->Prop)(x:V)(H':Hp):Prop
|mk k (_:x=.bl k) (_:Q k H')
def qSg(t:TE):TT:=λσ H Q=>t σ H λx H'=>qWd Q x H'
theorem qM{op:CmpOp}{r:R2}(ho:OpR X (compareOp op) r)(ha:PE X a ta)(hb:PE X b tb)(hm:behindInMarks op b=false):PT X (.Compare a [op] [b] pos) (qSg (tOp r ta tb)):=by
 intro pins s σ H Q I h;refine wpAny_isTrue_Compare1 (thn (ha pins s σ H _ I h) λv s1 ⟨x,H1,I1,r1,q1⟩=>thn (hb pins s1 σ H1 _ I1 q1) λu s2 ⟨y,H2,I2,r2,q2⟩=>
  thn (ho pins s2 σ H2 x y v u _ I2 r1 r2 q2) λc s3 ⟨z,H3,I3,r3,k,e,q3⟩=>?_) hm
 subst e;cases r3;exact wpAny_truthy_bool ⟨H3,I3,q3⟩
theorem qJ5:(sizeLine:Nat)<2 ^ 63:=by rw[sizeLine_eq];decide
theorem qE9{x:V}{us:List Value}(r:Vals [x] us):∃u,us=[u]/\RelV x u:=by
 cases r with
 |cons r1 r2=>cases r2;exact⟨_,rfl,r1⟩
theorem qPz{x y:V}{us:List Value}(r:Vals [x,y] us):∃u w',us=[u,w']/\RelV x u/\RelV y w':=by
 cases r with
 |cons r1 r2=>
  cases r2 with
  |cons r3 r4=>cases r4;exact⟨_,_,rfl,r1,r3⟩
theorem qHq:zD X (.builtin "abs") (λxs H Q=> ∃i,xs=[.int i]/\Q (.int (if i<0 then-i else i)) H):=by intro pins s σ H xs us Q I r h;obtain⟨i,rfl,q⟩:=h;obtain⟨u,rfl,t,rfl⟩:=qE9 r;exact call_abs_int λu tk=>⟨.int (if i<0 then-i else i),H,I.tok _,⟨_,O⟩,q⟩
theorem qBm(hc:X.calm=true):zD X (.builtin "max") (λxs H Q=> ∃i j,xs=[.int i,.int j]/\Q (.int (if j>i then j else i)) H):=by
 intro pins s σ H xs us Q I r h;obtain⟨i,j,rfl,q⟩:=h;obtain⟨u,w',rfl,⟨t,rfl⟩,⟨t',rfl⟩⟩:=qPz r;refine max_two_ints (I.ok.hd hc) λh' tk k=>⟨_,H,I.kept k,?_,q⟩;by_cases hj:j>i
 . rw[YB hj,YB hj];exact⟨_,rfl⟩
 . rw[YA hj,YA hj];exact⟨_,rfl⟩
theorem zO(hc:X.calm=true):zD X (.builtin "min") (λxs H Q=> ∃i j,xs=[.int i,.int j]/\Q (.int (if j<i then j else i)) H):=by
 intro pins s σ H xs us Q I r h;obtain⟨i,j,rfl,q⟩:=h;obtain⟨u,w',rfl,⟨t,rfl⟩,⟨t',rfl⟩⟩:=qPz r;refine min_two_ints (I.ok.hd hc) λh' tk k=>⟨_,H,I.kept k,?_,q⟩;by_cases hj:j<i
 . rw[YB hj,YB hj];exact⟨_,rfl⟩
 . rw[YA hj,YA hj];exact⟨_,rfl⟩
end
structure ObjM(h:Heap)(x dx C:Addr)(mA:Str->Option Value):Prop where
 obj:h.get? x=some (PySem.W.instObj C dx)
 ns:h.Ns1 dx mA
 ne:dx≠x
theorem qPg{h:Heap}{dx:Addr}{mA:Str->Option Value}(n:h.Ns1 dx mA):∃od,h.get? dx=some od/\∀name,PySem.W.lookIn name od=some (mA name):=by
 obtain⟨o,es,ep,ho,hd,hk,_,hm⟩:=n;refine⟨o,ho,λname=>?_⟩;have e:=hm name;unfold nsFind findBy at e;rw[<-Array.find?_toList]at e;unfold PySem.W.lookIn;rw[hd];dsimp only;split
 . rename_i y q
   rw[q]at e;exact congrArg some e
 . rename_i q
   rw[q]at e;have a:es.toList.any (·.refKey)=false:=by rw[List.any_eq_false];intro y hy;obtain⟨z,t,hkey⟩:=hk y (Array.mem_toList_iff.mp hy);simp[DictEntry.refKey,hkey]
   have a':¬es.toList.any (·.refKey)=true:=by rw[a];exact YZ
   rw[YA a'];exact congrArg some e
theorem ObjM.look{h:Heap}{x dx C:Addr}{mA:Str->Option Value}(I:ObjM h x dx C mA):∃od,PySem.W.InstAt h x (PySem.W.instObj C dx) C (some od)/\∀name,PySem.W.lookIn name od=some (mA name):=
 let ⟨od,ho,hl⟩:=qPg I.ns
 ⟨od,⟨I.obj,rfl,rfl,ho⟩,hl⟩
section
variable{prog:Program}{w:World}{A:Around}{E:Value->Shared->Prop}{s:Shared}{K:PySem.W.Frag}{x dx C f:Addr}{mA:Str->Option Value}{name:Str}{v:Value}
theorem qUv{expr:Bool}{Q:Value->Shared->Prop}(X:K.In s.heap)(I:ObjM s.heap x dx C mA)(hg:PySem.W.plainGet K C name=true)(hh:PySem.W.hasDictIn K C=true)
 (ha:PySem.W.findIn K (.ref C) name=some none) (hv:mA name=some v) (hv':PySem.W.handedIn v=true) (h:Q v {s with toks:=s.toks+1}):
 wpAny (model prog w) A (getAttr (.ref x) name expr) Q E s:=by
 obtain⟨od,J,hl⟩:=I.look;exact PySem.W.get_value X J (PySem.W.plainGet_of hg).1 (PySem.W.findObj_own hh ha rfl (by rw[hl,hv])) hv' h
theorem qTd{pl:Sem Bool}{Q:Value×List Value->Shared->Prop}(X:K.In s.heap)(I:ObjM s.heap x dx C mA)(hg:PySem.W.plainGet K C name=true)
 (hf:PySem.W.findIn K (.ref C) name=some (some (.ref f))) (ht:PySem.W.isFn K (.ref f)=true) (hv:mA name=none) (h:Q (.ref f,[.ref x]) s):
 wpAny (model prog w) A (getMethod (.ref x) name pl) Q E s:=by
 obtain⟨od,J,hl⟩:=I.look;exact PySem.W.method_fn X J (PySem.W.plainGet_of hg).1 (PySem.W.plainGet_of hg).2 hf (beq_iff_eq.mp ht) (by show (PySem.W.lookIn name od).map (·.isSome)=some false;rw[hl,hv];rfl) h
theorem qVo{ns:List Str}{Q:Unit->Shared->Prop}(X:K.In s.heap)(I:ObjM s.heap x dx C mA)
 (hs:PySem.W.findIn K (.ref C) "__setattr__"=some (some (.builtin "object.__setattr__"))) (hp:PySem.W.plainOver K C=true) (ht:PySem.W.takerIn K C name=some none) (hh:PySem.W.hasDictIn K C=true)
 (hw:PySem.Within mA ns) (hsz:ns.length<=sizeLine)
 (h:∀h',ObjM h' x dx C (λy=>if y=name then some v else mA y)->Heap.SameBut dx s.heap h'->Q () {s with heap:=h',toks:=s.toks+2}):
 wpAny (model prog w) A (setAttr (.ref x) name v) Q E s:=by
 obtain⟨od,J,hl⟩:=I.look;refine PySem.W.set_plain X J hs (PySem.W.osa_open (s:={s with toks:=s.toks+1}) (r:=none) X J hp ht λb=>?_);obtain⟨cd,hc,hd'⟩:=PySem.W.any_some hh;have hx:s.heap.get? x=some ⟨.ref C,some dx,.plain,#[]⟩:=I.obj;refine YJ (YK (YJ (YJ (wpAny_loadPart hx (YJ (PySem.W.Looks.here (s:={s with toks:=s.toks+1}) (PySem.W.looks_clsIn X hc) ?_))))));rw[hd'];refine YK (a:=some dx) (YJ (YK (YJ ?_)));refine wpAny_nsSet1 (s:={s with toks:=s.toks+1}) I.ns λh' hn2 hs2=>?_;obtain⟨oD,esD,epD,hoD,hdD,hcD⟩:=hn2.count (PySem.Within.cons name v hw);refine YJ (wpAny_lookBehind hoD (by rw[hdD];exact pastItsLine_dict (ZC hcD (by rw[YE];omega))) ?_);exact YK (h _ ⟨(hs2.2 _ (ZF I.ne)).trans I.obj,hn2,I.ne⟩ hs2)
theorem qS7{R:Result->Shared->Prop}{vs:List Value}{kw:List (Str×Value)}(X:K.In s.heap)(hm:PySem.W.makesIn K C=true)
 (hi:PySem.W.findIn K (.ref C) "__init__"=some (some (.ref f))) (hf:PySem.W.typeIn K (.ref f)=some (.type "function"))
 (h:codeAny (model prog w) (A.under (.builtin "type.__call__" ⟨.ref C::vs,kw⟩)) (.call (.ref f) ⟨.ref (s.heap.objs.size+1)::vs,kw⟩) (PySem.W.InitBack (s.heap.objs.size+1) R)
   {s with heap:=(s.heap.push PySem.W.emptyDict).push (PySem.W.instObj C s.heap.objs.size)}):
 codeAny (model prog w) A (.call (.ref C) ⟨vs,kw⟩) R s:=by
 obtain⟨hh,g,d,t,os⟩:=s;exact PySem.W.make_core (PySem.W.makes_of X hm) (PySem.W.looks_findIn X hi) (λself=>PySem.W.bind_fn X self hf) (.inl rfl) h
end
noncomputable def qD4(f:Str)(v:V):List (Str×V)->List (Str×V)
 |[]=>[(f,v)]
 |(g,x)::r=>if g=f then (g,v)::r else (g,x)::qD4 f v r
theorem qEt(f g:Str)(v:V):∀fs:List (Str×V),(qD4 f v fs).lookup g=if g=f then some v else fs.lookup g
 |[]=>by
  show List.lookup g [(f,v)]=_;by_cases h:g=f
  . have hb:(g==f)=true:=beq_iff_eq.mpr h
    simp only[List.lookup,hb,YB h]
  . have hb:(g==f)=false:=beq_eq_false_iff_ne.mpr h
    simp only[List.lookup,hb,YA h]
 |(k,x)::r=>by
  have ih:=qEt f g v r;rw[show qD4 f v ((k,x)::r)=(if k=f then (k,v)::r else (k,x)::qD4 f v r)from rfl];by_cases hk:k=f
  . rw[YB hk]
    by_cases h:g=k
    . have hb:(g==k)=true:=beq_iff_eq.mpr h
      simp only[List.lookup,hb,YB (h.trans hk)]
    . have hb:(g==k)=false:=beq_eq_false_iff_ne.mpr h
      simp only[List.lookup,hb,YA (λe:g=f=>h (e.trans hk.symm))]
  . rw[YA hk]
    by_cases h:g=k
    . have hb:(g==k)=true:=beq_iff_eq.mpr h
      simp only[List.lookup,hb,YA (λe:g=f=>hk (h.symm.trans e))]
    . have hb:(g==k)=false:=beq_eq_false_iff_ne.mpr h
      simp only[List.lookup,hb];exact ih
theorem qD2(f:Str)(v:V):∀fs:List (Str×V),f∈(qD4 f v fs).map (·.1)/\∀g,g∈fs.map (·.1)->g∈(qD4 f v fs).map (·.1)
 |[]=>⟨by simp[qD4],λg h=>by simp at h⟩
 |(k,x)::r=>by
  obtain⟨i1,i2⟩:=qD2 f v r;rw[show qD4 f v ((k,x)::r)=(if k=f then (k,v)::r else (k,x)::qD4 f v r)from rfl];by_cases hk:k=f
  . rw[YB hk]
    subst hk;exact⟨by simp,λg h=>by simpa using h⟩
  . rw[YA hk]
    refine⟨?_,λg h=>?_⟩
    . rw[ZG]
      exact List.mem_cons_of_mem _ i1
    . rw[ZG]at h⊢
      rcases YU.mp h with e|e
      . exact YU.mpr (.inl e)
      . exact List.mem_cons_of_mem _ (i2 g e)
theorem zQ(f:Str)(v:V):∀fs:List (Str×V),(qD4 f v fs).length<=fs.length+1
 |[]=>by simp[qD4]
 |(k,x)::r=>by
  have ih:=zQ f v r;rw[show qD4 f v ((k,x)::r)=(if k=f then (k,v)::r else (k,x)::qD4 f v r)from rfl];by_cases hk:k=f
  . rw[YB hk,YE,YE];omega
  . rw[YA hk,YE,YE];omega
theorem RelO.some_of{v:V}{o:Option Value}(r:RelO (some v) o):∃u,o=some u/\RelV v u:=by
 cases o with
 |none=>exact(show False from r).elim
 |some u=>exact⟨u,rfl,r⟩
theorem RelO.none_of{o:Option Value}(r:RelO none o):o=none:=by
 cases o with
 |none=>rfl
 |some u=>exact(show False from r).elim
theorem qQ8{v:V}{u:Value}(r:RelV v u):PySem.W.handedIn u=true:=by
 cases v with
 |non=>cases (show u=Value.none from r);rfl
 |bl b=>cases (show u=Value.bool b from r);rfl
 |int i=>obtain⟨t,e⟩:=(show ∃t,u=Value.int i t from r);cases e;rfl
 |str x=>obtain⟨t,e⟩:=(show ∃t,u=Value.str x t from r);cases e;rfl
 |byt b=>obtain⟨t,e⟩:=(show ∃t,u=Value.bytes b t from r);cases e;rfl
 |flt b=>obtain⟨t,e⟩:=(show ∃t,u=Value.float b t from r);cases e;rfl
 |ref a=>cases (show u=Value.ref a from r);rfl
 |ty n=>cases (show u=Value.type n from r);rfl
section
variable{P:Program}{w:World}{H H':Hp}{h h':Heap}{a C dx:Addr}{fs fs':List (Str×V)}
theorem qEb(hok:HOk P w H h)(e:H a=some (.ins C dx fs)):∃mA,ObjM h a dx C mA/\(∀f,RelO (fs.lookup f) (mA f))/\PySem.Within mA (fs.map (·.1))/\fs.length<=1000/\H dx=some (.own a):=by obtain⟨d,z,ne,ob,mA,n,r,q⟩:=(show ObjOk P w H h a (.ins C dx fs)from hok a _ e);exact⟨mA,⟨ob,n,ne⟩,r,q,z,d⟩
end
structure Cls(K:PySem.W.Frag)(C:Addr):Prop where
 pg:PySem.W.plainGet K C Str.empty=true
 hd:PySem.W.hasDictIn K C=true
 po:PySem.W.plainOver K C=true
 sa:PySem.W.findIn K (.ref C) "__setattr__"=some (some (.builtin "object.__setattr__"))
theorem Cls.get{K:PySem.W.Frag}{C:Addr}(c:Cls K C)(f:Str):PySem.W.plainGet K C f=true:=c.pg
def NoAttr(K:PySem.W.Frag)(C:Addr)(f:Str):Prop:=PySem.W.findIn K (.ref C) f=some none
theorem NoAttr.taker{K:PySem.W.Frag}{C:Addr}{f:Str}(n:NoAttr K C f):PySem.W.takerIn K C f=some none:=by unfold PySem.W.takerIn;rw[show PySem.W.findIn K (.ref C) f=some none from n];rfl
structure qWf(K:PySem.W.Frag)(C:Addr)(m:Str)(f:Addr):Prop where
 at_:PySem.W.findIn K (.ref C) m=some (some (.ref f))
 fn:PySem.W.isFn K (.ref f)=true
 kp:PySem.W.keepIn K (.ref f)=true
section
variable{X:Cx}{pins:List (Addr×Obj)}{σ:St}{H:Hp}{s:Shared}{a C dx:Addr}{fs:List (Str×V)}{f:Str}{v:V}{A:Around}{E:Value->Shared->Prop}
theorem qGi{b:Bool}{Q:Value->Shared->Prop}(I:Inv X pins σ H s)(e:H a=some (.ins C dx fs))(c:Cls X.K C)(n:NoAttr X.K C f)(l:fs.lookup f=some v)
 (h:∀u s',Inv X pins σ H s'->RelV v u->Q u s'):wpAny (model X.prog X.w) A (getAttr (.ref a) f b) Q E s:=by
 obtain⟨mA,O9,r,_,_,_⟩:=qEb I.hok e;obtain⟨u,hu,ru⟩:=RelO.some_of (v:=v) (o:=mA f) (by rw[<-l];exact r f);exact qUv I.kIn O9 (c.get f) c.hd n hu (qQ8 ru) (h u _ (I.tok _) ru)
theorem qB3{m:Str}{g:Addr}{pl:Sem Bool}{Q:Value×List Value->Shared->Prop}(I:Inv X pins σ H s)(e:H a=some (.ins C dx fs))(c:Cls X.K C)(k:qWf X.K C m g)(l:fs.lookup m=none)
 (h:Q (.ref g,[.ref a]) s):wpAny (model X.prog X.w) A (getMethod (.ref a) m pl) Q E s:=by
 obtain⟨mA,O9,r,_,_,_⟩:=qEb I.hok e;have hn:mA m=none:=RelO.none_of (by rw[<-l];exact r m);exact qTd I.kIn O9 (c.get m) k.at_ k.fn hn h
theorem qNv{y:V}{u:Value}{Q:Unit->Shared->Prop}(I:Inv X pins σ H s)(e:H a=some (.ins C dx fs))(c:Cls X.K C)(n:NoAttr X.K C f)(hl:fs.length<1000)(ry:RelV y u)
 (h:∀s',Inv X pins σ (upd H a (.ins C dx (qD4 f y fs))) s'->Q () s'):wpAny (model X.prog X.w) A (setAttr (.ref a) f u) Q E s:=by
 obtain⟨mA,O9,r,wi,_,ho⟩:=qEb I.hok e;have hz:(fs.map (·.1)).length<=sizeLine:=by rw[YS,sizeLine_eq];omega
 refine qVo I.kIn O9 c.sa c.po n.taker c.hd wi hz λh' O' sb=>h _ ?_;have hd:∃o,h'.get? dx=some o:=let ⟨o,_,_,e',_⟩:=O'.ns;⟨o,e'⟩
 refine I.write (x:=a) (e:=dx) (by rw[e];exact True.intro) (.inr ho) (λb q hb z=>(sb.2 b hb).trans z) hd ?_;refine⟨by rw[qQ O9.ne];exact ho,?_,O9.ne,O'.obj,_,O'.ns,λg=>?_,λg hg=>?_⟩
 . have:=zQ f y fs;omega
 . show RelO ((qD4 f y fs).lookup g) (if g=f then some u else mA g)
   rw[qEt];by_cases q:g=f
   . rw[YB q,YB q];exact ry
   . rw[YA q,YA q];exact r g
 . by_cases q:g=f
   . rw[q];exact(qD2 f y fs).1
   . refine(qD2 f y fs).2 g (wi g λz=>hg ?_)
     show (if g=f then some u else mA g)=none;rw[YA q];exact z
theorem Inv.made(I:Inv X pins σ H s):Inv X pins σ (upd (upd H s.heap.objs.size (.own (s.heap.objs.size+1))) (s.heap.objs.size+1) (.ins C s.heap.objs.size []))
 {s with heap:=(s.heap.push PySem.W.emptyDict).push (PySem.W.instObj C s.heap.objs.size)}:=by
 have e1:(s.heap.push PySem.W.emptyDict).get? s.heap.objs.size=some PySem.W.emptyDict:=Yn s.heap rfl;have e2:((s.heap.push PySem.W.emptyDict).push (PySem.W.instObj C s.heap.objs.size)).get? (s.heap.objs.size+1)=some (PySem.W.instObj C s.heap.objs.size):=by
  have:=Yn (s.heap.push PySem.W.emptyDict) (o:=PySem.W.instObj C s.heap.objs.size) rfl
  rwa [Heap.size_push]at this
 have e3:(s.heap.push PySem.W.emptyDict).Ns s.heap.objs.size (λ_=>none):=⟨PySem.W.emptyDict,#[],_,e1,rfl,(λe he=>YC he (by simp)),λ_=>rfl⟩;have I1:=I.laid (a:=s.heap.objs.size) (o:=.own (s.heap.objs.size+1)) (h':=s.heap.push PySem.W.emptyDict) (t':=s.toks) (λb u q=>YM _ q) (YI _) ⟨_,e1⟩;refine I1.laid (a:=s.heap.objs.size+1) (o:=.ins C s.heap.objs.size []) (t':=s.toks) (λb u q=>YM _ q) (Nat.le_of_eq (Heap.size_push _ _)) ?_;have ne:s.heap.objs.size≠s.heap.objs.size+1:=Yo (Nat.lt_succ_self _);refine⟨by rw[qQ ne,qC],ZP _,ne,e2,λ_=>none,(Heap.Ns1.of_empty e3).at λo q=>YM _ q,λ_=>True.intro,λy hy=>YC rfl hy⟩
theorem qU5{prog:Program}{w:World}{env:Env}{e:Expr}{f:Str}{pos:Pos}{s:Shared}{Q:Value->Shared->Prop}(hb:attributeBase e f env (eval e env)=eval e env)
 (h:wpAny (model prog w) A (eval e env) (λo s₁=>wpAny (model prog w) A (getAttr o f true) Q E s₁) E s):wpAny (model prog w) A (eval (.Attribute e f pos) env) Q E s:=
 Attribute_any_ h (by rw[arm_eval_Attribute,hb])
end
def jAr(K:PySem.W.Frag)(ta:TE)(f:Str):TE:=λσ H Q=>ta σ H λx H1=> ∃a C dx fs v,x=.ref a/\H1 a=some (.ins C dx fs)/\Cls K C/\NoAttr K C f/\fs.lookup f=some v/\Q v H1
def qZ7(K:PySem.W.Frag)(ta tv:TE)(f:Str):TS:=λD σ H=>tv σ H λy H1=>ta σ H1 λx H2=> ∃a C dx fs,x=.ref a/\H2 a=some (.ins C dx fs)/\Cls K C/\NoAttr K C f/\fs.length<1000/\
 D.nx σ (upd H2 a (.ins C dx (qD4 f y fs)))
section
variable{X:Cx}{o e value:Expr}{f:Str}{pos pos' tpos:Pos}{ta tv:TE}
theorem qJh(he:PE X e ta)(hb:attributeBase e f X.env (eval e X.env)=eval e X.env):PE X (.Attribute e f pos) (jAr X.K ta f):=by intro pins s σ H Q I h;refine qU5 hb (thn (he pins s σ H _ I h) λu s1 ⟨x,H1,I1,rx,a,C,dx,fs,v,ex,ea,c,n,l,q⟩=>?_);subst ex;obtain rfl:u=Value.ref a:=rx;exact qGi I1 ea c n l λu' s2 I2 ru=>⟨v,H1,I2,ru,q⟩
theorem qNa(ha:PE X o ta)(hv:PE X value tv)(hs:swapsWith value (some (.Attribute o f pos')) pos.line X.env=pure false):PS X (.Assign [.Attribute o f pos'] value pos) (qZ7 X.K ta tv f):=by intro pins s σ H D I h;refine plainObj_wpAny_Assign_Attribute (thn (hv pins s σ H _ I h) λu s1 ⟨y,H1,I1,ry,q⟩=>thn (ha pins s1 σ H1 _ I1 q) λov s2 ⟨x,H2,I2,rx,a,C,dx,fs,ex,ea,c,n,l,q2⟩=>?_) hs;subst ex;obtain rfl:ov=Value.ref a:=rx;exact qNv I2 ea c n l ry λs3 I3=>⟨σ,_,I3,q2⟩
end
section
variable{X:Cx}{pins:List (Addr×Obj)}{σ:St}{H:Hp}{s:Shared}{A:Around}{E:Value->Shared->Prop}{Q:Value->Shared->Prop}{c:Value}{b:Bool}
inductive qK5(K:PySem.W.Frag)(H:Hp):V->Value->Prop where
 |non:qK5 K H .non (.type "NoneType")
 |bl (x:Bool):qK5 K H (.bl x) (.type "bool")
 |int (i:Int):qK5 K H (.int i) (.type "int")
 |str (x:Str):qK5 K H (.str x) (.type "str")
 |flt (x:UInt64):qK5 K H (.flt x) (.type "float")
 |lst {a:Addr} {xs:List V} (e:H a=some (.lst xs)):qK5 K H (.ref a) (.type "list")
 |frz {a:Addr} {o:Obj} {xs:List V} (e:H a=some (.frz o (.lst xs))):qK5 K H (.ref a) (.type "list")
 |tup {a:Addr} {xs:List V} (e:H a=some (.tup xs)):qK5 K H (.ref a) (.type "tuple")
 |dK {a:Addr} {kvs:List (Key×V)} (e:H a=some (.dK kvs)):qK5 K H (.ref a) (.type "dict")
 |dT {a:Addr} {kvs:List (List Key×V)} (e:H a=some (.dT kvs)):qK5 K H (.ref a) (.type "dict")
 |ins {a C dx:Addr} {fs:List (Str×V)} (e:H a=some (.ins C dx fs)) (cl:Cls K C) (ha:PySem.W.findIn K (.ref C) "__class__"=some (some (.builtin "object.__class__")))
  (hn:PySem.W.specialIn K (.builtin "object.__class__") "__get__"=some (some (.builtin "getset_descriptor.__get__"))) (htk:PySem.W.takesIn K (.builtin "object.__class__")=some true)
  (hm:PySem.W.mroIn K C (.type "object")=some true):qK5 K H (.ref a) (.ref C)
theorem qI5{x:V}{u t:Value}(I:Inv X pins σ H s)(rx:RelV x u)(ty:qK5 X.K H x t)(e:PySem.W.kitOne X.K t c=some b)(h:∀tk,Q (.bool b) {s with toks:=tk}):
 wpAny (model X.prog X.w) A (call (.builtin "isinstance") [u,c]) Q E s:=by
 cases ty with
 |non=>cases (show u=Value.none from rx);exact PySem.W.kia_one PySem.W.kitx_none I.kIn True.intro e (λz=>nomatch z) h
 |bl y=>cases (show u=Value.bool y from rx);exact PySem.W.kia_one PySem.W.kitx_bool I.kIn True.intro e (λz=>nomatch z) h
 |int i=>obtain⟨t,q⟩:=(show ∃t,u=Value.int i t from rx);cases q;exact PySem.W.kia_one PySem.W.kitx_int I.kIn True.intro e (λz=>nomatch z) h
 |str y=>obtain⟨t,q⟩:=(show ∃t,u=Value.str y t from rx);cases q;exact PySem.W.kia_one PySem.W.kitx_str I.kIn True.intro e (λz=>nomatch z) h
 |flt y=>obtain⟨t,q⟩:=(show ∃t,u=Value.float y t from rx);cases q;exact PySem.W.kia_one PySem.W.kitx_float I.kIn True.intro e (λz=>nomatch z) h
 | @lst a xs ea=>
  cases (show u=Value.ref a from rx);obtain⟨_,_,n,_,h1⟩:=(show ObjOk X.prog X.w H s.heap a (.lst xs)from I.hok a _ ea);exact PySem.W.kia_one PySem.W.kitx_list I.kIn ⟨_,h1,O⟩ e (λz=>nomatch z) h
 | @frz a ob xs ea=>
  cases (show u=Value.ref a from rx);obtain⟨_,_,_,n,_,h1⟩:=(show ObjOk X.prog X.w H s.heap a (.frz ob (.lst xs))from I.hok a _ ea);exact PySem.W.kia_one PySem.W.kitx_list I.kIn ⟨_,h1,O⟩ e (λz=>nomatch z) h
 | @tup a xs ea=>
  cases (show u=Value.ref a from rx);obtain⟨_,_,_,p⟩:=(show ObjOk X.prog X.w H s.heap a (.tup xs)from I.hok a _ ea);obtain⟨o,h1,h2,_⟩:=p;exact PySem.W.kia_one PySem.W.kitx_tuple I.kIn ⟨o,h1,h2⟩ e (λz=>nomatch z) h
 | @dK a kvs ea=>
  cases (show u=Value.ref a from rx);obtain⟨_,_,vs,_,p⟩:=(show ObjOk X.prog X.w H s.heap a (.dK kvs)from I.hok a _ ea);obtain⟨o,es,ep,h1,h2,_⟩:=p;exact PySem.W.kia_one PySem.W.kitx_dict I.kIn ⟨o,h1,h2.1⟩ e (λz=>nomatch z) h
 | @dT a kvs ea=>
  cases (show u=Value.ref a from rx);obtain⟨_,_,xs,_,o,es,ep,h1,h2,_⟩:=(show ObjOk X.prog X.w H s.heap a (.dT kvs)from I.hok a _ ea);exact PySem.W.kia_one PySem.W.kitx_dict I.kIn ⟨o,h1,h2.1⟩ e (λz=>nomatch z) h
 | @ins a C dx fs ea cl ha hn htk hm=>
  cases (show u=Value.ref a from rx);obtain⟨mA,O9,_⟩:=qEb I.hok ea;obtain⟨od,J,_⟩:=O9.look;exact PySem.W.kia_one (PySem.W.kitx_own (cl.get _) cl.hd ha hn htk hm) I.kIn J e (λz=>nomatch z) h
end
structure Room(k:Nat)(A:Around):Prop where
 hd:A.handled=none
 dp:A.depth+3*k+5<recursionLimit
 un:A.units+16*k+200<cLine
theorem Room.mono{j k:Nat}{A:Around}(r:Room k A)(h:j<=k):Room j A:=⟨r.hd,by have:=r.dp;omega,by have:=r.un;omega⟩
theorem Room.deeper{k:Nat}{A:Around}(r:Room (k+1) A)(env:Env):Room k (A.deeper env):=
 ⟨r.hd,by have:=r.dp;show A.depth+1+3*k+5<_;omega,by have:=r.un;show A.units+3+16*k+200<_;omega⟩
theorem qN0{A:Around}{C:Addr}{us:List Value}{kw:List (Str×Value)}:(A.under (.builtin "type.__call__" ⟨.ref C::us,kw⟩)).depth=A.depth+1:=by
 first|rfl|simp[Around.under,Code.weight,Code.isCreation,Code.isGuard,Code.isCaller,Code.frames,Code.isFrame,guardIds]
theorem qOt{A:Around}{C:Addr}{us:List Value}{kw:List (Str×Value)}:(A.under (.builtin "type.__call__" ⟨.ref C::us,kw⟩)).units=A.units+1:=by
 first|rfl|simp[Around.under,Code.cUnits,Code.frames,Code.isFrame]
theorem Room.make{k:Nat}{A:Around}(r:Room (k+1) A)(C:Addr)(us:List Value)(kw:List (Str×Value)):Room k (A.under (.builtin "type.__call__" ⟨.ref C::us,kw⟩)):=
 ⟨r.hd,by have:=r.dp;rw[qN0];omega,by have:=r.un;rw[qOt];omega⟩
theorem Room.depth{k:Nat}{A:Around}(r:Room k A):A.depth<recursionLimit:=by have:=r.dp;omega
theorem Room.units{k:Nat}{A:Around}(r:Room k A):A.units+64<cLine:=by have:=r.un;omega
theorem Room.units0{k:Nat}{A:Around}(r:Room k A):A.units<cLine:=by have:=r.un;omega
def qWa:TA:=λ_ H Q=>Q [] H
def qLq(ta:TE)(tr:TA):TA:=λσ H Q=>ta σ H λx H1=>tr σ H1 λxs H2=>Q (x::xs) H2
section
variable{X:Cx}{e:Expr}{es:List Expr}{te:TE}{t:TA}{pos:Pos}
theorem qB:PA X [] qWa:=λ_ _ _ _ H Q I h=>Calls.spliced_nil ⟨[],H,I,.nil,h⟩
theorem qA(ha:PE X e te)(hr:PA X es t)(hs:starEach (e::es) X.env=(false,eval e X.env)::starEach es X.env:=by rfl):PA X (e::es) (qLq te t):=by intro pos pins s σ H Q I h;rw[hs];show wpAny _ _ (spliced ((false,eval e X.env)::backTo pos (starEach es X.env))) _ _ s;refine Calls.spliced_cons (thn (ha pins s σ H _ I h) λu s1 ⟨x,H1,I1,r1,q1⟩=>?_);exact thn (hr pos pins s1 σ H1 _ I1 q1) λus s2 ⟨xs,H2,I2,r2,q2⟩=>⟨x::xs,H2,I2,.cons r1 r2,q2⟩
inductive qYj(Q:VK)(xs:List V)(H1:Hp):Prop
|mk (_:xs.length<=sizeLine) (_:∀p,H1 p=none->Q (.ref p) (upd H1 p (.tup xs)))
def qYm(t:TA):TE:=λσ H Q=>t σ H λxs H1=>qYj Q xs H1
inductive qY1(Q:VK)(xs:List V)(H1:Hp):Prop
|mk (_:xs.length<=sizeLine) (_:∀p,H1 p=none->Q (.ref p) (upd H1 p (.lst xs)))
def qZ6(t:TA):TE:=λσ H Q=>t σ H λxs H1=>qY1 Q xs H1
theorem qY{x1}(h:PA X es t):PE X (.Tuple es x1 pos) (qYm t):=by intro pins s σ H Q I hq;refine wpAny_Tuple_spliced (thn (h pos pins s σ H _ I hq) λus s1 ⟨xs,H1,I1,r,z,q⟩=>⟨by rw[<-r.length];exact z,?_⟩);have hf:H1 s1.heap.objs.size=none:=I1.hok.fresh (YI _);refine⟨.ref s1.heap.objs.size,upd H1 s1.heap.objs.size (.tup xs),I1.laid (t':=s1.toks) (λb u e=>YM _ e) (YI _) ?_,O,q _ hf⟩;exact⟨z,us,r,⟨_,Yn _ rfl,O,_,O⟩⟩
theorem qo(h:PA X es t):PE X (.List es pos) (qZ6 t):=by intro pins s σ H Q I hq;refine wpAny_List_spliced (thn (h pos pins s σ H _ I hq) λus s1 ⟨xs,H1,I1,r,z,q⟩=>⟨by rw[<-r.length];exact z,?_⟩);have hf:H1 s1.heap.objs.size=none:=I1.hok.fresh (YI _);refine⟨.ref s1.heap.objs.size,upd H1 s1.heap.objs.size (.lst xs),I1.laid (t':=s1.toks) (λb u e=>YM _ e) (YI _) ?_,O,q _ hf⟩;exact⟨z,us,0,r,Yn _ rfl⟩
end
abbrev Sp:=List V->Hp->VK->XK->Prop
abbrev CXT:=List Env->Hp->Shared->XK->Value->Shared->Prop
structure Env0(P:Program)(w:World)(K:PySem.W.Frag)(mg:Str->Option Value)(base:Heap)(A:Around)(outer:List Env)(s:Shared)(H:Hp):Prop where
 frames:A.frames=some outer
 mod:Mod K mg base
 bs:∀b o,base.get? b=some o->s.heap.get? b=some o/\H b=none
 bsz:base.objs.size<=s.heap.objs.size
 funs:s.heap.FunFrames base outer
 frf:∀b∈frs outer,H b=none
 hok:HOk P w H s.heap
 bare:AllBare s.gens
def CE(outer:List Env)(P:Program)(w:World)(H:Hp)(s:Shared)(Q:VK)(u:Value)(s':Shared):Prop:=
 ∃v H',s'.os=s.os/\AllBare s'.gens/\Un (frs outer) [] H H' s.heap s'.heap/\HOk P w H' s'.heap/\RelV v u/\Q v H'
def CR(CX:CXT)(outer:List Env)(P:Program)(w:World)(H:Hp)(s:Shared)(Q:VK)(E:XK)(r:Result)(s':Shared):Prop:=
 match r with
 |.ok (.ret u)=>CE outer P w H s Q u s'
 |.ok _=>False
 |.error e=>CX outer H s E e s'
structure FnOk(P:Program)(w:World)(K:PySem.W.Frag)(mg:Str->Option Value)(base:Heap)(CX:CXT)(k:Nat)(f:Addr)(fd:FuncData)(ps:List Str)(sp:Sp):Prop where
 len:∀vs H Q E,sp vs H Q E->vs.length=ps.length
 run:∀(A:Around) (outer:List Env) (s:Shared) (H:Hp) (args:Args) (us:List Value) (vs:List V) (Q:VK) (E:XK),Room k A->Env0 P w K mg base A outer s H->BindsTo s fd args (ps.zip us)->Vals vs us->sp vs H Q E->
  codeAny (model P w) A (.call (.ref f) args) (CR CX outer P w H s Q E) s
theorem FnOk.imp{P:Program}{w:World}{K:PySem.W.Frag}{mg:Str->Option Value}{base:Heap}{CX:CXT}{k:Nat}{f:Addr}{fd:FuncData}{ps:List Str}{sp sp':Sp}(F:FnOk P w K mg base CX k f fd ps sp)
 (h:∀vs H Q E,sp' vs H Q E->sp vs H Q E):FnOk P w K mg base CX k f fd ps sp':=
 ⟨λvs H Q E q=>F.len vs H Q E (h _ _ _ _ q),λA outer s H args us vs Q E hr he hb hv hs=>F.run A outer s H args us vs Q E hr he hb hv (h _ _ _ _ hs)⟩
theorem Env0.make{P:Program}{w:World}{K:PySem.W.Frag}{mg:Str->Option Value}{base:Heap}{A:Around}{outer:List Env}{s:Shared}{H:Hp}(e:Env0 P w K mg base A outer s H)(C:Addr)(us:List Value)(kw:List (Str×Value)):
 Env0 P w K mg base (A.under (.builtin "type.__call__" ⟨.ref C::us,kw⟩)) outer s H:=⟨by first|exact e.frames|(simpa[Around.under,Code.envs,Code.isFrame,pushEnvs]using e.frames),e.mod,e.bs,e.bsz,e.funs,e.frf,e.hok,e.bare⟩
section
variable{X:Cx}{pins:List (Addr×Obj)}{σ:St}{H:Hp}{s s':Shared}
theorem Inv.env0(I:Inv X pins σ H s):Env0 X.prog X.w X.K X.mg X.base X.A X.stack s H:=
 ⟨I.ok.frames,I.ok.mod,I.bs,ZC I.ok.bsz I.sz,I.stack,I.stkFree,I.hok,I.bare⟩
theorem Inv.after{Q:VK}{u:Value}(I:Inv X pins σ H s)(h:CE X.stack X.prog X.w H s Q u s'):EP X pins σ Q u s':=by obtain⟨v,H',os,bare,un,hok,r,q⟩:=h;obtain⟨hh,g,d,t,os'⟩:=s';obtain rfl:os'=s.os:=os;exact⟨v,H',I.call (h':=hh) (g':=g) (d':=d) (t':=t) (ch:=[]) un hok bare (λb z=>YC z (by simp)),r,q⟩
end
def qU0(sp:Sp)(dvs:List V)(E:XK)(t:TA):TE:=λσ H Q=>t σ H λvs H1=>sp (vs++dvs) H1 Q E
def qS2(C:Addr)(m:Str)(sp:Sp)(dvs:List V)(E:XK)(ta:TE)(t:TA):TE:=λσ H Q=>ta σ H λx H1=> ∃a dx fs,x=.ref a/\H1 a=some (.ins C dx fs)/\fs.lookup m=none/\
 t σ H1 λvs H2=>sp (x::(vs++dvs)) H2 Q E
def qXm(C:Addr)(sp:Sp)(dvs:List V)(E:XK)(t:TA):TE:=λσ H Q=>t σ H λvs H1=> ∀x dx,H1 x=none->H1 dx=none->dx≠x->
 sp (.ref x::(vs++dvs)) (upd (upd H1 dx (.own x)) x (.ins C dx [])) (λv H2=>v=.non/\Q (.ref x) H2) E
def Binds(K:PySem.W.Frag)(fd:FuncData)(ps:List Str)(ds:List Value):Prop:=
 ∀(s:Shared) (us:List Value),K.In s.heap->(us++ds).length=ps.length->BindsTo s fd ⟨us,[]⟩ (ps.zip (us++ds))
theorem Binds.all{K:PySem.W.Frag}{fd:FuncData}{ps:List Str}(h:∀us:List Value,us.length=ps.length->bindArgs fd ⟨us,[]⟩=pure (ps.zip us)):Binds K fd ps []:=λs us _ hl=>by rw[Ye]at hl⊢;exact .of_eq (h us hl)
def qC0(CX:CXT)(X:Cx)(E:XK):Prop:= ∀(pins:List (Addr×Obj)) (σ:St) (H:Hp) (s:Shared) (e:Value) (s':Shared),Inv X pins σ H s->CX X.stack H s E e s'->X.xe e s'
section
variable{X:Cx}{CX:CXT}{k:Nat}{f C:Addr}{fd:FuncData}{ps:List Str}{sp:Sp}{dvs:List V}{ds:List Value}{E:XK}{x m:Str}{p pos apos:Pos}{e o:Expr}{es:List Expr}{ta:TE}{t:TA}
theorem qKa{pins:List (Addr×Obj)}{σ:St}{H:Hp}{s:Shared}{Q:VK}{us:List Value}{vs:List V}(F:FnOk X.prog X.w X.K X.mg X.base CX k f fd ps sp)(hr:Room k X.A)(hb:Binds X.K fd ps ds)(hd:Vals dvs ds)(hx:qC0 CX X E)
 (I:Inv X pins σ H s) (r:Vals vs us) (h:sp (vs++dvs) H Q E):wpAny (model X.prog X.w) X.A (call (.ref f) us) (EP X pins σ Q) X.xe s:=by
 have r2:Vals (vs++dvs) (us++ds):=r.append hd;have hl:(us++ds).length=ps.length:=by rw[<-r2.length];exact F.len _ _ _ _ h
 refine wpAny_call (codeAny_mono (F.run X.A X.stack s H ⟨us,[]⟩ (us++ds) (vs++dvs) Q E hr I.env0 (hb s us I.kIn hl) r2 h) λr s' hq=>?_);cases r with
 |error e=>exact hx pins σ H s e s' I hq
 |ok fl=>
  cases fl with
  |ret u=>exact I.after hq
  |next=>exact False.elim hq
  |brk=>exact False.elim hq
  |cont=>exact False.elim hq
theorem qPp(F:FnOk X.prog X.w X.K X.mg X.base CX k f fd ps sp)(hr:Room k X.A)(hg:Gl X x)(hm:X.mg x=some (.ref f))(hk:PySem.W.keepIn X.K (.ref f)=true)(hb:Binds X.K fd ps ds)(hd:Vals dvs ds)(hx:qC0 CX X E)
 (ha:PA X (e::es) t) (hdb:(x==("__debug__":Str))=false:=by decide) (he:starEach (e::es) X.env=(false,eval e X.env)::starEach es X.env:=by rfl) (hpl:(backTo pos (starEach es X.env)).any (·.1)=false:=by rfl):
 PE X (.Call (.Name x p) (e::es) [] pos) (qU0 sp dvs E t):=by
 intro pins s σ H Q I h;refine wpAny_Call_Name_kw (qAi I hg hm ?_ hdb);refine PySem.W.callWith_K (h₀:=X.base) I.ok.mod.kin hk (thn (ha pos pins s σ H _ I h) λus s1 ⟨vs,H1,I1,r,q⟩=>⟨I1.kIn,?_⟩) he hpl;exact qKa F hr hb hd hx I1 r q
theorem qVe{pl:Sem Bool}(he:PE X o ta)(c:Cls X.K C)(hm:qWf X.K C m f)(F:FnOk X.prog X.w X.K X.mg X.base CX k f fd ps sp)(hr:Room k X.A)(hb:Binds X.K fd ps ds)(hd:Vals dvs ds)(hx:qC0 CX X E)(ha:PA X (e::es) t)
 (hst:starEach (e::es) X.env=(false,eval e X.env)::starEach es X.env:=by rfl) (hpl:(backTo pos (starEach es X.env)).any (·.1)=false:=by rfl)
 (ht:eval (.Call (.Attribute o m apos) (e::es) [] pos) X.env=(do
   let ov<-eval o X.env
   standAt apos.atName
   let (f,first)<-holding [ov] (getMethod ov m pl)
   callWith pos f first (backTo pos (starEach (e::es) X.env)) (backToKw pos (keywordEach [] X.env))):=by rfl):
 PE X (.Call (.Attribute o m apos) (e::es) [] pos) (qS2 C m sp dvs E ta t):=by
 intro pins s σ H Q I h;refine PySem.W.methodCall_KW (pl:=pl) (thn (he pins s σ H _ I h) λu s1 ⟨x,H1,I1,rx,a,dx,fs,ex,ea,l,q⟩=>?_) ht;subst ex;obtain rfl:u=Value.ref a:=rx;refine qB3 I1 ea c hm l ?_;refine PySem.W.callWith_K (first:=[.ref a]) (h₀:=X.base) I.ok.mod.kin hm.kp (thn (ha pos pins s1 σ H1 _ I1 q) λus s2 ⟨vs,H2,I2,r,q2⟩=>⟨I2.kIn,?_⟩) hst hpl;exact qKa (us:=.ref a::us) (vs:=.ref a::vs) F hr hb hd hx I2 (.cons rfl r) q2
theorem qR7{pl:Sem Bool}(he:PE X o ta)(c:Cls X.K C)(hm:qWf X.K C m f)(F:FnOk X.prog X.w X.K X.mg X.base CX k f fd ps sp)(hr:Room k X.A)(hb:Binds X.K fd ps ds)(hd:Vals dvs ds)(hx:qC0 CX X E)
 (ht:eval (.Call (.Attribute o m apos) [] [] pos) X.env=(do
   let ov<-eval o X.env
   standAt apos.atName
   let (f,first)<-holding [ov] (getMethod ov m pl)
   callWith pos f first (backTo pos (starEach [] X.env)) (backToKw pos (keywordEach [] X.env))):=by rfl):
 PE X (.Call (.Attribute o m apos) [] [] pos) (qS2 C m sp dvs E ta qWa):=by
 intro pins s σ H Q I h;refine PySem.W.methodCall_KW (pl:=pl) (thn (he pins s σ H _ I h) λu s1 ⟨x,H1,I1,rx,a,dx,fs,ex,ea,l,q⟩=>?_) ht;subst ex;obtain rfl:u=Value.ref a:=rx;refine qB3 I1 ea c hm l ?_;exact PySem.W.callWith_K0 (first:=[.ref a]) I1.kIn hm.kp (qKa (us:=[.ref a]) (vs:=[.ref a]) F hr hb hd hx I1 (.cons rfl .nil) q)
structure Mk(K:PySem.W.Frag)(C f:Addr):Prop where
 makes:PySem.W.makesIn K C=true
 init:PySem.W.findIn K (.ref C) "__init__"=some (some (.ref f))
 fn:PySem.W.isFn K (.ref f)=true
 kp:PySem.W.keepIn K (.ref C)=true
theorem qSi{pins:List (Addr×Obj)}{σ:St}{H:Hp}{s:Shared}{Q:VK}{us:List Value}{vs:List V}(M:Mk X.K C f)(F:FnOk X.prog X.w X.K X.mg X.base CX k f fd ps sp)(hr:Room (k+1) X.A)(hb:Binds X.K fd ps ds)(hd:Vals dvs ds)
 (hx:qC0 CX X E) (I:Inv X pins σ H s) (r:Vals vs us)
 (h:∀x dx,H x=none->H dx=none->dx≠x->sp (.ref x::(vs++dvs)) (upd (upd H dx (.own x)) x (.ins C dx [])) (λv H2=>v=.non/\Q (.ref x) H2) E):
 wpAny (model X.prog X.w) X.A (call (.ref C) us) (EP X pins σ Q) X.xe s:=by
 have hq:=h (s.heap.objs.size+1) s.heap.objs.size (I.hok.fresh (Nat.le_succ _)) (I.hok.fresh (YI _)) (Yo (Nat.lt_succ_self _));have I2:=Inv.made (C:=C) I;have r2:Vals (V.ref (s.heap.objs.size+1)::(vs++dvs)) (Value.ref (s.heap.objs.size+1)::(us++ds)):=.cons rfl (r.append hd);have hl:(Value.ref (s.heap.objs.size+1)::us++ds).length=ps.length:=by have e:=r2.length;rw[F.len _ _ _ _ hq]at e;exact e.symm
 refine wpAny_call (qS7 (f:=f) I.kIn M.makes M.init (beq_iff_eq.mp M.fn) (codeAny_mono (F.run _ X.stack _ _ ⟨Value.ref (s.heap.objs.size+1)::us,[]⟩ (Value.ref (s.heap.objs.size+1)::(us++ds)) _ _ E (hr.make C us [])
  (I2.env0.make C us []) (hb _ (Value.ref (s.heap.objs.size+1)::us) I2.kIn hl) r2 hq) λr s' hq'=>?_))
 cases r with
 |error e=>exact hx pins σ _ _ e s' I2 hq'
 |ok fl=>
  cases fl with
  |ret u=>
   obtain⟨v,H',I3,rv,ev,q3⟩:=I2.after hq';subst ev;exact⟨rv,⟨V.ref (s.heap.objs.size+1),H',I3,O,q3⟩⟩
  |next=>exact False.elim hq'
  |brk=>exact False.elim hq'
  |cont=>exact False.elim hq'
theorem qU9(M:Mk X.K C f)(F:FnOk X.prog X.w X.K X.mg X.base CX k f fd ps sp)(hr:Room (k+1) X.A)(hg:Gl X x)(hm:X.mg x=some (.ref C))(hb:Binds X.K fd ps ds)(hd:Vals dvs ds)(hx:qC0 CX X E)
 (ha:PA X (e::es) t) (hdb:(x==("__debug__":Str))=false:=by decide) (he:starEach (e::es) X.env=(false,eval e X.env)::starEach es X.env:=by rfl) (hpl:(backTo pos (starEach es X.env)).any (·.1)=false:=by rfl):
 PE X (.Call (.Name x p) (e::es) [] pos) (qXm C sp dvs E t):=by
 intro pins s σ H Q I h;refine wpAny_Call_Name_kw (qAi I hg hm ?_ hdb);refine PySem.W.callWith_K (h₀:=X.base) I.ok.mod.kin M.kp (thn (ha pos pins s σ H _ I h) λus s1 ⟨vs,H1,I1,r,q⟩=>⟨I1.kIn,?_⟩) he hpl;exact qSi M F hr hb hd hx I1 r q
end
structure qL(N P:List Str)(sc:Scope):Prop where
 kind:sc.kind=.function
 co:sc.isCoroutine=false
 gen:sc.isGenerator=false
 nd:N.Nodup
 pre:N.take P.length=P
 par:∀x∈P,sc.names.lookup x=some .local\/sc.names.lookup x=some .cell
 nofree:∀y∈sc.names,y.2≠ .free
theorem qJk{kindOf:Str->Option NameKind}{x:Str}:∀{binds:List (Str×Value)} {m:Str->Option Value},(∀v,(x,v)∉binds)->bindL kindOf binds m x=m x
 |[],_,_=>rfl
 |(n,v)::r,m,h=>by
  unfold bindL;rw[qJk λw hw=>h w (List.mem_cons_of_mem _ hw)];split
  . have:x≠n:=by rintro rfl;exact h v List.mem_cons_self
    simp[this]
  . rfl
theorem qK2{kindOf:Str->Option NameKind}{x:Str}:∀{binds:List (Str×Value)} {m:Str->Option Value},(∀v,(x,v)∉binds)->bindC kindOf binds m x=m x
 |[],_,_=>rfl
 |(n,v)::r,m,h=>by
  unfold bindC;rw[qK2 λw hw=>h w (List.mem_cons_of_mem _ hw)];split
  . rfl
  . have:x≠n:=by rintro rfl;exact h v List.mem_cons_self
    simp[this]
theorem qKp{kindOf:Str->Option NameKind}{x:Str}{v:Value}:∀{P:List Str} {vs:List Value} {i:Nat} {m:Str->Option Value},P.Nodup->P[i]?=some x->vs[i]?=some v->kindOf x=some .local->
 bindL kindOf (P.zip vs) m x=some v
 |[],_,_,_,_,h,_,_=>by simp at h
 |_::_,[],_,_,_,_,h,_=>by simp at h
 |p::P,w::vs,0,m,nd,h1,h2,hk=>by simp at h1 h2;subst h1;subst h2;show bindL kindOf ((p,w)::P.zip vs) m p=_;unfold bindL;rw[qJk λv hv=>(List.nodup_cons.mp nd).1 (List.of_mem_zip hv).1,YB hk];simp
 |p::P,w::vs,i+1,m,nd,h1,h2,hk=>by show bindL kindOf ((p,w)::P.zip vs) m x=_;unfold bindL;exact qKp (i:=i) (List.nodup_cons.mp nd).2 (by simpa using h1) (by simpa using h2) hk
theorem qIy{kindOf:Str->Option NameKind}{x:Str}{v:Value}:∀{P:List Str} {vs:List Value} {i:Nat} {m:Str->Option Value},P.Nodup->P[i]?=some x->vs[i]?=some v->kindOf x≠some .local->
 bindC kindOf (P.zip vs) m x=some v
 |[],_,_,_,_,h,_,_=>by simp at h
 |_::_,[],_,_,_,_,h,_=>by simp at h
 |p::P,w::vs,0,m,nd,h1,h2,hk=>by simp at h1 h2;subst h1;subst h2;show bindC kindOf ((p,w)::P.zip vs) m p=_;unfold bindC;rw[qK2 λv hv=>(List.nodup_cons.mp nd).1 (List.of_mem_zip hv).1,YA hk];simp
 |p::P,w::vs,i+1,m,nd,h1,h2,hk=>by show bindC kindOf ((p,w)::P.zip vs) m x=_;unfold bindC;exact qIy (i:=i) (List.nodup_cons.mp nd).2 (by simpa using h1) (by simpa using h2) hk
noncomputable def qEa(N:List Str)(vs:List V):St:=vs.map some++List.replicate (N.length-vs.length) none
noncomputable def qN3(CX:CXT)(P:Program)(w:World)(K:PySem.W.Frag)(mg:Str->Option Value)(base:Heap)(N:List Str)(qual:Str)(scope:Scope)(f:Addr)(cd:Value)(A:Around)(outer:List Env)(s:Shared)(H:Hp)(E:XK):Cx where
 prog:=P
 w:=w
 K:=K
 mg:=mg
 base:=base
 A:=A.deeper (envOfC qual scope s.heap.objs.size f cd)
 N:=N
 s₀:=s
 H₀:=H
 env:=envOfC qual scope s.heap.objs.size f cd
 outer:=outer
 stack:=envOfC qual scope s.heap.objs.size f cd::outer
 ex:=[]
 calm:=true
 fn:=λ_=>true
 pn:=[]
 xe:=λe s'=>wpAny (model P w) (A.deeper (envOfC qual scope s.heap.objs.size f cd)) (leaving (envOfC qual scope s.heap.objs.size f cd) e) (λ_ s''=>CX outer H s E e s'') (λe' s''=>CX outer H s E e' s'') s'
theorem qM9{sc:Scope}{n:Nat}{x:Str}(h:sc.names.lookup x=some .cell):∃c,(cellsFrom n sc.names []).lookup x=some c:=by have q:=PySem.W.cellsFrom_some sc.names n [] (.inl h);exact Option.isSome_iff_exists.mp q
theorem qQg{CX:CXT}{P:Program}{w:World}{K:PySem.W.Frag}{mg:Str->Option Value}{base:Heap}{N ps:List Str}{qual:Str}{scope:Scope}{f:Addr}{cd:Value}{A:Around}{outer:List Env}{s s1:Shared}{H:Hp}{E:XK}{us:List Value}{vs:List V}
 (S:qL N ps scope) (hd:A.handled=none) (e0:Env0 P w K mg base A outer s H) (hl:vs.length=ps.length) (r:Vals vs us)
 (x:InCallC s s.heap.objs.size (bindL (envOfC qual scope s.heap.objs.size f cd).kindOf (ps.zip us) λ_=>none) (cellsFrom (s.heap.objs.size+1) scope.names []) (bindC (envOfC qual scope s.heap.objs.size f cd).kindOf (ps.zip us) λ_=>none) s1):
 Inv (qN3 CX P w K mg base N qual scope f cd A outer s H E) [] (qEa N vs) H s1:=by
 have hpl:ps.length<=N.length:=by have:=congrArg List.length S.pre;rw[Yk]at this;omega
 obtain⟨h1,tk,rfl,hk⟩:=x.done;have noA:∀b:Addr,b∉(qN3 CX P w K mg base N qual scope f cd A outer s H E).ex:=λb z=>YC (show b∈([]:List Addr)from z) (by simp);refine⟨⟨e0.mod,S.kind,O,O,YI _,λy z c h1 h2=>?_,λy hy=>?_,λy c _ h=>?_,λ_=>hd,Around.frames_deeper e0.frames,.inr ⟨O,O⟩,λb z=>YC z (noA b),e0.bs,e0.bsz,λb _ _=>noA b,λb z=>YC z (noA b),e0.funs,e0.frf⟩,
  rfl,e0.bare,Un.kept hk,⟨_,x.toInCall.ns,λi y v h1 h2 h3=>?_⟩,λy c h=>⟨_,x.cell y c h⟩,e0.hok.fresh (YI _),λy c h=>?_,λp hp=>YC (show p∈([]:List (Addr×Obj))from hp) (by simp),e0.hok.kept hk,?_⟩
 . exact name_of_addr x.apart (ZN h1) (ZN h2)
 . have hy:scope.names.lookup y=some .cell\/scope.names.lookup y=some .free:=hy
   rcases hy with hy|hy
   . exact qM9 hy
   . exact YC rfl (S.nofree _ (ZN hy))
 . exact Nat.le_of_lt (x.above y c (ZN h))
 . have hi:i<vs.length:=by
    unfold qEa at h2;by_cases hi:i<vs.length
    . exact hi
    . rw[Yy (by simpa using hi)]at h2
      rw[List.getElem?_replicate]at h2;split at h2 <;> cases h2
   have ha:vs[i]?=some v:=by
    unfold qEa at h2;rw[ZB (by simpa using hi),Yj]at h2;cases e:vs[i]? with
    |none=>rw[e]at h2;cases h2
    |some a=>rw[e]at h2;cases h2;rfl
   obtain⟨u,hu,rv⟩:=r.get ha;have hp:ps[i]?=some y:=by rw[<-S.pre,List.getElem?_take_of_lt (by omega)];exact h1
   have ndP:ps.Nodup:=by rw[<-S.pre];exact S.nd.sublist (List.take_sublist _ _)
   refine⟨u,rv,?_⟩;rcases S.par y (YF hp)with k|k
   . exact .inl ⟨k,qKp ndP hp hu k⟩
   . obtain⟨c,e⟩:=qM9 (n:=s.heap.objs.size+1) k
     refine .inr ⟨.inl k,c,e,?_⟩;have q:=x.cell y c e;rw[qIy ndP hp hu (by show scope.names.lookup y≠_;rw[k];decide)]at q;exact q
 . exact e0.hok.fresh (Nat.le_of_lt (x.above y c (ZN h)))
 . unfold qEa
   show _=N.length;rw[YN,YS,List.length_replicate];omega
theorem qXo{CX:CXT}{P:Program}{w:World}{K:PySem.W.Frag}{mg:Str->Option Value}{base:Heap}{k:Nat}{f:Addr}{name qual:Str}{params:Arguments}{body:List Stmt}{scope:Scope}{dV kV doc pm cdv ct oc:Value}{an od:Option Addr}
 {osl:Array (Option Value)} {N ps:List Str} {sp:Sp} (lk:K.lookup f=some ⟨oc,od,.func (PySem.W.fnOf name qual params body scope dV kV doc pm an cdv ct),osl⟩) (hcd:PySem.W.codeIn K cdv qual=true) (S:qL N ps scope)
 (len:∀vs H Q E,sp vs H Q E->vs.length=ps.length)
 (hbody:∀(A:Around) (outer:List Env) (s:Shared) (H:Hp) (vs:List V) (Q:VK) (E:XK),Room k (A.deeper (envOfC qual scope s.heap.objs.size f cdv))->sp vs H Q E->
   ∃t,PSs (qN3 CX P w K mg base N qual scope f cdv A outer s H E) body t/\t {nx:=λ_ H'=>Q .non H',rt:=Q} (qEa N vs) H):
 FnOk P w K mg base CX (k+1) f (PySem.W.fnOf name qual params body scope dV kV doc pm an cdv ct) ps sp:=by
 refine⟨len,λA outer s H args us vs Q E hr e0 hb r hsp=>?_⟩;have hl:=len _ _ _ _ hsp;have KX:K.In s.heap:=e0.mod.kin.keeps λb o e=>(e0.bs b o e).1;have lim:s.heap.NoLimit:=e0.mod.nolimit.keeps λb o e=>(e0.bs b o e).1;have hkind:∀y∈ps.zip us,scope.names.lookup y.1=some .local\/(scope.names.lookup y.1=some .cell/\((cellsFrom (s.heap.objs.size+1) scope.names []).lookup y.1).isSome=true):=λ⟨n,v⟩ hy=>by
  rcases S.par n (List.of_mem_zip hy).1 with q|q
  . exact .inl q
  . exact .inr ⟨q,PySem.W.cellsFrom_some _ _ _ (.inl q)⟩
 refine codeAny_call_function hr.depth (KX _ _ lk) rfl S.co S.gen rfl (PySem.W.codeRec_of KX hcd) (hb _ _ _ _ ?_);refine wpAny_newFunctionEnv_cells S.kind hkind λenv he s1 x=>?_;subst he;refine⟨lim.keeps x.toInCall.keep,codeAny_func ?_⟩;obtain⟨t,ht,hq⟩:=hbody A outer s H vs Q E (hr.deeper _) hsp;have I:Inv (qN3 CX P w K mg base N qual scope f cdv A outer s H E) [] (qEa N vs) H s1:=qQg S hr.hd e0 hl r x;refine YL (ht [] s1 (qEa N vs) H _ I hq) (λfl s' hs=>?_) λe s' hs=>hs;have fin:∀{σ':St} {H':Hp} {v:V} {u:Value},Inv (qN3 CX P w K mg base N qual scope f cdv A outer s H E) [] σ' H' s'->RelV v u->Q v H'->CE outer P w H s Q u s':=
  λ{σ' H' v u} J rv q=>⟨v,H',J.os,J.bare,J.base,J.hok,rv,q⟩
 cases fl with
 |ret u=>
  obtain⟨v,σ',H',J,rv,q⟩:=hs;exact fin J rv q
 |next=>
  obtain⟨σ',H',J,q⟩:=hs;exact fin (v:=V.non) (u:=Value.none) J rfl q
 |brk=>
  obtain⟨_,_,_,q⟩:=hs;exact False.elim q
 |cont=>
  obtain⟨_,_,_,q⟩:=hs;exact False.elim q
section
variable{X:Cx}{x:Str}{p pos:Pos}{e:Expr}{es:List Expr}{t:TA}{id T:String}{r:List V->Hp->VK->Prop}
def tCB(r:List V->Hp->VK->Prop)(t:TA):TE:=λσ H Q=>t σ H λvs H1=>r vs H1 Q
theorem qX(hc:zD X (.builtin id) r)(hg:Gl X x)(hm:X.mg x=none)(hv:bootBuiltins x=some (.builtin id))(ha:PA X (e::es) t)(hn:x≠"__name__":=by decide)(hdb:(x==("__debug__":Str))=false:=by decide)
 (he:starEach (e::es) X.env=(false,eval e X.env)::starEach es X.env:=by rfl) (hpl:(backTo pos (starEach es X.env)).any (·.1)=false:=by rfl):PE X (.Call (.Name x p) (e::es) [] pos) (tCB r t):=by
 intro pins s σ H Q I h;refine wpAny_Call_Name_kw (qD9 I hg hm hv ?_ hn hdb);exact PyProof.Rows.callWith_builtin1 (thn (ha pos pins s σ H _ I h) λus s1 ⟨vs,H1,I1,r1,q1⟩=>hc pins s1 σ H1 vs us Q I1 r1 q1) he hpl
theorem jw(hc:zD X (.type T) r)(hg:Gl X x)(hm:X.mg x=none)(hv:bootBuiltins x=some (.type T))(ha:PA X (e::es) t)(hn:x≠"__name__":=by decide)(hdb:(x==("__debug__":Str))=false:=by decide)
 (he:starEach (e::es) X.env=(false,eval e X.env)::starEach es X.env:=by rfl) (hpl:(backTo pos (starEach es X.env)).any (·.1)=false:=by rfl):PE X (.Call (.Name x p) (e::es) [] pos) (tCB r t):=by
 intro pins s σ H Q I h;refine wpAny_Call_Name_kw (qD9 I hg hm hv ?_ hn hdb);exact PyProof.Rows.callWith_type1 (thn (ha pos pins s σ H _ I h) λus s1 ⟨vs,H1,I1,r1,q1⟩=>hc pins s1 σ H1 vs us Q I1 r1 q1) he hpl
end
end L2
namespace HT
open PySem PyProof.Rows
section
variable{prog:Program}{w:World}{A:Around}{E:Value->Shared->Prop}{s:Shared}
theorem cat_tup{t b:Addr}{vs ws:List Value}{Q:Value->Shared->Prop}(ht:IsTup s.heap t vs.toArray)(hb:IsTup s.heap b ws.toArray)(hv:vs≠[])
 (h1:ws=[]->Q (.ref t) s) (h2:ws≠[]->Q (.ref s.heap.objs.size) {s with heap:=s.heap.push {cls:=.type "tuple",data:=.seq (vs++ws).toArray}})
 (hsz:vs.length+ws.length<=sizeLine):wpAny (model prog w) A (binaryOp .Add (.ref t) (.ref b)) Q E s:=by
 obtain⟨⟨cls,dd,data,sl⟩,ho,hc,n,hd⟩:=id ht;obtain⟨⟨cls2,dd2,data2,sl2⟩,ho2,hc2,n2,hd2⟩:=id hb;simp only at hc hd hc2 hd2;subst hc hd hc2 hd2;have e:vs.toArray++ws.toArray=(vs++ws).toArray:=by simp
 by_cases hw:ws=[]
 . exact concat_meets ⟨_,ho,O⟩ ⟨_,ho2,O⟩ noFill_tuple_add seq_tuple_add PySem.F.slot_tuple_add PySem.F.entry_tuple_add (PySem.F.args_tuple_add_2 _ _)
    (tuple_addW1 t b vs.toArray ws.toArray n n2 dd dd2 sl sl2 (by simpa using hv) (by simp[hw])) ⟨ho,ho2,h1 hw⟩
 . refine concat_meets ⟨_,ho,O⟩ ⟨_,ho2,O⟩ noFill_tuple_add seq_tuple_add PySem.F.slot_tuple_add PySem.F.entry_tuple_add (PySem.F.args_tuple_add_2 _ _)
    (tuple_addW2 t b vs.toArray ws.toArray n n2 dd dd2 sl sl2 (by simpa using hv) (by simpa using hw) (by rw[YG,YG];exact hsz)) ⟨ho,ho2,?_⟩
   rw[e];exact h2 hw
noncomputable def sIx(n d:Nat):Option Int->Nat
 |none=>d
 |some v=>if v<0 then (v+(n:Int)).toNat else min v.toNat n
theorem sIx_none(n d:Nat):sIx n d none=d:=rfl
theorem sIx_nat(n d k:Nat):sIx n d (some (k:Int))=min k n:=by show (if (k:Int)<0 then ((k:Int)+(n:Int)).toNat else min (k:Int).toNat n)=min k n;rw[YA (by omega),YQ]
theorem qWm(n d:Nat)(hd:d<=n)(o:Option Int):sIx n d o<=n:=by
 cases o with
 |none=>exact hd
 |some v=>
  show (if v<0 then (v+(n:Int)).toNat else min v.toNat n)<=n;by_cases hv:v<0
  . rw[YB hv];omega
  . rw[YA hv];exact Nat.min_le_right _ _
theorem qQf(v:Int)(n d:Nat):(if v<0 then max (v+(n:Int)) 0 else min v (n:Int))=((sIx n d (some v):Nat):Int):=by
 show (if v<0 then max (v+(n:Int)) 0 else min v (n:Int))=(((if v<0 then (v+(n:Int)).toNat else min v.toNat n):Nat):Int);by_cases hv:v<0
 . simp only[YB hv];omega
 . simp only[YA hv];omega
theorem qOp(lo hi:Option Int)(n:Nat):Builtin.Slice.sliceAdjust lo hi 1 (n:Int)=(((sIx n 0 lo:Nat):Int),((sIx n n hi:Nat):Int)):=by
 have h1:¬((1:Int)<0):=by omega
 unfold Builtin.Slice.sliceAdjust;simp only[h1,if_false];refine Prod.ext ?_ ?_
 . cases lo with
   |none=>rfl
   |some v=>exact qQf v n 0
 . cases hi with
   |none=>rfl
   |some v=>exact qQf v n n
theorem qN8(i j:Nat):Builtin.Slice.slicePlaces (i:Int) (j:Int) 1=j-i:=by
 unfold Builtin.Slice.slicePlaces;have h1:(1:Int)>0:=by omega
 simp only[h1,if_true,Int.ediv_one];split <;> omega
theorem qGo{v:Value}{o:Option Int}{Q:Option Int->Shared->Prop}(p:IsPart v o)(h:Q o s):wpAny (model prog w) A (Builtin.Slice.slicePartIndex v) Q E s:=by
 cases p with
 |none=>exact slicePart_none h
 |int i t=>exact slicePart_int h
theorem qC4{sl:Addr}{vl vu:Value}{lo hi:Option Int}{n:Nat}{Q:Int×Int×Nat->Shared->Prop}(hs:s.heap.IsSliceOf sl vl vu .none)(pl:IsPart vl lo)(pu:IsPart vu hi)
 (h:Q (((sIx n 0 lo:Nat):Int),1,sIx n n hi-sIx n 0 lo) s):wpAny (model prog w) A (Builtin.Slice.sliceApplied (.ref sl) (pure (n:Int))) Q E s:=by
 obtain⟨os,hos,hcs,hds⟩:=id hs;unfold Builtin.Slice.sliceApplied Builtin.Slice.sliceFields;refine YJ (YJ (wpAny_field hos hds (x:=vl) rfl (YJ (wpAny_field hos hds (x:=vu) rfl (YJ (wpAny_field hos hds (x:=.none) rfl (YK ?_)))))));refine YJ (slicePart_none ?_);show wpAny _ _ (if ((1:Int)==0)=true then _ else _) _ _ s;rw[YA (by decide)];refine YJ (qGo pl (YJ (qGo pu (YJ (YK ?_)))));show wpAny _ _ (match Builtin.Slice.sliceAdjust lo hi 1 (n:Int)with|(lo,hi)=>pure (lo,(1:Int),Builtin.Slice.slicePlaces lo hi 1)) _ _ s;rw[qOp lo hi n];show wpAny _ _ (pure (((sIx n 0 lo:Nat):Int),(1:Int),Builtin.Slice.slicePlaces ((sIx n 0 lo:Nat):Int) ((sIx n n hi:Nat):Int) 1)) _ _ s;rw[qN8];exact YK h
theorem qSu(xs:Array Value)(i k:Nat):((List.range k).filterMap λ(m:Nat)=>xs[((i:Int)+(m:Int)*1).toNat]?).toArray=((xs.toList.drop i).take k).toArray:=by
 have e:(λ(m:Nat)=>xs[((i:Int)+(m:Int)*1).toNat]?)=λm=>xs[i+m]?:=by
  funext m;have:((i:Int)+(m:Int)*1).toNat=i+m:=by omega
  rw[this]
 rw[e];have:=pick_run xs i k;rw[List.filterMap_map]at this;have e2:((λx=>xs[x]?) ∘ λx=>i+x)=λm=>xs[i+m]?:=rfl;rw[e2]at this;rw[this]
theorem getItem_tuple_cut{t sl:Addr}{items:Array Value}{vl vu:Value}{lo hi:Option Int}{Q:Value->Shared->Prop}(ht:IsTup s.heap t items)(hs:s.heap.IsSliceOf sl vl vu .none)(pl:IsPart vl lo)(pu:IsPart vu hi)
 (hw:¬(sIx items.size 0 lo=0/\sIx items.size items.size hi=items.size))
 (h:Q (.ref s.heap.objs.size) {s with heap:=s.heap.push {cls:=.type "tuple",data:=.seq ((items.toList.drop (sIx items.size 0 lo)).take (sIx items.size items.size hi-sIx items.size 0 lo)).toArray}})
 (hsz:items.size<=sizeLine):wpAny (model prog w) A (getItem (.ref t) (.ref sl)) Q E s:=by
 have htake:sizeOk (.seq ((items.toList.drop (sIx items.size 0 lo)).take (sIx items.size items.size hi-sIx items.size 0 lo)).toArray):=by show ((items.toList.drop (sIx items.size 0 lo)).take (sIx items.size items.size hi-sIx items.size 0 lo)).toArray.size<=sizeLine;rw[YG,Yk,ZR,Array.length_toList];omega
 have hj:sIx items.size items.size hi<=items.size:=qWm _ _ (YI _) hi;obtain⟨os,hos,hcs,hds⟩:=id hs;have hTs:s.TypeIs (.ref sl) "slice":=⟨os,hos,hcs⟩;unfold getItem
 try with_reducible refine wpAny_holding ?_
 first|refine YJ (YK ?_)|skip
 refine YJ (wpAny_sequenceKey ht.typeIs (by decide) ?_);refine YJ (wpAny_callSpecial?_slot (name:=Str.ofString "__getitem__") ht.typeIs PyProof.Rows.slot_tuple_getitem
  (wpAny_call_entry PyProof.Rows.slot_tuple_getitem ht.typeIs entry_tuple_getitem ?_ (args_tuple_getitem _ _)))
 show wpAny _ _ (Builtin.Tuple.tupleItemsOf (.ref t)>>=_) _ _ s;refine YJ (tupleItemsOf_ ht ?_);refine YJ (wpAny_typeOf hTs ?_);rw[YB (by decide)];refine YJ (qC4 hs pl pu ?_);have hno:¬((((sIx items.size 0 lo:Nat):Int)==0 && (1:Int)==1 && (sIx items.size items.size hi-sIx items.size 0 lo)==items.size)=true):=by intro q;rw[Yl,Yl]at q;have q1:((sIx items.size 0 lo:Nat):Int)=0:=eq_of_beq q.1.1;have q2:sIx items.size items.size hi-sIx items.size 0 lo=items.size:=eq_of_beq q.2;exact hw ⟨by omega,by omega⟩
 show wpAny _ _ (if (((sIx items.size 0 lo:Nat):Int)==0 && (1:Int)==1 && (sIx items.size items.size hi-sIx items.size 0 lo)==items.size)=true then _ else _) _ _ s;rw[YA hno,qSu]
 first
  |exact YJ (m:=Builtin.Tuple.tupleExact _) (wpAny_newObj_type (YK ⟨_,rfl,YK h⟩) htake)
  |exact YJ (m:=Builtin.Tuple.tupleExact _) (wpAny_newObj_type (YJ (YK (YK ⟨_,rfl,YK h⟩))) htake)
  |exact YJ (YJ (m:=Builtin.Tuple.tupleExact _) (wpAny_newObj_type (YK (YK ⟨_,rfl,YK h⟩)) htake))
  |exact YJ (YJ (m:=Builtin.Tuple.tupleExact _) (wpAny_newObj_type (YK ⟨_,rfl,YK h⟩) htake))
end
end HT
namespace L2
open PySem PySem.Spec PyProof.Rows
abbrev TO:=St->Hp->(Option Int->Hp->Prop)->Prop
def PO(X:Cx)(e:Option Expr)(t:TO):Prop:=
 ∀(pins:List (Addr×Obj)) (s:Shared) (σ:St) (H:Hp) (Q:Option Int->Hp->Prop),Inv X pins σ H s->t σ H Q->
  wpAny (model X.prog X.w) X.A (evalPart e X.env) (λu s'=> ∃o H',Inv X pins σ H' s'/\IsPart u o/\Q o H') X.xe s
noncomputable def qVc:TO:=λ_ H Q=>Q none H
inductive qX8(Q:Option Int->Hp->Prop)(x:V)(H1:Hp):Prop
|mk i (_:x=.int i) (_:Q (some i) H1)
noncomputable def qZp(t:TE):TO:=λσ H Q=>t σ H λx H1=>qX8 Q x H1
section
variable{X:Cx}{e:Expr}{te:TE}{lo hi:Option Expr}{tl th:TO}{pos p2:Pos}
theorem vv:PO X none qVc:=by intro pins s σ H Q I h;rw[evalPart_none];exact YK ⟨none,H,I,.none,h⟩
theorem zw(h:PE X e te):PO X (some e) (qZp te):=by intro pins s σ H Q I hw;rw[evalPart_some];refine thn (h pins s σ H _ I hw) λu s1 ⟨x,H1,I1,r1,q1⟩=>?_;obtain⟨i,rfl,q⟩:=q1;obtain⟨t,rfl⟩:=r1;exact⟨some i,H1,I1,.int i t,q⟩
def SlR(X:Cx)(r:V->Option Int->Option Int->Hp->VK->Prop):Prop:=
 ∀(pins:List (Addr×Obj)) (s:Shared) (σ:St) (H:Hp) (x:V) (v vl vu:Value) (lo hi:Option Int) (sl:Addr) (Q:VK),Inv X pins σ H s->RelV x v->s.heap.IsSliceOf sl vl vu .none->IsPart vl lo->IsPart vu hi->r x lo hi H Q->
  ∃T id,typeLookup (.type T) "__getitem__"=pure (some (.builtin id))/\s.TypeIs v T/\wpAny (model X.prog X.w) X.A (getItem v (.ref sl)) (EP X pins σ Q) X.xe s
def tSl(r:V->Option Int->Option Int->Hp->VK->Prop)(te:TE)(tl th:TO):TE:=λσ H Q=>te σ H λx H1=>tl σ H1 λl H2=>th σ H2 λu H3=>r x l u H3 Q
theorem x5{r:V->Option Int->Option Int->Hp->VK->Prop}(hr:SlR X r)(he:PE X e te)(hl:PO X lo tl)(hu:PO X hi th):PE X (.Subscript e (.Slice lo hi none p2) pos) (tSl r te tl th):=by intro pins s σ H Q I h;refine Subscript_ (thn (he pins s σ H _ I h) λv s1 ⟨x,H1,I1,r1,q1⟩=>?_);refine wpAny_Slice (thn (hl pins s1 σ H1 _ I1 q1) λvl s2 ⟨l,H2,I2,pl,q2⟩=>thn (hu pins s2 σ H2 _ I2 q2) λvu s3 ⟨u,H3,I3,pu,q3⟩=>?_);rw[evalPart_none];refine YK ?_;have I4:Inv X pins σ H3 {s3 with heap:=s3.heap.push {cls:=.type "slice",data:=.fields #[vl,vu,.none]}}:=I3.kept (t':=s3.toks) λb ob q=>YM _ q;obtain⟨T,id,hT,ht,hg⟩:=hr pins {s3 with heap:=s3.heap.push {cls:=.type "slice",data:=.fields #[vl,vu,.none]}} σ H3 x v vl vu l u s3.heap.objs.size Q I4 r1 (Heap.IsSliceOf.new ..) pl pu q3;show wpAny (model X.prog X.w) X.A (subscriptTail e (.Slice lo hi none p2) v (.ref s3.heap.objs.size)) (EP X pins σ Q) X.xe {s3 with heap:=s3.heap.push {cls:=.type "slice",data:=.fields #[vl,vu,.none]}};exact tail_any (ops:=[.ref s3.heap.objs.size,v]) ht hT hg (by with_unfolding_all rfl)
noncomputable def xl(xs:List V)(lo hi:Option Int):List V:=(xs.drop (HT.sIx xs.length 0 lo)).take (HT.sIx xs.length xs.length hi-HT.sIx xs.length 0 lo)
theorem ku(xs:List V)(lo hi:Option Int):(xl xs lo hi).length<=xs.length:=by unfold xl;rw[Yk,ZR];omega
inductive jAp(K:PySem.W.Frag)(x:V)(lo:Option Int)(hi:Option Int)(H:Hp)(Q:VK):Prop
|mk a xs (_:x=.ref a) (_:SqT K H a xs) (_:¬(HT.sIx xs.length 0 lo=0/\HT.sIx xs.length xs.length hi=xs.length)) (_:∀p,H p=none->Q (.ref p) (upd H p (.tup (xl xs lo hi))))
theorem qXx:SlR X (jAp X.K):=by
 intro pins s σ H x v vl vu lo hi sl Q I rx hs pl pu h;obtain⟨a,xs,rfl,hx,hw,q⟩:=h;cases rx;obtain⟨its,r,ht,hz⟩:=I.tuple hx;have hlen:its.toArray.size=xs.length:=by rw[YG];exact r.length.symm
 refine⟨"tuple",_,PyProof.Rows.slot_tuple_getitem.lookup,ht.typeIs,?_⟩;refine HT.getItem_tuple_cut ht hs pl pu (by rw[hlen];exact hw) ?_ (by rw[hlen];exact hz);rw[hlen];refine⟨.ref s.heap.objs.size,_,I.laid (t':=s.toks) (o:=.tup (xl xs lo hi)) (λb ob q=>YM _ q) (YI _) ?_,O,q _ (I.hok.fresh (YI _))⟩;exact⟨ZC (ku xs lo hi) hz,_,(r.drop (HT.sIx xs.length 0 lo)).take (HT.sIx xs.length xs.length hi-HT.sIx xs.length 0 lo),IsTup.new _ _⟩
def qYy(K:PySem.W.Frag):R2:=λx y H Q=> ∃a b xs ys,x=.ref a/\y=.ref b/\SqT K H a xs/\SqT K H b ys/\xs≠[]/\xs.length+ys.length<=sizeLine/\
 (ys=[]->Q (.ref a) H)/\(ys≠[]->∀p,H p=none->Q (.ref p) (upd H p (.tup (xs++ys))))
theorem Vals.nil_iff{xs:List V}{us:List Value}(r:Vals xs us):us=[]↔xs=[]:=by
 cases r with
 |nil=>simp
 |cons _ _=>simp
theorem qUt:OpR X (binaryOp .Add) (qYy X.K):=by intro pins s σ H x y v u Q I rx ry h;obtain⟨a,b,xs,ys,rfl,rfl,ha,hb,hx,hz,q1,q2⟩:=h;cases rx;cases ry;obtain⟨its,r1,p1,_⟩:=I.tuple ha;obtain⟨its2,r2,p2,_⟩:=I.tuple hb;refine HT.cat_tup p1 p2 (λz=>hx (r1.nil_iff.mp z)) (λz=>⟨.ref a,H,I,O,q1 (r2.nil_iff.mp z)⟩) (λz=>?_) (by rw[<-r1.length,<-r2.length];exact hz);refine⟨.ref s.heap.objs.size,_,I.laid (t':=s.toks) (o:=.tup (xs++ys)) (λb ob q=>YM _ q) (YI _) ?_,O,q2 (λw=>z (r2.nil_iff.mpr w)) _ (I.hok.fresh (YI _))⟩;exact⟨by rw[YN];exact hz,_,r1.append r2,IsTup.new _ _⟩
end
noncomputable def ixN(n:Nat)(i:Int):Option Nat:=if 0<=i then (if i<n then some i.toNat else none)else if-(n:Int)<=i then some (i+n).toNat else none
noncomputable def atI{α:Type}(xs:List α)(i:Int):Option α:=(ixN xs.length i).bind λj=>xs[j]?
theorem qQp{n:Nat}{i:Int}{j:Nat}(h:ixN n i=some j):seqIndex? i n=some j/\j<n/\ -(n:Int)<=i/\i<n:=by
 unfold ixN at h;by_cases h0:0<=i
 . rw[YB h0]at h
   by_cases h1:i<n
   . rw[YB h1]at h
     have e:i.toNat=j:=Yb h;exact⟨by rw[seqIndex_of h0 h1,e],by omega,by omega,h1⟩
   . rw[YA h1]at h;cases h
 . rw[YA h0]at h
   by_cases h1: -(n:Int)<=i
   . rw[YB h1]at h
     have e:(i+n).toNat=j:=Yb h;exact⟨by rw[seqIndex_neg (by omega) h1,e],by omega,h1,by omega⟩
   . rw[YA h1]at h;cases h
theorem qQy{α:Type}{xs:List α}{i:Int}{v:α}(h:atI xs i=some v):∃j,seqIndex? i xs.length=some j/\xs[j]?=some v/\j<xs.length/\ -(xs.length:Int)<=i/\i<xs.length:=by
 unfold atI at h;cases e:ixN xs.length i with
 |none=>rw[e]at h;cases h
 |some j=>
  rw[e]at h;obtain⟨h1,h2,h3,h4⟩:=qQp e;exact⟨j,h1,h,h2,h3,h4⟩
theorem qz{α:Type}{xs:List α}{j:Nat}{v:α}(h:xs[j]?=some v):atI xs (j:Int)=some v:=by
 have hj:j<xs.length:=(Ya.mp h).1;have e:ixN xs.length (j:Int)=some j:=by unfold ixN;rw[YB (by omega),YB (by omega)];simp
 unfold atI;rw[e];exact h
def qU1(b:Expr):Prop:= ∀o i,subscripted b false o i=operate [o,i] (getItem o i)
def IxR(X:Cx)(r:R2):Prop:=
 ∀(value slice:Expr) (pins:List (Addr×Obj)) (s:Shared) (σ:St) (H:Hp) (x y:V) (v u:Value) (Q:VK),Inv X pins σ H s->RelV x v->RelV y u->r x y H Q->
  subscripted slice false v u=operate [v,u] (getItem v u)->wpAny (model X.prog X.w) X.A (subscriptTail value slice v u) (EP X pins σ Q) X.xe s
def MtR(X:Cx)(id:String)(r:V->List V->Hp->VK->Prop):Prop:=
 ∀(pins:List (Addr×Obj)) (s:Shared) (σ:St) (H:Hp) (x:V) (xs:List V) (v:Value) (us:List Value) (Q:VK),Inv X pins σ H s->RelV x v->Vals xs us->r x xs H Q->
  wpAny (model X.prog X.w) X.A (call (.builtin id) (v::us)) (EP X pins σ Q) X.xe s
section
variable{X:Cx}{a b:Expr}{ta tb:TE}{pos:Pos}
theorem MtR.or{id:String}{r r':V->List V->Hp->VK->Prop}(h:MtR X id r)(h':MtR X id r'):MtR X id (λx xs H Q=>r x xs H Q\/r' x xs H Q):=by
 intro pins s σ H x xs v us Q I rx rs q;rcases q with q|q
 . exact h pins s σ H x xs v us Q I rx rs q
 . exact h' pins s σ H x xs v us Q I rx rs q
theorem jN{r:R2}(hr:IxR X r)(ha:PE X a ta)(hb:PE X b tb)(hs:qU1 b):PE X (.Subscript a b pos) (tOp r ta tb):=by intro pins s σ H Q I h;exact Subscript_ (qYl ha hb I h λv u s2 x y H2 I2 rx ry q=>hr a b pins s2 σ H2 x y v u Q I2 rx ry q (hs _ _))
inductive jAn(K:PySem.W.Frag)(x:V)(y:V)(H:Hp)(Q:VK):Prop
|mk p xs i v (_:x=.ref p) (_:y=.int i) (_:SqL K H p xs) (_:atI xs i=some v) (_:Q v H)
inductive qVz(K:PySem.W.Frag)(x:V)(y:V)(H:Hp)(Q:VK):Prop
|mk p xs i v (_:x=.ref p) (_:y=.int i) (_:SqT K H p xs) (_:atI xs i=some v) (_:Q v H)
theorem qh:IxR X (jAn X.K):=by
 intro value slice pins s σ H x y v u Q I rx ry h hs;obtain⟨p,xs,i,z,rfl,rfl,hq,he,q⟩:=h;cases rx;obtain⟨t,rfl⟩:=ry;obtain⟨its,r,pl,hz⟩:=I.list hq;obtain⟨j,h1,h2,h3,h4,h5⟩:=qQy he;obtain⟨w,ew,rw'⟩:=r.get h2;have hl:=r.length;have hn:=qJ5;have fin:EP X pins σ Q w s:=⟨z,H,I,rw',q⟩;by_cases h0:0<=i
 . have hj:i.toNat=j:=by rw[seqIndex_of h0 h5]at h1;exact Yb h1
   exact item_listR pl.isList h0 (by omega) (by rw[hj];simpa using ew) fin hs
 . have hj:(i+(its.toArray.size:Int)).toNat=j:=by rw[seqIndex_neg (by omega) h4]at h1;rw[YG,<-hl];exact Yb h1
   exact subscriptTail_builtinR (x:=w) pl.isList.typeIs slot_list_getitem.lookup
    (wpAny_getItem_list_neg (Q:=λr s'=>r=w/\EP X pins σ Q r s') pl.isList (by omega) (by rw[YG] <;> omega) (by omega) (by rw[hj];simpa using ew) ⟨rfl,fin⟩) hs
theorem qGp:IxR X (qVz X.K):=by
 intro value slice pins s σ H x y v u Q I rx ry h hs;obtain⟨p,xs,i,z,rfl,rfl,hq,he,q⟩:=h;cases rx;obtain⟨t,rfl⟩:=ry;obtain⟨its,r,pl,hz⟩:=I.tuple hq;obtain⟨j,h1,h2,h3,h4,h5⟩:=qQy he;obtain⟨w,ew,rw'⟩:=r.get h2;have hl:=r.length;have hn:=qJ5;have fin:EP X pins σ Q w s:=⟨z,H,I,rw',q⟩;exact subscriptTail_builtinR (x:=w) pl.typeIs slot_tuple_getitem.lookup
  (getItem_tuple (j:=j) (Q:=λr s'=>r=w/\EP X pins σ Q r s') pl (by omega) (by omega) (by rw[YG,<-hl];exact h1) (by simpa using ew) ⟨rfl,fin⟩) hs
theorem qOj(its:List Value)(n j:Nat)(u:Value):Obj.mapSeq (·.setIfInBounds j u) {cls:=.type "list",data:=.seq its.toArray n}={cls:=.type "list",data:=.seq (its.set j u).toArray n}:=by simp[Obj.mapSeq]
theorem Inv.lst{pins:List (Addr×Obj)}{σ:St}{H:Hp}{s:Shared}{p:Addr}{xs:List V}(I:Inv X pins σ H s)(h:H p=some (.lst xs)):
 ∃(its:List Value) (n:Nat),Vals xs its/\s.heap.get? p=some {cls:=.type "list",data:=.seq its.toArray n}/\xs.length<=sizeLine:=by
 obtain⟨z,its,n,r,e⟩:=I.hok p _ h;exact⟨its,n,r,e,z⟩
theorem Inv.lstUpd{pins:List (Addr×Obj)}{σ:St}{H:Hp}{s:Shared}{p:Addr}{xs ys:List V}{its its':List Value}{n n':Nat}{f:Obj->Obj}(I:Inv X pins σ H s)(h:H p=some (.lst xs))
 (ho:s.heap.get? p=some {cls:=.type "list",data:=.seq its.toArray n}) (hf:f {cls:=.type "list",data:=.seq its.toArray n}={cls:=.type "list",data:=.seq its'.toArray n'}) (r:Vals ys its') (hz:ys.length<=sizeLine) (t:Nat):
 Inv X pins σ (upd H p (.lst ys)) {s with heap:=s.heap.update p f,toks:=t}:=by
 have e:(s.heap.update p f).get? p=some {cls:=.type "list",data:=.seq its'.toArray n'}:=by rw[Heap.get?_update_self f ho (by rw[hf] <;> rfl),hf]
 refine I.write (x:=p) (e:=p) (by rw[h];trivial) (.inl rfl) (λb u hb q=>(ZA _ _ (ZF hb)).trans q) ⟨_,e⟩ ?_;exact⟨hz,its',n',r,e⟩
def qYt:V->V->V->Hp->(Hp->Prop)->Prop:=λo i v H Q=> ∃p xs k j,o=.ref p/\i=.int k/\H p=some (.lst xs)/\ixN xs.length k=some j/\Q (upd H p (.lst (xs.set j v)))
theorem qDs:qZ3 X qYt:=by
 intro pins s σ H o i v ov iv u Q I ro ri rv h;obtain⟨p,xs,k,j,rfl,rfl,hp,hj,q⟩:=h;cases ro;obtain⟨t,rfl⟩:=ri;obtain⟨its,n,r,ho,hz⟩:=I.lst hp;obtain⟨h1,h2,h3,h4⟩:=qQp hj;have hl:=r.length;have hn:=qJ5;have I':Inv X pins σ (upd H p (.lst (xs.set j v))) {s with heap:=s.heap.update p (Obj.mapSeq (·.setIfInBounds j u))}:=
  I.lstUpd hp ho (qOj its n j u) (r.set rv j) (by rw[ZL];exact hz) s.toks
 by_cases h0:0<=k
 . have hk:k.toNat=j:=by rw[seqIndex_of h0 h4]at h1;exact Yb h1
   exact PySem.W.ki_setAt ho h0 (by omega) (by rw[YG,<-hl];exact h4) (by rw[hk];exact⟨_,I',q⟩)
 . have hk:(k+(its.toArray.size:Int)).toNat=j:=by rw[seqIndex_neg (by omega) h3]at h1;rw[YG,<-hl];exact Yb h1
   exact PySem.W.ki_setBack ho (by omega) (by rw[YG,<-hl];exact h3) (by omega) (by rw[hk];exact⟨_,I',q⟩)
theorem qJm(lo hi:Option Int)(n:Nat):(sliceBounds lo hi none n).1=((HT.sIx n 0 lo:Nat):Int)/\(sliceBounds lo hi none n).2.1=((HT.sIx n n hi:Nat):Int)/\(sliceBounds lo hi none n).2.2=1:=by
 refine⟨?_,?_,O⟩
 . cases lo with
   |none=>simp[sliceBounds,HT.sIx]
   |some i=>
    simp only[sliceBounds,HT.sIx,Option.getD_none,show (1:Int)>0 by decide,if_true];by_cases h:i<0
    . simp only[h,if_true] <;> omega
    . simp only[h,if_false] <;> omega
 . cases hi with
   |none=>simp[sliceBounds,HT.sIx]
   |some i=>
    simp only[sliceBounds,HT.sIx,Option.getD_none,show (1:Int)>0 by decide,if_true];by_cases h:i<0
    . simp only[h,if_true] <;> omega
    . simp only[h,if_false] <;> omega
theorem qH8(its:List Value)(lo hi:Option Int):slicePick its.toArray lo hi none=((its.drop (HT.sIx its.length 0 lo)).take (HT.sIx its.length its.length hi-HT.sIx its.length 0 lo)).toArray:=by obtain⟨h1,h2,h3⟩:=qJm lo hi its.toArray.size;unfold slicePick;rw[h1,h2,h3];simp only[sliceRange_one,pick_run,YG] <;> rfl
inductive qZ8(K:PySem.W.Frag)(x:V)(lo:Option Int)(hi:Option Int)(H:Hp)(Q:VK):Prop
|mk a xs (_:x=.ref a) (_:SqL K H a xs) (_:∀p,H p=none->Q (.ref p) (upd H p (.lst (xl xs lo hi))))
theorem vV:SlR X (qZ8 X.K):=by intro pins s σ H x v vl vu lo hi sl Q I rx hs pl pu h;obtain⟨a,xs,rfl,hx,q⟩:=h;cases rx;obtain⟨its,r,ht,hz⟩:=I.list hx;have hlen:=r.length;refine⟨"list",_,slot_list_getitem.lookup,ht.isList.typeIs,?_⟩;refine wpAny_getItem_list_slice ht.isList hs pl pu .none (by simp) ?_ (by rw[YG] <;> omega);rw[qH8,<-hlen];refine⟨.ref s.heap.objs.size,_,I.laid (t':=s.toks) (o:=.lst (xl xs lo hi)) (λb ob q=>YM _ q) (YI _) ?_,O,q _ (I.hok.fresh (YI _))⟩;exact⟨ZC (ku xs lo hi) hz,_,0,(r.drop (HT.sIx xs.length 0 lo)).take (HT.sIx xs.length xs.length hi-HT.sIx xs.length 0 lo),Yn _ rfl⟩
noncomputable def kj:V->Bool
 |.non=>true
 |.bl _=>true
 |.int _=>true
 |.str _=>true
 |_=>false
noncomputable def eqV:V->V->Bool
 |.non,.non=>true
 |.bl a,.bl b=>a==b
 |.bl a,.int b=>(if a then 1 else 0)==b
 |.int a,.bl b=>a==(if b then 1 else 0)
 |.int a,.int b=>a==b
 |.str a,.str b=>a==b
 |_,_=>false
theorem qMl{A:Around}{s:Shared}{y x:V}{u v:Value}(ry:RelV y u)(rx:RelV x v)(fy:kj y=true)(fx:kj x=true):SeqAt.EqAt A s u v (eqV y x):=by
 cases y with
 |non=>
  cases ry;cases x with
  |non=>cases rx;exact SeqAt.EqAt.same _
  |bl b=>cases rx;exact SeqAt.EqAt.none_bool b
  |int b=>obtain⟨t,rfl⟩:=rx;exact SeqAt.EqAt.none_int b t
  |str b=>obtain⟨t,rfl⟩:=rx;exact SeqAt.EqAt.none_str b t
  |_=>exact YC (show false=true from fx) YZ
 |bl a=>
  cases ry;cases x with
  |non=>cases rx;exact SeqAt.EqAt.bool_none a
  |bl b=>cases rx;exact SeqAt.EqAt.bool_bool a b
  |int b=>obtain⟨t,rfl⟩:=rx;exact SeqAt.EqAt.bool_int a b t
  |str b=>obtain⟨t,rfl⟩:=rx;exact SeqAt.EqAt.bool_str a b t
  |_=>exact YC (show false=true from fx) YZ
 |int a=>
  obtain⟨t',rfl⟩:=ry;cases x with
  |non=>cases rx;exact SeqAt.EqAt.int_none a t'
  |bl b=>cases rx;exact SeqAt.EqAt.int_bool a t' b
  |int b=>obtain⟨t,rfl⟩:=rx;exact SeqAt.EqAt.int_int a t' b t
  |str b=>obtain⟨t,rfl⟩:=rx;exact SeqAt.EqAt.int_str a t' b t
  |_=>exact YC (show false=true from fx) YZ
 |str a=>
  obtain⟨t',rfl⟩:=ry;cases x with
  |non=>cases rx;exact SeqAt.EqAt.str_none a t'
  |bl b=>cases rx;exact SeqAt.EqAt.str_bool a t' b
  |int b=>obtain⟨t,rfl⟩:=rx;exact SeqAt.EqAt.str_int a t' b t
  |str b=>obtain⟨t,rfl⟩:=rx;exact SeqAt.EqAt.str_str a t' b t
  |_=>exact YC (show false=true from fx) YZ
 |_=>exact YC (show false=true from fy) YZ
noncomputable def eqU(x:V)(u:Value):Bool:=match u with
 |.none=>eqV .non x
 |.bool b=>eqV (.bl b) x
 |.int i _=>eqV (.int i) x
 |.str z _=>eqV (.str z) x
 |_=>false
theorem qUc{x y:V}{u:Value}(r:RelV y u)(f:kj y=true):eqU x u=eqV y x:=by
 cases y with
 |non=>cases r;rfl
 |bl b=>cases r;rfl
 |int i=>obtain⟨t,rfl⟩:=r;rfl
 |str z=>obtain⟨t,rfl⟩:=r;rfl
 |_=>exact YC (show false=true from f) YZ
theorem qEv{x:V}:∀{xs:List V} {us:List Value},Vals xs us->xs.all kj=true->us.any (eqU x)=xs.any λy=>eqV y x
 |_,_,.nil,_=>rfl
 |y::xs,u::us,.cons r t,f=>by rw[List.all_cons,Yl]at f;rw[List.any_cons,List.any_cons,qUc r f.1,qEv t f.2]
theorem qAq{A:Around}{s:Shared}{x:V}{v:Value}(rx:RelV x v)(fx:kj x=true):∀{xs:List V} {us:List Value},Vals xs us->xs.all kj=true->∀u∈us,SeqAt.EqAt A s u v (eqU x u)
 |_,_,.nil,_=>λu hu=>by cases hu
 |y::xs,u::us,.cons r t,f=>λu' hu=>by
  rw[List.all_cons,Yl]at f;rcases YU.mp hu with rfl|hu
  . rw[qUc r f.1];exact qMl r rx f.1 fx
  . exact qAq rx fx t f.2 u' hu
noncomputable def inV(x:V)(xs:List V):Bool:=xs.any λy=>eqV y x
inductive rIn(K:PySem.W.Frag)(neg:Bool)(x:V)(y:V)(H:Hp)(Q:VK):Prop
|mk p xs (_:y=.ref p) (_:(SqL K H p xs\/SqT K H p xs)) (_:kj x=true) (_:xs.all kj=true) (_:Q (.bl (if neg then !inV x xs else inV x xs)) H)
theorem xc:OpR X (compareOp .In) (rIn X.K false):=by
 intro pins s σ H x y v u Q I rx ry h;obtain⟨p,xs,rfl,hq,fx,fs,q⟩:=h;cases ry;rcases hq with hq|hq
 . obtain⟨its,r,pl,hz⟩:=I.list hq
   refine SeqAt.in_listAt (eqU x) pl.isList (λw hw=>qAq rx fx r fs w (by simpa using hw)) ⟨.bl _,H,I,O,?_⟩;rw[show its.toArray.any (eqU x)=its.any (eqU x) by simp,qEv r fs];exact q
 . obtain⟨its,r,pl,hz⟩:=I.tuple hq
   refine SeqAt.in_tupleAt (eqU x) pl (λw hw=>qAq rx fx r fs w (by simpa using hw)) ⟨.bl _,H,I,O,?_⟩;rw[show its.toArray.any (eqU x)=its.any (eqU x) by simp,qEv r fs];exact q
theorem vt:OpR X (compareOp .NotIn) (rIn X.K true):=by
 intro pins s σ H x y v u Q I rx ry h;obtain⟨p,xs,rfl,hq,fx,fs,q⟩:=h;cases ry;rcases hq with hq|hq
 . obtain⟨its,r,pl,hz⟩:=I.list hq
   refine SeqAt.notIn_listAt (eqU x) pl.isList (λw hw=>qAq rx fx r fs w (by simpa using hw)) ⟨.bl _,H,I,O,?_⟩;rw[show its.toArray.any (eqU x)=its.any (eqU x) by simp,qEv r fs];exact q
 . obtain⟨its,r,pl,hz⟩:=I.tuple hq
   refine SeqAt.notIn_tupleAt (eqU x) pl (λw hw=>qAq rx fx r fs w (by simpa using hw)) ⟨.bl _,H,I,O,?_⟩;rw[show its.toArray.any (eqU x)=its.any (eqU x) by simp,qEv r fs];exact q
theorem jV:zD X (.builtin "len") (λxs H Q=> ∃p ys,xs=[.ref p]/\(SqL X.K H p ys\/SqT X.K H p ys)/\Q (.int ys.length) H):=by
 intro pins s σ H xs us Q I r h;obtain⟨p,ys,rfl,hq,q⟩:=h;obtain⟨u,rfl,rx⟩:=qE9 r;cases rx;have hn:=qJ5;rcases hq with hq|hq
 . obtain⟨its,r',pl,hz⟩:=I.list hq
   have hlen:=r'.length;exact Calls.call_len_list pl.isList (by simp only[YG] <;> omega) ⟨.int ys.length,H,I.tok _,⟨s.toks+1,by rw[YG,hlen]⟩,q⟩
 . obtain⟨its,r',pl,hz⟩:=I.tuple hq
   have hlen:=r'.length;exact len_tuple pl (by simp only[YG] <;> omega) ⟨.int ys.length,H,I.tok _,⟨s.toks+1,by rw[YG,hlen]⟩,q⟩
theorem qCx:zD X (.builtin "len") (λxs H Q=> ∃z,xs=[.str z]/\z.length<=sizeLine/\Q (.int z.length) H):=by intro pins s σ H xs us Q I r h;obtain⟨z,rfl,hz,q⟩:=h;obtain⟨u,rfl,t,rfl⟩:=qE9 r;have hn:=qJ5;exact len_str (by omega) ⟨.int z.length,H,I.tok _,⟨_,O⟩,q⟩
theorem xh:zD X (.type "list") (λxs H Q=> ∃p ys,xs=[.ref p]/\(SqL X.K H p ys\/SqT X.K H p ys)/\∀l,H l=none->Q (.ref l) (upd H l (.lst ys))):=by
 intro pins s σ H xs us Q I r h;obtain⟨p,ys,rfl,hq,q⟩:=h;obtain⟨u,rfl,rx⟩:=qE9 r;cases rx;have fin:∀(its:List Value),Vals ys its->ys.length<=sizeLine->∀(h':Heap) (c':Nat),(∀b o',s.heap.get? b=some o'->h'.get? b=some o')->
  h'.get? s.heap.objs.size=some {cls:=.type "list",dict:=none,data:=.seq its.toArray c',slots:= #[]}->EP X pins σ Q (.ref s.heap.objs.size) {s with heap:=h'}:=λits r' hz h' c' kp e=>
  ⟨.ref s.heap.objs.size,_,I.laid (t':=s.toks) kp (YI _) (show ObjOk X.prog X.w _ h' _ (.lst ys)from ⟨hz,its,c',r',e⟩),rfl,q _ (I.hok.fresh (YI _))⟩
 rcases hq with hq|hq
 . obtain⟨its,r',pl,hz⟩:=I.list hq
   have hlen:=r'.length;obtain⟨o,ho,hc,n,hd⟩:=pl.isList;exact call_list_seq p (.inl rfl) ho hc hd (λh' c' kp e=>fin its r' hz h' c' kp e) (by simp only[YG] <;> omega)
 . obtain⟨its,r',pl,hz⟩:=I.tuple hq
   have hlen:=r'.length;obtain⟨o,ho,hc,n,hd⟩:=pl;exact call_list_seq p (.inr rfl) ho hc hd (λh' c' kp e=>fin its r' hz h' c' kp e) (by simp only[YG] <;> omega)
theorem x8:zD X (.type "tuple") (λxs H Q=> ∃p ys,xs=[.ref p]/\((SqL X.K H p ys/\∀l,H l=none->Q (.ref l) (upd H l (.tup ys)))\/(SqT X.K H p ys/\Q (.ref p) H))):=by
 intro pins s σ H xs us Q I r h;obtain⟨p,ys,rfl,h⟩:=h;obtain⟨u,rfl,rx⟩:=qE9 r;cases rx;rcases h with ⟨hq,q⟩|⟨hq,q⟩
 . obtain⟨its,r',pl,hz⟩:=I.list hq
   have hlen:=r'.length;refine call_tuple_list pl.isList (λh' kp=>?_) (by simp only[YG] <;> omega);have I1:Inv X pins σ H {s with heap:=h'}:=I.kept (t':=s.toks) kp;have I2:Inv X pins σ (upd H h'.objs.size (.tup ys)) {s with heap:=h'.push {cls:=.type "tuple",data:=.seq its.toArray}}:=
    I1.laid (t':=s.toks) (λb o e=>YM _ e) (YI _) (show ObjOk X.prog X.w _ _ _ (.tup ys)from ⟨hz,its,r',IsTup.new _ _⟩)
   exact⟨.ref h'.objs.size,_,I2,O,q _ (I1.hok.fresh (YI _))⟩
 . obtain⟨its,r',pl,hz⟩:=I.tuple hq
   exact call_tuple_same pl ⟨.ref p,H,I,O,q⟩
def tyV(K:PySem.W.Frag)(T:String)(x:V)(H:Hp):Prop:=match x with
 |.str _=>T="str"
 |.int _=>T="int"
 |.ref p=>(T="list"/\∃xs,SqL K H p xs)\/(T="tuple"/\∃o,K.lookup p=some o/\o.cls=.type "tuple"/\o.dict=none)\/
  (T="dict"/\((∃kvs,H p=some (.dK kvs))\/∃kvs,H p=some (.dT kvs)))\/(T="set"/\∃S n,H p=some (.set S n))
 |_=>False
theorem qUe{pins:List (Addr×Obj)}{σ:St}{H:Hp}{s:Shared}{T:String}{x:V}{v:Value}(I:Inv X pins σ H s)(r:RelV x v)(ty:tyV X.K T x H):
 s.TypeIs v T/\∀a,v=.ref a->∃ob,s.heap.get? a=some ob/\ob.dict=none:=by
 cases x with
 |str z=>
  obtain⟨t,rfl⟩:=r;cases (show T="str" from ty);exact⟨typeIs_str s z t,λ_ e=>nomatch e⟩
 |int i=>
  obtain⟨t,rfl⟩:=r;cases (show T="int" from ty);exact⟨typeIs_int s i t,λ_ e=>nomatch e⟩
 |ref p=>
  cases r;rcases ty with ⟨rfl,xs,hq⟩|⟨rfl,o,hk,hc,hd⟩|⟨rfl,hk⟩|⟨rfl,S,n,hk⟩
  . obtain⟨its,_,pl,_⟩:=I.list hq
    refine⟨pl.isList.typeIs,λa e=>?_⟩;cases e;obtain⟨o,n,e,c,hd,_⟩:=pl;exact⟨o,e,hd⟩
  . refine⟨⟨o,I.kIn p o hk,hc⟩,λa e=>?_⟩
    cases e;exact⟨o,I.kIn _ o hk,hd⟩
  . have z:∃o,s.heap.get? p=some o/\o.ExactDict:=by
     rcases hk with ⟨kvs,hk⟩|⟨kvs,hk⟩
     . obtain⟨_,_,_,_,o,_,_,e,ex,_⟩:=I.hok p _ hk
       exact⟨o,e,ex⟩
     . obtain⟨_,_,_,_,o,_,_,e,ex,_⟩:=I.hok p _ hk
       exact⟨o,e,ex⟩
    obtain⟨o,e,ex⟩:=z;refine⟨⟨o,e,ex.1⟩,λa e2=>?_⟩;cases e2;exact⟨o,e,ex.2.1⟩
  . obtain⟨o,_,_,_,e,ex,_⟩:=I.hok p _ hk
    refine⟨⟨o,e,ex.1⟩,λa e2=>?_⟩;cases e2;exact⟨o,e,ex.2.1⟩
 |_=>exact False.elim ty
def jAq(K:PySem.W.Frag)(T:String)(r:V->List V->Hp->VK->Prop)(to:TE):TE:=λσ H Q=>to σ H λx H1=>tyV K T x H1/\r x [] H1 Q
def tBM(K:PySem.W.Frag)(T:String)(r:V->List V->Hp->VK->Prop)(to:TE)(t:TA):TE:=λσ H Q=>to σ H λx H1=>tyV K T x H1/\t σ H1 λxs H2=>r x xs H2 Q
variable{o e:Expr}{es:List Expr}{to:TE}{t:TA}{name:Str}{apos cpos:Pos}{T id:String}{r:V->List V->Hp->VK->Prop}
theorem qXs(pa:PlainAttrs T)(slot:Slot T name id)(hty:typeOf (.builtin id)=pure (.type "method_descriptor"))(hm:MtR X id r)(ho:PE X o to)
 (hbase:attributeBase o name X.env (eval o X.env)=eval o X.env:=by rfl) (hline:(apos.endLine==cpos.line)=true:=by rfl):PE X (.Call (.Attribute o name apos) [] [] cpos) (jAq X.K T r to):=by
 intro pins s σ H Q I h;refine wpAny_Call_method0_late hbase hline (thn (ho pins s σ H _ I h) λv s1 ⟨x,H1,I1,r1,ty,q1⟩=>?_);obtain⟨h1,h2⟩:=qUe I1 r1 ty;exact⟨T,id,pa,slot,hty,h1,h2,Calls.callWith_builtin rfl (PySem.evalArgs_none (hm pins s1 σ H1 x [] v [] Q I1 r1 .nil q1))⟩
theorem qOd(pa:PlainAttrs T)(slot:Slot T name id)(hty:typeOf (.builtin id)=pure (.type "method_descriptor"))(hm:MtR X id r)(ho:PE X o to)(ha:PA X (e::es) t)
 (hbase:attributeBase o name X.env (eval o X.env)=eval o X.env:=by rfl)
 (hfew:((backTo cpos (starEach (e::es) X.env)).all (λx=>!x.1) && (backToKw cpos (keywordEach [] X.env)).all (λx=>x.1.isSome)
   && decide ((e::es).length+([]:List Keyword).length+(if ([]:List Keyword).isEmpty then 0 else 1)<30))=true:=by rfl)
 (hline:(apos.endLine==cpos.line)=true:=by rfl) (hs:starEach (e::es) X.env=(false,eval e X.env)::starEach es X.env:=by rfl) (hplain:(backTo cpos (starEach es X.env)).any (·.1)=false:=by rfl):
 PE X (.Call (.Attribute o name apos) (e::es) [] cpos) (tBM X.K T r to t):=by
 intro pins s σ H Q I h;refine wpAny_Call_method_late hbase hfew hline rfl (thn (ho pins s σ H _ I h) λv s1 ⟨x,H1,I1,r1,ty,q1⟩=>?_);obtain⟨h1,h2⟩:=qUe I1 r1 ty;refine⟨T,id,pa,slot,hty,h1,h2,?_⟩;have hA:=ha cpos pins s1 σ H1 _ I1 q1;rw[hs]at hA⊢;refine Calls.callWith_builtin (by show (false || (backTo cpos (starEach es X.env)).any (·.1))=false;rw[hplain] <;> rfl) (Calls.evalArgs_plain ?_);exact thn hA λus s2 ⟨vs,H2,I2,r2,q2⟩=>hm pins s2 σ H2 x vs v us Q I2 r1 r2 q2
end
def MtM(X:Cx)(id:String)(r:V->List V->Hp->VK->Prop):Prop:=
 ∀(pins:List (Addr×Obj)) (s:Shared) (σ:St) (H:Hp) (x:V) (xs:List V) (v:Value) (us:List Value) (Q:VK),Inv X pins σ H s->RelV x v->Vals xs us->r x xs H Q->
  wpAny (model X.prog X.w) X.A (call (.builtin id) (v::us)) (EP X pins σ Q) X.xe s
theorem Vals.one:∀{x:V} {us:List Value},Vals [x] us->∃u,us=[u]/\RelV x u
 |_,_,.cons r .nil=>⟨_,rfl,r⟩
theorem Vals.zero:∀{us:List Value},Vals [] us->us=[]
 |_,.nil=>rfl
theorem Vals.dropLast{xs:List V}{us:List Value}(h:Vals xs us):Vals xs.dropLast us.dropLast:=by
 induction h with
 |nil=>exact .nil
 |cons r t ih=>
  cases t with
  |nil=>exact .nil
  |cons q t'=>exact .cons r ih
theorem qOs{α:Type}(l:List α):l.eraseIdx (l.length-1)=l.dropLast:=by
 induction l with
 |nil=>rfl
 |cons a r ih=>
  cases r with
  |nil=>rfl
  |cons b r=>
   have e:(a::b::r).length-1=((b::r).length-1)+1:=by have h1:(a::b::r).length=r.length+2:=rfl;have h2:(b::r).length=r.length+1:=rfl;omega
   rw[e,List.eraseIdx_cons_succ,ih]
   all_goals rfl
section
variable{X:Cx}{pins:List (Addr×Obj)}{σ:St}{H:Hp}{s:Shared}{l b:Addr}{xs ys zs:List V}
theorem Inv.lset{its its':List Value}{n:Nat}{f:Array Value->Array Value}{t':Nat}(I:Inv X pins σ H s)(hH:H l=some (.lst xs))
 (e:s.heap.get? l=some {cls:=.type "list",data:=.seq its.toArray n}) (hf:f its.toArray=its'.toArray) (hv:Vals ys its') (hz:ys.length<=sizeLine):
 Inv X pins σ (upd H l (.lst ys)) {s with heap:=s.heap.update l (Obj.mapSeq f),toks:=t'}:=by
 have q:=PySem.IsL.update e f;rw[hf]at q;refine I.write (x:=l) (e:=l) (by rw[hH];exact trivial) (.inl rfl) (λb' u hb hu=>(ZA s.heap (Obj.mapSeq f) (ZF hb)).trans hu) ⟨_,q⟩ ?_;exact⟨hz,its',_,hv,q⟩
theorem Inv.lnew{its:List Value}{t':Nat}(I:Inv X pins σ H s)(hv:Vals ys its)(hz:ys.length<=sizeLine):
 Inv X pins σ (upd H s.heap.objs.size (.lst ys)) {s with heap:=s.heap.push {cls:=.type "list",data:=.seq its.toArray},toks:=t'}:=
 I.laid (λ_ _ q=>YM _ q) (YI _) ⟨hz,its,0,hv,Yn _ rfl⟩
theorem Inv.fresh(I:Inv X pins σ H s):H s.heap.objs.size=none:=I.hok.fresh (YI _)
theorem Inv.lstM(I:Inv X pins σ H s)(hH:H l=some (.lst xs)):xs.length<=sizeLine/\∃(its:List Value) (n:Nat),Vals xs its/\xs.length=its.length/\s.heap.get? l=some {cls:=.type "list",data:=.seq its.toArray n}:=by obtain⟨z,its,n,r,e⟩:=I.hok l _ hH;exact⟨z,its,n,r,r.length,e⟩
theorem qR5{n:Nat}(h:n<=sizeLine):Builtin.List.listTooLong n=false:=by unfold Builtin.List.listTooLong;exact YW (by omega)
end
section
variable{X:Cx}
inductive qVd(x:V)(vs:List V)(H:Hp)(Q:VK):Prop
|mk l xs y (_:x=.ref l) (_:vs=[y]) (_:H l=some (.lst xs)) (_:xs.length<sizeLine) (_:Q .non (upd H l (.lst (xs++[y]))))
theorem kG:MtM X "list.append" qVd:=by intro pins s σ H x vs v us Q I rx rv h;obtain⟨l,xs,y,rfl,rfl,hH,hz,q⟩:=h;cases rx;obtain⟨u,rfl,ru⟩:=rv.one;obtain⟨z,its,n,r,hl,e⟩:=I.lstM hH;refine call_meets F.slot_list_append ⟨_,e,O⟩ F.entry_list_append (F.args_list_append_2 _ _) (PySem.list_append l its.toArray n u (by rw[YG];omega)) ⟨e,?_⟩;refine⟨.non,_,I.lset (its':=its++[u]) hH e (by simp) (r.append (.cons ru .nil)) ?_,O,q⟩;rw[YN,Yx];omega
inductive qVm(x:V)(vs:List V)(H:Hp)(Q:VK):Prop
|mk l b xs zs (_:x=.ref l) (_:vs=[.ref b]) (_:H l=some (.lst xs)) (_:H b=some (.lst zs)) (_:xs.length+zs.length<=sizeLine) (_:Q .non (upd H l (.lst (xs++zs))))
theorem mt_extend:MtM X "list.extend" qVm:=by
 intro pins s σ H x vs v us Q I rx rv h;obtain⟨l,b,xs,zs,rfl,rfl,hH,hB,hz,q⟩:=h;cases rx;obtain⟨u,rfl,ru⟩:=rv.one;cases ru;obtain⟨z,its,n,r,hl,e⟩:=I.lstM hH;obtain⟨z2,its2,n2,r2,hl2,e2⟩:=I.lstM hB;have hsz:its.toArray.size+its2.toArray.size<=sizeLine:=by rw[YG,YG];omega
 have hlong:¬(!its.toArray.isEmpty && Builtin.List.listTooLong (its.toArray.size+its2.toArray.size))=true:=by rw[qR5 hsz,Bool.and_false];exact YZ
 refine call_meets F.slot_list_extend ⟨_,e,O⟩ F.entry_list_extend (F.args_list_extend_2 _ _)
  (AutoSeq1.list_extend_list_list_0 l its.toArray n b its2.toArray n2 hlong (by rw[YG];omega) (by omega)) ⟨e,e2,?_⟩
 refine⟨.non,_,I.lset (its':=its++its2) hH e (by simp) (r.append r2) ?_,O,q⟩;rw[YN];omega
def jAs:V->List V->Hp->VK->Prop:=λx vs H Q=> ∃l xs y,x=.ref l/\vs=[]/\H l=some (.lst xs)/\xs[xs.length-1]?=some y/\Q y (upd H l (.lst xs.dropLast))
theorem mt_pop:MtM X "list.pop" jAs:=by
 intro pins s σ H x vs v us Q I rx rv h;obtain⟨l,xs,y,rfl,rfl,hH,hy,q⟩:=h;cases rx;have hus:=rv.zero;subst hus;obtain⟨z,its,n,r,hl,e⟩:=I.lstM hH;obtain⟨u,hu,ru⟩:=r.get hy;have hy':its.toArray[its.toArray.size-1]?=some u:=by show its.toArray[its.length-1]?=some u;rw[<-Array.getElem?_toList,<-hl];exact hu
 refine call_meets F.slot_list_pop ⟨_,e,O⟩ F.entry_list_pop (F.args_list_pop_1 _) (MeetsSeq.list_pop_last l its.toArray n u hy' (by rw[YG];omega)) ⟨e,?_⟩;refine⟨y,_,I.lset (its':=its.dropLast) hH e ?_ r.dropLast ?_,ru,q⟩
 . show its.toArray.eraseIdxIfInBounds (its.toArray.size-1)=its.dropLast.toArray
   rw[YG,List.eraseIdxIfInBounds_toArray,qOs]
 . rw[List.length_dropLast]
   omega
def qWw:V->List V->Hp->VK->Prop:=λx vs H Q=> ∃l xs,x=.ref l/\vs=[]/\H l=some (.lst xs)/\Q .non (upd H l (.lst []))
theorem qTt:MtM X "list.clear" qWw:=by intro pins s σ H x vs v us Q I rx rv h;obtain⟨l,xs,rfl,rfl,hH,q⟩:=h;cases rx;have hus:=rv.zero;subst hus;obtain⟨z,its,n,r,hl,e⟩:=I.lstM hH;refine call_meets F.slot_list_clear ⟨_,e,O⟩ F.entry_list_clear (F.args_list_clear_1 _) (AutoSeq1.list_clear_list_0 l its.toArray n (by rw[YG];omega)) ⟨e,?_⟩;exact⟨.non,_,I.lset (its':=[]) (ys:=[]) hH e rfl .nil (ZP _),O,q⟩
inductive jAl(x:V)(y:V)(H:Hp)(Q:VK):Prop
|mk l b xs zs (_:x=.ref l) (_:y=.ref b) (_:H l=some (.lst xs)) (_:H b=some (.lst zs)) (_:xs.length+zs.length<=sizeLine) (_:∀p,H p=none->Q (.ref p) (upd H p (.lst (xs++zs))))
theorem qA3:OpR X (binaryOp .Add) jAl:=by
 intro pins s σ H x y v u Q I rx ry h;obtain⟨l,b,xs,zs,rfl,rfl,hH,hB,hz,q⟩:=h;cases rx;cases ry;obtain⟨z,its,n,r,hl,e⟩:=I.lstM hH;obtain⟨z2,its2,n2,r2,hl2,e2⟩:=I.lstM hB;refine PySem.P.add_list e e2 ?_ (by rw[YG,YG];omega);have ea:its.toArray++its2.toArray=(its++its2).toArray:=by simp
 rw[ea];exact⟨.ref _,_,I.lnew (t':=s.toks) (r.append r2) (by rw[YN];omega),O,q _ I.fresh⟩
end
end L2
namespace Att
open PySem PySem.W PySem.Calls PyProof.Rows
theorem qE5{P:Params}{h:Heap}:∀(ns:List Int) (vs:List Value),WellAll P h vs (ns.map WData.int)->IntsAre vs ns:=by
 intro ns
 induction ns with
 |nil=>
  intro vs w;rw[List.map_nil]at w;cases w;exact .nil
 |cons n ns ih=>
  intro vs w;rw[ZG]at w;cases w with
  |cons a b=>
   cases a;exact .cons _ _ (ih _ b)
theorem qP1{l:OpenLaw}{n:Nat}(hn:l.most=some n){P:Params}{h:Heap}{args:List WData}{vals:List Value}
 (hpre:l.row.toRowW.claim.pre args=true) (hwl:WellAll P h vals args):
 ∃a vs ns,vals=[Value.ref a]/\args=[WData.list (ns.map WData.int)]/\h.get? a=some {cls:=.type "list",data:=.seq vs.toArray}/\IntsAre vs ns/\ns.length<=n:=by
 have hsh:WShape.hasAll [] args [.list .int]=true:=(pre_splitW hpre).1;have hc:l.pre.holds [] {args:=args}=true:=(pre_splitW hpre).2;obtain⟨d,r,rfl,h1,h2⟩:=hasAllW_cons hsh;obtain rfl:=hasAllW_nil h2;obtain⟨xs,rfl,h3⟩:=hasW_list h1;obtain⟨ns,rfl⟩:=items_int h3;have hlen:ns.length<=n:=by
  unfold OpenLaw.pre at hc;have h4:(WTm.not (.lt (.lit (.int (n:Int))) (.len (.arg 0)))).holds [] {args:=[.list (ns.map .int)]}=true:=by have h4:=(holds_andW hc).1;rw[hn]at h4;exact h4
  have h5:=condW_of h4 (w_not (w_lt w_lit (w_len_list (w_arg rfl))));rw[YS]at h5;refine Nat.le_of_not_lt λq=>?_;have q':(n:Int)<((ns.length:Nat):Int):=by omega
  first
   |(rw[YX q']at h5;exact YC h5 (by decide))
   |(simp at h5;omega)
 cases hwl with
 |cons w1 w2=>
  cases w2;cases w1 with
  |list ho hall=>exact⟨_,_,ns,rfl,rfl,ho,qE5 ns _ hall,hlen⟩
theorem qRl(l:OpenLaw)(args:List WData):l.row.toRowW.claim.post args (.bool true) args=true:=
 postW_of (r:=l.row.toRowW) (X:=(true==true))
  (show WShape.has [] (.bool true) .bool=true by first|rfl|decide|simp[WShape.has,WShape.arms,WShape.armsAll])
  (show (WTm.eq .res (.lit (.bool true))).value [] {args:=args,res:=some (.bool true),after:=args}=some (.bool (true==true))from w_eq_bool (w_res rfl) w_lit) rfl
theorem attach_call{l:OpenLaw}{n:Nat}{q:Program}{loose:List Str}{XP:(Str->Option Value)->Heap->Prop}{YP:World->Heap->Prop}{d:DefRec}
 (hn:l.most=some n) (hdf:d.params.defaults=[])
 (call:∀(w:World) (s₀ s₁:Shared) (mg mb:Str->Option Value) (fa:Addr) (o:Obj) (pm cd doc:Value) (a:Addr) (vs:List Value) (ns:List Int),
   Ground q loose [] XP w s₀ mg mb s₁.heap->YP w s₁.heap->
   s₁.heap.get? fa=some o->o.data=.func (docDef d.name d.params d.body d.scope pm cd doc)->s₁.heap.CodeRec cd d.name->mg d.name=some (.ref fa)->
   s₁.heap.get? a=some {cls:=.type "list",data:=.seq vs.toArray}->IntsAre vs ns->ns.length<=n->s₁.gens= #[]->
   codeAny (model l.prog w) callerA (.call (.ref fa) ⟨[.ref a],[]⟩) (λr s'=>r=.ok (.ret (.bool true))/\OldK s₁.heap s'.heap/\s'.os=s₁.os/\AllBare s'.gens) s₁):
 WalkO q loose XP YP l.row.toRowW d [] (λf vs=>PySem.call f vs):=by
 intro w s₀ s₁ mg mb G Y fa o pm cd doc dV kV ho hd hcd hD hmg hg args vals as hpre hlay hrd hwl hlo;obtain rfl:dV=.none:=Dflts.none hD hdf;obtain rfl:kV=.none:=Dflts.noKw hD;obtain⟨a,vs,ns,rfl,rfl,hobj,hints,hlen⟩:=qP1 hn hpre hwl;refine enter_call (codeAny_mono (call w s₀ s₁ mg mb fa o pm cd doc a vs ns G Y ho (fd_plain hd) hcd hmg hobj hints hlen hg) λr s' hq=>?_);obtain⟨rfl,h2,h3,h4⟩:=hq;exact⟨.inl ⟨.bool true,.bool true,[],O,λ_=>rfl,.bool true,qRl l _,λ_=>⟨List.Pairwise.nil,λ_ hm=>(nomatch hm)⟩⟩,h2,h3,h4⟩
end Att
namespace L2
open PySem PySem.Spec PyProof.Rows
theorem qJe:∀{vs:List Value} {ns:List Int},IntsAre vs ns->Vals (ns.map V.int) vs
 |_,_,.nil=>.nil
 |_,_,.cons n t h=>.cons ⟨t,rfl⟩ (qJe h)
def qYh(H:Hp):Prop:= ∀b,H b=none\/∃o xs,H b=some (.frz o (.lst xs))
theorem qTo{P:Program}{w:World}{K:PySem.W.Frag}{mg mb:Str->Option Value}{CX:CXT}{k:Nat}{fa a:Addr}{fd:FuncData}{x:Str}{sp:Sp}{s₁:Shared}{vs:List Value}{ns:List Int}
 (KX:K.In s₁.heap) (hns:s₁.heap.Ns mainGlobals mg) (hb:s₁.heap.Ns builtinsNs mb) (hbb:∀x:Str,x≠"__name__"->mb x=bootBuiltins x) (hlim:s₁.heap.NoLimit) (hg:s₁.gens= #[])
 (ha:s₁.heap.get? a=some {cls:=.type "list",data:=.seq vs.toArray}) (hi:IntsAre vs ns) (hl:ns.length<=sizeLine) (hr:Room k callerA)
 (F:∀base:Heap,K.In base->base.Ns mainGlobals mg->FnOk P w K mg base CX k fa fd [x] sp) (hbind:∀(s:Shared) (u:Value),BindsTo s fd ⟨[u],[]⟩ [(x,u)])
 (hsp:∀H:Hp,qYh H->SqL K H a (ns.map V.int)->sp [.ref a] H (λv _=>v=.bl true) λ_ _ _=>False)
 (hCX:∀H e s',CX [] H s₁ (λ_ _ _=>False) e s'->False):
 codeAny (model P w) callerA (.call (.ref fa) ⟨[.ref a],[]⟩) (λr s'=>r=.ok (.ret (.bool true))/\OldK s₁.heap s'.heap/\s'.os=s₁.os/\AllBare s'.gens) s₁:=by
 have rv:=qJe hi;have lenV:=hi.length;have core:∀H:Hp,qYh H->SqL K H a (ns.map V.int)->HOk P w H s₁.heap->(∀b,H b≠none->b=a)->(H a≠none->K.lookup a=none)->
  codeAny (model P w) callerA (.call (.ref fa) ⟨[.ref a],[]⟩) (λr s'=>r=.ok (.ret (.bool true))/\OldK s₁.heap s'.heap/\s'.os=s₁.os/\AllBare s'.gens) s₁:=by
  intro H hO hS hok hA hK;have base_of:∀{b:Addr} {o:Obj},s₁.heap.get? b=some o->H b=none->(qSw s₁.heap H).get? b=some o:=λe n=>qSx e n;have noA:∀{b:Addr} {o:Obj} {es:Array DictEntry} {ep:Nat},s₁.heap.get? b=some o->o.data=.dict es ep->H b=none:=λ{b o es ep} e d=>by
   cases q:H b with
   |none=>rfl
   |some u=>
    have e':b=a:=hA b (by rw[q];simp);subst e';rw[ha]at e;cases e;have d':Data.seq vs.toArray _=Data.dict es ep:=d;cases d'
  have nsK:∀{b:Addr} {m:Str->Option Value},s₁.heap.Ns b m->(qSw s₁.heap H).Ns b m:=λ{b m} ⟨o,es,ep,e,d,r⟩=>⟨o,es,ep,base_of e (noA e d),d,r⟩;have hKb:K.In (qSw s₁.heap H):=λb o e=>base_of (KX b o e) (by
   cases q:H b with
   |none=>rfl
   |some u=>
    have e':b=a:=hA b (by rw[q];simp);subst e';rw[hK (by rw[q];simp)]at e;cases e)
  have hM:Mod K mg (qSw s₁.heap H):=⟨hKb,nsK hns,⟨mb,nsK hb,hbb⟩,let ⟨mc,h1,h2⟩:=hlim;⟨mc,nsK h1,h2⟩⟩;have e0:Env0 P w K mg (qSw s₁.heap H) callerA [] s₁ H:=⟨rfl,hM,λb o e=>qVy e,Nat.le_of_eq (qRd _ _),trivial,λb hb=>YC (show b∈([]:List Addr)from hb) (by simp),hok,.of_eq hg⟩;refine codeAny_mono ((F _ hKb (nsK hns)).run callerA [] s₁ H ⟨[.ref a],[]⟩ [.ref a] [.ref a] _ _ hr e0 (hbind s₁ (.ref a)) (.cons rfl .nil) (hsp H hO hS)) λr s' h=>?_;cases r with
  |error e=>exact(hCX H e s' h).elim
  |ok fl=>
   cases fl with
   |next=>exact False.elim h
   |brk=>exact False.elim h
   |cont=>exact False.elim h
   |ret u=>
    obtain⟨v,H',os,bare,un,hok',r',q⟩:=h;have q':v=.bl true:=q;subst q';obtain rfl:u=Value.bool true:=r';refine⟨O,OldK.of_keep λb o e=>?_,os,bare⟩;cases q:H b with
    |none=>exact un.keep b o e q (by intro z;exact YC (show b∈([]:List Addr)from z) (by simp)) (by simp)
    |some u=>
     rcases hO b with z|⟨ob,xs,z⟩
     . rw[q]at z;cases z
     . have z2:=un.frzs b ob _ z
       obtain⟨e1,_⟩:=hok b _ z;obtain⟨e2,_⟩:=hok' b _ z2;rw[e]at e1;cases e1;exact e2
 cases hk:K.lookup a with
 |some o=>
  have e:=KX a o hk;rw[ha]at e;cases e;refine core (λ_=>none) (λ_=>.inl rfl) (.inr ⟨_,vs.toArray,_,hk,rfl,rfl,rfl,by rw[YG,lenV];exact hl,by simpa using rv⟩) (λb u z=>by have z':(none:Option HO)=some u:=z;cases z') (λb z=>YC rfl z) λz=>YC rfl z
 |none=>
  refine core (λb=>if b=a then some (.frz {cls:=.type "list",data:=.seq vs.toArray} (.lst (ns.map V.int)))else none) (λb=>?_) (.inl (.inr ⟨{cls:=.type "list",data:=.seq vs.toArray},YB rfl⟩)) (λb u z=>?_) (λb z=>?_) λ_=>hk
  . by_cases hb:b=a
    . exact .inr ⟨_,_,YB hb⟩
    . exact .inl (YA hb)
  . by_cases hb:b=a
    . have z':=(YB hb).symm.trans z
      cases z';subst hb;exact⟨ha,by rw[YS];exact hl,vs,_,rv,ha⟩
    . have z':=(YA hb).symm.trans z
      cases z'
  . by_cases hb:b=a
    . exact hb
    . exact YC (YA hb) z
theorem walk_of{l:PySem.W.OpenLaw}{n k:Nat}{q:Program}{loose:List Str}{XP:(Str->Option Value)->Heap->Prop}{YP:World->Heap->Prop}{d:DefRec}{K:Params->PySem.W.Frag}{CX:World->CXT}{sp:World->Sp}{x:Str}
 (hn:l.most=some n) (hn2:n<=sizeLine) (hdf:d.params.defaults=[]) (hr:Room k callerA)
 (hY:∀(w:World) (h:Heap),YP w h->(K w.params).In h)
 (F:∀(w:World) (mg:Str->Option Value) (fa:Addr) (h:Heap),(K w.params).In h->h.Ns mainGlobals mg->mg d.name=some (.ref fa)->
   ∃fd:FuncData,(∀(s:Shared) (u:Value),BindsTo s fd ⟨[u],[]⟩ [(x,u)])/\
    ∀base:Heap,(K w.params).In base->base.Ns mainGlobals mg->FnOk l.prog w (K w.params) mg base (CX w) k fa fd [x] (sp w))
 (hsp:∀(w:World) (H:Hp) (a:Addr) (ns:List Int),ns.length<=n->qYh H->SqL (K w.params) H a (ns.map V.int)->sp w [.ref a] H (λv _=>v=.bl true) λ_ _ _=>False)
 (hCX:∀(w:World) (H:Hp) (s:Shared) (e:Value) (s':Shared),CX w [] H s (λ_ _ _=>False) e s'->False):
 PySem.W.WalkO q loose XP YP l.row.toRowW d [] (λf vs=>PySem.call f vs):=by
 refine Att.attach_call hn hdf λw s₀ s₁ mg mb fa o pm cd doc a vs ns G Y ho hd hcd hmg hobj hints hlen hg=>?_;have KX:=hY w _ Y;obtain⟨fd,hb,hF⟩:=F w mg fa _ KX G.T.g hmg;exact qTo KX G.T.g G.T.b G.T.builtins G.T.nolimit hg hobj hints (ZC hlen hn2) hr hF hb (λH hO hS=>hsp w H a ns hlen hO hS) λH e s'=>hCX w H s₁ e s'
noncomputable def qBs(s:Stmt)(j:Nat):Stmt:=match s with
 |.ClassDef _ _ _ body _ _ _ _ _ _ _=>body.getD j (.Pass ⟨0,0,0,0⟩)
 |_=>.Pass ⟨0,0,0,0⟩
noncomputable def zT(s:Stmt):Arguments:=match s with
 |.FunctionDef _ a _ _ _ _ _ _ _ _=>a
 |_=>{posonlyargs:=[],args:=[],vararg:=none,kwonlyargs:=[],kw_defaults:=[],kwarg:=none,defaults:=[]}
noncomputable def j7(s:Stmt):List Stmt:=match s with
 |.FunctionDef _ _ b _ _ _ _ _ _ _=>b
 |_=>[]
noncomputable def qH(s:Stmt):Scope:=match s with
 |.FunctionDef _ _ _ _ _ _ sc _ _ _=>sc
 |_=>{kind:=.function,names:=[],isGenerator:=false,isCoroutine:=false}
abbrev CX0:CXT:=λ_ _ _ _ _ _=>False
abbrev E0:XK:=λ_ _ _=>False
theorem qN7{X:Cx}:qC0 CX0 X E0:=λ_ _ _ _ _ _ _ h=>h.elim
structure Fun(K:PySem.W.Frag)(x qual:Str)(st:Stmt)(f:Addr)(fd:FuncData):Prop where
 ex:∃(oc:Value) (od:Option Addr) (kV doc pm:Value) (an:Option Addr) (cdv ct:Value) (osl:Array (Option Value)),
  fd=PySem.W.fnOf x qual (zT st) (j7 st) (qH st) .none kV doc pm an cdv ct/\K.lookup f=some ⟨oc,od,.func fd,osl⟩/\PySem.W.codeIn K cdv qual=true
 kp:PySem.W.keepIn K (.ref f)=true
section
variable{P:Program}{w:World}{K:PySem.W.Frag}{mg:Str->Option Value}{base:Heap}
theorem Fun.ok{x qual:Str}{st:Stmt}{f:Addr}{fd:FuncData}{N ps:List Str}{k:Nat}{sp:Sp}(F:Fun K x qual st f fd)(S:qL N ps (qH st))(len:∀vs H Q E,sp vs H Q E->vs.length=ps.length)
 (hbody:∀(cdv:Value) (A:Around) (outer:List Env) (s:Shared) (H:Hp) (vs:List V) (Q:VK) (E:XK),Room k (A.deeper (envOfC qual (qH st) s.heap.objs.size f cdv))->sp vs H Q E->
   ∃t,PSs (qN3 CX0 P w K mg base N qual (qH st) f cdv A outer s H E).nox (j7 st) t/\t {nx:=λ_ H'=>Q .non H',rt:=Q} (qEa N vs) H):FnOk P w K mg base CX0 (k+1) f fd ps sp:=by
 obtain⟨oc,od,kV,doc,pm,an,cdv,ct,osl,rfl,lk,hcd⟩:=F.ex;refine qXo lk hcd S len λA outer s H vs Q E hr hsp=>?_;obtain⟨t,h,q⟩:=hbody cdv A outer s H vs Q E hr hsp;exact⟨t,h.nox,q⟩
theorem Fun.binds{x qual:Str}{st:Stmt}{f:Addr}{fd:FuncData}{ps:List Str}(F:Fun K x qual st f fd)
 (h:∀(kV doc pm:Value) (an:Option Addr) (cdv ct:Value) (us:List Value),us.length=ps.length->bindArgs (PySem.W.fnOf x qual (zT st) (j7 st) (qH st) .none kV doc pm an cdv ct) ⟨us,[]⟩=pure (ps.zip us)):Binds K fd ps []:=by
 obtain⟨oc,od,kV,doc,pm,an,cdv,ct,osl,rfl,lk,hcd⟩:=F.ex;exact .all (h kV doc pm an cdv ct)
theorem qRs{x qual:Str}{st:Stmt}{f:Addr}{oc:Value}{od an:Option Addr}{osl:Array (Option Value)}{kV doc pm cdv ct:Value}(l:K.lookup f=some ⟨oc,od,.func (PySem.W.fnOf x qual (zT st) (j7 st) (qH st) .none kV doc pm an cdv ct),osl⟩)
 (c:PySem.W.codeIn K cdv qual=true) (k:PySem.W.keepIn K (.ref f)=true):Fun K x qual st f (PySem.W.fnOf x qual (zT st) (j7 st) (qH st) .none kV doc pm an cdv ct):=⟨⟨oc,od,kV,doc,pm,an,cdv,ct,osl,rfl,l,c⟩,k⟩
end
theorem qJ8{A:Around}{k:Nat}(hr:Room k A):A.units+1<cLine:=Yd (Nat.add_le_add_left (by decide:1<=64) _) hr.units
theorem qj{n:Nat}(h:n<=1000):n<sizeLine:=Yd h (by decide)
section
variable{X:Cx}
theorem pv(i:Nat){x:Str}{pos:Pos}(hN:X.N[i]?=some x:=by rfl)(hv:Vis X.env.scope x:=by trivial)(hd:(x==("__debug__":Str))=false:=by decide)
 (hcd:(x==("__classdict__":Str))=false:=by decide):PE X (.Name x pos) (qIn i):=qXi hN hv hd hcd
end
theorem qv{A B:Prop}(h:B):if false=true then A else B:=by rw[YA YZ];exact h
theorem jn{A B:Prop}(h:A):if true=true then A else B:=by rw[YB rfl];exact h
theorem ja{c A B:Prop} [Decidable c] (h1:c->A)(h2:¬c->B):if c then A else B:=by
 by_cases h:c
 . rw[YB h]
   exact h1 h
 . rw[YA h]
   exact h2 h
theorem qVl{c A B:Prop} [Decidable c] (hc:c)(h:B):if (!decide c)=true then A else B:=by rw[YX hc];exact qv h
def Same(H H':Hp):Prop:= ∀b o,H b=some o->H' b=some o
theorem Same.refl(H:Hp):Same H H:=λ_ _ h=>h
theorem Same.trans{H H1 H2:Hp}(a:Same H H1)(b:Same H1 H2):Same H H2:=λc o h=>b c o (a c o h)
theorem Same.free{H H':Hp}(e:Same H H'){l:Addr}(h:H' l=Option.none):H l=Option.none:=by
 cases q:H l with
 |none=>rfl
 |some o=>
  rw[e l o q]at h;cases h
theorem Same.seq{K:PySem.W.Frag}{H H':Hp}{a:Addr}{xs:List V}(e:Same H H')(h:SqL K H a xs):SqL K H' a xs:=by
 rcases h with (h|⟨o,h⟩)|h
 . exact .inl (.inl (e _ _ h))
 . exact .inl (.inr ⟨o,e _ _ h⟩)
 . exact .inr h
section
variable{κ:Type} [DecidableEq κ]
noncomputable def x6(kvs:List (κ×V))(k:κ):Option V:=(kvs.find? λkv=>decide (kv.1=k)).map (·.2)
noncomputable def zW(kvs:List (κ×V))(k:κ)(v:V):List (κ×V):=
 if (kvs.any λkv=>decide (kv.1=k))=true then kvs.map (λkv=>if kv.1=k then (kv.1,v)else kv)else kvs++[(k,v)]
noncomputable def qAw(kvs:List (κ×V))(k:κ):List (κ×V):=kvs.filter λkv=>decide (kv.1≠k)
theorem jZ{p:κ×V}{r:List (κ×V)}{k:κ}(e:p.1=k):x6 (p::r) k=some p.2:=by simp[x6,List.find?_cons,e]
theorem jU{p:κ×V}{r:List (κ×V)}{k:κ}(e:¬p.1=k):x6 (p::r) k=x6 r k:=by simp[x6,List.find?_cons,e]
theorem wH(k:κ):∀kvs:List (κ×V),(kvs.any λkv=>decide (kv.1=k))=(x6 kvs k).isSome
 |[]=>rfl
 |p::r=>by
  rw[List.any_cons];by_cases e:p.1=k
  . simp only[jZ e,YX e,Bool.true_or,Option.isSome_some]
  . rw[jU e,YW e,Bool.false_or];exact wH k r
theorem qMm(k j:κ)(y:V):∀kvs:List (κ×V),x6 (kvs.map λkv=>if kv.1=k then (kv.1,y)else kv) j=(x6 kvs j).map λx=>if j=k then y else x
 |[]=>rfl
 |p::r=>by
  have ih:=qMm k j y r;rw[ZG];by_cases h:p.1=k
  . rw[YB h]
    by_cases e:p.1=j
    . rw[jZ (p:=(p.1,y)) e,jZ e,Option.map_some,YB (e.symm.trans h)]
    . rw[jU (p:=(p.1,y)) e,jU e,ih]
  . rw[YA h]
    by_cases e:p.1=j
    . rw[jZ (p:=p) e,jZ e,Option.map_some,YA (λz=>h (e.trans z))]
    . rw[jU (p:=p) e,jU e,ih]
theorem qK1(k j:κ)(y:V):∀kvs:List (κ×V),x6 kvs k=none->x6 (kvs++[(k,y)]) j=if j=k then some y else x6 kvs j
 |[],_=>by
  by_cases e:k=j
  . rw[YB e.symm];exact jZ (p:=(k,y)) e
  . rw[YA (λz=>e z.symm)];exact jU (p:=(k,y)) e
 |p::r,hn=>by
  rw[YT];have hk:¬p.1=k:=λz=>by rw[jZ z]at hn;cases hn
  rw[jU hk]at hn;have ih:=qK1 k j y r hn;by_cases e:p.1=j
  . rw[jZ e,jZ e,YA (λz=>hk (e.trans z))]
  . rw[jU e,jU e,ih]
theorem qSz(kvs:List (κ×V))(k j:κ)(y:V):x6 (zW kvs k y) j=if j=k then some y else x6 kvs j:=by
 unfold zW;by_cases a:(kvs.any λkv=>decide (kv.1=k))=true
 . rw[YB a,qMm]
   rw[wH]at a;by_cases e:j=k
   . obtain⟨x,hx⟩:=Option.isSome_iff_exists.mp a
     rw[YB e,e,hx,Option.map_some,YB rfl]
   . rw[YA e]
     cases x6 kvs j with
     |none=>rfl
     |some x=>rw[Option.map_some,YA e]
 . rw[YA a]
   refine qK1 k j y kvs ?_;rw[wH]at a;cases q:x6 kvs k with
   |none=>rfl
   |some x=>rw[q]at a;exact(a rfl).elim
theorem kJ(kvs:List (κ×V))(k:κ)(v:V):(zW kvs k v).length<=kvs.length+1:=by
 unfold zW;split
 . rw[YS];omega
 . rw[YN,YE,ZM];omega
theorem RelO.isSome_eq{o:Option V}{u:Option Value}(r:RelO o u):o.isSome=u.isSome:=by
 cases o with
 |none=>cases u with
  |none=>rfl
  |some _=>exact(show False from r).elim
 |some _=>cases u with
  |none=>exact(show False from r).elim
  |some _=>rfl
theorem KV.val{kvs:List (κ×V)}{vs:List (κ×Value)}(r:KV kvs vs)(k:κ):RelO (x6 kvs k) (valueAt vs k):=by
 unfold KV at r
 induction r with
 |nil=>exact True.intro
 | @cons p q ps qs h t ih=>
  obtain⟨h1,h2⟩:=h;by_cases e:p.1=k
  . have e':q.1=k:=h1.symm.trans e
    have b:valueAt (q::qs) k=some q.2:=by simp[valueAt,List.find?_cons,e']
    rw[jZ e,b];exact h2
  . have e':¬q.1=k:=λz=>e (h1.trans z)
    have b:valueAt (q::qs) k=valueAt qs k:=by simp[valueAt,List.find?_cons,e']
    rw[jU e,b];exact ih
theorem KV.any{kvs:List (κ×V)}{vs:List (κ×Value)}(r:KV kvs vs)(k:κ):(kvs.any λkv=>decide (kv.1=k))=vs.any λkv=>decide (kv.1=k):=by
 unfold KV at r
 induction r with
 |nil=>rfl
 |cons h t ih=>rw[List.any_cons,List.any_cons,ih,h.1]
theorem KV.repl{kvs:List (κ×V)}{vs:List (κ×Value)}(r:KV kvs vs)(k:κ){y:V}{u:Value}(ry:RelV y u):
 KV (kvs.map λkv=>if kv.1=k then (kv.1,y)else kv) (vs.map λkv=>if kv.1=k then (kv.1,u)else kv):=by
 unfold KV at r⊢
 induction r with
 |nil=>exact .nil
 | @cons p q ps qs h t ih=>
  rw[ZG,ZG];refine .cons ?_ ih;obtain⟨h1,h2⟩:=h;by_cases e:p.1=k
  . rw[YB e,YB (h1.symm.trans e)];exact⟨h1,ry⟩
  . rw[YA e,YA (λz=>e (h1.trans z))];exact⟨h1,h2⟩
theorem KV.put{kvs:List (κ×V)}{vs:List (κ×Value)}(r:KV kvs vs)(k:κ){y:V}{u:Value}(ry:RelV y u):KV (zW kvs k y) (stored vs k u):=by
 unfold zW stored;rw[r.any k];by_cases e:(vs.any λkv=>decide (kv.1=k))=true
 . rw[YB e,YB e];exact r.repl k ry
 . rw[YA e,YA e];exact Paired.snoc r ⟨rfl,ry⟩
theorem KV.drop{kvs:List (κ×V)}{vs:List (κ×Value)}(r:KV kvs vs)(k:κ):KV (qAw kvs k) (without vs k):=by
 unfold KV at r⊢;unfold qAw without
 induction r with
 |nil=>exact .nil
 | @cons p q ps qs h t ih=>
  obtain⟨h1,h2⟩:=h;rw[List.filter_cons,List.filter_cons];by_cases e:p.1=k
  . have a:¬decide (p.1≠k)=true:=by simp[e]
    have b:¬decide (q.1≠k)=true:=by simp[h1.symm.trans e]
    rw[YA a,YA b];exact ih
  . have e':¬q.1=k:=λz=>e (h1.trans z)
    have a:decide (p.1≠k)=true:=by simp[e]
    have b:decide (q.1≠k)=true:=by simp[e']
    rw[YB a,YB b];exact .cons ⟨h1,h2⟩ ih
theorem KV.length{kvs:List (κ×V)}{vs:List (κ×Value)}(r:KV kvs vs):kvs.length=vs.length:=Paired.length r
theorem qNq(kvs:List (κ×V))(k:κ):(qAw kvs k).length<=kvs.length:=List.length_filter_le _ _
end
theorem qK0{P:Program}{w:World}{k:Key}{u:Value}(r:RelV (kV k) u):(q9 P w).is k u=true:=by
 cases k with
 |inl i=>obtain⟨t,e⟩:=(show ∃t,u=Value.int i t from r);subst e;exact qK6 P w i t
 |inr x=>obtain⟨t,e⟩:=(show ∃t,u=Value.str x t from r);subst e;exact qLu P w x t
theorem qJ6{P:Program}{w:World}:∀{ks:List Key} {us:List Value},Vals (ks.map kV) us->ItemsAre (q9 P w) ks us
 |[],_,r=>by rw[List.map_nil]at r;cases r;exact .nil
 |k::ks,_,r=>by
  rw[ZG]at r;cases r with
  |cons h t=>exact .cons (qK0 h) (qJ6 t)
abbrev KT(H:Hp):List (List Key×V)->List (List Key×Addr×Value)->Prop:=Paired λp q=>p.1=q.1/\H q.2.1=some (.tup (p.1.map kV))/\RelV p.2 q.2.2
theorem KT.val{H:Hp}{kvs:List (List Key×V)}{xs:List (List Key×Addr×Value)}(r:KT H kvs xs)(k:List Key):RelO (x6 kvs k) ((atKey xs k).map (·.2)):=by
 induction r with
 |nil=>exact True.intro
 | @cons p q ps qs h t ih=>
  obtain⟨h1,_,h2⟩:=h;by_cases e:p.1=k
  . have e':q.1=k:=h1.symm.trans e
    have b:atKey (q::qs) k=some q.2:=by simp[atKey,List.find?_cons,e']
    rw[jZ e,b];exact h2
  . have e':¬q.1=k:=λz=>e (h1.trans z)
    have b:atKey (q::qs) k=atKey qs k:=by simp[atKey,List.find?_cons,e']
    rw[jU e,b];exact ih
theorem KT.repl{H:Hp}{kvs:List (List Key×V)}{xs:List (List Key×Addr×Value)}(r:KT H kvs xs)(k:List Key){y:V}{u:Value}(ry:RelV y u):
 KT H (kvs.map λkv=>if kv.1=k then (kv.1,y)else kv) (xs.map (putAt k u)):=by
 induction r with
 |nil=>exact .nil
 | @cons p q ps qs h t ih=>
  rw[ZG,ZG];refine .cons ?_ ih;obtain⟨h1,h2,h3⟩:=h;unfold putAt;by_cases e:p.1=k
  . rw[YB e,YB (h1.symm.trans e)];exact⟨h1,h2,ry⟩
  . rw[YA e,YA (λz=>e (h1.trans z))];exact⟨h1,h2,h3⟩
theorem KT.put{H:Hp}{kvs:List (List Key×V)}{xs:List (List Key×Addr×Value)}(r:KT H kvs xs)(k:List Key){b:Addr}{y:V}{u:Value}(hb:H b=some (.tup (k.map kV)))(ry:RelV y u):
 KT H (zW kvs k y) (storedH xs k b u):=by
 have e:(kvs.any λkv=>decide (kv.1=k))=(atKey xs k).isSome:=by rw[wH,(r.val k).isSome_eq,Option.isSome_map]
 unfold zW storedH;rw[e];by_cases q:(atKey xs k).isSome=true
 . rw[YB q,YB q];exact r.repl k ry
 . rw[YA q,YA q];exact Paired.snoc r ⟨rfl,hb,ry⟩
theorem KT.keeps{H H':Hp}{kvs:List (List Key×V)}{xs:List (List Key×Addr×Value)}(r:KT H kvs xs)(ht:∀b ys,H b=some (.tup ys)->H' b=some (.tup ys)):KT H' kvs xs:=
 Paired.mapP r λ_ _ z=>⟨z.1,ht _ _ z.2.1,z.2.2⟩
section
variable{P:Program}{w:World}{H:Hp}{h:Heap}{a:Addr}
theorem qXy{u:HO}(ok:HOk P w H h)(e:Rd H a u):ObjOk P w H h a u:=e.ok ok
theorem qLt{kvs:List (Key×V)}(ok:HOk P w H h)(e:Rd H a (.dK kvs)):kvs.length<=sizeLine/\(a==sysModules)=false/\∃vs,KV kvs vs/\h.DictOf (q9 P w) a vs:=
 show ObjOk P w H h a (.dK kvs)from qXy ok e
theorem qRh{kvs:List (Key×V)}(ok:HOk P w H h)(e:H a=some (.dK kvs)):kvs.length<=sizeLine/\(a==sysModules)=false/\∃vs,KV kvs vs/\h.DictOf (q9 P w) a vs:=qLt ok (.inl e)
theorem qKr{ks:List Key}(ok:HOk P w H h)(e:H a=some (.tup (ks.map kV))):(tupleKind (q9 P w)).is h ks a:=by obtain⟨_,its,r,o,h1,h2,n,h3⟩:=(show ObjOk P w H h a (.tup (ks.map kV))from ok a _ e);exact⟨o,its.toArray,n,h1,h2,h3,by simpa using qJ6 r⟩
theorem qRp{kvs:List (List Key×V)}(ok:HOk P w H h)(e:Rd H a (.dT kvs)):kvs.length<=sizeLine/\(a==sysModules)=false/\
 ∃xs,KT H kvs xs/\h.DictOfH (tupleKind (q9 P w)) a xs:=by
 obtain⟨z,y,xs,r,o,es,ep,h1,h2,h3,h4,h5⟩:=(show ObjOk P w H h a (.dT kvs)from qXy ok e);refine⟨z,y,xs,r,o,es,ep,h1,h2,h3,h4,λx hx=>?_,h5⟩;have all:∀{l:List (List Key×V)} {m:List (List Key×Addr×Value)},KT H l m->∀x∈m,(tupleKind (q9 P w)).is h x.1 x.2.1:=by
  intro l m q
  induction q with
  |nil=>intro x hx;exact nomatch hx
  | @cons p q ps qs hq t ih=>
   intro x hx;rcases YU.mp hx with e|hx
   . subst e
     exact qKr ok (by rw[<-hq.1];exact hq.2.1)
   . exact ih x hx
 exact all r x hx
theorem qSo{kvs:List (List Key×V)}(ok:HOk P w H h)(e:H a=some (.dT kvs)):kvs.length<=sizeLine/\(a==sysModules)=false/\
 ∃xs,KT H kvs xs/\h.DictOfH (tupleKind (q9 P w)) a xs:=qRp ok (.inl e)
end
def DGet(H:Hp)(a:Addr)(y:V)(r:Option V):Prop:=
 (∃kvs k,Rd H a (.dK kvs)/\y=kV k/\r=x6 kvs k)\/∃kvs k b,Rd H a (.dT kvs)/\y=.ref b/\H b=some (.tup (k.map kV))/\r=x6 kvs k
def DPut(H:Hp)(a:Addr)(y v:V)(H':Hp):Prop:=
 (∃kvs k,H a=some (.dK kvs)/\y=kV k/\kvs.length<sizeLine/\H'=upd H a (.dK (zW kvs k v)))\/
 ∃kvs k b,H a=some (.dT kvs)/\y=.ref b/\H b=some (.tup (k.map kV))/\kvs.length<sizeLine/\H'=upd H a (.dT (zW kvs k v))
theorem DGet.k{H:Hp}{a:Addr}{kvs:List (Key×V)}{k:Key}(e:H a=some (.dK kvs)):DGet H a (kV k) (x6 kvs k):=.inl ⟨kvs,k,.inl e,rfl,rfl⟩
theorem DPut.k{H:Hp}{a:Addr}{kvs:List (Key×V)}{k:Key}{v:V}(e:H a=some (.dK kvs))(hl:kvs.length<sizeLine):DPut H a (kV k) v (upd H a (.dK (zW kvs k v))):=.inl ⟨kvs,k,e,rfl,hl,rfl⟩
theorem DPut.t{H:Hp}{a b:Addr}{kvs:List (List Key×V)}{k:List Key}{v:V}(e:H a=some (.dT kvs))(eb:H b=some (.tup (k.map kV)))(hl:kvs.length<sizeLine):
 DPut H a (.ref b) v (upd H a (.dT (zW kvs k v))):=.inr ⟨kvs,k,b,e,rfl,eb,hl,rfl⟩
section
variable{X:Cx}{pins:List (Addr×Obj)}{σ:St}{H:Hp}{s:Shared}{a:Addr}{y v:V}{u r:Value}{o:Option V}{A:Around}{E:Value->Shared->Prop}
theorem Inv.big(I:Inv X pins σ H s):sysModules<s.heap.objs.size:=by have h:mainGlobals<s.heap.objs.size:=(I.mod.glob.keeps I.bk).lt;exact Nat.lt_trans (by decide) h
theorem qPj{Q:Value->Shared->Prop}(hu:A.units+1<cLine)(I:Inv X pins σ H s)(g:DGet H a y (some v))(ry:RelV y u)(h:∀w' s',Inv X pins σ H s'->RelV v w'->Q w' s'):
 wpAny (model X.prog X.w) A (getItem (.ref a) u) Q E s:=by
 rcases g with ⟨kvs,k,e,ey,l⟩|⟨kvs,k,b,e,ey,eb,l⟩
 . subst ey
   obtain⟨z,hd,vs,rel,dd⟩:=qLt I.hok e;obtain⟨w',hw,rw'⟩:=RelO.some_of (v:=v) (o:=valueAt vs k) (by rw[l];exact rel.val k);exact wpAny_getItem_of (qK0 ry) dd.mapOf hw (h w' _ (I.tok _) rw')
 . subst ey
   cases (show u=Value.ref b from ry);obtain⟨z,hd,xs,rel,dd⟩:=qRp I.hok e;obtain⟨w',hw,rw'⟩:=RelO.some_of (v:=v) (o:=(atKey xs k).map (·.2)) (by rw[l];exact rel.val k);obtain⟨p,hp,hp2⟩:=Option.map_eq_some_iff.mp hw;refine wpAny_getItem_heap (tupleKind_room_in1 hu) (qKr I.hok eb) dd hp ?_;rw[hp2];exact h w' _ (I.tok _) rw'
theorem qVa{Q:Value->Shared->Prop}(hu:A.units+1<cLine)(I:Inv X pins σ H s)(g:DGet H a y o)(ry:RelV y u)(h:∀s',Inv X pins σ H s'->Q (.bool (!o.isSome)) s'):
 wpAny (model X.prog X.w) A (compareOp .NotIn u (.ref a)) Q E s:=by
 rcases g with ⟨kvs,k,e,ey,l⟩|⟨kvs,k,b,e,ey,eb,l⟩
 . subst ey
   obtain⟨z,hd,vs,rel,dd⟩:=qLt I.hok e;refine wpAny_notIn_of (qK0 ry) hd dd.mapOf ?_;rw[<-(rel.val k).isSome_eq,<-l];exact h _ (I.tok _)
 . subst ey
   cases (show u=Value.ref b from ry);obtain⟨z,hd,xs,rel,dd⟩:=qRp I.hok e;refine wpAny_notIn_heap (tupleKind_room_in1 hu) (qKr I.hok eb) hd dd ?_;have q:=(rel.val k).isSome_eq;rw[Option.isSome_map]at q;rw[<-q,<-l];exact h _ (I.tok _)
theorem qBu{h':Heap}{t':Nat}{ob:HO}(I:Inv X pins σ H s)(mu:Mut (H a))(hs:Heap.SameBut a s.heap h')(he:∃q,h'.get? a=some q)(new:ObjOk X.prog X.w (upd H a ob) h' a ob):
 Inv X pins σ (upd H a ob) {s with heap:=h',toks:=t'}:=
 I.write (x:=a) (e:=a) mu (.inl rfl) (λb q hb z=>(hs.2 b hb).trans z) he new
theorem qM7{P:Program}{w:World}{H':Hp}{h':Heap}{kvs:List (Key×V)}{vs:List (Key×Value)}(z:kvs.length<=sizeLine)(hd:(a==sysModules)=false)(rel:KV kvs vs)(dd:h'.DictOf (q9 P w) a vs):
 ObjOk P w H' h' a (.dK kvs):=⟨z,hd,vs,rel,dd⟩
theorem qQw{H':Hp}{Q:Unit->Shared->Prop}(hu:A.units+1<cLine)(I:Inv X pins σ H s)(g:DPut H a y v H')(ry:RelV y u)(rv:RelV v r)(h:∀s',Inv X pins σ H' s'->Q () s'):
 wpAny (model X.prog X.w) A (setItem (.ref a) u r) Q E s:=by
 rcases g with ⟨kvs,k,e,ey,l,eH⟩|⟨kvs,k,b,e,ey,eb,l,eH⟩
 . subst ey eH
   obtain⟨z,hd,vs,rel,dd⟩:=qRh I.hok e;have hz:vs.length<=sizeLine:=by rw[<-rel.length];exact z
   have hl:(zW kvs k v).length<=sizeLine:=by have:=kJ kvs k v;omega
   refine wpAny_setItem_pairs (hsz:=hz) (qK0 ry) dd λh' dd' hs=>h _ ?_;have he:∃q,h'.get? a=some q:=let ⟨q,_,_,hq,_⟩:=dd';⟨q,hq⟩
   exact qBu I (by rw[e];exact True.intro) hs he (qM7 hl hd (rel.put k rv) dd')
 . subst ey eH
   cases (show u=Value.ref b from ry);obtain⟨z,hd,xs,rel,dd⟩:=qSo I.hok e;have hz:xs.length<=sizeLine:=by rw[<-Paired.length rel];exact z
   have hl:(zW kvs k v).length<=sizeLine:=by have:=kJ kvs k v;omega
   refine wpAny_setItem_heap (hsz:=hz) (tupleKind_room_in1 hu) (qKr I.hok eb) dd λh' dd' hs=>h _ ?_;obtain⟨q,es,ep,hq,h2,h3,h4,_,h5⟩:=dd';refine qBu I (by rw[e];exact True.intro) hs ⟨q,hq⟩ ⟨hl,hd,_,(rel.put k eb rv).keeps λc ys ec=>?_,q,es,ep,hq,h2,h3,h4,h5⟩;rw[qQ (xC ec e (λz=>nomatch z))];exact ec
end
section
variable{X:Cx}{pins:List (Addr×Obj)}{σ:St}{H:Hp}{s:Shared}{a:Addr}{kvs:List (Key×V)}{k:Key}{u:Value}{A:Around}{E:Value->Shared->Prop}
theorem qYe{v:V}{more:List Value}{Q:Value->Shared->Prop}(I:Inv X pins σ H s)(e:H a=some (.dK kvs))(ry:RelV (kV k) u)(l:x6 kvs k=some v)(hm:more=[]\/∃x,more=[x])
 (h:∀w' s',Inv X pins σ (upd H a (.dK (qAw kvs k))) s'->RelV v w'->Q w' s'):wpAny (model X.prog X.w) A (call (.builtin "dict.pop") (.ref a::u::more)) Q E s:=by
 obtain⟨z,hd,vs,rel,dd⟩:=qRh I.hok e;obtain⟨w',hw,rw'⟩:=RelO.some_of (v:=v) (o:=valueAt vs k) (by rw[<-l];exact rel.val k);have hp:(keyPart u).isSome=true:=by
  cases k with
  |inl i=>obtain⟨t,q⟩:=(show ∃t,u=Value.int i t from ry);subst q;rfl
  |inr x=>obtain⟨t,q⟩:=(show ∃t,u=Value.str x t from ry);subst q;rfl
 have ha:argsOk "dict.pop" ⟨.ref a::u::more,[]⟩:=by
  rcases hm with q|⟨x,q⟩
  . subst q;exact PySem.F.args_dict_pop_2 _ _
  . subst q;exact PySem.F.args_dict_pop_3 _ _ _
 refine call_meetsIn PySem.F.slot_dict_pop dd.typeIs PySem.F.entry_dict_pop ha (meets_dict_pop_there (q9 X.prog X.w) a (qK0 ry) more hm hp)
  ⟨vs,w',dd,by rw[<-rel.length];exact z,hw,λh' dd' hs=>h w' _ ?_ rw'⟩
 have he:∃q,h'.get? a=some q:=let ⟨q,_,_,hq,_⟩:=dd';⟨q,hq⟩
 exact qBu I (by rw[e];exact True.intro) hs he (qM7 (ZC (qNq kvs k) z) hd (rel.drop k) dd')
theorem qX6{r:Value}{Q:Value->Shared->Prop}(I:Inv X pins σ H s)(e:H a=some (.dK kvs))(ry:RelV (kV k) u)(l:x6 kvs k=none)(h:∀s',Inv X pins σ H s'->Q r s'):
 wpAny (model X.prog X.w) A (call (.builtin "dict.pop") [.ref a,u,r]) Q E s:=by
 obtain⟨z,hd,vs,rel,dd⟩:=qRh I.hok e;have hn:valueAt vs k=none:=RelO.none_of (by rw[<-l];exact rel.val k);have hp:(keyPart u).isSome=true:=by
  cases k with
  |inl i=>obtain⟨t,q⟩:=(show ∃t,u=Value.int i t from ry);subst q;rfl
  |inr x=>obtain⟨t,q⟩:=(show ∃t,u=Value.str x t from ry);subst q;rfl
 exact call_meetsIn PySem.F.slot_dict_pop dd.typeIs PySem.F.entry_dict_pop (PySem.F.args_dict_pop_3 _ _ _) (meets_dict_pop_default (q9 X.prog X.w) a (qK0 ry) hd hp r) ⟨vs,dd,hn,h _ (I.tok _)⟩
theorem qZh{Q:Value->Shared->Prop}(I:Inv X pins σ H s)(e:Rd H a (.dK kvs))(h:∀t s',Inv X pins σ H s'->Q (.int kvs.length t) s'):wpAny (model X.prog X.w) A (call (.builtin "len") [.ref a]) Q E s:=by obtain⟨z,hd,vs,rel,dd⟩:=qLt I.hok e;refine call_len_dict hd dd (by rw[<-rel.length];rw[sizeLine_eq]at z;omega) ?_;rw[<-rel.length];exact h _ _ (I.tok _)
end
def qZq(i:Expr):Prop:= ∀ov iv,subscripted i false ov iv=operate [ov,iv] (getItem ov iv)
theorem qUm{prog:Program}{w:World}{A:Around}{E:Value->Shared->Prop}{s:Shared}{env:Env}{value slice:Expr}{pos:Pos}{T id:String}{Q:Value->Shared->Prop}
 (hl:typeLookup (.type T) "__getitem__"=pure (some (.builtin id))) (hs:qZq slice)
 (h:wpAny (model prog w) A (eval value env) (λo s₁=>wpAny (model prog w) A (eval slice env) (λi s₂=>s₂.TypeIs o T/\wpAny (model prog w) A (getItem o i) Q E s₂) E s₁) E s):
 wpAny (model prog w) A (eval (.Subscript value slice pos) env) Q E s:=by
 refine Subscript_ (YL h (λo s₁ h₁=>YL h₁ (λi s₂ h₂=>?_) λ_ _ x=>x) λ_ _ x=>x);obtain⟨hT,h₂⟩:=h₂;unfold subscriptTail;refine YJ ?_;rw[getitemInPython_of_ne hT.not_modules];refine YJ (wpAny_specialOf hT hl ?_);have fin:wpAny (model prog w) A (subscripted slice false o i) (λr s₃=>wpAny (model prog w) A (letTemporaryGo value o r>>=λ_=>pure r) Q E s₃) E s₂:=by rw[hs o i];exact wpAny_operating (YL h₂ (λr s₃ h₃=>YJ (wpAny_letTemporaryGo (YK h₃))) λ_ _ x=>x)
 first
  |exact YK (YJ fin)
  |exact YJ (YK (YJ fin))
  |exact YJ fin
theorem qMa{X:Cx}{pins:List (Addr×Obj)}{σ:St}{H:Hp}{s:Shared}{a:Addr}{y:V}{o:Option V}(I:Inv X pins σ H s)(g:DGet H a y o):s.TypeIs (.ref a) "dict":=by
 rcases g with ⟨kvs,k,e,_,_⟩|⟨kvs,k,b,e,_,_,_⟩
 . obtain⟨_,_,vs,_,dd⟩:=qLt I.hok e
   exact dd.typeIs
 . obtain⟨_,_,xs,_,dd⟩:=qRp I.hok e
   exact dd.typeIs
def qUy(td ty:TE):TE:=λσ H Q=>td σ H λx H1=>ty σ H1 λy H2=> ∃a v,x=.ref a/\DGet H2 a y (some v)/\Q v H2
def qLs(ty td:TE):TE:=λσ H Q=>ty σ H λy H1=>td σ H1 λx H2=> ∃a o,x=.ref a/\DGet H2 a y o/\Q (.bl (!o.isSome)) H2
def qY3(td ty tv:TE):TS:=λD σ H=>tv σ H λv H1=>td σ H1 λx H2=>ty σ H2 λy H3=> ∃a H4,x=.ref a/\DPut H3 a y v H4/\D.nx σ H4
section
variable{X:Cx}{o i e value:Expr}{pos pos' tpos:Pos}{td ty tv:TE}
theorem kh(hu:X.A.units+1<cLine)(ho:PE X o td)(hi:PE X i ty)(hs:qZq i):PE X (.Subscript o i pos) (qUy td ty):=by intro pins s σ H Q I h;refine qUm PySem.F.slot_dict_getitem.lookup hs (thn (ho pins s σ H _ I h) λu s1 ⟨x,H1,I1,rx,q1⟩=>thn (hi pins s1 σ H1 _ I1 q1) λiv s2 ⟨y,H2,I2,ry,a,v,ex,g,q2⟩=>?_);subst ex;obtain rfl:u=Value.ref a:=rx;exact⟨qMa I2 g,qPj hu I2 g ry λw' s3 I3 rw'=>⟨v,H2,I3,rw',q2⟩⟩
theorem qA5(hu:X.A.units+1<cLine)(hi:PE X i ty)(ho:PE X o td):PC X .NotIn i o (qLs ty td):=by intro pins s σ H Q I h;refine thn (hi pins s σ H _ I h) λiv s1 ⟨y,H1,I1,ry,q1⟩=>thn (ho pins s1 σ H1 _ I1 q1) λu s2 ⟨x,H2,I2,rx,a,ov,ex,g,q2⟩=>?_;subst ex;obtain rfl:u=Value.ref a:=rx;exact qVa hu I2 g ry λs3 I3=>⟨.bl (!ov.isSome),H2,I3,O,q2⟩
theorem qL5(hu:X.A.units+1<cLine)(ho:PE X o td)(hi:PE X i ty)(hv:PE X value tv)(hs:swapsWith value (some (.Subscript o i pos')) pos.line X.env=pure false):
 PS X (.Assign [.Subscript o i pos'] value pos) (qY3 td ty tv):=by
 intro pins s σ H D I h;refine wpAny_Assign_Subscript (thn (hv pins s σ H _ I h) λr s1 ⟨v,H1,I1,rv,q1⟩=>thn (ho pins s1 σ H1 _ I1 q1) λu s2 ⟨x,H2,I2,rx,q2⟩=>thn (hi pins s2 σ H2 _ I2 q2) λiv s3 ⟨y,H3,I3,ry,a,H4,ex,g,q3⟩=>?_) hs;subst ex;obtain rfl:u=Value.ref a:=rx;exact qQw hu I3 g ry rv λs4 I4=>⟨σ,H4,I4,q3⟩
end
theorem qNm{P:Program}{w:World}{H:Hp}(h:Heap)(hb:sysModules<h.objs.size):ObjOk P w H (h.push {cls:=.type "dict",data:=.dict #[]}) h.objs.size (.dK []):=
 ⟨ZP _,beq_eq_false_iff_ne.mpr (ZF (Yo hb)),[],.nil,Heap.DictOf.new h⟩
theorem qTp{P:Program}{w:World}{H:Hp}(h:Heap)(hb:sysModules<h.objs.size):ObjOk P w H (h.push {cls:=.type "dict",data:=.dict #[]}) h.objs.size (.dT []):=
 ⟨ZP _,beq_eq_false_iff_ne.mpr (ZF (Yo hb)),[],.nil,_,#[],0,Yn _ rfl,⟨rfl,rfl,rfl⟩,rfl,rfl,List.nodup_nil⟩
def qWk:TE:=λ_ H Q=> ∀p,H p=none->Q (.ref p) (upd H p (.dK []))
def qWv:TE:=λ_ H Q=> ∀p,H p=none->Q (.ref p) (upd H p (.dT []))
section
variable{X:Cx}{pos:Pos}
theorem qHt:PE X (.Dict [] [] pos) qWk:=λpins s σ H Q I h=>
 wpAny_Dict_empty ⟨.ref s.heap.objs.size,_,I.laid (a:=s.heap.objs.size) (o:=.dK []) (t':=s.toks) (λ_ _ q=>YM _ q) (YI _) (qNm s.heap I.big),rfl,h _ (I.hok.fresh (YI _))⟩
theorem qTh:PE X (.Dict [] [] pos) qWv:=λpins s σ H Q I h=>
 wpAny_Dict_empty ⟨.ref s.heap.objs.size,_,I.laid (a:=s.heap.objs.size) (o:=.dT []) (t':=s.toks) (λ_ _ q=>YM _ q) (YI _) (qTp s.heap I.big),rfl,h _ (I.hok.fresh (YI _))⟩
end
def qPo:List (TE×TE)->St->Hp->(List (V×V)->Hp->Prop)->Prop
 |[],_,H,Q=>Q [] H
 |(tk,tv)::r,σ,H,Q=>tk σ H λx H1=>tv σ H1 λy H2=>qPo r σ H2 λps H3=>Q ((x,y)::ps) H3
abbrev VV:List (V×V)->List (Value×Value)->Prop:=Paired λp q=>RelV p.1 q.1/\RelV p.2 q.2
def PPs(X:Cx)(pos:Pos)(keys:List (Option Expr))(values:List Expr)(trs:List (TE×TE)):Prop:=
 ∀(pins:List (Addr×Obj)) (s:Shared) (σ:St) (H:Hp) (Q:List (V×V)->Hp->Prop),Inv X pins σ H s->qPo trs σ H Q->
  wpAny (model X.prog X.w) X.A (evalPairs (pairTrees keys values X.env pos)) (λvs s'=> ∃ps H',Inv X pins σ H' s'/\VV ps vs/\Q ps H') X.xe s
theorem qPn{X:Cx}{pos:Pos}:PPs X pos [] [] []:=λpins s σ H Q I h=>pairTrees_nil_walk ⟨[],H,I,.nil,h⟩
theorem qAy{X:Cx}{pos:Pos}{k v:Expr}{ks:List (Option Expr)}{vs:List Expr}{tk tv:TE}{trs:List (TE×TE)}(hk:PE X k tk)(hv:PE X v tv)(hr:PPs X pos ks vs trs):
 PPs X pos (some k::ks) (v::vs) ((tk,tv)::trs):=λpins s σ H Q I h=>
 pairTrees_cons_walk (thn (hk pins s σ H _ I h) λu s1 ⟨x,H1,I1,rx,q1⟩=>thn (hv pins s1 σ H1 _ I1 q1) λw2 s2 ⟨y,H2,I2,ry,q2⟩=>
  thn (hr pins s2 σ H2 _ I2 q2) λws s3 ⟨ps,H3,I3,rel,q3⟩=>⟨(x,y)::ps,H3,I3,.cons ⟨rx,ry⟩ rel,q3⟩)
noncomputable def qFa(kvs more:List (Key×V)):List (Key×V):=more.foldl (λacc kv=>zW acc kv.1 kv.2) kvs
theorem KV.merge:∀{more:List (Key×V)} {rs:List (Key×Value)} {kvs:List (Key×V)} {vs:List (Key×Value)},KV more rs->KV kvs vs->KV (qFa kvs more) (merged vs rs):=by
 intro more rs kvs vs r;unfold KV at r
 induction r generalizing kvs vs with
 |nil=>intro q;exact q
 | @cons p q ps qs h t ih=>
  intro r0;have e:KV (zW kvs p.1 p.2) (stored vs q.1 q.2):=by have:=r0.put p.1 h.2;rw[<-h.1];exact this
  exact ih e
theorem qAv:∀(more kvs:List (Key×V)),(qFa kvs more).length<=kvs.length+more.length
 |[],kvs=>by show kvs.length<=kvs.length+0;omega
 |p::r,kvs=>by have h1:=qAv r (zW kvs p.1 p.2);have h2:=kJ kvs p.1 p.2;show (qFa (zW kvs p.1 p.2) r).length<=_;rw[YE];omega
theorem qGn{P:Program}{w:World}:∀{kvs:List (Key×V)} {ws:List (Value×Value)},VV (kvs.map λkv=>(kV kv.1,kv.2)) ws->∃rs,Carries (q9 P w) ws rs/\KV kvs rs
 |[],_,r=>by rw[List.map_nil]at r;cases r;exact⟨[],True.intro,.nil⟩
 |p::kvs,_,r=>by
  rw[ZG]at r;cases r with
  | @cons a b as bs h t=>
   obtain⟨rs,c,q⟩:=qGn (P:=P) (w:=w) t;obtain⟨b1,b2⟩:=b;exact⟨(p.1,b2)::rs,⟨qK0 h.1,O,c⟩,.cons ⟨O,h.2⟩ q⟩
def qYx(trs:List (TE×TE)):TE:=λσ H Q=> ∀p,H p=none->qPo trs σ (upd H p (.dK [])) λps H2=>H2 p=some (.dK [])/\∃kvs:List (Key×V),ps=kvs.map (λkv=>(kV kv.1,kv.2))/\kvs.length<=15/\Q (.ref p) (upd H2 p (.dK (qFa [] kvs)))
theorem qQ4{X:Cx}{pos:Pos}{keys:List (Option Expr)}{values:List Expr}{trs:List (TE×TE)}(h:PPs X pos keys values trs)(hall:keys.all (·.isSome)=true)(hl:keys.length=values.length)(h0:keys≠[])
 (h15:keys.length<=15):PE X (.Dict keys values pos) (qYx trs):=by
 intro pins s σ H Q I q;have hn:=I.hok.fresh (YI s.heap.objs.size);have I1:=I.laid (a:=s.heap.objs.size) (o:=.dK []) (h':=s.heap.push {cls:=.type "dict",data:=.dict #[]}) (t':=s.toks) (λ_ _ q=>YM _ q) (YI _) (qNm s.heap I.big);refine wpAny_Dict_walk (knd:=q9 X.prog X.w) hall hl h0 h15 (thn (h pins _ σ _ _ I1 (q _ hn)) λws s2 ⟨ps,H2,I2,rel,e,kvs,ep,lk,q2⟩=>?_);subst ep;obtain⟨rs,c,rk⟩:=qGn (P:=X.prog) (w:=X.w) rel;obtain⟨z,hd,vs0,r0,dd⟩:=qRh I2.hok e;cases r0;refine⟨rs,c,dd,λh' dd' hs=>⟨.ref s.heap.objs.size,_,?_,O,q2⟩⟩;have hz:(qFa [] kvs).length<=sizeLine:=by have h1:=qAv kvs [];rw[ZM]at h1;rw[sizeLine_eq];omega
 have he:∃q,h'.get? s.heap.objs.size=some q:=let ⟨q,_,_,hq,_⟩:=dd';⟨q,hq⟩
 exact qBu I2 (by rw[e];exact True.intro) hs he (qM7 hz hd (rk.merge .nil) dd')
structure M1(X:Cx)(o:Expr)(m:Str)(apos:Pos)(e:Expr)(cpos:Pos):Prop where
 base:attributeBase o m X.env (eval o X.env)=eval o X.env
 few:((backTo cpos (starEach [e] X.env)).all (λx=>!x.1) && (backToKw cpos (keywordEach [] X.env)).all (λx=>x.1.isSome)
  && decide (([e]:List Expr).length+([]:List Keyword).length+(if ([]:List Keyword).isEmpty then 0 else 1)<30))=true
 line:(apos.endLine==cpos.line)=true
 trees:backTo cpos (starEach [e] X.env)=[(false,eval e X.env)]
structure M2(X:Cx)(o:Expr)(m:Str)(apos:Pos)(e f:Expr)(cpos:Pos):Prop where
 base:attributeBase o m X.env (eval o X.env)=eval o X.env
 few:((backTo cpos (starEach [e,f] X.env)).all (λx=>!x.1) && (backToKw cpos (keywordEach [] X.env)).all (λx=>x.1.isSome)
  && decide (([e,f]:List Expr).length+([]:List Keyword).length+(if ([]:List Keyword).isEmpty then 0 else 1)<30))=true
 line:(apos.endLine==cpos.line)=true
 trees:backTo cpos (starEach [e,f] X.env)=[(false,eval e X.env),(false,eval f X.env)]
def IsD(H:Hp)(a:Addr):Prop:=(∃kvs,Rd H a (.dK kvs))\/∃kvs,Rd H a (.dT kvs)
theorem qQc{X:Cx}{pins:List (Addr×Obj)}{σ:St}{H:Hp}{s:Shared}{a:Addr}(I:Inv X pins σ H s)(d:IsD H a):
 s.TypeIs (.ref a) "dict"/\(∀b,Value.ref a=.ref b->∃ob,s.heap.get? b=some ob/\ob.dict=none)/\(a==sysModules)=false:=by
 rcases d with ⟨kvs,e⟩|⟨kvs,e⟩
 . obtain⟨_,hd,vs,_,dd⟩:=qLt I.hok e
   refine⟨dd.typeIs,λb q=>?_,hd⟩;cases q;obtain⟨ob,_,_,h1,h2,_⟩:=dd;exact⟨ob,h1,h2.2.1⟩
 . obtain⟨_,hd,xs,_,dd⟩:=qRp I.hok e
   refine⟨dd.typeIs,λb q=>?_,hd⟩;cases q;obtain⟨ob,_,_,h1,h2,_⟩:=dd;exact⟨ob,h1,h2.2.1⟩
def qWy(td ty tx:TE):TE:=λσ H Q=>td σ H λx H1=> ∃a,x=.ref a/\IsD H1 a/\ty σ H1 λy H2=>tx σ H2 λz H3=> ∃kvs k,H3 a=some (.dK kvs)/\y=kV k/\
 (∀v,x6 kvs k=some v->Q v (upd H3 a (.dK (qAw kvs k))))/\(x6 kvs k=none->Q z H3)
section
variable{X:Cx}{o e f:Expr}{apos cpos:Pos}{td ty tx:TE}
theorem qSd(ho:PE X o td)(he:PE X e ty)(hf:PE X f tx)(m:M2 X o "pop" apos e f cpos):PE X (.Call (.Attribute o "pop" apos) [e,f] [] cpos) (qWy td ty tx):=by
 intro pins s σ H Q I h;refine wpAny_Call_method m.base m.few m.line PySem.F.plainAttrs_dict PySem.F.slot_dict_pop PySem.F.type_dict_pop (thn (ho pins s σ H _ I h) λu s1 ⟨x,H1,I1,rx,a,ex,d,q1⟩=>?_);subst ex;obtain rfl:u=Value.ref a:=rx;obtain⟨t1,t2,_⟩:=qQc I1 d;refine⟨t1,t2,?_⟩;rw[m.trees];refine Calls.callWith_builtin rfl (Calls.evalArgs_plain (Calls.spliced_cons (thn (he pins s1 σ H1 _ I1 q1) λiv s2 ⟨y,H2,I2,ry,q2⟩=>
  Calls.spliced_cons (thn (hf pins s2 σ H2 _ I2 q2) λfv s3 ⟨z,H3,I3,rz,kvs,k,ea,ey,q3,q4⟩=>Calls.spliced_nil ?_))))
 subst ey;cases l:x6 kvs k with
 |some v=>exact qYe I3 ea ry l (.inr ⟨fv,rfl⟩) λw' s4 I4 rw'=>⟨v,_,I4,rw',q3 v l⟩
 |none=>exact qX6 I3 ea ry l λs4 I4=>⟨z,H3,I4,rz,q4 l⟩
end
section
variable{X:Cx}
theorem qRn:zD X (.builtin "len") (λxs H Q=> ∃a kvs,xs=[V.ref a]/\H a=some (.dK kvs)/\Q (.int kvs.length) H):=by intro pins s σ H xs us Q I r h;obtain⟨a,kvs,rfl,ha,q⟩:=h;obtain⟨u,rfl,ru⟩:=qE9 r;cases ru;exact qZh I (.inl ha) λt s' I'=>⟨.int kvs.length,H,I',⟨t,O⟩,q⟩
end
section
variable{κ:Type} [DecidableEq κ]
theorem qM0{kvs:List (κ×V)}{k:κ}(h:x6 kvs k=none):¬k∈kvs.map (·.1):=by intro m;obtain⟨p,hp,e⟩:=List.mem_map.mp m;have q:(kvs.any λkv=>decide (kv.1=k))=true:=List.any_eq_true.mpr ⟨p,hp,YX e⟩;rw[wH,h]at q;exact YC q (by simp)
end
end L2
namespace Mt
theorem qVi(a b:Int):a.fmod b=a-b*a.fdiv b:=by have:=Int.fmod_add_mul_fdiv a b;omega
theorem qS0(a b:Int):Int.gcd b (a.fmod b)=Int.gcd a b:=by
 apply Nat.dvd_antisymm
 . refine Int.dvd_gcd ?_ (Int.gcd_dvd_left b (a.fmod b))
   have h1:((Int.gcd b (a.fmod b):Nat):Int)∣b:=Int.gcd_dvd_left ..;have h2:((Int.gcd b (a.fmod b):Nat):Int)∣a.fmod b:=Int.gcd_dvd_right ..;have h3:=Int.dvd_add h2 (Int.dvd_trans h1 (Int.dvd_mul_right b (a.fdiv b)));have e:a.fmod b+b*a.fdiv b=a:=Int.fmod_add_mul_fdiv a b
   rwa [e]at h3
 . refine Int.dvd_gcd (Int.gcd_dvd_right ..) ?_
   rw[qVi];exact Int.dvd_sub (Int.gcd_dvd_left ..) (Int.dvd_trans (Int.gcd_dvd_right ..) (Int.dvd_mul_right ..))
theorem qV4(a b:Int)(h:b≠0):(a.fmod b).natAbs<b.natAbs:=by
 rcases Int.lt_or_gt_of_ne h with h|h
 . have h1:=Int.fmod_lt_of_pos (-a) (show 0< -b by omega)
   have h2:=Int.fmod_nonneg_of_pos (-a) (show 0< -b by omega);rw[Int.neg_fmod_neg]at h1 h2;omega
 . have h1:=Int.fmod_lt_of_pos a h
   have h2:=Int.fmod_nonneg_of_pos a h;omega
noncomputable def sg(t b:Int):Int:=if b<0 then-((Int.gcd t b:Nat):Int)else ((Int.gcd t b:Nat):Int)
noncomputable def xX(t b:Int):Int:=t.fdiv (sg t b)
noncomputable def j6(t b:Int):Int:=b.fdiv (sg t b)
theorem qB0{t b:Int}(h:b≠0):0<Int.gcd t b:=by
 rcases Nat.eq_zero_or_pos (Int.gcd t b)with z|z
 . rw[Int.gcd_eq_zero_iff]at z
   exact YC z.2 h
 . exact z
theorem qY0{t b:Int}(h:b≠0):sg t b≠0:=by have:=qB0 (t:=t) h;unfold sg;split <;> omega
theorem qTg(t b:Int):sg t b∣t:=by
 unfold sg;split
 . exact Int.neg_dvd.mpr (Int.gcd_dvd_left ..)
 . exact Int.gcd_dvd_left ..
theorem qR6(t b:Int):sg t b∣b:=by
 unfold sg;split
 . exact Int.neg_dvd.mpr (Int.gcd_dvd_right ..)
 . exact Int.gcd_dvd_right ..
theorem qNc(t b:Int):(sg t b).natAbs=Int.gcd t b:=by unfold sg;split <;> omega
theorem qSq(t b:Int):xX t b*sg t b=t:=Int.fdiv_mul_cancel (qTg t b)
theorem qPb(t b:Int):j6 t b*sg t b=b:=Int.fdiv_mul_cancel (qR6 t b)
theorem zr{t b:Int}(h:b≠0):0<j6 t b:=by
 have e:=qPb t b;have g:=qB0 (t:=t) h;by_cases hb:b<0
 . have s:sg t b=-((Int.gcd t b:Nat):Int):=by unfold sg;rw[YB hb]
   rw[s]at e;rcases Int.lt_trichotomy (j6 t b) 0 with z|z|z
   . have:=Int.mul_pos_of_neg_of_neg z (show-((Int.gcd t b:Nat):Int)<0 by omega)
     omega
   . rw[z]at e;omega
   . exact z
 . have s:sg t b=((Int.gcd t b:Nat):Int):=by unfold sg;rw[YA hb]
   rw[s]at e;rcases Int.lt_trichotomy (j6 t b) 0 with z|z|z
   . have:=Int.mul_neg_of_neg_of_pos z (show 0<((Int.gcd t b:Nat):Int) by omega)
     omega
   . rw[z]at e;omega
   . exact z
theorem qL0{t b:Int}(h:b≠0):Int.gcd (xX t b) (j6 t b)=1:=by
 have e:=Int.gcd_mul_right (xX t b) (sg t b) (j6 t b);rw[qSq,qPb,qNc]at e;have g:=qB0 (t:=t) h;have e':1*Int.gcd t b=(xX t b).gcd (j6 t b)*Int.gcd t b:=by omega
 exact(Nat.eq_of_mul_eq_mul_right g e').symm
theorem vo(t b:Int):xX t b*b=t*j6 t b:=by
 have e1:=qSq t b;have e2:=qPb t b
 calc xX t b*b=xX t b*(j6 t b*sg t b):=by rw[e2]
  _=(xX t b*sg t b)*j6 t b:=by rw[ZI (j6 t b),Yi]
  _=t*j6 t b:=by rw[e1]
theorem qHo{t b:Int}(h:b≠0):(xX t b).natAbs<=t.natAbs:=by have e:=congrArg Int.natAbs (qSq t b);rw[Int.natAbs_mul,qNc]at e;have g:=qB0 (t:=t) h;rw[<-e];exact Nat.le_mul_of_pos_right _ g
theorem wE{t b:Int}(h:b≠0):(j6 t b).natAbs<=b.natAbs:=by have e:=congrArg Int.natAbs (qPb t b);rw[Int.natAbs_mul,qNc]at e;have g:=qB0 (t:=t) h;have:=Nat.le_mul_of_pos_right (j6 t b).natAbs g;omega
theorem qU4{p q p' q':Int}(hq:0<q)(hq':0<q')(g:Int.gcd p q=1)(g':Int.gcd p' q'=1)(c:p*q'=p'*q):p=p'/\q=q':=by
 have d1:q∣q':=by
  have h:q∣p*q':=by rw[c];exact Int.dvd_mul_left ..
  have n:q.natAbs∣p.natAbs*q'.natAbs:=by
   have:=Int.natAbs_dvd_natAbs.mpr h
   rwa [Int.natAbs_mul]at this
  have co:Nat.Coprime q.natAbs p.natAbs:=by show Nat.gcd q.natAbs p.natAbs=1;rw[Nat.gcd_comm];exact g
  exact Int.natAbs_dvd_natAbs.mp (Nat.Coprime.dvd_of_dvd_mul_left co n)
 have d2:q'∣q:=by
  have h:q'∣p'*q:=by rw[<-c];exact Int.dvd_mul_left ..
  have n:q'.natAbs∣p'.natAbs*q.natAbs:=by
   have:=Int.natAbs_dvd_natAbs.mpr h
   rwa [Int.natAbs_mul]at this
  have co:Nat.Coprime q'.natAbs p'.natAbs:=by show Nat.gcd q'.natAbs p'.natAbs=1;rw[Nat.gcd_comm];exact g'
  exact Int.natAbs_dvd_natAbs.mp (Nat.Coprime.dvd_of_dvd_mul_left co n)
 have e:q=q':=by have h1:=Int.le_of_dvd hq' d1;have h2:=Int.le_of_dvd hq d2;omega
 subst e;exact⟨ZT (by omega) c,O⟩
theorem qNe{t b p q:Int}(h:b≠0)(hq:0<q)(g:Int.gcd p q=1)(c:p*b=t*q):xX t b=p/\j6 t b=q:=by
 have e:=vo t b;have k:xX t b*q=p*j6 t b:=by
  have:(xX t b*q)*b=(p*j6 t b)*b:=by
   calc (xX t b*q)*b=(xX t b*b)*q:=by rw[Yi,ZI q b,<-Yi]
    _=(t*j6 t b)*q:=by rw[e]
    _=(t*q)*j6 t b:=by rw[Yi,ZI (j6 t b) q,<-Yi]
    _=(p*b)*j6 t b:=by rw[c]
    _=(p*j6 t b)*b:=by rw[Yi,ZI b,<-Yi]
  exact ZT h this
 exact qU4 (zr h) hq (qL0 h) g k
theorem qNn{p q:Int}(hq:0<q)(g:Int.gcd p q=1):xX p q=p/\j6 p q=q:=qNe (by omega) hq g rfl
theorem jW{p q:Int}(hq:0<q):p.fdiv q*q<=p/\p<(p.fdiv q+1)*q:=by
 have e:=Int.fmod_add_mul_fdiv p q;have h1:=Int.fmod_nonneg_of_pos p hq;have h2:=Int.fmod_lt_of_pos p hq;have c:q*p.fdiv q=p.fdiv q*q:=ZI ..;have d:(p.fdiv q+1)*q=p.fdiv q*q+q:=by rw[Int.add_mul,Int.one_mul]
 omega
theorem qBq{A B C D:Int}(hB:0<B)(hD:0<D)(h:A*D=C*B):A.fdiv B=C.fdiv D:=by
 obtain⟨h1,h2⟩:=jW (p:=A) hB;obtain⟨h3,h4⟩:=jW (p:=C) hD;generalize A.fdiv B=f at h1 h2⊢;generalize C.fdiv D=g at h3 h4⊢;have k1:f*B*D<=A*D:=Ym h1 (by omega);have k2:C*B<(g+1)*D*B:=Int.mul_lt_mul_of_pos_right h4 hB;have k3:g*D*B<=C*B:=Ym h3 (by omega);have k4:A*D<(f+1)*B*D:=Int.mul_lt_mul_of_pos_right h2 hD;have p:=Yt hB hD;have e1:f*(B*D)<(g+1)*(B*D):=by grind
 have e2:g*(B*D)<(f+1)*(B*D):=by grind
 have:=Yq e1 (by omega);have:=Yq e2 (by omega);omega
noncomputable def plP(p q r s k:Int):Int:=xX (p*s+k*r*q) (q*s)
noncomputable def plQ(p q r s k:Int):Int:=j6 (p*s+k*r*q) (q*s)
theorem qJq{p q r s k:Int}(hq:0<q)(hs:0<s):0<plQ p q r s k:=zr (Int.ne_of_gt (Yt hq hs))
theorem qP8{p q r s k:Int}(hq:0<q)(hs:0<s):Int.gcd (plP p q r s k) (plQ p q r s k)=1:=qL0 (Int.ne_of_gt (Yt hq hs))
theorem qIc(p q r s k:Int):plP p q r s k*(q*s)=(p*s+k*r*q)*plQ p q r s k:=vo _ _
theorem qHk{p q r s:Int}(hq:0<q)(hs:0<s)(g:Int.gcd p q=1):plP p q r s 0=p/\plQ p q r s 0=q:=by
 refine qNe (Int.ne_of_gt (Yt hq hs)) hq g ?_
 grind
theorem qV5{p q r s k:Int}(hq:0<q)(hs:0<s):(plP p q r s k).natAbs<=(p*s+k*r*q).natAbs:=qHo (Int.ne_of_gt (Yt hq hs))
theorem qUl{p q r s k:Int}(hq:0<q)(hs:0<s):(plQ p q r s k).natAbs<=(q*s).natAbs:=wE (Int.ne_of_gt (Yt hq hs))
def InR(N D m:Int):Prop:=0<=N/\N<m*D
theorem qEw{N D m:Int}(hD:0<D):InR N D m↔(0<=N.fdiv D/\N.fdiv D<m):=by
 obtain⟨h1,h2⟩:=jW (p:=N) hD;generalize N.fdiv D=f at h1 h2⊢;unfold InR;constructor
 . rintro⟨a,b⟩
   constructor
   . have:0*D<(f+1)*D:=by rw[Int.zero_mul];omega
     have:=Yq this (by omega);omega
   . exact Yq (a:=D) (by omega) (by omega)
 . rintro⟨a,b⟩
   constructor
   . have:=Int.mul_nonneg a (by omega:0<=D)
     omega
   . have:(f+1)*D<=m*D:=Ym (by omega) (by omega)
     omega
theorem qJ2{X Y E D m:Int}(hE:0<E)(hD:0<D)(h:X*D=Y*E):InR X E m↔InR Y D m:=by rw[qEw hE,qEw hD,qBq hE hD h]
noncomputable def z9(N R D m:Int):Int:=
 if R=0 then 1000000 else if ¬(0<=N.fdiv D/\N.fdiv D<m)then 0
 else if 1000000<(if R<0 then N.fdiv (-R)+1 else-((N-m*D).fdiv R))then 1000000 else (if R<0 then N.fdiv (-R)+1 else-((N-m*D).fdiv R))
theorem qTx{N R D m:Int}(hR:R<0)(h:InR N D m):1<=N.fdiv (-R)+1/\(∀j,0<=j->j<N.fdiv (-R)+1->InR (N+j*R) D m)/\¬InR (N+(N.fdiv (-R)+1)*R) D m:=by
 obtain⟨h1,h2⟩:=jW (p:=N) (q:= -R) (by omega);have f0:0<=N.fdiv (-R):=Int.fdiv_nonneg h.1 (by omega);generalize N.fdiv (-R)=f at h1 h2 f0⊢;refine⟨by omega,λj j0 j1=>?_,?_⟩
 . have k1:j*(-R)<=f*(-R):=Ym (by omega) (by omega)
   have k2:0<=j*(-R):=Int.mul_nonneg j0 (by omega);have e:j*R=-(j*(-R)):=by grind
   obtain⟨a,b⟩:=h;exact⟨by omega,by omega⟩
 . intro z
   have e:(f+1)*R=-((f+1)*(-R)):=by grind
   have:=z.1;omega
theorem qTv{N R D m:Int}(hR:0<R)(h:InR N D m):1<=-((N-m*D).fdiv R)/\(∀j,0<=j->j< -((N-m*D).fdiv R)->InR (N+j*R) D m)/\¬InR (N+ -((N-m*D).fdiv R)*R) D m:=by
 obtain⟨h1,h2⟩:=jW (p:=N-m*D) hR;obtain⟨a,b⟩:=h;generalize (N-m*D).fdiv R=f at h1 h2⊢;have f0:f<0:=by
  have:f*R<0*R:=by rw[Int.zero_mul];omega
  exact Yq this (by omega)
 refine⟨by omega,λj j0 j1=>?_,?_⟩
 . have k1:(j+f+1)*R<=0*R:=Ym (by omega) (by omega)
   have k2:0<=j*R:=Int.mul_nonneg j0 (by omega);have e:(j+f+1)*R=j*R+(f+1)*R:=by grind
   rw[Int.zero_mul]at k1;exact⟨by omega,by omega⟩
 . intro z
   have:=z.2;have e: -f*R=-(f*R):=by grind
   omega
theorem qUz{N R D m:Int}(hD:0<D)(h0:R=0->InR N D m):0<=z9 N R D m/\z9 N R D m<=1000000/\(∀j,0<=j->j<z9 N R D m->InR (N+j*R) D m)/\(z9 N R D m<1000000->¬InR (N+z9 N R D m*R) D m)/\(R=0->z9 N R D m=1000000):=by
 unfold z9;by_cases hR:R=0
 . rw[YB hR]
   refine⟨by decide,by decide,λj _ _=>?_,λz=>YC z (by decide),λ_=>rfl⟩;rw[hR,Int.mul_zero,Yc];exact h0 hR
 rw[YA hR];by_cases hi:InR N D m
 . rw[YA (by rw[Classical.not_not];exact(qEw hD).mp hi)]
   have key:∀g:Int,1<=g->(∀j,0<=j->j<g->InR (N+j*R) D m)->¬InR (N+g*R) D m->
    0<=(if 1000000<g then 1000000 else g)/\(if 1000000<g then 1000000 else g)<=1000000/\(∀j,0<=j->j<(if 1000000<g then 1000000 else g)->InR (N+j*R) D m)/\((if 1000000<g then 1000000 else g)<1000000->¬InR (N+(if 1000000<g then 1000000 else g)*R) D m):=by
    intro g g1 g2 g3;by_cases hg:1000000<g
    . rw[YB hg]
      exact⟨by decide,by decide,λj a b=>g2 j a (by omega),λz=>YC z (by decide)⟩
    . rw[YA hg]
      exact⟨by omega,by omega,g2,λ_=>g3⟩
   have fin:∀{A B C D':Prop},A/\B/\C/\D'->A/\B/\C/\D'/\(R=0->(if 1000000<(if R<0 then N.fdiv (-R)+1 else-((N-m*D).fdiv R))then (1000000:Int)else (if R<0 then N.fdiv (-R)+1 else-((N-m*D).fdiv R)))=1000000):=λ⟨a,b,c,d⟩=>⟨a,b,c,d,λz=>YC z hR⟩;refine fin ?_;by_cases hn:R<0
   . rw[YB hn]
     obtain⟨a,b,c⟩:=qTx hn hi;exact key _ a b c
   . rw[YA hn]
     obtain⟨a,b,c⟩:=qTv (by omega:0<R) hi;exact key _ a b c
 . rw[YB (by rw[<-qEw hD];exact hi)]
   refine⟨by decide,by decide,λj a b=>YC b (by omega),λ_=>?_,λz=>YC z hR⟩;rw[Int.zero_mul,Yc];exact hi
end Mt
namespace L3
open PySem PySem.Spec PyProof.Rows L2
def CMulB(i j:Int):Prop:=CMul i j\/(i.natAbs<2 ^ 60000/\j.natAbs<2 ^ 60000)
theorem qA8{i:Int}(h:i.natAbs<2 ^ 60000):Builtin.Int.intBits i<=2 ^ 20:=by
 unfold Builtin.Int.intBits;split
 . exact ZP _
 . rename_i h0
   have hz:i.natAbs≠0:=by
    intro z;apply h0;have:i=0:=by omega
    rw[this];rfl
   have:=(Nat.log2_lt hz).mpr h;have e:(2:Nat) ^ 20=1048576:=by decide
   omega
theorem CMulB.ok{i j:Int}(h:CMulB i j):IntMulOk i j:=by
 rcases h with h|⟨h1,h2⟩
 . exact h.ok
 . exact IntMulOk.of_bits (qA8 h1) (qA8 h2)
def CDivB(_ j:Int):Prop:=j≠0/\j.natAbs<2 ^ 8000
theorem CDivB.ok{i j:Int}(h:CDivB i j):Builtin.divisionGoesByPylong i j=false:=by
 refine PyProof.noPylong_of_log2 ?_;have hz:j.natAbs≠0:=by have:=h.1;omega
 have:=(Nat.log2_lt hz).mpr h.2;omega
section
variable{X:Cx}
theorem jd:OpR X (binaryOp .Mult) (rI CMulB λi j=>.int (i*j)):=opI λ_ _ _ _ _ _ _ hc q=>mul_int q hc.ok
theorem qf:OpR X (binaryOp .FloorDiv) (rI CDivB λi j=>.int (i.fdiv j)):=opI λ_ _ _ _ _ _ _ hc q=>floordiv_int hc.1 q (.inl hc.ok)
theorem jB:zD X (.builtin "isinstance") (λxs H Q=> ∃x c t b,xs=[x,c]/\qK5 X.K H x t/\
 (∃n,c=.ty n/\PySem.W.kitOne X.K t (.type n)=some b\/∃a,c=.ref a/\PySem.W.kitOne X.K t (.ref a)=some b)/\Q (.bl b) H):=by
 intro pins s σ H xs us Q I r h;obtain⟨x,c,t,b,rfl,ty,hk,q⟩:=h;obtain⟨u,u',rfl,rx,rc⟩:=qPz r;obtain⟨n,⟨rfl,e⟩|⟨a,rfl,e⟩⟩:=hk
 . cases rc
   exact qI5 I rx ty e λtk=>⟨.bl b,H,I.tok _,O,q⟩
 . cases rc
   exact qI5 I rx ty e λtk=>⟨.bl b,H,I.tok _,O,q⟩
noncomputable def qK3(xs ys:List V):Bool:=(List.range (min xs.length ys.length)).all (λj=>eqV (xs.getD j .non) (ys.getD j .non)) && xs.length==ys.length
theorem qGk{A:Around}{s:Shared}{xs ys:List V}{us ws:List Value}(r1:Vals xs us)(r2:Vals ys ws)(f1:xs.all kj=true)(f2:ys.all kj=true):
 ∀j (h1:j<us.toArray.size) (h2:j<ws.toArray.size),SeqAt.EqAt A s us.toArray[j] ws.toArray[j] (eqV (xs.getD j .non) (ys.getD j .non)):=by
 intro j h1 h2;have l1:=r1.length;have l2:=r2.length;rw[YG]at h1 h2;have g1:xs[j]?=some xs[j]:=YD (by omega);have g2:ys[j]?=some ys[j]:=YD (by omega);obtain⟨u,e1,q1⟩:=r1.get g1;obtain⟨w,e2,q2⟩:=r2.get g2;have d1:xs.getD j .non=xs[j]:=by rw[List.getD_eq_getElem?_getD,g1];rfl
 have d2:ys.getD j .non=ys[j]:=by rw[List.getD_eq_getElem?_getD,g2];rfl
 have c1:us.toArray[j]=u:=by have:=(Ya.mp e1).2;simpa using this
 have c2:ws.toArray[j]=w:=by have:=(Ya.mp e2).2;simpa using this
 rw[d1,d2,c1,c2];exact qMl q1 q2 (List.all_eq_true.mp f1 _ (List.getElem_mem _)) (List.all_eq_true.mp f2 _ (List.getElem_mem _))
inductive qZw(K:PySem.W.Frag)(neg:Bool)(x:V)(y:V)(H:Hp)(Q:VK):Prop
|mk p q xs ys (_:x=.ref p) (_:y=.ref q) (_:SqT K H p xs) (_:SqT K H q ys) (_:xs.all kj=true) (_:ys.all kj=true) (_:Q (.bl (if neg then !qK3 xs ys else qK3 xs ys)) H)
theorem qT8(hu:X.A.units<cLine):OpR X (compareOp .Eq) (qZw X.K false):=by
 intro pins s σ H x y v u Q I rx ry h;obtain⟨p,q,xs,ys,rfl,rfl,h1,h2,f1,f2,k⟩:=h;cases rx;cases ry;obtain⟨us,r1,t1,_⟩:=I.tuple h1;obtain⟨ws,r2,t2,_⟩:=I.tuple h2;have l1:us.toArray.size=xs.length:=by rw[YG];exact r1.length.symm
 have l2:ws.toArray.size=ys.length:=by rw[YG];exact r2.length.symm
 refine SeqAt.eq_tupleAt t1 t2 hu (qGk r1 r2 f1 f2) ?_;rw[l1,l2];exact⟨.bl (qK3 xs ys),H,I,O,k⟩
theorem qW2(hu:X.A.units<cLine):OpR X (compareOp .NotEq) (qZw X.K true):=by
 intro pins s σ H x y v u Q I rx ry h;obtain⟨p,q,xs,ys,rfl,rfl,h1,h2,f1,f2,k⟩:=h;cases rx;cases ry;obtain⟨us,r1,t1,_⟩:=I.tuple h1;obtain⟨ws,r2,t2,_⟩:=I.tuple h2;have l1:us.toArray.size=xs.length:=by rw[YG];exact r1.length.symm
 have l2:ws.toArray.size=ys.length:=by rw[YG];exact r2.length.symm
 refine SeqAt.RcNeAt.tuples t1 t2 hu (qGk r1 r2 f1 f2) _ _ _ _ ?_;rw[l1,l2];exact⟨.bl (!qK3 xs ys),H,I,O,k⟩
end
noncomputable def jS(X:Cx)(scope:Scope)(cl:List (Str×Addr))(C:Addr)(N:List Str)(s:Shared)(H:Hp)(fp:List Addr):Cx:=
 {X with N:=N,s₀:=s,H₀:=H,env:=compEnvC scope cl C X.env,outer:=X.stack,stack:=X.stack,ex:=fp,fn:=λ_=>false,pn:=[]}
noncomputable def qBf(js:List Nat)(σ:L2.St):L2.St:=js.map λj=>(σ[j]?).join
theorem qOu{prog:Program}{w:World}{A:Around}{R:Result->Shared->Prop}{s0:Shared}{el tg src:Expr}{cs:List Expr}{sco:Scope}{po:Pos}{itv lst:Value}{en:Env}(J:Nat->Shared->Prop)
 (step:∀k st,J k st->wpAny (model prog w) A (pyNext itv) (λgot s1=>match got with
   |none=>R (.ok .next) s1
   |some u=>wpAny (model prog w) A (letOwnedTupleGo tg itv u) (λ_ s1'=>wpAny (model prog w) A (assign tg en u) (λ_ s2=>
    wpAny (model prog w) A (forIn cs true λc r=>if r=true then do let ok<-isTrue c en (eval c en);pure (ForInStep.yield ok)else pure (ForInStep.yield r)) (λgood s3=>
     if good=true then wpAny (model prog w) A (eval el en) (λy s4=>
      wpAny (model prog w) A (call (.builtin "list.append") [lst,y]) (λ_ s5=> ∃j,j<k/\J j s5) (notedBy (model prog w) A en λx z=>R (.error x) z) s4) (notedBy (model prog w) A en λx z=>R (.error x) z) s3
     else ∃j,j<k/\J j s3) (notedBy (model prog w) A en λx z=>R (.error x) z) s2) (notedBy (model prog w) A en λx z=>R (.error x) z) s1') (notedBy (model prog w) A en λx z=>R (.error x) z) s1) (notedBy (model prog w) A en λx z=>R (.error x) z) st)
 (k:Nat) (hJ:J k s0):codeAny (model prog w) A (.compLoop (.ListComp el [⟨tg,src,cs,0⟩] sco po) 0 itv lst en) R s0:=by
 refine codeAny_loop rfl J (λk st hk=>?_) k hJ;show wpAny _ A ((compTurn (.ListComp el [⟨tg,src,cs,0⟩] sco po) 0 itv lst en).onRaise (λx=>do noteFrame x en;theTreesLotGoes x)) _ _ st;refine wpAny_noted ?_;rw[compTurn_list];refine YJ (wpAny_standAt (YJ (YL (step k st hk) (λgot s1 g1=>?_) λ_ _ q=>q)))
 match got with
 |none=>exact YK g1
 |some u=>
  refine YJ (YL g1 (λ_ s1' g2=>?_) λ_ _ q=>q);refine YJ (YL g2 (λ_ s2 g3=>YJ (YL g3 (λgood s3 g4=>?_) λ_ _ q=>q)) λ_ _ q=>q)
  match good with
  |false=>exact YK ⟨rfl,g4⟩
  |true=>
   refine YJ (YJ (YL g4 (λy s4 g5=>?_) λ_ _ q=>q));exact YJ (YL g5 (λ_ s5 g6=>YK (YK ⟨O,g6⟩)) λ_ _ q=>q)
structure COk(X:Cx)(scope:Scope)(cl:List (Str×Addr))(iter:Expr)(xs ys:List Str)(js:List Nat):Prop where
 clos:closureFor scope X.env=pure cl
 cls:cl.map (λp=>X.env.cells.lookup p.1)=cl.map (λp=>some p.2)
 cell:(scope.names.all λp=>p.2 != .cell)=true
 kind:scope.kind=.function
 names:(scope.names.all λp=>p.2 != .local || scope.names.lookup p.1==some .local)=true
 has:((relabel scope X.env).names.all λp=>(p.2 != .cell && p.2 != .free) || (cl.lookup p.1).isSome)=true
 hjs:js.map (λj=>X.N[j]?)=ys.map some
 hys:(ys.all λy=>((relabel scope X.env).names.lookup y==some .cell || (relabel scope X.env).names.lookup y==some .free) && (X.env.scope.names.lookup y==some .cell || X.env.scope.names.lookup y==some .free))=true
 set:∀x,foldedSetIterable iter X.env x=pure x
 nd:(xs++ys).Nodup
def PTs(X:Cx)(cs:List Expr)(t:TT):Prop:=
 ∀(pins:List (Addr×Obj)) (s:Shared) (σ:L2.St) (H:Hp) (Q:Bool->Hp->Prop),Inv X pins σ H s->t σ H Q->wpAny (model X.prog X.w) X.A (forIn cs true λc r=>if r=true then do let ok<-isTrue c X.env (eval c X.env);pure (ForInStep.yield ok)else pure (ForInStep.yield r)) (TP X pins σ Q) X.xe s
theorem qRk{X:Cx}:PTs X [] λ_ H Q=>Q true H:=λ_ _ _ H _ I h=>YK ⟨H,I,h⟩
theorem qQk{X:Cx}{c:Expr}{t:TT}(hc:PT X c t):PTs X [c] t:=λpins s σ H Q I h=>by simp only[List.forIn_cons,List.forIn_nil,if_true];exact YJ (YJ (thn (hc pins s σ H Q I h) λ_ _ q=>YK (YK q)))
def wG(n:Nat)(js:List Nat)(g:TG)(tc:TT)(te:TE)(σ:L2.St)(Q:VK)(J:It)(H1:Hp):Prop:= ∃W:Nat->Nat->List V->Hp->Prop,(∃m,W 0 m [] H1)/\∀i m acc H2,W i m acc H2->
 acc.length<sizeLine/\((J.stop i H2/\∀D,H2 D=none->Q (.ref D) (upd H2 D (.lst acc)))\/
  (J.go i H2/\∀x H3,J.yld i H2 x H3->g x (List.replicate n none++qBf js σ) H3 λσ' H4=> ∃vs:L2.St,σ'=vs++qBf js σ/\vs.length=n/\tc σ' H4 λok H5=>if ok=true then te σ' H5 λv H6=> ∃m',m'<m/\W (i+1) m' (acc++[v]) H6 else ∃m',m'<m/\W (i+1) m' acc H5))
theorem qS{G:Prop}(k:∀X:Prop,(G->X)->X):G:=k G id
theorem qGl{X:Cx}{elt iter tg:Expr}{cs:List Expr}{scope:Scope}{cl:List (Str×Addr)}{pos:Pos}{wi:TI}{g:TG}{tc:TT}{te:TE}{xs ys:List Str}{js:List Nat}{E:It->Hp->Prop}
 (hcm:X.calm=true) (hi:PI X tg iter wi) (hg:∀C s H fp,PG (jS X scope cl C (xs++ys) s H fp).nox tg g) (hc:∀C s H fp,PTs (jS X scope cl C (xs++ys) s H fp).nox cs tc) (he:∀C s H fp,PE (jS X scope cl C (xs++ys) s H fp).nox elt te)
 (hC:COk X scope cl iter xs ys js)
 {pins:List (Addr×Obj)} {s:Shared} {σ:L2.St} {H:Hp} (R:V->Hp->Prop) (use:Option (Value->Sem Unit)) (Q:Value->Shared->Prop) (I:Inv X pins σ H s) (h:wi σ H E) (hE:∀J H1,E J H1->wG xs.length js g tc te σ R J H1)
 (fin:∀(v:V) (u:Value) (H':Hp) (s':Shared) (C:Addr),Inv X pins σ H' s'->RelV v u->R v H'->(∃m,s'.heap.Ns C m)->H' C=none->C≠X.env.locals->X.s₀.heap.objs.size<=C->(∀y c,X.env.cells.lookup y=some c->c≠C)->(∀p∈X.pn++pins,p.1≠C)->
   compPost (model X.prog X.w) X.A X.xe use Q u C (.ok .next) s'):
 wpAny (model X.prog X.w) X.A (comprehension (.ListComp elt [⟨tg,iter,cs,0⟩] scope pos) scope X.env (firstIterPos [⟨tg,iter,cs,0⟩] pos) (newList []) false (eval iter X.env) use) Q X.xe s:=by
 obtain⟨hclos,hcl,hcell,hkind,hnames,hhas,hjs,hys,hs,hnd⟩:=hC;have hcell':∀y∈scope.names,y.2≠ .cell:=λy hy=>by have:=List.all_eq_true.mp hcell y hy;simpa using this
 have hnm:∀y∈scope.names,y.2=.local->scope.names.lookup y.1=some .local:=λy hy e=>by have:=List.all_eq_true.mp hnames y hy;rw[e]at this;simpa using this
 have clX:∀y c,cl.lookup y=some c->X.env.cells.lookup y=some c:=λy c e=>by have hm:=ZN e;obtain⟨k,hk,e2⟩:=ZE.mp hm;have:=congrArg (λl=>l[k]?) hcl;simp only[Yj,YD hk,Option.map_some,e2]at this;exact Yb this
 have has:∀y,((relabel scope X.env).names.lookup y=some .cell\/(relabel scope X.env).names.lookup y=some .free)->∃c,cl.lookup y=some c:=λy hy=>by
  have key:∀k:NameKind,(k=.cell\/k=.free)->(relabel scope X.env).names.lookup y=some k->∃c,cl.lookup y=some c:=λk hk e=>by have:=List.all_eq_true.mp hhas _ (ZN e);rcases hk with rfl|rfl <;> exact Option.isSome_iff_exists.mp (by simpa using this)
  rcases hy with e|e
  . exact key _ (.inl rfl) e
  . exact key _ (.inr rfl) e
 refine wpAny_comprehension_free (use:=use) rfl hs hclos hkind hnm (thn (hi pins s σ H _ I h) λv s1 h1=>thn h1 λitv s2 h2=>?_);refine qS λ_ Y=>?_;obtain⟨it,fp,tn,J,H2,e,I2,T,st2,f2,hw⟩:=h2;obtain⟨W,⟨m0,w0⟩,turn⟩:=hE J H2 hw;subst e;apply Y;refine wpAny_newObj_type (wpAny_newFunctionEnv hcell' (by intro y hy;simp at hy) (λh₁ hns hsb=>?_) hkind);dsimp only at hns hsb⊢;generalize hG:s2.heap.push {cls:=.type "list",dict:=none,data:=.seq ([]:List Value).toArray}=G at hns hsb⊢;have szG:G.objs.size=s2.heap.objs.size+1:=by rw[<-hG,Heap.size_push]
 have inG:∀b o,s2.heap.get? b=some o->G.get? b=some o:=λb o e=>hG ▸ YM _ e;have ltC:∀b o,s2.heap.get? b=some o->b≠G.objs.size:=λb o e=>by rw[szG];exact Yo (Nat.lt_succ_of_lt (YV e))
 have ltD:∀b o,s2.heap.get? b=some o->b≠s2.heap.objs.size:=λb o e=>Yo (YV e);have DC:s2.heap.objs.size≠G.objs.size:=by rw[szG];omega
 have old:∀b o,s2.heap.get? b=some o->h₁.get? b=some o:=λb o e=>hsb.extBut b o (ltC b o e) (YM _ (inG b o e));have hacc:h₁.PlainList s2.heap.objs.size #[]:=⟨_,hsb.extBut _ _ DC (YM _ (hG ▸ Yn _ rfl))⟩;have fpO:∀b∈fp,∃o,s2.heap.get? b=some o:=λb hb=>let ⟨o,e,_⟩:=T.obj 0 _ st2 b hb;⟨o,e⟩
 have stkO:∀b∈frs X.stack,∃o,s2.heap.get? b=some o:=λb hb=>by obtain⟨_,o,ho,_⟩:=I2.stack.mem hb;exact⟨o,ho⟩
 have freshH:∀a,s2.heap.objs.size<=a->H2 a=none:=λa ha=>I2.hok.fresh ha;have stkFp:∀b∈fp,b∉frs X.stack:=λb hb z=>by
  rcases YU.mp (I2.stkSub b z)with q|q
  . exact(f2 b hb).2.1 q
  . exact(f2 b hb).2.2.1 q
 have okX:(jS X scope cl G.objs.size (xs++ys) s2 H2 fp).Ok:={
  mod:=I2.ok.mod
  kind:=hkind
  glob:=I2.ok.glob
  blt:=I2.ok.blt
  above:=by show s2.heap.objs.size<=G.objs.size;rw[szG];omega
  inj:=λy z c e1 e2=>I2.ok.inj y z c (clX y c e1) (clX z c e2)
  has:=λy hy=>has y hy
  cab:=λy c e _=>YC (show false=true from e) YZ
  hd:=I2.ok.hd
  frames:=I2.ok.frames
  stk:=.inl rfl
  exf:=λb hb=>by obtain⟨o,e⟩:=fpO b hb;exact⟨ltC b o e,λy c e1=>(f2 b hb).2.2.2.2.1 y c (clX y c e1)⟩
  bs:=I2.bs
  bsz:=ZC I2.ok.bsz I2.sz
  noex:=λb o e hb=>by
   rcases (f2 b hb).2.2.2.1 with q|q
   . exact I2.ok.noex b o e q
   . exact Nat.lt_irrefl _ (YR (YR (YV e) I2.ok.bsz) q)
  exfs:=stkFp
  funs:=I2.stack
  frf:=I2.stkFree}
 have lenY:js.length=ys.length:=by have:=congrArg List.length hjs;simpa using this
 have I0:Inv (jS X scope cl G.objs.size (xs++ys) s2 H2 fp) [] (List.replicate xs.length none++qBf js σ) H2 {s2 with heap:=h₁,toks:=s2.toks+([]:List (Str×Value)).length}:=by
  refine⟨okX,O,I2.bare,Un.kept old,⟨_,hns,λk y v e1 e2 e3=>?_⟩,λy c e=>?_,freshH _ (by show s2.heap.objs.size<=G.objs.size;rw[szG];omega),λy c e=>I2.freeC y c (clX y c e),λp hp=>YC (show p∈([]:List (Addr×Obj))from hp) (by simp),I2.hok.kept old,?_⟩
  . obtain⟨k,e1',e2'⟩:∃k,ys[k]?=some y/\(qBf js σ)[k]?=some (some v):=by
     have e1:(xs++ys)[k]?=some y:=e1;by_cases hk:k<xs.length
     . rw[ZB (by simpa using hk),List.getElem?_replicate,YB hk]at e2
       cases e2
     . rw[Yy (by simpa using hk),List.length_replicate]at e2
       rw[Yy (Nat.le_of_not_lt hk)]at e1;exact⟨_,e1,e2⟩
    unfold qBf at e2';rw[Yj]at e2';cases ej:js[k]? with
    |none=>rw[ej]at e2';cases e2'
    |some j=>
     rw[ej]at e2';have e4:(σ[j]?).join=some v:=Yb e2';have e5:σ[j]?=some (some v):=by
      cases q:σ[j]? with
      |none=>rw[q]at e4;cases e4
      |some o=>rw[q]at e4;exact congrArg some e4
     have e6:X.N[j]?=some y:=by have:=congrArg (λl=>l[k]?) hjs;simp only[Yj,ej,e1',Option.map_some]at this;exact Yb this
     have hy:=List.all_eq_true.mp hys y (YF e1');simp only[Yl,Bool.or_eq_true,beq_iff_eq]at hy;obtain⟨ky,ko⟩:=hy;obtain⟨m,hn,hl⟩:=I2.loc;obtain⟨u,r,lk⟩:=hl j y v e6 e5 (.inr ko);refine⟨u,r,.inr ⟨ky,?_⟩⟩;rcases lk with ⟨kl,_⟩|⟨_,c,ec,hc⟩
     . have kl':X.env.scope.names.lookup y=some .local:=kl
       rw[kl']at ko;rcases ko with z|z <;> cases z
     . obtain⟨c',ec'⟩:=has y ky
       have:=clX y c' ec';rw[ec]at this;cases this;obtain⟨o,ho,hd⟩:=hc;exact⟨c,ec',o,old c o ho,hd⟩
  . obtain⟨v,o,ho,hd⟩:=I2.cell y c (clX y c e)
    exact⟨v,o,old c o ho,hd⟩
  . show (List.replicate xs.length none++qBf js σ).length=(xs++ys).length
    simp[qBf,lenY]
 have loop:∀s3:Shared,s3={s2 with heap:=h₁,toks:=s2.toks+([]:List (Str×Value)).length}->
  codeAny (model X.prog X.w) X.A (.compLoop (.ListComp elt [⟨tg,iter,cs,0⟩] scope pos) 0 (.ref it) (.ref s2.heap.objs.size) (compEnvC scope cl G.objs.size X.env))
   (compPost (model X.prog X.w) X.A X.xe use Q (.ref s2.heap.objs.size) G.objs.size) s3:=by
  rintro s3 rfl;have stat:∀{H':Hp} (o:Obj),(∀b∈fp,H' b=none)->∀b∈fp,qTr (jS X scope cl G.objs.size (xs++ys) s2 H2 fp) [(s2.heap.objs.size,o)] H' b:=λ{H'} o hn b hb=>by
   obtain⟨ob,eb⟩:=fpO b hb;refine⟨hn b hb,ltC b ob eb,stkFp b hb,.inl hb,λy c e1=>(f2 b hb).2.2.2.2.1 y c (clX y c e1),λp hp=>?_⟩;have hp':p=(s2.heap.objs.size,o):=by have:p∈[(s2.heap.objs.size,o)]:=hp;simpa using this
   rw[hp'];exact ZF (ltD b ob eb)
  refine qOu (λn s'=> ∃i acc its H3,Inv (jS X scope cl G.objs.size (xs++ys) s2 H2 fp) [] (List.replicate xs.length none++qBf js σ) H3 s'/\tn i s'.heap/\(∀b∈fp,H3 b=none)/\s'.heap.PlainList s2.heap.objs.size its.toArray/\Vals acc its/\H3 s2.heap.objs.size=none/\W i n acc H3)
   ?_ m0 ⟨0,[],[],H2,I0,T.keep _ _ _ st2 λb _ o e=>old b o e,λb hb=>(f2 b hb).1,hacc,.nil,freshH _ (YI _),w0⟩
  intro n s3 hx3;refine qS λ_ Y=>?_;obtain⟨i,acc,its,H3,I3,st3,fr3,⟨nn,pl3⟩,va3,hD3,w3⟩:=hx3;obtain⟨hlen,cs⟩:=turn i n acc H3 w3;apply Y;have hal:acc.length=its.length:=va3.length;have nD:s2.heap.objs.size∉frs X.stack:=λz=>by obtain⟨o,e⟩:=stkO _ z;exact ltD _ o e rfl
  have I3p:Inv (jS X scope cl G.objs.size (xs++ys) s2 H2 fp) [(s2.heap.objs.size,{cls:=.type "list",data:=.seq its.toArray nn})] (List.replicate xs.length none++qBf js σ) H3 s3:=I3.pins_of λp hp=>by
   have e:p=(s2.heap.objs.size,{cls:=.type "list",data:=.seq its.toArray nn}):=by simpa using hp
   subst e;exact⟨pl3,hD3,DC,nD,λv z=>nomatch z⟩
  rcases cs with ⟨stop,q⟩|⟨go,step⟩
  . refine thn (T.done (jS X scope cl G.objs.size (xs++ys) s2 H2 fp) rfl rfl rfl hcm i _ s3 _ H3 _ I3p (stat _ fr3) st3 stop) λr s4 hr=>?_
    obtain⟨hr,I4⟩:=hr;subst hr;have pl4:=(I4.pin (s2.heap.objs.size,{cls:=.type "list",data:=.seq its.toArray nn}) (by simp)).1;obtain⟨m,hn,_⟩:=I4.loc;have B:=I4.base;have un':Un (frs X.stack) fp H2 (upd H3 s2.heap.objs.size (.lst acc)) s2.heap s4.heap:=by
     refine⟨λb o e n hb hx=>B.keep b o e n hb hx,λb o e n hb hx=>B.slot b o e n hb hx,λb o e n hx=>?_,λb o e hx=>B.there b o e hx,λb xs e=>?_,λb o u e=>?_,λb ps e=>?_⟩
     . rw[qQ (ltD b o e)]
       exact B.free b o e n hx
     . have z:=B.tups b xs e
       rw[qQ (qV z hD3)];exact z
     . have z:=B.frzs b o u e
       rw[qQ (qV z hD3)];exact z
     . obtain⟨more,z⟩:=B.tbls b ps e
       exact⟨more,by rw[qQ (qV z hD3)];exact z⟩
    have freeC4:H3 G.objs.size=none:=I4.free;have hok':HOk X.prog X.w (upd H3 s2.heap.objs.size (.lst acc)) s4.heap:=λb u e=>by
     by_cases hb:b=s2.heap.objs.size
     . subst hb
       rw[qC]at e;cases e;exact⟨Nat.le_of_lt hlen,its,nn,va3,pl4⟩
     . rw[qQ hb]at e
       exact(I4.hok b u e).stay (λc v hc z=>z) (λc z=>by rw[qQ (qV z hD3)];exact z) λc xs z=>by rw[qQ (qV z hD3)];exact z
    have hch:∀b∈fp,(b∈X.ex\/X.s₀.heap.objs.size<=b)/\b≠X.env.locals/\(∀y c,X.env.cells.lookup y=some c->c≠b)/\∀p∈X.pn++pins,p.1≠b:=λb hb=>by obtain⟨_,z1,_,z3,z4,z5⟩:=f2 b hb;exact⟨z3,z1,z4,z5⟩
    have I5:=I2.call' (s':=s4) (ch:=fp) I4.os un' hok' I4.bare hch;refine fin (.ref s2.heap.objs.size) _ _ s4 G.objs.size I5 rfl (q _ hD3) ⟨m,hn⟩ ?_ ?_ ?_ (λy c e=>?_) λp hp=>?_
    . rw[qQ (ZF DC)];exact freeC4
    . rw[szG];exact Nat.ne_of_gt (Nat.lt_succ_of_lt I2.lt)
    . rw[szG];exact Nat.le_succ_of_le I2.sz
    . obtain⟨v,o,ho,_⟩:=I2.cell y c e
      exact ltC c o ho
    . exact ltC p.1 p.2 (I2.pin p hp).1
  . refine thn (T.item (jS X scope cl G.objs.size (xs++ys) s2 H2 fp) rfl rfl rfl hcm i _ s3 _ H3 _ I3p (stat _ fr3) st3 go) λr s4 hr=>?_
    obtain⟨u,hr,h4⟩:=hr;subst hr;refine thn h4 λ_ s5 h5=>?_;refine qS λ_ Y=>?_;obtain⟨v,H5,I5,r5,y5,st5,fr5⟩:=h5;apply Y;have I5':=I5.pinned (stat _ fr5) (T.obj _ _ st5);refine YL (hg G.objs.size s2 H2 fp _ s5 _ H5 v u _ (I5'.wish _) r5 (step v H5 y5)) (λ_ s6 h6=>?_) λ_ _ z=>z.elim;refine qS λ_ Y=>?_;obtain⟨σ6,H6',I6',vs,eσ,hv,q5⟩:=h6;subst eσ;apply Y;have back:∀(H7:Hp) (s7:Shared) (σ7:L2.St) (h':Heap) (acc':List V) (its':List Value) (m':Nat),Inv (jS X scope cl G.objs.size (xs++ys) s2 H2 fp) ([(s2.heap.objs.size,{cls:=.type "list",data:=.seq its.toArray nn})]++qJd fp s5.heap) (vs++qBf js σ) H7 s7->
     Heap.SameBut s2.heap.objs.size s7.heap h'->h'.PlainList s2.heap.objs.size its'.toArray->Vals acc' its'->m'<n->W (i+1) m' acc' H7->
     ∃m,m<n/\∃i acc its H3,Inv (jS X scope cl G.objs.size (xs++ys) s2 H2 fp) [] (List.replicate xs.length none++qBf js σ) H3 {s7 with heap:=h'}/\tn i h'/\(∀b∈fp,H3 b=none)/\h'.PlainList s2.heap.objs.size its.toArray/\Vals acc its/\H3 s2.heap.objs.size=none/\W i m acc H3:=by
     intro H7 s7 _ h' acc' its' m' I7 hsb' hp' va' hm' w7;have pinD:=I7.pin (s2.heap.objs.size,{cls:=.type "list",data:=.seq its.toArray nn}) (by simp);have pf:∀b∈fp,∀o,s5.heap.get? b=some o->s7.heap.get? b=some o/\H7 b=none:=λb hb o e=>by have z:=I7.pin (b,o) (Yf _ (Yf _ (qCa hb e)));exact⟨z.1,z.2.1⟩
     have I8:Inv (jS X scope cl G.objs.size (xs++ys) s2 H2 fp) [] (List.replicate xs.length none++qBf js σ) H7 {s7 with heap:=h'}:=by
      have I7u:Inv (jS X scope cl G.objs.size (xs++ys) s2 H2 fp) [] (List.replicate xs.length none++qBf js σ) H7 s7:=(I7.pins_of (pins':=[]) λp hp=>YC hp (by simp)).weak (by simp[hv]) λk v e=>by
       by_cases hk:k<xs.length
       . rw[ZB (by simpa using hk),List.getElem?_replicate,YB hk]at e
         cases e
       . rw[Yy (by simpa using hk),List.length_replicate]at e
         rw[Yy (by rw[hv];exact Nat.le_of_not_lt hk),hv];exact e
      refine I7u.turned (t':=s7.toks) (it:=s2.heap.objs.size) (λb o hb e=>hsb'.extBut b o hb e) pinD.2.1 DC (.inr (YI _)) (λy c e=>?_) λp hp=>YC (show p∈([]:List (Addr×Obj))from hp) (by simp);obtain⟨v,o,ho,_⟩:=I2.cell y c (clX y c e);exact ltD c o ho
     refine⟨m',hm',i+1,acc',its',H7,I8,?_,λb hb=>?_,hp',va',pinD.2.1,w7⟩
     . refine T.keep _ _ _ st5 λb hb o e=>hsb'.extBut b o ?_ (pf b hb o e).1
       obtain⟨ob,eb⟩:=fpO b hb;exact ltD b ob eb
     . obtain⟨o,e,_⟩:=T.obj _ _ st5 b hb
       exact(pf b hb o e).2
    refine YL (hc G.objs.size s2 H2 fp _ s6 _ _ _ I6' q5) (λok s6a h6=>?_) λ_ _ z=>z.elim;obtain⟨H6,I6a,q6⟩:=h6;cases ok with
    |false=>
     rw[YA (by decide)]at q6⊢;obtain⟨m',hm',w7⟩:=q6;have I7:=I6a.unwish;have pinD:=I7.pin (s2.heap.objs.size,{cls:=.type "list",data:=.seq its.toArray nn}) (by simp);exact back H6 s6a (List.replicate xs.length none++qBf js σ) s6a.heap acc its m' I7 (Heap.SameBut.refl _ _) ⟨nn,pinD.1⟩ va3 hm' w7
    |true=>
     rw[YB rfl]at q6⊢;refine YL (he G.objs.size s2 H2 fp _ s6a _ H6 _ I6a q6) (λy s7 h7=>?_) λ_ _ z=>z.elim;refine qS λ_ Y=>?_;obtain⟨v7,H7,I7,r7,m',hm',w7⟩:=h7;apply Y;have I7:=I7.unwish;have pinD:=I7.pin (s2.heap.objs.size,{cls:=.type "list",data:=.seq its.toArray nn}) (by simp);refine wpAny_list_append_plain (items:=its.toArray) ⟨nn,pinD.1⟩ (λh' hp' hsb'=>?_) (by rw[YG,<-hal];exact Nat.le_of_lt hlen);have e8:its.toArray.push y=(its++[y]).toArray:=by simp
     rw[e8]at hp';exact back H7 s7 (List.replicate xs.length none++qBf js σ) h' (acc++[v7]) (its++[y]) m' I7 hsb' hp' (va3.append (.cons r7 .nil)) hm' w7
 exact codeAny_compStart_list (loop _ rfl) (T.self _ 0 _ _ _ (T.keep _ _ _ st2 λb _ o e=>old b o e) (loop _ rfl))
theorem qMs{X:Cx}{pins:List (Addr×Obj)}{σ:L2.St}{H:Hp}{s:Shared}{C:Addr}{h':Heap}(I:Inv X pins σ H s)(hsb:Heap.SameBut C s.heap h')(h0:H C=none)(h1:C≠X.env.locals)(h2:X.s₀.heap.objs.size<=C)
 (h3:∀y c,X.env.cells.lookup y=some c->c≠C) (h4:∀p∈X.pn++pins,p.1≠C):Inv X pins σ H {s with heap:=h'}:=
 I.turned (t':=s.toks) (it:=C) (λb o hb e=>hsb.extBut b o hb e) h0 h1 (.inr h2) h3 h4
theorem qNl{X:Cx}{elt iter tg:Expr}{cs:List Expr}{scope:Scope}{cl:List (Str×Addr)}{pos:Pos}{wi:TI}{g:TG}{tc:TT}{te:TE}{xs ys:List Str}{js:List Nat}{T:L2.St->VK->It->Hp->Prop}
 (hcm:X.calm=true) (hi:PI X tg iter wi) (hg:∀C s H fp,PG (jS X scope cl C (xs++ys) s H fp).nox tg g) (hc:∀C s H fp,PTs (jS X scope cl C (xs++ys) s H fp).nox cs tc) (he:∀C s H fp,PE (jS X scope cl C (xs++ys) s H fp).nox elt te) (hC:COk X scope cl iter xs ys js) (hE:∀σ Q J H1,T σ Q J H1->wG xs.length js g tc te σ Q J H1):PE X (.ListComp elt [⟨tg,iter,cs,0⟩] scope pos) (λσ H Q=>wi σ H (T σ Q)):=by
 intro pins s σ H Q I h;rw[eval_ListComp];refine qGl hcm hi hg hc he hC Q none (EP X pins σ Q) I h (hE σ Q) λv u H' s' C I' r q hm h0 h1 h2 h3 h4=>?_;obtain⟨m,hm⟩:=hm;exact⟨m,hm,λh' hsb=>⟨v,H',qMs I' hsb h0 h1 h2 h3 h4,r,q⟩⟩
theorem qMv{X:Cx}{elt iter tg:Expr}{cs:List Expr}{scope:Scope}{cl:List (Str×Addr)}{pos:Pos}{wi:TI}{g:TG}{tc:TT}{te:TE}{xs ys:List Str}{js:List Nat}{T:L2.St->VK->It->Hp->Prop}{i:Nat}{y:Str}{py spos:Pos}(hN:X.N.Nodup)(hi':X.N[i]?=some y)(hy:X.env.kindOf y=some .local)
 (hcm:X.calm=true) (hi:PI X tg iter wi) (hg:∀C s H fp,PG (jS X scope cl C (xs++ys) s H fp).nox tg g) (hc:∀C s H fp,PTs (jS X scope cl C (xs++ys) s H fp).nox cs tc) (he:∀C s H fp,PE (jS X scope cl C (xs++ys) s H fp).nox elt te) (hC:COk X scope cl iter xs ys js) (hE:∀σ Q J H1,T σ Q J H1->wG xs.length js g tc te σ Q J H1) (hsw:swapsWith (.ListComp elt [⟨tg,iter,cs,0⟩] scope pos) (some (.Name y py)) spos.line X.env=pure true):PS X (.Assign [.Name y py] (.ListComp elt [⟨tg,iter,cs,0⟩] scope pos) spos) (qV9 (λσ H Q=>wi σ H (T σ Q)) (vk i)):=by
 intro pins s σ H D I h;rw[exec_Assign_Name_used _ _ _ _ hsw];refine YJ (wpAny_standAt (YJ ?_));have key:=qGl (pos:=pos) hcm hi hg hc he hC (λv H'=>D.nx (σ.set i (some v)) H') (some (assign (.Name y py) X.env)) (λ_ s'=>SP X pins D .next s') I h (hE σ _) λv u H' s' C I' r q hm h0 h1 h2 h3 h4=>?_
 . exact YJ (thn key λ_ s' hq=>YK (YK hq))
 . refine wpAny_assign_Name (qI7 I' hN hi' (.inl hy) r (λs2 I2 ch=>?_) (.inr hy))
   obtain⟨b,sb,hb⟩:=ch;obtain⟨m,hm⟩:=hm;have nb:C≠b:=by
    rcases hb with rfl|hb
    . exact h1
    . exact ZF (h3 y b hb)
   exact⟨m,hm.sameBut sb nb,λh' hsb=>⟨_,H',qMs I2 hsb h0 h1 h2 h3 h4,q⟩⟩
def CompEnd(js:List Nat)(te:TE)(σ:L2.St)(Q:VK)(J:It)(H1:Hp):Prop:= ∃W:Nat->Nat->List V->Hp->Prop,(∃m,W 0 m [] H1)/\∀i m acc H2,W i m acc H2->
 acc.length<sizeLine/\((J.stop i H2/\∀D,H2 D=none->Q (.ref D) (upd H2 D (.lst acc)))\/
  (J.go i H2/\∀x H3,J.yld i H2 x H3->te (some x::qBf js σ) H3 λv H4=> ∃m',m'<m/\W (i+1) m' (acc++[v]) H4))
def qWl(js:List Nat)(wi:TI)(te:TE):TE:=λσ H Q=>wi σ H (CompEnd js te σ Q)
theorem CompEnd.g{js:List Nat}{te:TE}(σ:L2.St)(Q:VK)(J:It)(H1:Hp):CompEnd js te σ Q J H1->wG 1 js (vk 0) (λ_ H Q=>Q true H) te σ Q J H1:=λ⟨W,w0,st⟩=>
 ⟨W,w0,λi m acc H2 w=>⟨(st i m acc H2 w).1,(st i m acc H2 w).2.imp id λ⟨go,y⟩=>⟨go,λx H3 z=>⟨[some x],rfl,rfl,(YB rfl).mpr (y x H3 z)⟩⟩⟩⟩
theorem wU{X:Cx}{elt iter:Expr}{x:Str}{px:Pos}{scope:Scope}{cl:List (Str×Addr)}{pos:Pos}{wi:TI}{te:TE}(ys:List Str)(js:List Nat)
 (hcm:X.calm=true) (hi:PI X (.Name x px) iter wi) (he:∀C s H fp,PE (jS X scope cl C (x::ys) s H fp).nox elt te) (hx:scope.names.lookup x=some .local:=by rfl) (hC:COk X scope cl iter [x] ys js:=by trivial):PE X (.ListComp elt [⟨.Name x px,iter,[],0⟩] scope pos) (qWl js wi te):=
 qNl (xs:=[x]) (T:=CompEnd js te) hcm hi (λ_ _ _ _=>q8 (i:=0) hC.nd rfl (.inl (lookup_relabel_local hx)) (.inr (lookup_relabel_local hx))) (λ_ _ _ _=>qRk) he hC CompEnd.g
theorem qUu{X:Cx}{elt iter:Expr}{x:Str}{px:Pos}{scope:Scope}{cl:List (Str×Addr)}{pos:Pos}{wi:TI}{te:TE}(ys:List Str)(js:List Nat){i:Nat}{y:Str}{py spos:Pos}(hN:X.N.Nodup)(hi':X.N[i]?=some y)(hy:X.env.kindOf y=some .local)
 (hcm:X.calm=true) (hi:PI X (.Name x px) iter wi) (he:∀C s H fp,PE (jS X scope cl C (x::ys) s H fp).nox elt te) (hx:scope.names.lookup x=some .local:=by rfl) (hC:COk X scope cl iter [x] ys js:=by trivial) (hsw:swapsWith (.ListComp elt [⟨.Name x px,iter,[],0⟩] scope pos) (some (.Name y py)) spos.line X.env=pure true:=by rfl):PS X (.Assign [.Name y py] (.ListComp elt [⟨.Name x px,iter,[],0⟩] scope pos) spos) (qV9 (qWl js wi te) (vk i)):=
 qMv (xs:=[x]) (T:=CompEnd js te) hN hi' hy hcm hi (λ_ _ _ _=>q8 (i:=0) hC.nd rfl (.inl (lookup_relabel_local hx)) (.inr (lookup_relabel_local hx))) (λ_ _ _ _=>qRk) he hC CompEnd.g hsw
def Nxt(n i:Nat)(P:Prop):Prop:= ∃m',m'<n-i/\m'=n-(i+1)/\i+1<=n/\P
theorem Nxt.mk{n i:Nat}{P:Prop}(h:i<n)(p:P):Nxt n i P:=⟨n-(i+1),by omega,rfl,h,p⟩
theorem qFf{K:PySem.W.Frag}{a:Addr}{xs:List V}{js:List Nat}{te:TE}{σ:L2.St}{H:Hp}{Q:VK}(Pv:Nat->List V->Hp->Prop)(h0:Pv 0 [] H)(hl:∀i acc H,i<=xs.length->Pv i acc H->SqL K H a xs/\acc.length<sizeLine)
 (hs:∀i x acc H,i<xs.length->xs[i]?=some x->Pv i acc H->te (some x::qBf js σ) H λv H'=>Nxt xs.length i (Pv (i+1) (acc++[v]) H')) (hd:∀acc H,Pv xs.length acc H->∀D,H D=none->Q (.ref D) (upd H D (.lst acc))):CompEnd js te σ Q (Itl K a) H:=by
 refine⟨λi m acc H=>m=xs.length-i/\i<=xs.length/\Pv i acc H,⟨xs.length,by simp,ZP _,h0⟩,?_⟩;rintro i m acc H2 ⟨rfl,hi,p⟩;obtain⟨q,hz⟩:=hl i acc H2 hi p;refine⟨hz,?_⟩;by_cases hlt:i<xs.length
 . refine .inr ⟨⟨xs,xs[i],q,by simp[hlt]⟩,λx H3 y=>?_⟩
   obtain⟨e,y⟩:=y;subst e;exact hs i x acc _ hlt (y xs q) p
 . have e:i=xs.length:=by omega
   subst e;exact .inl ⟨⟨xs,q,YI _⟩,hd acc H2 p⟩
theorem qNx{lo:Int}{n:Nat}{js:List Nat}{te:TE}{σ:L2.St}{H:Hp}{Q:VK}(Pv:Nat->List V->Hp->Prop)(h0:Pv 0 [] H)(hl:∀i acc H,i<=n->Pv i acc H->acc.length<sizeLine)
 (hs:∀i acc H,i<n->Pv i acc H->te (some (.int (lo+i))::qBf js σ) H λv H'=>Nxt n i (Pv (i+1) (acc++[v]) H')) (hd:∀acc H,Pv n acc H->∀D,H D=none->Q (.ref D) (upd H D (.lst acc))):CompEnd js te σ Q (Itr lo n) H:=by
 refine⟨λi m acc H=>m=n-i/\i<=n/\Pv i acc H,⟨n,by simp,ZP _,h0⟩,?_⟩;rintro i m acc H2 ⟨rfl,hi,p⟩;refine⟨hl i acc H2 hi p,?_⟩;by_cases hlt:i<n
 . refine .inr ⟨hlt,λx H3 y=>?_⟩
   obtain⟨e,y⟩:=y;subst e y;exact hs i acc _ hlt p
 . have e:i=n:=by omega
   subst e;exact .inl ⟨YI _,hd acc H2 p⟩
structure Def(K:PySem.W.Frag)(mg:Str->Option Value)(x:Str)(st:Stmt)(ps:List Str)(f:Addr)(fd:FuncData):Prop where
 F:Fun K x x st f fd
 b:Binds K fd ps []
 m:mg x=some (.ref f)
section
variable{X:Cx}
theorem qI{k j:Nat}{x:Str}{st:Stmt}{ps:List Str}{f:Addr}{fd:FuncData}{sp:Sp}{e:Expr}{es:List Expr}{t:TA}{p pos:Pos}(D:Def X.K X.mg x st ps f fd)(F:FnOk X.prog X.w X.K X.mg X.base CX0 j f fd ps sp)(hr:Room k X.A)(hg:Gl X x)(ha:PA X (e::es) t)(hj:j<=k:=by decide)
 (hdb:(x==("__debug__":Str))=false:=by decide) (he:starEach (e::es) X.env=(false,eval e X.env)::starEach es X.env:=by rfl) (hpl:(backTo pos (starEach es X.env)).any (·.1)=false:=by rfl):
 PE X (.Call (.Name x p) (e::es) [] pos) (qU0 sp [] E0 t):=qPp F (hr.mono hj) hg D.m D.F.kp D.b .nil qN7 ha hdb he hpl
theorem qDo{x:Str}{n:String}{pos:Pos}(hg:Gl X x)(hm:X.mg x=none)(hv:bootBuiltins x=some (.type n))(hn:x≠"__name__":=by decide)(hd:(x==("__debug__":Str))=false:=by decide):PE X (.Name x pos) (tC (.ty n)):=
 qV7 hg hm hv rfl hn hd
end
theorem qQ6{X:Cx}{K:PySem.W.Frag}(h:X.K=K):IxR X (qVz K):=h ▸ qGp
def qZd(t:TS):TS:=λD σ H=> ∃R:L2.St->Hp->Prop,t {D with nx:=R} σ H/\∀σ' H',R σ' H'->D.nx σ' H'
theorem kn{X:Cx}{st:Stmt}{t:TS}(h:PS X st t):PS X st (qZd t):=by
 rintro pins s σ H D I ⟨R,ht,hR⟩;refine thn (h pins s σ H {D with nx:=R} I ht) λf s' q=>?_;cases f with
 |next=>obtain⟨σ',H',I',r⟩:=q;exact⟨σ',H',I',hR _ _ r⟩
 |brk=>exact q
 |cont=>exact q
 |ret u=>exact q
theorem qE{H:Hp}{p:Addr}(h:H p=none)(o:HO):Same H (upd H p o):=λb u q=>by rw[qQ (qV q h)];exact q
theorem Same.tup{K:PySem.W.Frag}{H H':Hp}{a:Addr}{xs:List V}(e:Same H H')(h:SqT K H a xs):SqT K H' a xs:=by
 rcases h with (h|⟨o,h⟩)|h
 . exact .inl (.inl (e _ _ h))
 . exact .inl (.inr ⟨o,e _ _ h⟩)
 . exact .inr h
abbrev EC:=Value×Option Addr
def vj(h:Heap)(e:Addr)(C:EC)(hd:Option Addr):Prop:=
 ∃(vs:Array Value) (sl:Array (Option Value)),h.get? e=some {cls:=C.1,dict:=C.2,data:=.fields vs,slots:=sl}/\
  match hd with
  |none=>vs[1]?=some .none
  |some T=>vs[1]?=some (.ref T)/\T≠e/\∃oT ts m,h.get? T=some oT/\oT.data=.fields ts/\ts[3]?=some m
def qZv(h:Heap)(e:Addr)(c:Value):Prop:= ∃o vs,h.get? e=some o/\o.data=.fields vs/\vs[2]?=some c
structure Noted(fs:List Addr)(e:Addr)(hd:Option Addr)(C:EC)(h h':Heap):Prop where
 keep:∀b o,h.get? b=some o->b∉fs->b≠e->some b≠hd->h'.get? b=some o
 slot:∀b o,h.get? b=some o->b∈fs->b≠e->some b≠hd->∃sl,h'.get? b=some {o with slots:=sl}
 ent:∃T,(h.get? T=none\/hd=some T)/\vj h' e C (some T)
 c2:∀c,qZv h e c->qZv h' e c
theorem Noted.before{fs:List Addr}{e T:Addr}{C:EC}{h h1 h':Heap}(x:Noted fs e none C h1 h')(k:∀b,b≠T->h1.get? b=h.get? b)(t:∃o,h1.get? T=some o)(ne:e≠T):Noted fs e (some T) C h h':=by
 refine⟨λb o q hf he ht=>x.keep b o ?_ hf he (by simp),λb o q hf he ht=>x.slot b o ?_ hf he (by simp),?_,λc ⟨o,vs,q1,q2⟩=>x.c2 c ⟨o,vs,by rw[k e ne];exact q1,q2⟩⟩
 . rw[k b (λz=>ht (by rw[z]))];exact q
 . rw[k b (λz=>ht (by rw[z]))];exact q
 . obtain⟨T',n|n,r⟩:=x.ent
   . refine⟨T',.inl ?_,r⟩
     rw[<-k T' (λz=>?_)];exact n;obtain⟨o,q⟩:=t;rw[z,q]at n;cases n
   . cases n
section
variable{M:Model}{A:Around}{E:Value->Shared->Prop}{s:Shared}
theorem Noted.then{fs:List Addr}{e T:Addr}{hd:Option Addr}{C:EC}{h h1 h2:Heap}(x:Noted fs e hd C h h1)(hT:h.get? T=none\/hd=some T)(y:Noted fs e (some T) C h1 h2):Noted fs e hd C h h2:=by
 have nt:∀b o,h.get? b=some o->some b≠hd->(some b:Option Addr)≠some T:=λb o q hb z=>by
  cases z;rcases hT with n|n
  . rw[q]at n;cases n
  . exact hb n.symm
 have n1:∀T',h1.get? T'=none->T'≠e->some T'≠hd->h.get? T'=none:=λT' n he ht=>by
  cases q:h.get? T' with
  |none=>rfl
  |some o=>
   by_cases hs:T'∈fs
   . obtain⟨sl,z⟩:=x.slot T' o q hs he ht
     rw[n]at z;cases z
   . have z:=x.keep T' o q hs he ht
     rw[n]at z;cases z
 refine⟨λb o q hf he ht=>y.keep b o (x.keep b o q hf he ht) hf he (nt b o q ht),λb o q hf he ht=>?_,?_,λc q=>y.c2 c (x.c2 c q)⟩
 . obtain⟨sl,z⟩:=x.slot b o q hf he ht
   obtain⟨sl',z'⟩:=y.slot b _ z hf he (nt b o q ht);exact⟨sl',z'⟩
 . obtain⟨T',n,r⟩:=y.ent
   refine⟨T',?_,r⟩;rcases n with n|n
   . by_cases hh:hd=some T'
     . exact .inr hh
     . refine .inl (n1 T' n (λz=>?_) (ZF hh))
       obtain⟨vs,sl,q,r1,nT,_⟩:=r;exact nT z
   . cases n
     exact hT
theorem qI6{base:Heap}{env:Env}{outer:List Env}{L e:Addr}{C:EC}{head:Value}{vs:Array Value}{sl:Array (Option Value)}{had:Bool}{Q:Unit->Shared->Prop}
 (fr:A.frames=some (env::outer)) (ff:s.heap.FunFrames base (env::outer)) (ef:env.frame=some L) (re:s.heap.get? e=some {cls:=C.1,dict:=C.2,data:=.fields vs,slots:=sl}) (v1:1<vs.size)
 (k:∀h',Noted (frs (env::outer)) e none C s.heap h'->Q () {s with heap:=h'}):
 wpAny M A (do let a<-frameOf env;let pl<-entryPlaceOf L had;let b<-EntryCells.newEntry head a .none (rawInt L) .none pl;setField (.ref e) 1 b) Q E s:=by
 have efs:e∉frs (env::outer):=λz=>by obtain⟨_,o,q,nf⟩:=ff.mem z;rw[re]at q;cases q;exact nf vs rfl
 refine YJ (wpAny_frameOf_fun fr ff ef λg so=>?_);refine YJ (wpAny_entryPlaceOf λpl ip=>?_);unfold EntryCells.newEntry newFields;refine YJ (wpAny_newObj_type ?_ (ip.sizeOk5 _ _ _ _ _));generalize hN:({cls:=.type "traceback",dict:=none,data:=.fields ([head,.ref L,.none,rawInt L,.none]++(if pl.isEmpty then List.replicate 6 Value.none else pl)).toArray}:Obj)=N;have Nd:N.data=.fields ([head,.ref L,.none,rawInt L,.none]++(if pl.isEmpty then List.replicate 6 Value.none else pl)).toArray:=by rw[<-hN]
 have q1:g.get? e=some {cls:=C.1,dict:=C.2,data:=.fields vs,slots:=sl}:=(so.2.1 e efs).trans re;have q2:=YM (h:=g) N q1;have ne:g.objs.size≠e:=Nat.ne_of_gt (YV q1);refine wpAny_setField q2 rfl v1 (k _ ?_);have q3:=Heap.get?_update_self (Obj.mapFields (·.setIfInBounds 1 (Value.ref g.objs.size))) q2 rfl;have nf:N.isFreed=false:=Obj.isFreed_of_fields Nd;have t3:((g.push N).update e (Obj.mapFields (·.setIfInBounds 1 (Value.ref g.objs.size)))).get? g.objs.size=some N:=
  (ZA (g.push N) _ (ZF ne)).trans (Yn g nf)
 have oth:∀b o,b≠e->g.get? b=some o->((g.push N).update e (Obj.mapFields (·.setIfInBounds 1 (Value.ref g.objs.size)))).get? b=some o:=λb o hb q=>by rw[ZA _ _ (ZF hb)];exact YM _ q
 refine⟨λb o q hf he _=>oth b o he ((so.2.1 b hf).trans q),λb o q hf he _=>?_,⟨g.objs.size,.inl ?_,vs.setIfInBounds 1 (.ref g.objs.size),sl,q3,by simp[v1],ne,N,_,rawInt L,t3,Nd,?_⟩,λc q=>?_⟩
 . obtain⟨sl',q'⟩:=so.2.2 b o q
   exact⟨sl',oth b _ he q'⟩
 . rw[so.1]
   exact Heap.get?_none_of_le (YI _)
 . simp
 . obtain⟨o,ws,z1,z2,z3⟩:=q
   rw[re]at z1;cases z1;cases z2;exact⟨_,vs.setIfInBounds 1 (.ref g.objs.size),q3,O,by rw[Array.getElem?_setIfInBounds_ne (by decide)];exact z3⟩
theorem qMw{base:Heap}{env:Env}{outer:List Env}{L e:Addr}{C:EC}{hd:Option Addr}{Q:Unit->Shared->Prop}
 (fr:A.frames=some (env::outer)) (ff:s.heap.FunFrames base (env::outer)) (ef:env.frame=some L) (re:vj s.heap e C hd)
 (k:∀h',Noted (frs (env::outer)) e hd C s.heap h'->Q () {s with heap:=h'}):wpAny M A (noteFrame (.ref e) env) Q E s:=by
 have re0:=re;obtain⟨vs,sl,q,r⟩:=re;unfold noteFrame;simp only[ef];cases hd with
 |none=>
  refine YJ (wpAny_field q rfl r ?_);rw[YA (by decide)];exact qI6 fr ff ef q (ZO.mp r).1 k
 |some T=>
  obtain⟨r1,nT,oT,ts,m,qT,dT,r3⟩:=r;refine YJ (wpAny_field q rfl r1 ?_);rw[YB (by simp)];refine YJ (wpAny_field qT dT r3 ?_);by_cases hm:(m==rawInt L)=true
  . rw[YB hm]
    exact YK (k s.heap ⟨λb o q _ _ _=>q,λb o q _ _ _=>⟨o.slots,q⟩,⟨T,.inr rfl,re0⟩,λ_ z=>z⟩)
  rw[YA hm];refine YJ (wpAny_setField qT dT (ZO.mp r3).1 ?_);have oth:∀b,b≠T->(s.heap.update T (Obj.mapFields (·.setIfInBounds 3 Value.none))).get? b=s.heap.get? b:=λb z=>ZA _ _ (ZF z);have qT':=Heap.get?_update_self (Obj.mapFields (·.setIfInBounds 3 Value.none)) qT (Obj.isFreed_of_fields (Obj.data_mapFields dT _));have nf:∀b o,s.heap.get? b=some o->(∀vs,o.data≠ .fields vs)->b≠T:=λb o z n w=>by rw[w,qT]at z;cases z;exact n ts dT
  refine qI6 (s:={s with heap:=s.heap.update T (Obj.mapFields (·.setIfInBounds 3 Value.none))}) fr (ff.of_keeps λb o z n=>⟨o,(oth b (nf b o z n)).trans z,O⟩) ef ((oth e (ZF nT)).trans q) (ZO.mp r1).1 λh' x=>?_;exact k h' (x.before oth ⟨_,qT'⟩ (ZF nT))
theorem qGm{e T:Addr}{C:EC}{fo:Option Addr}{Q:Unit->Shared->Prop}(re:vj s.heap e C (some T))
 (k:∀h',(∀fs,Noted fs e (some T) C s.heap h')->Q () {s with heap:=h'}):wpAny M A (setFlight (.ref e) fo) Q E s:=by
 obtain⟨vs,sl,q,r1,nT,oT,ts,m,qT,dT,r3⟩:=re;unfold setFlight;refine YJ (wpAny_field q rfl r1 ?_);rw[YB (by simp)];have oth:∀b,b≠T->(s.heap.update T (Obj.mapFields (·.setIfInBounds 3 (fo.elim Value.none λf=>rawInt f)))).get? b=s.heap.get? b:=λb z=>ZA _ _ (ZF z);refine wpAny_setField qT dT (ZO.mp r3).1 (k _ λfs=>⟨λb o q _ _ z=>?_,λb o q _ _ z=>⟨o.slots,?_⟩,⟨T,.inr rfl,?_⟩,λc ⟨o,ws,z1,z2⟩=>⟨o,ws,(ZA _ _ nT).trans z1,z2⟩⟩)
 . rw[oth b λw=>z (by rw[w])];exact q
 . rw[oth b λw=>z (by rw[w])];exact q
 . refine⟨vs,sl,(ZA _ _ nT).trans q,r1,nT,_,_,fo.elim Value.none λf=>rawInt f,Heap.get?_update_self _ qT (Obj.isFreed_of_fields (Obj.data_mapFields dT _)),Obj.data_mapFields dT _,?_⟩
   have h3:=(ZO.mp r3).1;simp[h3]
theorem qEc{e T:Addr}{C:EC}{Q:Unit->Shared->Prop}(re:vj s.heap e C (some T))
 (k:∀h',(∀fs,Noted fs e (some T) C s.heap h')->Q () {s with heap:=h'}):wpAny M A (setFlight (.ref e) none) Q E s:=qGm re k
theorem qO7{base:Heap}{env:Env}{outer:List Env}{L e:Addr}{C:EC}{hd:Option Addr}{Q:Unit->Shared->Prop}
 (fr:A.frames=some (env::outer)) (ff:s.heap.FunFrames base (env::outer)) (ef:env.frame=some L) (re:vj s.heap e C hd)
 (k:∀h',Noted (frs (env::outer)) e hd C s.heap h'->Q () {s with heap:=h'}):wpAny M A (noteFrame (.ref e) env) (λ_ s'=>wpAny M A (setFlight (.ref e) none) Q E s') E s:=by
 refine qMw fr ff ef re λh1 N1=>?_;obtain⟨T,hT,rT⟩:=N1.ent;exact qEc (s:={s with heap:=h1}) rT λh2 N2=>k h2 (N1.then hT (N2 _))
theorem qTs{base:Heap}{env:Env}{outer:List Env}{L e:Addr}{C:EC}{hd:Option Addr}{E2:Value->Shared->Prop}
 (fr:A.frames=some (env::outer)) (ff:s.heap.FunFrames base (env::outer)) (ef:env.frame=some L) (re:vj s.heap e C hd)
 (k:∀h',Noted (frs (env::outer)) e hd C s.heap h'->E2 (.ref e) {s with heap:=h'}):notedBy M A env (cameBackBy M A env E2) (.ref e) s:=by
 refine qMw fr ff ef re λh1 N1=>?_;obtain⟨T,hT,rT⟩:=N1.ent;obtain⟨vs,sl,q,r1,_⟩:=id rT;show wpAny M A _ _ _ _;refine YJ (wpAny_field (s:={s with heap:=h1}) q rfl r1 ?_);rw[YA (by simp)];exact qGm (s:={s with heap:=h1}) rT λh2 N2=>k h2 (N1.then hT (N2 _))
end
theorem qTy{P:Program}{w:World}{H:Hp}{h:Heap}{a:Addr}{o:HO}(x:ObjOk P w H h a o):∃ob,h.get? a=some ob:=by
 cases o with
 |lst xs=>obtain⟨_,_,_,_,e⟩:=x;exact⟨_,e⟩
 |tup xs=>obtain⟨_,_,_,ob,e,_⟩:=x;exact⟨ob,e⟩
 |dK kvs=>obtain⟨_,_,_,_,o,_,_,e,_⟩:=x;exact⟨_,e⟩
 |dT kvs=>obtain⟨_,_,_,_,o,_,_,e,_⟩:=x;exact⟨_,e⟩
 |set S n=>obtain⟨o,_,_,_,e,_⟩:=x;exact⟨_,e⟩
 |ins C dx fs=>obtain⟨_,_,_,e,_⟩:=x;exact⟨_,e⟩
 |own y=>exact x
 |xd fs=>obtain⟨_,⟨_,_,_,e,_⟩,_⟩:=x;exact⟨_,e⟩
 |rng lo hi=>obtain⟨_,_,_,e⟩:=x;exact⟨_,e⟩
 |frz ob u=>obtain⟨e,_⟩:=x;exact⟨_,e⟩
 |tbl ps=>exact⟨_,x⟩
 |met f y=>exact⟨_,x⟩
 |ext φ=>exact x.2.1
def qPv(h₀:Heap)(H:Hp)(ps:List (Addr×Obj))(e:Addr):Prop:=h₀.get? e=none/\H e=none/\∀p∈ps,p.1≠e
def qSp(h₀:Heap)(H:Hp)(ps:List (Addr×Obj))(h:Heap)(e:Addr)(C:EC):Prop:=
 qPv h₀ H ps e/\∃hd,vj h e C hd/\∀T,hd=some T->qPv h₀ H ps T
def CXR(P:Program)(w:World):CXT:=λouter H s E e s'=> ∃ea C H',e=.ref ea/\s'.os=s.os/\AllBare s'.gens/\Un (frs outer) [] H H' s.heap s'.heap/\HOk P w H' s'.heap/\qSp s.heap H' [] s'.heap ea C/\E C.1 C.2 H'
def XE(X:Cx)(Ex:Value->Option Addr->Hp->Prop):Value->Shared->Prop:=λe s'=> ∃ea C σ H',e=.ref ea/\Inv X [] σ H' s'/\qSp X.s₀.heap H' X.pn s'.heap ea C/\Ex C.1 C.2 H'
section
variable{X:Cx}{σ:L2.St}{H:Hp}{s:Shared}
theorem vI{e:Addr}{hd:Option Addr}{C:EC}{h':Heap}(I:Inv X [] σ H s)(hex:X.ex=[])(re:vj s.heap e C hd)(n1:qPv X.s₀.heap H X.pn e)(n3:∀T,hd=some T->qPv X.s₀.heap H X.pn T)
 (N:Noted (frs X.stack) e hd C s.heap h'):Inv X [] σ H {s with heap:=h'}/\qSp X.s₀.heap H X.pn h' e C:=by
 have B:=I.base;rw[hex]at B;have ne:∀b o,X.s₀.heap.get? b=some o->b≠e/\some b≠hd/\b≠X.env.locals:=λb o q=>by
  refine⟨λz=>?_,λz=>?_,Yo (YR (YV q) I.ok.above)⟩
  . rw[z,n1.1]at q;cases q
  . rw[(n3 b z.symm).1]at q;cases q
 have nin:∀b,b∉([]:List Addr):=λb z=>nomatch z
 have nfl:∀b o,s.heap.get? b=some o->(∀vs,o.data≠ .fields vs)->b≠e/\some b≠hd:=λb o q nf=>by
  obtain⟨vs,sl,qe,r⟩:=re;refine⟨λz=>?_,λz=>?_⟩
  . rw[z,qe]at q;cases q
    exact nf vs rfl
  . subst z
    obtain⟨_,_,oT,ts,_,qT,dT,_⟩:=r;rw[qT]at q;cases q;exact nf ts dT
 have up:∀b o,s.heap.get? b=some o->b≠e->some b≠hd->∃sl,h'.get? b=some {o with slots:=sl}:=λb o q z1 z2=>by
  by_cases hs:b∈frs X.stack
  . exact N.slot b o q hs z1 z2
  . exact⟨o.slots,N.keep b o q hs z1 z2⟩
 have un:Un X.fs [] X.H₀ H X.s₀.heap h':=by
  refine⟨λb o q n hb hx=>?_,λb o q n hb hx=>?_,λb o q n hx=>B.free b o q n hx,λb o q hx=>?_,B.tups,B.frzs,B.tbls⟩
  . obtain⟨z1,z2,z3⟩:=ne b o q
    refine N.keep b o (B.keep b o q n hb hx) (λz=>?_) z1 z2;rcases YU.mp (I.stkSub b z)with w|w
    . exact z3 w
    . exact hb w
  . obtain⟨z1,z2,z3⟩:=ne b o q
    obtain⟨sl,q1⟩:=B.slot b o q n hb hx;obtain⟨sl',q2⟩:=up b _ q1 z1 z2;exact⟨sl',q2⟩
  . obtain⟨z1,z2,z3⟩:=ne b o q
    obtain⟨o',q1⟩:=B.there b o q hx;obtain⟨sl',q2⟩:=up b _ q1 z1 z2;exact⟨_,q2⟩
 have hok:HOk X.prog X.w H h':=λa u q=>by
  have key:∀c,H c=none->¬(c=a\/H c=some (.own a)):=λc z w=>by
   rcases w with w|w
   . rw[w,q]at z;cases z
   . rw[z]at w;cases w
  exact(I.hok a u q).stay (λc v hc z=>N.keep c v z (λw=>key c (I.stkFree c w) hc) (λw=>key c (by rw[w];exact n1.2.1) hc) λw=>key c (n3 c w.symm).2.1 hc) (λ_ z=>z) λ_ _ z=>z
 have cellK:∀c v,s.heap.IsCell c v->h'.IsCell c v:=λc v ⟨o,q,d⟩=>by
  obtain⟨z1,z2⟩:=nfl c o q λvs w=>by rw[d]at w;cases w
  obtain⟨sl,q'⟩:=up c o q z1 z2;exact⟨_,q',d⟩
 have I':Inv X [] σ H {s with heap:=h'}:=by
  refine⟨I.ok,I.os,I.bare,by rw[hex];exact un,?_,λy c e=>?_,I.free,I.freeC,λp hp=>?_,hok,I.len⟩
  . obtain⟨m,⟨o,es,ep,ho,hd',r⟩,hl⟩:=I.loc
    obtain⟨z1,z2⟩:=nfl _ o ho λvs w=>by rw[hd']at w;cases w
    obtain⟨sl,q'⟩:=up _ o ho z1 z2;refine⟨m,⟨_,es,ep,q',hd',r⟩,λi x v e1 e2 e3=>?_⟩;obtain⟨u,r,l⟩:=hl i x v e1 e2 e3;refine⟨u,r,?_⟩;rcases l with l|⟨k,c,ec,z⟩
    . exact .inl l
    . exact .inr ⟨k,c,ec,cellK c _ z⟩
  . obtain⟨v,z⟩:=I.cell y c e
    exact⟨v,cellK c v z⟩
  . obtain⟨q,n,nl,nf,d⟩:=I.pin p hp
    have hp':p∈X.pn:=by simpa using hp
    refine⟨N.keep p.1 p.2 q (λz=>?_) (n1.2.2 p hp') λz=>(n3 p.1 z.symm).2.2 p hp' rfl,n,nl,nf,d⟩;rcases YU.mp (I.stkSub p.1 z)with w|w
    . exact nl w
    . exact nf w
 refine⟨I',n1,?_⟩;obtain⟨T,nT,r⟩:=N.ent;refine⟨some T,r,λT' e'=>?_⟩;cases e';rcases nT with nT|nT
 rotate_left
 . exact n3 T nT
 refine⟨?_,?_,λp hp z=>?_⟩
 . cases q:X.s₀.heap.get? T with
   |none=>rfl
   |some o=>
    obtain⟨o',z⟩:=B.there T o q (nin T);rw[nT]at z;cases z
 . cases q:H T with
   |none=>rfl
   |some u=>
    obtain⟨o',z⟩:=qTy (I.hok T u q);rw[nT]at z;cases z
 . have q:=(I.pin p (Yp _ hp)).1
   rw[z,nT]at q;cases q
end
theorem qYd{X:Cx}{Ex:Value->Option Addr->Hp->Prop}{L:Addr}{env:Env}{outer:List Env}(hst:X.stack=env::outer)(he:X.env=env)(hf:env.frame=some L)(hex:X.ex=[]):PassesOwn (model X.prog X.w) X.A X.env (XE X Ex):=by rintro e s' ⟨ea,C,σ,H',rfl,I,⟨n1,hd,r,n3⟩,z⟩;subst he;have fr:=I.ok.frames;rw[hst]at fr;have ff:=I.stack;rw[hst]at ff;refine qTs fr ff hf r λh' N'=>?_;rw[<-hst]at N';obtain⟨I',x'⟩:=vI I hex r n1 n3 N';exact⟨ea,C,σ,H',O,I',x',z⟩
theorem qUk{X:Cx}{E:Value->Shared->Prop}{st:List Stmt}{t:TS}(h:PSs (X.wish E) st t)(hE:∀e s',E e s'->X.xe e s'):PSs X st t:=λpins s σ H D I hw=>
 YL (h pins s σ H D (I.wish E) hw) (λ_ _ q=>q.unwish) hE
section
variable{P:Program}{w:World}{K:PySem.W.Frag}{mg:Str->Option Value}{base:Heap}
theorem okX{x qual:Str}{st:Stmt}{f:Addr}{fd:FuncData}{N ps:List Str}{k:Nat}{sp:Sp}(F:Fun K x qual st f fd)(S:qL N ps (qH st))(len:∀vs H Q E,sp vs H Q E->vs.length=ps.length)
 (hbody:∀(cdv:Value) (A:Around) (outer:List Env) (s:Shared) (H:Hp) (vs:List V) (Q:VK) (E:XK),Room k (A.deeper (envOfC qual (qH st) s.heap.objs.size f cdv))->sp vs H Q E->
   ∃t,PSs ((qN3 (CXR P w) P w K mg base N qual (qH st) f cdv A outer s H E).wish (XE (qN3 (CXR P w) P w K mg base N qual (qH st) f cdv A outer s H E) E)) (j7 st) t/\
    t {nx:=λ_ H'=>Q .non H',rt:=Q} (qEa N vs) H):FnOk P w K mg base (CXR P w) (k+1) f fd ps sp:=by
 obtain⟨oc,od,kV,doc,pm,an,cdv,ct,osl,rfl,lk,hcd⟩:=F.ex;refine qXo lk hcd S len λA outer s H vs Q E hr hsp=>?_;obtain⟨t,h,q⟩:=hbody cdv A outer s H vs Q E hr hsp;refine⟨t,qUk h ?_,q⟩;rintro e s' ⟨ea,C,σ,H',rfl,I,⟨n1,hd,r,n3⟩,z⟩;show wpAny _ _ (leaving _ _) _ _ _;unfold leaving;refine YJ (qO7 I.ok.frames I.stack rfl r λh' N'=>?_);obtain⟨I',x'⟩:=vI I rfl r n1 n3 N';exact⟨ea,C,H',O,I.os,I.bare,I'.base,I'.hok,x',z⟩
end
theorem qYn{X:Cx}{Ex:Value->Option Addr->Hp->Prop}(hex:X.ex=[]):qC0 (CXR X.prog X.w) (X.wish (XE X Ex)) Ex:=by
 rintro pins σ H s e s' I ⟨ea,C,H',rfl,os,bare,un,hok,⟨n1,hd,r,n3⟩,q⟩;have I0:=I.unwish;have I1:Inv X pins σ H' s':=I0.call' (ch:=[]) os un hok bare λb z=>nomatch z
 have old:∀b,s.heap.get? b=none->X.s₀.heap.get? b=none:=λb z=>by
  cases w:X.s₀.heap.get? b with
  |none=>rfl
  |some o=>
   obtain⟨o',w'⟩:=I0.base.there b o w (by rw[hex];intro y;cases y);rw[z]at w';cases w'
 have pn:∀b,s.heap.get? b=none->∀p∈X.pn,p.1≠b:=λb z p hp w=>by have q:=(I0.pin p (Yp _ hp)).1;rw[w,z]at q;cases q
 exact⟨ea,C,σ,H',O,I1.pins_of (pins':=[]) λp hp=>(nomatch hp),⟨⟨old _ n1.1,n1.2.1,pn _ n1.1⟩,hd,r,λT e=>⟨old _ (n3 T e).1,(n3 T e).2.1,pn _ (n3 T e).1⟩⟩,q⟩
theorem xn{X:Cx}{Ex:Value->Option Addr->Hp->Prop}{k j:Nat}{x:Str}{st:Stmt}{ps:List Str}{f:Addr}{fd:FuncData}{sp:Sp}{e:Expr}{es:List Expr}{t:TA}{p pos:Pos}(D:Def X.K X.mg x st ps f fd)(F:FnOk X.prog X.w X.K X.mg X.base (CXR X.prog X.w) j f fd ps sp)(hr:Room k X.A)(hg:Gl X x)
 (ha:PA (X.wish (XE X Ex)) (e::es) t) (hj:j<=k:=by decide) (hex:X.ex=[]:=by rfl)
 (hdb:(x==("__debug__":Str))=false:=by decide) (he:starEach (e::es) X.env=(false,eval e X.env)::starEach es X.env:=by rfl) (hpl:(backTo pos (starEach es X.env)).any (·.1)=false:=by rfl):
 PE (X.wish (XE X Ex)) (.Call (.Name x p) (e::es) [] pos) (qU0 sp [] Ex t):=
 qPp (X:=X.wish (XE X Ex)) (CX:=CXR X.prog X.w) F (hr.mono hj) hg D.m D.F.kp D.b .nil (qYn hex) ha hdb he hpl
noncomputable def qW9:List Value:=[.type "ValueError",.type "Exception",.type "BaseException",.type "object"]
noncomputable def qX9(K:PySem.W.Frag)(C:Addr)(u:Option Value):Bool:=match K.lookup C with
 |some o=>(match o.data with
  |.cls d=>o.cls== .type "type" && d.mro== .ref C::d.mro.tail && (o.slots.toList==let g i:=o.slots.toList.getD i none;[g 0,g 1,g 2,g 3,some (.builtin "ValueError.__new__"),g 5]) && !d.hasDel && PySem.W.tailIn K qW9 d.mro.tail && PySem.W.nsOkIn K d.ns && PySem.W.nsIn K d.ns "__init__"==some u
  |_=>false)
 |none=>false
inductive ExG(h:Heap)(C:Addr)(u:Option Value):Prop
 |mk (bm N nm q bs hd sn sub ab col dd k0 k1 k2 k3 k5 mN) (hC:h.get? C=some (excClassObj nm q C N bs bm hd sn sub ab col dd k0 k1 k2 k3 k5 "ValueError.__new__")) (hN:h.Ns N mN) (hi:mN "__init__"=u) (T:OwnTail h qW9 bm)
theorem qM6{K:PySem.W.Frag}{h:Heap}{C:Addr}{u:Option Value}(X:K.In h)(f:∀{N},h.Ns N (h.nsMap N)->PySem.W.nsIn K N "__init__"=some u->h.nsMap N "__init__"=u)(q:qX9 K C u=true):ExG h C u:=by
 unfold qX9 at q;cases ho:K.lookup C with
 |none=>rw[ho]at q;cases q
 |some o=>
  rw[ho]at q;obtain⟨c,dd,d,⟨l⟩⟩:=o;dsimp only at q;split at q
  . rename_i d
    simp only[Yl,beq_iff_eq,Bool.not_eq_true']at q;obtain⟨nm,bs,mro,ns,qn,hd,sn,sub,ab,col,dl⟩:=d;obtain⟨⟨⟨⟨⟨⟨rfl,e2⟩,e3⟩,e5⟩,e6⟩,e7⟩,e8⟩:=q;cases e5;have z:=X _ _ ho;dsimp only at e2;rw[e2,e3]at z;have N1:=Heap.Ns.of_isNs (PySem.W.isNs_of_in X e7);exact .mk _ _ _ _ _ _ _ _ _ _ _ _ _ _ _ _ _ z N1 (f N1 e8) (PySem.W.tail_of_in X e6)
  . cases q
def OwnX(K:PySem.W.Frag)(C:Addr):Prop:=qX9 K C none=true
def qX7(C:Addr)(Ex:Value->Option Addr->Hp->Prop)(t:TA):TS:=λ_ σ H=>t σ H λvs H1=>vs.length<=sizeLine/\Ex (.ref C) none H1
theorem xV{X:Cx}{Ex:Value->Option Addr->Hp->Prop}{x:Str}{C:Addr}{np cpos pos:Pos}{e₀:Expr}{rest:List Expr}{t:TA}(hcm:X.calm=true)(hg:Gl X x)(hm:X.mg x=some (.ref C))(hx:OwnX X.K C)(ha:PA (X.wish (XE X Ex)) (e₀::rest) t)
 (he:starEach (e₀::rest) X.env=(false,eval e₀ X.env)::starEach rest X.env:=by rfl) (hpl:(backTo cpos (starEach rest X.env)).any (·.1)=false:=by rfl) (hex:X.ex=[]:=by rfl) (hdb:(x==("__debug__":Str))=false:=by decide):
 PS (X.wish (XE X Ex)) (.Raise (some (.Call (.Name x np) (e₀::rest) [] cpos)) none pos) (qX7 C Ex t):=by
 intro pins s σ H D I h;obtain⟨tl,N,nm,q,bs,hdct,sn,sub,ab,col,dd,k0,k1,k2,k3,k5,mN,hC,hN,hni,T⟩:=
  qM6 I.ok.mod.kin (PySem.W.ns_none_of I.ok.mod.kin) hx
 refine wpAny_Raise_call_subT (bm:=tl) (C:=C) (N:=N) (nm:=nm) (q:=q) (bs:=bs) (hdct:=hdct) (sn:=sn) (sub:=sub) (ab:=ab) (col:=col) (dd:=dd) (k5:=k5) (k0:=k0) (k1:=k1) (k2:=k2) (k3:=k3)
  PySem.F.excBase_ValueError (mN:=mN) (T.hasType PySem.F.excBase_ValueError.hasBase) (I.ok.hd hcm) (by rw[he];show (false || (backTo cpos (starEach rest X.env)).any (·.1))=false;rw[hpl];rfl) hni (qAi I hg hm ⟨rfl,?_⟩ hdb)
 have z:=ha cpos pins s σ H _ I h;rw[show (X.wish (XE X Ex)).env=X.env from rfl]at z;rw[he]at z⊢;refine Calls.evalArgs_plain (YL z (λus s2 w=>?_) λ_ _ y=>y);obtain⟨vs,H1,I1,r1,hl,ex⟩:=w;have I1':=I1.unwish;refine⟨O,by rw[<-r1.length];exact hl,I1.bk _ _ hC,hN.keeps I1.bk,T.keeps I1.bk,λh' e hmk=>?_⟩;obtain⟨tt,q1,q2,q3⟩:=hmk.there;have I2:Inv X pins σ H1 {s2 with heap:=h'}:=I1'.kept (t':=s2.toks) hmk.keeps;refine⟨e,(.ref C,none),σ,H1,O,I2.pins_of (pins':=[]) λp hp=>(nomatch hp),⟨⟨?_,?_,λp hp z=>?_⟩,none,⟨_,_,q1,O⟩,λT e'=>nomatch e'⟩,ex⟩
 . cases w:X.s₀.heap.get? e with
   |none=>rfl
   |some o=>
    obtain⟨o',w'⟩:=I1'.base.there e o w (by rw[hex];intro y;cases y);rw[hmk.new]at w';cases w'
 . cases w:H1 e with
   |none=>rfl
   |some u=>
    obtain⟨o',w'⟩:=qTy (I1'.hok e u w);rw[hmk.new]at w';cases w'
 . have q':=(I1'.pin p (Yp _ hp)).1
   rw[z,hmk.new]at q';cases q'
noncomputable def pnX(X:Cx)(l:List (Addr×Obj)):Cx:={X with pn:=l}
noncomputable def hdX(X:Cx)(ea:Addr):Cx:={X with A:=X.A.mark (some (.ref ea)),calm:=false}
section
variable{X:Cx}{pins:List (Addr×Obj)}{σ:L2.St}{H:Hp}{s:Shared}
theorem qW7(I:Inv X pins σ H s):Inv (pnX X (X.pn++pins)) [] σ H s:=by obtain⟨a1,a2,a3,a4,a5,a6,a7,a8,a9,a10,a11,a12,a13,a14,a15,a16,a17,a18⟩:=I.ok;exact⟨⟨a1,a2,a3,a4,a5,a6,a7,a8,a9,a10,a11,a12,a13,a14,a15,a16,a17,a18⟩,I.os,I.bare,I.base,I.loc,I.cell,I.free,I.freeC,λp hp=>I.pin p (by have z:p∈(X.pn++pins)++[]:=hp;simpa using z),I.hok,I.len⟩
theorem qDe(I:Inv (pnX X (X.pn++pins)) [] σ H s):Inv X pins σ H s:=by obtain⟨a1,a2,a3,a4,a5,a6,a7,a8,a9,a10,a11,a12,a13,a14,a15,a16,a17,a18⟩:=I.ok;exact⟨⟨a1,a2,a3,a4,a5,a6,a7,a8,a9,a10,a11,a12,a13,a14,a15,a16,a17,a18⟩,I.os,I.bare,I.base,I.loc,I.cell,I.free,I.freeC,λp hp=>I.pin p (by show p∈(X.pn++pins)++[];simpa using hp),I.hok,I.len⟩
theorem qP0{ea:Addr}(I:Inv X pins σ H s):Inv (hdX X ea) pins σ H s:=by obtain⟨a1,a2,a3,a4,a5,a6,a7,a8,a9,a10,a11,a12,a13,a14,a15,a16,a17,a18⟩:=I.ok;exact⟨⟨a1,a2,a3,a4,a5,a6,a7,a8,λh=>YC (show false=true from h) YZ,a10,a11,a12,a13,a14,a15,a16,a17,a18⟩,I.os,I.bare,I.base,I.loc,I.cell,I.free,I.freeC,I.pin,I.hok,I.len⟩
theorem qIr{ea:Addr}(I:Inv (hdX X ea) pins σ H s)(hd:X.calm=true->X.A.handled=none):Inv X pins σ H s:=by obtain⟨a1,a2,a3,a4,a5,a6,a7,a8,a9,a10,a11,a12,a13,a14,a15,a16,a17,a18⟩:=I.ok;exact⟨⟨a1,a2,a3,a4,a5,a6,a7,a8,hd,a10,a11,a12,a13,a14,a15,a16,a17,a18⟩,I.os,I.bare,I.base,I.loc,I.cell,I.free,I.freeC,I.pin,I.hok,I.len⟩
noncomputable def qLz(e:Addr)(C:EC):HO:=.ext λh=> ∃(vs:Array Value) (sl:Array (Option Value)),h.get? e=some {cls:=C.1,dict:=C.2,data:=.fields vs,slots:=sl}
theorem qIp{a:Addr}{C:EC}{hd:Option Addr}(I:Inv X [] σ H s)(_:X.ex=[])(n:qPv X.s₀.heap H X.pn a)(r:vj s.heap a C hd):Inv X [] σ (upd H a (qLz a C)) s:=by
 obtain⟨vs,sl,q,_⟩:=r;have B:=I.base;have ne:∀b o,X.s₀.heap.get? b=some o->b≠a:=λb o w z=>by rw[z,n.1]at w;cases w
 refine⟨I.ok,I.os,I.bare,⟨B.keep,B.slot,λb o w z hx=>?_,B.there,λb xs w=>?_,λb o u w=>?_,λb ps w=>?_⟩,I.loc,I.cell,?_,λy c e=>?_,λp hp=>?_,λb u w=>?_,I.len⟩
 . rw[qQ (ne b o w)];exact B.free b o w z hx
 . have z:=B.tups b xs w
   rw[qQ (qV z n.2.1)];exact z
 . have z:=B.frzs b o u w
   rw[qQ (qV z n.2.1)];exact z
 . obtain⟨more,z⟩:=B.tbls b ps w
   exact⟨more,by rw[qQ (qV z n.2.1)];exact z⟩
 . obtain⟨m,⟨o,es,ep,ho,hd',_⟩,_⟩:=I.loc
   rw[qQ (λz=>by rw[z,q]at ho;cases ho;cases hd')];exact I.free
 . obtain⟨v,o,ho,hd'⟩:=I.cell y c e
   rw[qQ (λz=>by rw[z,q]at ho;cases ho;cases hd')];exact I.freeC y c e
 . obtain⟨w1,w2,w3⟩:=I.pin p hp
   have hp':p∈X.pn:=by simpa using hp
   rw[qQ (n.2.2 p hp')];exact⟨w1,w2,w3⟩
 . by_cases hb:b=a
   . subst hb
     rw[qC]at w;cases w;refine⟨⟨vs,sl,q⟩,⟨_,q⟩,λh1 h2 z k=>?_⟩;obtain⟨vs',sl',z⟩:=z;exact⟨vs',sl',k _ z⟩
   . rw[qQ hb]at w
     exact(I.hok b u w).stay (λ_ _ _ z=>z) (λc z=>by rw[qQ (qV z n.2.1)];exact z) λc xs z=>by rw[qQ (qV z n.2.1)];exact z
theorem qAu{M:Model}{A:Around}{E:Value->Shared->Prop}{i:Nat}{n:Str}{pos:Pos}{Q:Unit->Shared->Prop}(I:Inv X pins σ H s)(hN:X.N.Nodup)(hi:X.N[i]?=some n)(hl:X.env.scope.names.lookup n=some .local)
 (h:∀s',Inv X pins (σ.set i none) H s'->Q () s'):wpAny M A (do bindName X.env n .none;unbindBehindTheSuite X.env n pos) Q E s:=by
 refine YJ (wpAny_bindName (qDu (v:=.non) I hN hi (.inl hl) rfl (λs1 I1=>?_) (.inr hl)));unfold unbindBehindTheSuite;refine wpAny_onRaise ?_;have hcls:(X.env.scope.kind== .class || (X.env.scope.kind== .module && X.env.locals != X.env.globals))=false:=by rw[I1.ok.kind];rfl
 have hiσ:i<σ.length:=by rw[I.len];exact(Ya.mp hi).1
 obtain⟨m,hn,hlk⟩:=I1.loc;obtain⟨u,r,lk⟩:=hlk i n .non hi (by rw[Yz hiσ]) (.inl hl);have hm:m n=some u:=by
  rcases lk with ⟨_,z⟩|⟨z,_⟩
  . exact z
  . have hl':X.env.kindOf n=some .local:=hl
    rw[hl']at z;rcases z with z|z <;> cases z
 obtain⟨oL,es,ep,hoL,hdL,_⟩:=id hn;refine wpAny_unbindName_local hl hn hm hcls λh' u' hn' hs=>h _ ?_;have B:=I1.base;have neL:∀b o,X.s₀.heap.get? b=some o->b≠X.env.locals:=λb o e=>Yo (YR (YV e) I1.ok.above);refine⟨I1.ok,I1.os,I1.bare,⟨λb o e n hb hx=>(hs.2 b (neL b o e)).trans (B.keep b o e n hb hx),λb o e n hb hx=>?_,B.free,λb o e hx=>?_,B.tups,B.frzs,B.tbls⟩,⟨_,hn',λj y v e1 e2 e3=>?_⟩,λy c e=>?_,I1.free,I1.freeC,λp hp=>?_,λb ob e=>?_,?_⟩
 . obtain⟨sl,z⟩:=B.slot b o e n hb hx
   exact⟨sl,(hs.2 b (neL b o e)).trans z⟩
 . obtain⟨o',z⟩:=B.there b o e hx
   exact⟨o',(hs.2 b (neL b o e)).trans z⟩
 . have hj:j≠i:=λz=>by subst z;rw[Yz hiσ]at e2;cases e2
   rw[ZJ (ZF hj)]at e2;obtain⟨u2,r2,l2⟩:=hlk j y v e1 (by rw[ZJ (ZF hj)];exact e2) e3;refine⟨u2,r2,?_⟩;rcases l2 with ⟨k,z⟩|⟨k,c,ec,z⟩
   . refine .inl ⟨k,?_⟩
     have:y≠n:=λw=>hj (qHf hN e1 (w ▸ hi));simp[this,z]
   . exact .inr ⟨k,c,ec,z.sameBut hs (I1.cne y c ec)⟩
 . obtain⟨w',z⟩:=I1.cell y c e
   exact⟨w',z.sameBut hs (I1.cne y c e)⟩
 . obtain⟨e,n,ne,nf,d⟩:=I1.pin p hp
   exact⟨(hs.2 p.1 ne).trans e,n,ne,nf,d⟩
 . refine(I1.hok b ob e).stay (λc w' hc q=>(hs.2 c λz=>?_).trans q) (λ_ q=>q) λ_ _ q=>q
   have fr:=I1.free;rcases hc with hc|hc
   . rw[<-hc,z,fr]at e;cases e
   . rw[z,fr]at hc;cases hc
 . have:=I1.len
   simpa using this
end
noncomputable def qU2(D:qO4)(i:Option Nat):qO4:=
 let f:(L2.St->Hp->Prop)->L2.St->Hp->Prop:=λq σ H=>match i with|some i=>q (σ.set i none) H|none=>q σ H
 {nx:=f D.nx,rt:=D.rt,bk:=f D.bk,ct:=f D.ct}
noncomputable def qY9(i:Option Nat)(ea:Addr)(σ:L2.St):L2.St:=match i with|some i=>σ.set i (some (.ref ea))|none=>σ
inductive qQm(X:Cx):Option Str->Option Nat->Prop where
 |none:qQm X none none
 |some {n:Str} {i:Nat} (hi:X.N[i]?=some n) (hl:X.env.scope.names.lookup n=some .local):qQm X (some n) (some i)
end L3
namespace L3
open PySem PySem.Spec PySem.Calls PyProof.Rows PySem.W
section
variable{prog:Program}{w:World}{A:Around}{E:Value->Shared->Prop}{K:Frag}{h:Heap}{g:Array GenState}{d:Drawn}{t:Nat}{os:OsState}{a D:Addr}{ox:Obj}{od:Option Obj}
structure ExcK(K:Frag)(D:Addr):Prop where
 ga:findIn K (.ref D) "__getattribute__"=some (some (.builtin "BaseException.__getattribute__"))
 gt:findIn K (.ref D) "__getattr__"=some none
 ca:findIn K (.ref D) "__class__"=some (some (.builtin "object.__class__"))
 sg:specialIn K (.builtin "object.__class__") "__get__"=some (some (.builtin "getset_descriptor.__get__"))
 tk:takesIn K (.builtin "object.__class__")=some true
 mo:mroIn K D (.type "object")=some true
 mb:mroIn K D (.type "BaseException")=some true
theorem qQ1{tk:Tok}{Q:Fin->Shared->Prop}(c:ExcK K D)(X:K.In h)(I:InstAt h a ox D od)(hq:Q (.done (.ret (.ref D))) ⟨h,g,d,t,os⟩):
 wpAny (model prog w) A (Builtin.«object.__getattribute__» ⟨[.ref a,.str "__class__" tk],[]⟩) Q E ⟨h,g,d,t,os⟩:=by
 have L0:=I.type (M:=model prog w);have L1:=looks_findIn (M:=model prog w) X c.ca;have hf:findObj K D od "__class__"=some (.bind (.builtin "getset_descriptor.__get__") (.builtin "object.__class__")):=by
  have mo:=c.mo;unfold mroIn at mo;unfold findObj;cases e:clsIn K D with
  |none=>rw[e]at mo;cases mo
  |some cd=>
   simp only[Option.bind_some,c.ca,c.sg,c.tk]
 have L2:=looks_find (M:=model prog w) X I hf;unfold Builtin.«object.__getattribute__»
 repeat (any_goals (first|assumption|(with_reducible refine YJ (L0.at ?_))|(with_reducible refine YJ (L2.at ?_))|wp_step))
 refine class_get (s:=⟨h,g,d,t,os⟩) (ox:=ox) (od:=od) X I c.mo ?_;exact YK hq
theorem qTk{tk:Tok}{R:Result->Shared->Prop}(c:ExcK K D)(X:K.In h)(I:InstAt h a ox D od)(hq:R (.ok (.ret (.ref D))) ⟨h,g,d,t,os⟩):
 codeAny (model prog w) A (.call (.builtin "BaseException.__getattribute__") ⟨[.ref a,.str "__class__" tk],[]⟩) R ⟨h,g,d,t,os⟩:=by
 refine codeAny_call_builtin F.attr_ValueError.ga.plain F.entry_bexc_ga ?_;have bkd:builtinKind "BaseException.__getattribute__"=some .slot:=by decide+kernel
 have hsp:splitId "BaseException.__getattribute__"=some ("BaseException","__getattribute__"):=by decide+kernel
 have ha:=F.args_bexc_ga (.ref a) (.str "__class__" tk);have L0:=I.type (M:=model prog w);have L1:Looks (model prog w) h (isInstance (.ref a) (.type "BaseException")) true:=L0.andThen (looks_mroIn X c.mb);simp only[checkBuiltinCall,bkd,hsp];refine YJ (L1.at ?_)
 repeat (first|assumption|(with_reducible refine qQ1 c X I ?_)|exact hq|wp_step)
theorem qWp{tk:Tok}{fill:Bool}{Q:Value->Shared->Prop}(c:ExcK K D)(X:K.In h)(I:InstAt h a ox D od)(hq:Q (.ref D) ⟨h,g,d,t,os⟩):
 wpAny (model prog w) A (getAttrBy (.ref a) (.str "__class__" tk) fill) Q E ⟨h,g,d,t,os⟩:=by
 have L0:=I.type (M:=model prog w);have L1:=looks_findIn (M:=model prog w) X c.ga;have L2:=looks_findIn (M:=model prog w) X c.gt;have f3:=F.attr_ValueError.ga.bind (.ref a);have no2:(Value.builtin "BaseException.__getattribute__"==Value.builtin "object.__getattribute__")=false:=by decide+kernel
 have no1:(onTheHeap (Value.ref D) && Value.builtin "BaseException.__getattribute__"==Value.builtin "object.__getattribute__")=false:=by rw[no2];rfl
 repeat (any_goals (first|assumption|(with_reducible refine YJ (L0.at ?_))|(with_reducible refine YJ (L1.at ?_))|(with_reducible refine YJ (L2.at ?_))|(with_reducible refine L1.at ?_)|(with_reducible refine L2.at ?_)|wp_step))
 refine qTk c X I ?_;show wpAny _ _ (handedOut (.ref D)) Q E _;exact YK hq
theorem qS8{Q:Option Value->Shared->Prop}(c:ExcK K D)(X:K.In h)(I:InstAt h a ox D od)(hq:Q (some (.ref D)) ⟨h,g,d,t+1,os⟩):wpAny (model prog w) A (getAttr? (.ref a) "__class__") Q E ⟨h,g,d,t,os⟩:=by
 unfold getAttr? getAttrBy?
 repeat (any_goals (first|assumption|with_reducible refine qWp c X I ?_|wp_step))
theorem qMq(c:ExcK K D):KitX K (.ref a) (.ref D) (λh=>InstAt h a ox D od) where
 ty:=λ_ _ _ I=>I.type
 it:=λ_ _ X _=>by
  have mo:=c.mo;unfold mroIn clsIn at mo;split at mo
  . rename_i kls kdi kcd ksl kob
    intro A' Q' E' s' kp wq;unfold isType loadHead;exact YJ (wpAny_loadPart (kp _ _ (X _ _ kob)) (YK wq))
  . cases mo
 ne:=λh tp dd its n sl X htp=>by
  have mo:=c.mo;refine Bool.eq_false_iff.mpr λsame=>?_;have here:D=tp:=Value.ref.inj (beq_iff_eq.mp same);subst here;unfold mroIn clsIn at mo;split at mo
  . rename_i kls kdi kcd ksl kob
    have z:=(X _ _ kob).symm.trans htp;cases z
  . cases mo
 ca:=λ{_ _ _ _ _ s} X I k=>by obtain⟨h,g,d,t,os⟩:=s;exact qS8 c X I k
end
end L3
namespace L3
open PySem PySem.Spec PyProof.Rows L2
def OwnD(H:Hp)(od:Option Addr):Prop:=od=none\/∃dx fs,od=some dx/\H dx=some (.xd fs)
theorem OwnD.at{X:Cx}{pins:List (Addr×Obj)}{σ:L2.St}{H:Hp}{s:Shared}{e D:Addr}{od:Option Addr}{vs:Array Value}{sl:Array (Option Value)}(I:Inv X pins σ H s)(h:OwnD H od)
 (qe:s.heap.get? e=some {cls:=.ref D,dict:=od,data:=.fields vs,slots:=sl}):∃o,PySem.W.InstAt s.heap e {cls:=.ref D,dict:=od,data:=.fields vs,slots:=sl} D o:=by
 rcases h with rfl|⟨dx,fs,rfl,hd⟩
 . exact⟨none,qe,O,O,trivial⟩
 . obtain⟨mA,⟨o,es,ep,e',c⟩,r⟩:=I.hok dx _ hd
   exact⟨some o,qe,O,O,e'⟩
theorem qJo{X:Cx}:zD X (.builtin "isinstance") (λxs H Q=> ∃e D od c b,xs=[.ref e,c]/\H e=some (qLz e (.ref D,od))/\OwnD H od/\ExcK X.K D/\
 ((∃n,c=.ty n/\PySem.W.kitOne X.K (.ref D) (.type n)=some b)\/∃a,c=.ref a/\PySem.W.kitOne X.K (.ref D) (.ref a)=some b)/\Q (.bl b) H):=by
 intro pins s σ H xs us Q I r h;obtain⟨e,D,od,c,b,rfl,he,hod,hc,hk,q⟩:=h;obtain⟨u,u',rfl,rx,rc⟩:=qPz r;cases rx;obtain⟨⟨vs,sl,qe⟩,_⟩:=I.hok e _ he;obtain⟨oo,J⟩:=hod.at I qe;rcases hk with ⟨n,rfl,hk⟩|⟨a,rfl,hk⟩
 . cases rc
   exact PySem.W.kia_one (qMq hc) I.kIn J hk (λz=>nomatch z) λtk=>⟨.bl b,H,I.tok _,O,q⟩
 . cases rc
   exact PySem.W.kia_one (qMq hc) I.kIn J hk (λz=>nomatch z) λtk=>⟨.bl b,H,I.tok _,O,q⟩
end L3
namespace L3
open PySem PySem.Spec PySem.Calls PySem.Builtin PySem.Builtin.ObjectAttr PyProof.Rows
noncomputable def exOver(K:PySem.W.Frag)(C D:Addr):Bool:=(PySem.W.clsIn K C).any λcd=>cd.mro== .ref C:: .ref D::qW9
section
variable{prog:Program}{w:World}{A:Around}{E:Value->Shared->Prop}{K:PySem.W.Frag}{s:Shared}{x C D:Addr}{vs:Array Value}{sl:Array (Option Value)}{R:Result->Shared->Prop}
open PySem.W in
theorem qQl{ox:Obj}{od:Option Obj}{name:Str}{tk:Tok}{v:Value}(X:K.In s.heap)(I:InstAt s.heap x ox C od)(hp:exOver K C D=true)(ht:takerIn K C name=some none)
 (h:∀b,wpAny (model prog w) A.in1 (storeInOwnDict (.ref x) (.ref C) (.str name tk) name v b)
   (λfin s'=>match fin with|.done f=>R (.ok f) s'|.again c'=>c'.quiet=true/\codeAny (model prog w) A c' R s') (λe s'=>R (.error e) s') s):
 codeAny (model prog w) A (.call (.builtin "object.__setattr__") ⟨[.ref x,.str name tk,v],[]⟩) R s:=by
 have SF:=PySem.F.store_object;obtain⟨cd,hc,ho⟩:=any_some hp;have ho:cd.mro=.ref C:: .ref D::qW9:=beq_iff_eq.mp ho;have sub:Looks (model prog w) s.heap (isInstance (.ref x) (.type "object")) true:=I.type.andThen (looks_mroIn X (by unfold mroIn;rw[hc,Option.bind_some,ho];rfl));refine codeAny_call_builtin SF.slot.plain SF.entry (@check_slot (model prog w) _ _ s "object.__setattr__" "object" "__setattr__" (.ref x) [.str name tk,v] [] _ SF.kind SF.split sub (SF.args (.ref x) (.str name tk) v) ?_);obtain⟨attr,ha,hr⟩:=Option.bind_eq_some_iff.mp ht;have hm:Looks (model prog w) s.heap (mroOf (.ref C)) cd.mro:=(looks_clsIn X hc).andThen .now;have L3:Looks (model prog w) s.heap (storeTaker? attr) none:=by
  cases attr with
  |none=>cases hr;exact .now
  |some a=>
   obtain⟨b,hb,hb2⟩:=Option.map_eq_some_iff.mp hr;refine(looks_takesIn X hb).andThen ?_;cases b
   . exact .now
   . cases hb2
 rw[osa_eq,refuse_eq];refine YJ (YJ (I.type.here (YJ (hm.here ?_))));rw[ho,refuseLoop_ref,refuseLoop_ref];rw[show refuseLoop (.ref x) "__setattr__" qW9=pure ()from PySem.F.store_ValueError.passes (.ref x)];refine YK (YJ (I.type.here (YJ ((looks_findIn X ha).here (YJ (L3.here ?_))))));exact h _
open PySem.W in
theorem qUx{name:Str}{v:Value}{Q:Unit->Shared->Prop}(X:K.In s.heap)(hx:s.heap.get? x=some {cls:=.ref C,dict:=none,data:=.fields vs,slots:=sl})
 (hs:findIn K (.ref C) "__setattr__"=some (some (.builtin "object.__setattr__"))) (hp:exOver K C D=true) (ht:takerIn K C name=some none) (hh:hasDictIn K C=true)
 (h:∀h' tk,h'.get? x=some {cls:=.ref C,dict:=some s.heap.objs.size,data:=.fields vs,slots:=sl}->h'.Ns1 s.heap.objs.size (λy=>if y=name then some v else none)->(∀b o,b≠x->s.heap.get? b=some o->h'.get? b=some o)->Q () {s with heap:=h',toks:=tk}):
 wpAny (model prog w) A (setAttr (.ref x) name v) Q E s:=by
 have J:InstAt s.heap x {cls:=.ref C,dict:=none,data:=.fields vs,slots:=sl} C none:=⟨hx,rfl,rfl,trivial⟩;refine PySem.W.set_plain X J hs (qQl (s:={s with toks:=s.toks+1}) X J hp ht λb=>?_);obtain⟨cd,hc,hd'⟩:=PySem.W.any_some hh;refine YJ (YK (YJ (YJ (wpAny_loadPart hx (YJ (PySem.W.Looks.here (s:={s with toks:=s.toks+1}) (PySem.W.looks_clsIn X hc) ?_))))));rw[hd'];have hx₁:(s.heap.push {cls:=.type "dict",data:=.dict #[]}).get? x=some {cls:=.ref C,dict:=none,data:=.fields vs,slots:=sl}:=YM _ hx;have hxs:x≠s.heap.objs.size:=Yo (YV hx);refine YJ (wpAny_alloc' ?_);refine YJ (wpAny_update' hx₁ ?_);refine YK ?_;have hgd:((s.heap.push {cls:=.type "dict",data:=.dict #[]}).update x λo=>{o with dict:=some s.heap.objs.size}).get? s.heap.objs.size=some {cls:=.type "dict",data:=.dict #[]}:=
  (Heap.get?_update_ne _ _ _ _ hxs.symm).trans (Heap.get?_push_at rfl rfl)
 have hnd:((s.heap.push {cls:=.type "dict",data:=.dict #[]}).update x λo=>{o with dict:=some s.heap.objs.size}).Ns s.heap.objs.size (λ_=>none):=
  ⟨_,#[],_,hgd,rfl,λe he=>YC he (by simp),λ_=>rfl⟩
 refine YJ (YK (YJ ?_));refine wpAny_nsSet1 (s:={s with heap:=_,toks:=s.toks+1}) (Heap.Ns1.of_empty hnd) λh' hn' hs2=>?_;obtain⟨oD,esD,epD,hoD,hdD,hcD⟩:=hn'.count (Within.cons name v Within.nil);refine YJ (wpAny_lookBehind hoD (by rw[hdD];exact pastItsLine_dict (ZC hcD (by rw[YE,ZM,sizeLine_eq];omega))) ?_);refine YK (h _ _ ?_ hn' ?_)
 . refine(hs2.2 x hxs).trans (Heap.get?_update_self _ hx₁ rfl)
 . intro b o hb ho
   exact(hs2.2 b (Yo (YV ho))).trans ((Heap.get?_update_ne _ _ _ _ hb).trans (YM _ ho))
end
section
variable{prog:Program}{w:World}{A:Around}{E:Value->Shared->Prop}{h:Heap}{g:Array GenState}{d:Drawn}{t:Nat}{os:OsState}
variable{nm q:Str}{C N:Addr}{bs bm bmB:List Value}{hdct:Bool}{sn:List Str}{sub:List Value}{ab:Bool}{col:Option Bool}{dd:Option Addr}{k0 k1 k2 k3 k5:Option Value}{B newId initId:String}
theorem qFr(F:ExcBaseFacts B newId initId bmB)(T:OwnTail h bmB bm){mN:Str->Option Value}{rest:List Value}{fI:Addr}{oI:Obj}{Q:PySem.Fin->Shared->Prop}
 (hC:h.get? C=some (excClassObj nm q C N bs bm hdct sn sub ab col dd k0 k1 k2 k3 k5 newId)) (hn:h.Ns N mN) (hi:mN "__init__"=some (.ref fI))
 (hfI:h.get? fI=some oI) (hfc:oI.cls=.type "function")
 (hq:∀h' e,Heap.MadeExcOf h h' e (.ref C) rest->h'.objs.size=h.objs.size+2->e=h.objs.size+1->
   wpAny (model prog w) A (call (.ref fI) (.ref e::rest)) (λr s'=>r=.none/\Q (.done (.ret (.ref e))) s') E ⟨h',g,d,t,os⟩) (hrest:rest.length<=sizeLine:=by size_fits):
 wpAny (model prog w) A (Builtin.«type.__call__» ⟨.ref C::rest,[]⟩) Q E ⟨h,g,d,t,os⟩:=by
 repeat (first|with_reducible refine wpAny_loadPart_at hC ?_|with_reducible refine wpAny_madeBy_exc hC ?_|wp_step)
 refine codeAny_call_builtin_code (Code.quiet_builtin _ F.quiet) (wpAny_check_new_subT F T hC ?_);refine codeAny_exc_new_subT F T hC ?_ hrest;show wpAny _ _ _ _ _ _;have hC₁:=YM {cls:=.ref C,data:=.fields #[.ref h.objs.size,.none,.none,.none,.bool false,.none]}
  (YM {cls:=.type "tuple",data:=.seq rest.toArray} hC)
 have hfI₁:=YM {cls:=.ref C,data:=.fields #[.ref h.objs.size,.none,.none,.none,.bool false,.none]}
  (YM {cls:=.type "tuple",data:=.seq rest.toArray} hfI)
 have hn₁:((h.push {cls:=.type "tuple",data:=.seq rest.toArray}).push {cls:=.ref C,data:=.fields #[.ref h.objs.size,.none,.none,.none,.bool false,.none]}).Ns N mN:=
  let ⟨o,es,ep,e,r⟩:=hn;⟨o,es,ep,YM _ (YM _ e),r⟩
 have hget:((h.push {cls:=.type "tuple",data:=.seq rest.toArray}).push
  {cls:=.ref C,data:=.fields #[.ref h.objs.size,.none,.none,.none,.bool false,.none]}).get? (h.objs.size+1)=some
  {cls:=.ref C,data:=.fields #[.ref h.objs.size,.none,.none,.none,.bool false,.none]}:=by heap_get
 have hcC:(Value.ref C::bm).contains (.ref C)=true:=by simp
 have T₁:=T.keeps (h':=(h.push {cls:=.type "tuple",data:=.seq rest.toArray}).push {cls:=.ref C,data:=.fields #[.ref h.objs.size,.none,.none,.none,.bool false,.none]})
  λb o e=>YM _ (YM _ e)
 unfold isInstance
 repeat (first|with_reducible refine wpAny_loadPart_at hget ?_|(with_reducible refine wpAny_isSubtype_exc hC₁ ?_;rw[hcC])|wp_step)
 show wpAny _ _ (typeLookup (.ref C) _) _ _ _;refine wpAny_typeLookup_tail hC₁ hn₁ T₁ F.mroIs F.init.lookup ?_;rw[hi];refine wpAny_holding (YJ ?_);unfold bindSpecial;refine YJ (wpAny_typeOf (T:="function") ⟨_,hfI₁,hfc⟩ ?_);rw[YB (by decide)];refine YK (YJ (YL (hq _ (h.objs.size+1) ⟨λb o hb=>YM _ (YM _ hb),Heap.get?_none_of_le (Nat.le_succ _),h.objs.size,hget,Heap.get?_none_of_le (YI _),?_⟩ (by simp only[Heap.size_push]) rfl) (λr s' hr=>?_) λ_ _ x=>x))
 . exact YM _ (Heap.get?_push_at rfl rfl)
 . obtain⟨rfl,hQ⟩:=hr
   wp_walk
   exact hQ
theorem qN5(F:ExcBaseFacts B newId initId bmB)(T:OwnTail h bmB bm){mN:Str->Option Value}{rest:List Value}{fI:Addr}{oI:Obj}{Q:Value->Shared->Prop}
 (hC:h.get? C=some (excClassObj nm q C N bs bm hdct sn sub ab col dd k0 k1 k2 k3 k5 newId)) (hn:h.Ns N mN) (hi:mN "__init__"=some (.ref fI))
 (hfI:h.get? fI=some oI) (hfc:oI.cls=.type "function")
 (hq:∀h' e,Heap.MadeExcOf h h' e (.ref C) rest->h'.objs.size=h.objs.size+2->e=h.objs.size+1->
   wpAny (model prog w) (A.under (.builtin "type.__call__" ⟨.ref C::rest,[]⟩)) (call (.ref fI) (.ref e::rest)) (λr s'=>r=.none/\Q (.ref e) s') E ⟨h',g,d,t,os⟩) (hrest:rest.length<=sizeLine:=by size_fits):
 wpAny (model prog w) A (call (.ref C) rest) Q E ⟨h,g,d,t,os⟩:=by
 have f1:=tc_lookup;have f2:=tc_bind (.ref C);have hT:(⟨h,g,d,t,os⟩:Shared).TypeIs (.ref C) "type":=⟨_,hC,rfl⟩;refine wpAny_call (codeAny_of_tree ?_);show wpAny _ _ (callAny (.ref C) _) _ _ _
 repeat (any_goals (first|assumption|with_reducible refine wpAny_loadPart_at hC ?_|wp_step))
 refine⟨O,?_⟩;refine codeAny_call_builtin_at (Code.quiet_builtin _ (by decide+kernel)) entry_typeCall (wpAny_check_type_call_sub hC (qFr (hrest:=hrest) F T hC hn hi hfI hfc λh' e hm h1 h2=>?_));exact hq h' e hm h1 h2
end
section
variable{prog:Program}{w:World}{A:Around}{E:Value->Shared->Prop}{s:Shared}{env:Env}
variable{nm q:Str}{C N:Addr}{bs bm bmB:List Value}{hdct:Bool}{sn:List Str}{sub:List Value}{ab:Bool}{col:Option Bool}{dd:Option Addr}{k0 k1 k2 k3 k5:Option Value}{B newId initId:String}
theorem qNw{M:Model}{x:Sem Value}{Q:Flow->Shared->Prop}(hbase:bm.contains (.type "BaseException")=true)(hh:A.handled=none)
 (h:wpAny M A x (λv s₁=> ∃e od vs sl,v=.ref e/\s₁.heap.get? C=some (excClassObj nm q C N bs bm hdct sn sub ab col dd k0 k1 k2 k3 k5 newId)/\
   s₁.heap.get? e=some {cls:=.ref C,dict:=od,data:=.fields vs,slots:=sl}/\vs[1]?=some .none/\E (.ref e) s₁) E s):
 wpAny M A (raiseStmt env (some x) none) Q E s:=by
 have hcB:(Value.ref C::bm).contains (.type "BaseException")=true:=by rw[List.contains_cons,hbase,Bool.or_true]
 unfold raiseStmt;refine YJ (YL h (λv s₁ h₁=>?_) λ_ _ x=>x);obtain⟨e,od,vs,sl,rfl,hC,he,hv,hE⟩:=h₁;obtain⟨hp,g,d,tk,os⟩:=s₁
 repeat (first|with_reducible refine wpAny_loadPart_at he ?_|with_reducible refine wpAny_loadPart_at hC ?_|(with_reducible refine wpAny_isSubtype_exc hC ?_;rw[hcB])|wp_step)
 rw[hv];refine YK ?_;rw[YA (by decide)];refine YK ?_;exact wpAny_raiseNew_none hh hE
theorem qLy(F:ExcBaseFacts B newId initId bmB){mN:Str->Option Value}{x:Str}{np cpos pos:Pos}{args:List Expr}{fI:Addr}{oI:Obj}{Q:Flow->Shared->Prop}
 (hbase:bm.contains (.type "BaseException")=true) (hh:A.handled=none) (hplain:(backTo cpos (starEach args env)).any (·.1)=false) (hi:mN "__init__"=some (.ref fI)) (hfc:oI.cls=.type "function")
 (h:wpAny (model prog w) A (eval (.Name x np) env) (λf s₁=>f=.ref C/\wpAny (model prog w) A (evalArgs (.ref C) true (backTo cpos (starEach args env)) [])
   (λa s₂=>a.kw=[]/\a.pos.length<=sizeLine/\s₂.heap.get? C=some (excClassObj nm q C N bs bm hdct sn sub ab col dd k0 k1 k2 k3 k5 newId)/\s₂.heap.Ns N mN/\OwnTail s₂.heap bmB bm/\s₂.heap.get? fI=some oI/\
     ∀h' e,Heap.MadeExcOf s₂.heap h' e (.ref C) a.pos->h'.objs.size=s₂.heap.objs.size+2->e=s₂.heap.objs.size+1->
      wpAny (model prog w) (A.under (.builtin "type.__call__" ⟨.ref C::a.pos,[]⟩)) (call (.ref fI) (.ref e::a.pos))
       (λr s'=>r=.none/\s'.heap.get? C=some (excClassObj nm q C N bs bm hdct sn sub ab col dd k0 k1 k2 k3 k5 newId)/\(∃od vs sl,s'.heap.get? e=some {cls:=.ref C,dict:=od,data:=.fields vs,slots:=sl}/\vs[1]?=some .none)/\E (.ref e) s') E {s₂ with heap:=h'}) E s₁) E s):
 wpAny (model prog w) A (exec (.Raise (some (.Call (.Name x np) args [] cpos)) none pos) env) Q E s:=by
 rw[arm_exec_Raise];refine YJ (wpAny_standAt (qNw (C:=C) (nm:=nm) (q:=q) (N:=N) (bs:=bs) (bm:=bm) (hdct:=hdct) (sn:=sn) (sub:=sub) (ab:=ab) (col:=col) (dd:=dd) (k0:=k0) (k1:=k1) (k2:=k2) (k3:=k3) (k5:=k5) (newId:=newId) hbase hh (YJ (YL (wpAny_Call_ofName (YL h (λf s₁ h₁=>?_) λ_ _ x=>x)) (λv s₃ h₃=>YJ (wpAny_standAt (YK h₃))) λ_ _ x=>x))));obtain⟨rfl,h₁⟩:=h₁;unfold callWith;refine YJ (wpAny_holding (YL h₁ (λa s₂ h₂=>YJ (wpAny_standAt ?_)) λ_ _ x=>x));obtain⟨apos,akw⟩:=a;obtain⟨hkw,hlen,hC,hn,T,hfI,h₂⟩:=h₂;obtain rfl:akw=[]:=hkw;obtain⟨hp,g,d,tk,os⟩:=s₂;simp only[hplain];refine YJ (wpAny_keeperOf_exc hC ?_);refine YJ (qN5 (hrest:=hlen) F T hC hn hi hfI hfc λh' e hm h1 h2=>YL (h₂ h' e hm h1 h2) (λr s' z=>⟨z.1,?_⟩) λ_ _ x=>x);obtain⟨_,hC',⟨od,vs,sl,he,hv⟩,hE⟩:=z;refine YJ (wpAny_holding (wpAny_point (YK ?_)));exact⟨e,od,vs,sl,O,hC',he,hv,hE⟩
end
end L3
namespace L3
open PySem PySem.Spec PyProof.Rows L2
noncomputable def qDv(e:Addr)(C:Value):HO:=.ext λh=> ∃(vs:Array Value) (sl:Array (Option Value)),h.get? e=some {cls:=C,dict:=none,data:=.fields vs,slots:=sl}/\vs[1]?=some .none
noncomputable def qFq(e:Addr)(C:EC):HO:=.ext λh=>vj h e C none
noncomputable def excInitIn(K:PySem.W.Frag)(C f:Addr):Bool:=qX9 K C (some (.ref f))
structure XMk(K:PySem.W.Frag)(C D f:Addr):Prop where
 ov:exOver K C D=true
 hd:PySem.W.hasDictIn K C=true
 sa:PySem.W.findIn K (.ref C) "__setattr__"=some (some (.builtin "object.__setattr__"))
 ex:excInitIn K C f=true
 fn:PySem.W.isFn K (.ref f)=true
theorem qN2{K:PySem.W.Frag}{h:Heap}{N:Addr}{mg:Str->Option Value}{n:Str}{v:Value}(X:K.In h)(G:h.Ns N mg)(e:PySem.W.nsIn K N n=some (some v)):mg n=some v:=by
 obtain⟨o,es,ep,ho,hd,_,hf⟩:=G;unfold PySem.W.nsIn at e;split at e
 . rename_i c d es' n' sl q
   have:=X _ _ q;rw[ho]at this;cases this;cases hd;split at e
   . rename_i en he
     cases e;rw[<-hf];unfold nsFind findBy;rw[<-Array.find?_toList,he];rfl
   . split at e <;> cases e
 . cases e
section
variable{X:Cx}{pins:List (Addr×Obj)}{σ:L2.St}{H:Hp}{s:Shared}
theorem qS3{e:Addr}{φ:Heap->Prop}(I:Inv X pins σ (upd H e (.ext φ)) s)(h0:H e=none)(hs:X.s₀.heap.get? e=none):Inv X pins σ H s:=by
 have B:=I.base;have nn:∀b u,upd H e (.ext φ) b=some u->(∀ψ,u≠ .ext ψ)->H b=some u:=λb u z n=>by
  by_cases hb:b=e
  . subst hb
    rw[qC]at z;cases z;exact YC rfl (n φ)
  . rwa [qQ hb]at z
 have n0:∀b,upd H e (.ext φ) b=none->H b=none:=λb z=>by
  by_cases hb:b=e
  . rw[hb,qC]at z;cases z
  . rwa [qQ hb]at z
 refine⟨I.ok,I.os,I.bare,⟨B.keep,B.slot,λb o w z hx=>n0 _ (B.free b o w z hx),B.there,λb xs w=>nn _ _ (B.tups b xs w) (λ_ z=>nomatch z),λb o u w=>nn _ _ (B.frzs b o u w) (λ_ z=>nomatch z),λb ps w=>?_⟩,I.loc,I.cell,n0 _ I.free,λy c z=>n0 _ (I.freeC y c z),λp hp=>?_,λb u w=>?_,I.len⟩
 . obtain⟨more,z⟩:=B.tbls b ps w
   exact⟨more,nn _ _ z (λ_ z=>nomatch z)⟩
 . obtain⟨w1,w2,w3⟩:=I.pin p hp
   exact⟨w1,n0 _ w2,w3⟩
 . have hb:b≠e:=λz=>by rw[z,h0]at w;cases w
   refine(I.hok b u (by rw[qQ hb];exact w)).stay (λ_ _ _ z=>z) (λc z=>nn _ _ z (λ_ z=>nomatch z)) λc xs z=>nn _ _ z (λ_ z=>nomatch z)
end
theorem qO3{X:Cx}{pins:List (Addr×Obj)}{σ:L2.St}{H:Hp}{s:Shared}{dx:Addr}{fs:List (Str×V)}(I:Inv X pins σ H s)(h0:H dx=none)(hs0:X.s₀.heap.get? dx=none)(hp:∀p∈X.pn++pins,p.1≠dx)
 (hl:dx≠X.env.locals) (hc:∀y c,X.env.cells.lookup y=some c->c≠dx) (ok:∃mA,s.heap.Ns1 dx mA/\∀f,RelO (fs.lookup f) (mA f)):Inv X pins σ (upd H dx (.xd fs)) s:=by
 have B:=I.base;have ne:∀b o,X.s₀.heap.get? b=some o->b≠dx:=λb o w z=>by rw[z,hs0]at w;cases w
 refine⟨I.ok,I.os,I.bare,⟨B.keep,B.slot,λb o w z hx=>?_,B.there,λb xs w=>?_,λb o u w=>?_,λb ps w=>?_⟩,I.loc,I.cell,?_,λy c e=>?_,λp hp'=>?_,λb u w=>?_,I.len⟩
 . rw[qQ (ne b o w)];exact B.free b o w z hx
 . have z:=B.tups b xs w
   rw[qQ (qV z h0)];exact z
 . have z:=B.frzs b o u w
   rw[qQ (qV z h0)];exact z
 . obtain⟨more,z⟩:=B.tbls b ps w
   exact⟨more,by rw[qQ (qV z h0)];exact z⟩
 . rw[qQ (ZF hl)];exact I.free
 . rw[qQ (hc y c e)];exact I.freeC y c e
 . obtain⟨w1,w2,w3⟩:=I.pin p hp'
   rw[qQ (hp p hp')];exact⟨w1,w2,w3⟩
 . by_cases hb:b=dx
   . subst hb
     rw[qC]at w;cases w;exact ok
   . rw[qQ hb]at w
     exact(I.hok b u w).stay (λ_ _ _ z=>z) (λc z=>by rw[qQ (qV z h0)];exact z) λc xs z=>by rw[qQ (qV z h0)];exact z
def qZo(K:PySem.W.Frag)(ta tv:TE)(f:Str):TS:=λD σ H=>tv σ H λy H1=>ta σ H1 λx H2=> ∃a C B,x=.ref a/\H2 a=some (qDv a (.ref C))/\exOver K C B=true/\PySem.W.hasDictIn K C=true/\
 PySem.W.findIn K (.ref C) "__setattr__"=some (some (.builtin "object.__setattr__"))/\PySem.W.takerIn K C f=some none/\∀dx,H2 dx=none->D.nx σ (upd (upd H2 a (qFq a (.ref C,some dx))) dx (.xd [(f,y)]))
theorem qV3{X:Cx}{o value:Expr}{f:Str}{pos pos':Pos}{ta tv:TE}(ha:PE X o ta)(hv:PE X value tv)(hs:swapsWith value (some (.Attribute o f pos')) pos.line X.env=pure false:=by rfl):
 PS X (.Assign [.Attribute o f pos'] value pos) (qZo X.K ta tv f):=by
 intro pins s σ H D I h;refine plainObj_wpAny_Assign_Attribute (thn (hv pins s σ H _ I h) λu s1 ⟨y,H1,I1,ry,q⟩=>thn (ha pins s1 σ H1 _ I1 q) λov s2 hx=>?_) hs;refine qS λ_ Y=>?_;obtain⟨x,H2,I2,rx,a,C,B,ex,ea,o1,o2,o3,o4,q2⟩:=hx;subst ex;obtain rfl:ov=Value.ref a:=rx;obtain⟨⟨vs,sl,he,hv1⟩,_,_⟩:=I2.hok a _ ea;apply Y;have hf:H2 s2.heap.objs.size=none:=I2.hok.fresh (YI _);refine qUx I2.kIn he o3 o1 o4 o2 λh' tk he' hn k=>⟨σ,_,?_,q2 _ hf⟩;have I3:Inv X pins σ (upd H2 a (qFq a (.ref C,some s2.heap.objs.size))) {s2 with heap:=h',toks:=tk}:=by refine I2.write (x:=a) (e:=a) (by rw[ea];exact True.intro) (.inl rfl) k ⟨_,he'⟩ ?_;refine⟨⟨vs,sl,he',hv1⟩,⟨_,he'⟩,λh1 h2 z k=>?_⟩;obtain⟨vs',sl',z,z2⟩:=z;exact⟨vs',sl',k _ z,z2⟩
 have na:s2.heap.objs.size≠a:=λz=>by rw[z,ea]at hf;cases hf
 refine qO3 I3 (by rw[qQ na];exact hf) ?_ (λp hp=>Yo (YV (I2.pin p hp).1)) (Nat.ne_of_gt I2.lt) (λy c e=>?_) ⟨_,hn,λg=>?_⟩
 . cases w:X.s₀.heap.get? s2.heap.objs.size with
   |none=>rfl
   |some o=>exact YC (YR (YV w) I2.sz) (Nat.lt_irrefl _)
 . obtain⟨v,o,ho,_⟩:=I2.cell y c e
   exact Yo (YV ho)
 . by_cases hg:g=f
   . subst hg
     simp[List.lookup];exact ry
   . have e1:([(f,y)]:List (Str×V)).lookup g=none:=by rw[List.lookup_cons];have:(g==f)=false:=beq_eq_false_iff_ne.mpr hg;rw[this];rfl
     rw[e1,YA hg];trivial
inductive qLk(C:Addr)(f:Str)(vs:List V)(H:Hp)(Q:VK)(_:XK):Prop
|mk (e:Addr) (v:V) (_:vs=[.ref e,v]) (_:H e=some (qDv e (.ref C))) (_:∀dx,H dx=none->Q .non (upd (upd H e (qFq e (.ref C,some dx))) dx (.xd [(f,v)])))
def qV6(C:Addr)(fn:Str)(Ex:Value->Option Addr->Hp->Prop)(t:TA):TS:=λ_ σ H=>t σ H λvs H1=> ∃v,vs=[v]/\∀dx,H1 dx=none->Ex (.ref C) (some dx) (upd H1 dx (.xd [(fn,v)]))
theorem qIs{X:Cx}{Ex:Value->Option Addr->Hp->Prop}{fn:Str}{k:Nat}{x:Str}{C B f:Addr}{fd:FuncData}{ps:List Str}{np cpos pos:Pos}{e₀:Expr}{rest:List Expr}{t:TA}(M:XMk X.K C B f)
 (F:FnOk X.prog X.w X.K X.mg X.base CX0 k f fd ps (qLk C fn)) (hb:Binds X.K fd ps []) (hr:Room (k+1) X.A) (hcm:X.calm=true) (hg:Gl X x) (hm:X.mg x=some (.ref C)) (ha:PA (X.wish (XE X Ex)) (e₀::rest) t)
 (he:starEach (e₀::rest) X.env=(false,eval e₀ X.env)::starEach rest X.env:=by rfl) (hpl:(backTo cpos (starEach rest X.env)).any (·.1)=false:=by rfl) (hex:X.ex=[]:=by rfl) (hdb:(x==("__debug__":Str))=false:=by decide):
 PS (X.wish (XE X Ex)) (.Raise (some (.Call (.Name x np) (e₀::rest) [] cpos)) none pos) (qV6 C fn Ex t):=by
 intro pins s σ H D I h;obtain⟨tl,N,nm,q,bs,hdct,sn,sub,ab,col,dd,k0,k1,k2,k3,k5,mN,hC,hN,hni,T⟩:=qM6 (K:=X.K) I.ok.mod.kin (qN2 I.ok.mod.kin) M.ex;have hfn:PySem.W.typeIn X.K (.ref f)=some (.type "function"):=beq_iff_eq.mp M.fn;have hfo:∃oI:Obj,X.base.get? f=some oI/\oI.cls=.type "function":=by
  replace hfn:(X.K.lookup f).map (·.cls)=some (.type "function"):=hfn;cases hl:X.K.lookup f with
  |none=>rw[hl]at hfn;cases hfn
  |some o=>
   rw[hl]at hfn;exact⟨o,I.ok.mod.kin _ _ hl,by simpa using hfn⟩
 obtain⟨oI,hfI,hfc⟩:=hfo;refine qLy (bm:=tl) (C:=C) (N:=N) (nm:=nm) (q:=q) (bs:=bs) (hdct:=hdct) (sn:=sn) (sub:=sub) (ab:=ab) (col:=col) (dd:=dd) (k5:=k5) (k0:=k0) (k1:=k1) (k2:=k2) (k3:=k3)
  PySem.F.excBase_ValueError (mN:=mN) (fI:=f) (oI:=oI) (T.hasType PySem.F.excBase_ValueError.hasBase) (I.ok.hd hcm) (by rw[he];show (false || (backTo cpos (starEach rest X.env)).any (·.1))=false;rw[hpl];rfl) hni hfc (qAi I hg hm ⟨rfl,?_⟩ hdb)
 have z:=ha cpos pins s σ H _ I h;rw[show (X.wish (XE X Ex)).env=X.env from rfl]at z;rw[he]at z⊢;refine Calls.evalArgs_plain (YL z (λus s2 w=>?_) λ_ _ y=>y);obtain⟨vs,H1,I1,r1,v,rfl,ex⟩:=w;have I1':=I1.unwish;have hl1:us.length=1:=r1.length.symm;refine⟨O,by rw[hl1,sizeLine_eq];decide,I1.bk _ _ hC,hN.keeps I1.bk,T.keeps I1.bk,I1.bk _ _ hfI,λh' e hmk hsz hes=>?_⟩;obtain⟨tt,q1,q2,q3⟩:=hmk.there;have hle:s2.heap.objs.size<=e:=by rw[hes];exact Nat.le_succ _
 have e0:H1 e=none:=I1'.hok.fresh hle;have I2:Inv X pins σ (upd H1 e (qDv e (.ref C))) {s2 with heap:=h'}:=I1'.laid (t':=s2.toks) hmk.keeps hle ⟨⟨_,_,q1,rfl⟩,⟨_,q1⟩,λh1 h2 z k=>by obtain⟨vs',sl',z,z2⟩:=z;exact⟨vs',sl',k _ z,z2⟩⟩
 have r2:Vals [V.ref e,v] (Value.ref e::us):=.cons rfl r1;have hsp:qLk C fn [V.ref e,v] (upd H1 e (qDv e (.ref C))) (λu H2=>u=.non/\∃dx,H1 dx=none/\dx≠e/\H2=upd (upd H1 dx (.xd [(fn,v)])) e (qFq e (.ref C,some dx))) E0:=⟨e,v,rfl,qC,λdx hdx=>⟨rfl,dx,?_⟩⟩
 rotate_left
 . have hne:dx≠e:=λz=>by rw[z,qC]at hdx;cases hdx
   refine⟨by rwa [qQ hne]at hdx,hne,?_⟩;funext b;by_cases hb:b=e
   . subst hb
     rw[qC,qQ (ZF hne),qC]
   . rw[qQ hb (o:=qFq e (.ref C,some dx)) (H:=upd H1 dx (.xd [(fn,v)]))]
     by_cases hb2:b=dx
     . subst hb2
       rw[qC,qC]
     . rw[qQ hb2,qQ hb,qQ hb,qQ hb2]
 have hl:((Value.ref e::us)++[]).length=ps.length:=by have:=F.len _ _ _ _ hsp;rw[Ye,YE,hl1];simpa using this
 have hbb:=hb _ (Value.ref e::us) I2.kIn hl;rw[Ye]at hbb;refine wpAny_call (codeAny_mono (F.run _ X.stack _ _ ⟨Value.ref e::us,[]⟩ (Value.ref e::us) _ _ E0 (hr.make C us []) (I2.env0.make C us []) hbb r2 hsp) λr s' hq'=>?_);cases r with
 |error e=>exact False.elim hq'
 |ok fl=>
  cases fl with
  |ret u=>
   obtain⟨v',H',I3,rv,ev,dx,hdx,hne,rfl⟩:=I2.after hq';subst ev;cases rv;obtain⟨⟨vs',sl',g1,g2⟩,_,_⟩:=I3.hok e _ qC;have e0':(upd H1 dx (.xd [(fn,v)])) e=none:=by rw[qQ (ZF hne)];exact e0
   have hs0:X.s₀.heap.get? e=none:=by
    cases w:X.s₀.heap.get? e with
    |none=>rfl
    |some o=>
     obtain⟨o',w'⟩:=I1'.base.there e o w (by rw[hex];intro y;cases y);rw[hmk.new]at w';cases w'
   refine⟨O,I3.bk _ _ hC,⟨some dx,vs',sl',g1,g2⟩,e,(.ref C,some dx),σ,upd H1 dx (.xd [(fn,v)]),O,(qS3 I3 e0' hs0).pins_of (pins':=[]) λp hp=>(nomatch hp),⟨⟨hs0,e0',λp hp z=>?_⟩,none,⟨vs',sl',g1,g2⟩,λT e'=>nomatch e'⟩,ex dx hdx⟩;have q':=(I1'.pin p (Yp _ hp)).1;rw[z,hmk.new]at q';cases q'
  |next=>exact False.elim hq'
  |brk=>exact False.elim hq'
  |cont=>exact False.elim hq'
section
variable{X:Cx}
theorem qNj{bs:List Bool}{its:List Value}{P:Program}{w:World}{A:Around}(r:Vals (bs.map V.bl) its):TruthOf P w A (λi v=>its.toArray[i]?=some v) (λi=>(bs[i]?).getD false):=by
 intro i v s Q E hv hq;have hv':its[i]?=some v:=by simpa using hv
 have hl:=r.length;have hi:i<bs.length:=by have:=(Ya.mp hv').1;rw[YS]at hl;omega
 obtain⟨u,e1,q1⟩:=r.get (i:=i) (x:=.bl bs[i]) (by rw[Yj,YD hi];rfl);rw[hv']at e1;cases e1;cases q1;have e:(bs[i]?).getD false=bs[i]:=by rw[YD hi];rfl
 have hq':Q ((bs[i]?).getD false) s:=hq;rw[e]at hq';exact wpAny_truthy_bool hq'
theorem qQq(bs:List Bool):(List.range bs.length).all (λi=>(bs[i]?).getD false)=bs.all id:=by
 rw[Yu,List.all_eq_true,List.all_eq_true];constructor
 . intro h x hx
   obtain⟨i,hi,e⟩:=ZE.mp hx;have:=h i (by simpa using hi);rw[YD hi,e]at this;exact this
 . intro h i hi
   have hi:i<bs.length:=by simpa using hi
   rw[YD hi];exact h _ (List.getElem_mem hi)
theorem qRo(bs:List Bool):(List.range bs.length).any (λi=>(bs[i]?).getD false)=bs.any id:=by
 rw[Yu,List.any_eq_true,List.any_eq_true];constructor
 . rintro⟨i,hi,h⟩
   have hi:i<bs.length:=by simpa using hi
   rw[YD hi]at h;exact⟨_,List.getElem_mem hi,h⟩
 . rintro⟨x,hx,h⟩
   obtain⟨i,hi,e⟩:=ZE.mp hx;exact⟨i,by simpa using hi,by rw[YD hi,e];exact h⟩
theorem qQu(hc:X.calm=true):zD X (.builtin "all") (λxs H Q=> ∃(p:Addr) (bs:List Bool),xs=[.ref p]/\SqL X.K H p (bs.map V.bl)/\Q (.bl (bs.all id)) H):=by
 intro pins s σ H xs us Q I r h;obtain⟨p,bs,rfl,hq,q⟩:=h;obtain⟨u,rfl,rx⟩:=qE9 r;cases rx;obtain⟨its,rv,pl,hz⟩:=I.list hq;have hp:p≠s.heap.objs.size:=by obtain⟨o,n,e,_⟩:=pl;exact Yo (YV e)
 have hh:X.A.in1.handled=none:=I.ok.hd hc;have hl:its.toArray.size=bs.length:=by rw[YG,<-rv.length,YS]
 refine call_all_walk (wpAny_pyIter_list pl.isList ?_);refine⟨s.heap.objs.size,_,_,_,_,_,_,O,Walks.list hh _ p hp its.toArray,⟨⟨_,Yn _ rfl,O,O⟩,pl.isList.at λo e=>YM _ e⟩,qNj rv,λh' tk hk=>?_⟩;rw[hl,qQq];refine⟨.bl _,H,I.kept λb o e=>hk b o (λz=>?_) (YM _ e),O,q⟩;have z':b=s.heap.objs.size:=by simpa using z
 exact YC (YV e) (by rw[z'];exact Nat.lt_irrefl _)
theorem qQh(hc:X.calm=true):zD X (.builtin "any") (λxs H Q=> ∃(p:Addr) (bs:List Bool),xs=[.ref p]/\SqL X.K H p (bs.map V.bl)/\Q (.bl (bs.any id)) H):=by
 intro pins s σ H xs us Q I r h;obtain⟨p,bs,rfl,hq,q⟩:=h;obtain⟨u,rfl,rx⟩:=qE9 r;cases rx;obtain⟨its,rv,pl,hz⟩:=I.list hq;have hp:p≠s.heap.objs.size:=by obtain⟨o,n,e,_⟩:=pl;exact Yo (YV e)
 have hh:X.A.in1.handled=none:=I.ok.hd hc;have hl:its.toArray.size=bs.length:=by rw[YG,<-rv.length,YS]
 refine call_any_walk (wpAny_pyIter_list pl.isList ?_);refine⟨s.heap.objs.size,_,_,_,_,_,_,O,Walks.list hh _ p hp its.toArray,⟨⟨_,Yn _ rfl,O,O⟩,pl.isList.at λo e=>YM _ e⟩,qNj rv,λh' tk hk=>?_⟩;rw[hl,qRo];refine⟨.bl _,H,I.kept λb o e=>hk b o (λz=>?_) (YM _ e),O,q⟩;have z':b=s.heap.objs.size:=by simpa using z
 exact YC (YV e) (by rw[z'];exact Nat.lt_irrefl _)
theorem qXd:OpR X (compareOp .In) (λx y H Q=> ∃(a b:Str),x=.str a/\y=.str b/\Q (.bl (!(Builtin.Str.occurrences b a 0 b.length 1).isEmpty)) H):=by intro pins s σ H x y v u Q I rx ry h;obtain⟨a,b,rfl,rfl,q⟩:=h;obtain⟨t,rfl⟩:=rx;obtain⟨t',rfl⟩:=ry;exact P.in_str ⟨.bl _,H,I,O,q⟩
noncomputable def Its(z:Str):It:=⟨λi _=>i<z.cps.size,λi H x H'=>H'=H/\∃c,z.cps[i]?=some c/\x=.str ⟨#[c]⟩,λi _=>z.cps.size<=i⟩
theorem qRe{P:Program}{w:World}{K:PySem.W.Frag}{tg:Expr}(it:Addr)(z:Str)(t:Tok)(ty:String)(hty:ty="str_ascii_iterator"\/ty="str_iterator"):
 qUg P w K tg (Its z) [it] it (λi h=>h.IsStrIter it ty z t i/\i<=z.cps.size) where
 mem:=by simp
 obj:=λi h st b hb=>by
  have e:b=it:=by simpa using hb
  subst e;obtain⟨⟨o,e,c,d⟩,_⟩:=st;exact⟨o,e,λv z=>by rw[d]at z;cases z⟩
 keep:=λi h h' st k=>⟨let ⟨o,ho,r⟩:=st.1;⟨o,k it (by simp) o ho,r⟩,st.2⟩
 item:=by
  intro X hP hw hK hc i pins s σ H E I hf st hg;subst hP hw hK;have hi:i<z.cps.size:=hg;have hx:z.cps[i]?=some z.cps[i]:=by simp[hi]
  obtain⟨f0,f1,f2,f3,f4,f5⟩:=hf it (by simp);have fin:∀h',h'.IsStrIter it ty z t (i+1)->Heap.SameBut it s.heap h'->∃u,some (Value.str ⟨#[z.cps[i]]⟩ s.toks)=some u/\wpAny (model X.prog X.w) X.A (letOwnedTupleGo tg (.ref it) u) (λ_ s2=> ∃x H',Inv X pins σ H' s2/\RelV x u/\(Its z).yld i H x H'/\(s2.heap.IsStrIter it ty z t (i+1)/\i+1<=z.cps.size)/\∀b∈[it],H' b=none) E {s with heap:=h',toks:=s.toks+1}:=λh' st' sb=>by have I1:Inv X pins σ H {s with heap:=h',toks:=s.toks+1}:=I.turned (t':=s.toks+1) (λb o hb e=>(sb.2 b hb).trans e) f0 f1 f3 f4 f5;obtain⟨o,e,c,d⟩:=id st';refine⟨_,rfl,qRq (s:={s with heap:=h',toks:=s.toks+1}) e c d (by rcases hty with rfl|rfl <;> decide) ⟨.str ⟨#[z.cps[i]]⟩,H,I1,⟨_,rfl⟩,⟨rfl,_,hx,rfl⟩,⟨st',hi⟩,λb hb=>(hf b hb).1⟩⟩
  rcases hty with rfl|rfl
  . exact wpAny_pyNext_ascii_item st.1 hx fin
  . exact wpAny_pyNext_wide_item st.1 hx fin
 done:=by
  intro X hP hw hK hc i pins s σ H E I hf st hg;subst hP hw hK;have hi:z.cps.size<=i:=hg;have hx:z.cps[i]?=none:=by simp[hi]
  obtain⟨f0,f1,f2,f3,f4,f5⟩:=hf it (by simp);rcases hty with rfl|rfl
  . exact wpAny_pyNext_ascii_end (I.ok.hd hc) st.1 hx λh' eb=>⟨O,I.turned (t':=s.toks) (λb o hb e=>eb b o hb e) f0 f1 f3 f4 f5⟩
  . exact wpAny_pyNext_wide_end (I.ok.hd hc) st.1 hx λh' eb=>⟨O,I.turned (t':=s.toks) (λb o hb e=>eb b o hb e) f0 f1 f3 f4 f5⟩
 self:=λ_ _ _ _ _ st h=>by
  rcases hty with rfl|rfl
  . exact wpAny_pyIter_striter_ascii st.1 h
  . exact wpAny_pyIter_striter_wide st.1 h
def jAh(tl:TE):TI:=λσ H R=>tl σ H λx H1=> ∃z,x=.str z/\R (Its z) H1
theorem qWj{tg l:Expr}{tl:TE}(hl:PE X l tl):PI X tg l (jAh tl):=by
 intro pins s σ H R I h;refine thn (hl pins s σ H _ I h) λv s1 ⟨x,H1,I1,r1,q1⟩=>?_;obtain⟨z,e,q⟩:=q1;subst e;obtain⟨t,rfl⟩:=r1;have key:∀ty:String,(ty="str_ascii_iterator"\/ty="str_iterator")->PIE X pins σ tg R (.ref s1.heap.objs.size) {s1 with heap:=s1.heap.push {cls:=.type ty,data:=.fields #[.str z t,.int 0 0]}}:=λty hty=>by
  refine⟨s1.heap.objs.size,[s1.heap.objs.size],_,_,H1,O,I1.kept (t':=s1.toks) λb o e=>YM _ e,qRe _ z t ty hty,⟨⟨_,Yn _ rfl,O,O⟩,ZP _⟩,λb hb=>?_,q⟩;have e:b=s1.heap.objs.size:=by simpa using hb
  subst e;exact I1.fpOk (YI _) (I1.hok.fresh (YI _))
 cases ha:z.cps.all (· <128)
 . exact wpAny_pyIter_wide ha (key _ (.inr rfl))
 . exact wpAny_pyIter_ascii ha (key _ (.inl rfl))
theorem qTj{z:Str}{js:List Nat}{te:TE}{σ:L2.St}{H:Hp}{Q:VK}(Pv:Nat->List V->Hp->Prop)(h0:Pv 0 [] H)(hl:∀i acc H,i<=z.cps.size->Pv i acc H->acc.length<sizeLine)
 (hs:∀i c acc H,i<z.cps.size->z.cps[i]?=some c->Pv i acc H->te (some (.str ⟨#[c]⟩)::qBf js σ) H λv H'=>Nxt z.cps.size i (Pv (i+1) (acc++[v]) H')) (hd:∀acc H,Pv z.cps.size acc H->∀D,H D=none->Q (.ref D) (upd H D (.lst acc))):CompEnd js te σ Q (Its z) H:=by
 refine⟨λi m acc H=>m=z.cps.size-i/\i<=z.cps.size/\Pv i acc H,⟨z.cps.size,by simp,ZP _,h0⟩,?_⟩;rintro i m acc H2 ⟨rfl,hi,p⟩;refine⟨hl i acc H2 hi p,?_⟩;by_cases hlt:i<z.cps.size
 . refine .inr ⟨hlt,λx H3 y=>?_⟩
   obtain⟨e,c,hc,rfl⟩:=y;subst e;exact hs i c acc _ hlt hc p
 . have e:i=z.cps.size:=by omega
   subst e;exact .inl ⟨YI _,hd acc H2 p⟩
end
theorem qIi{X:Cx}{K:PySem.W.Frag}(h:X.K=K):zD X (.builtin "isinstance") (λxs H Q=> ∃e D od c b,xs=[.ref e,c]/\H e=some (qLz e (.ref D,od))/\OwnD H od/\ExcK K D/\
 ((∃n,c=.ty n/\PySem.W.kitOne K (.ref D) (.type n)=some b)\/∃a,c=.ref a/\PySem.W.kitOne K (.ref D) (.ref a)=some b)/\Q (.bl b) H):=h ▸ qJo
inductive D where
 |leaf (v:V)
 |tup (xs:List D)
 |lst (xs:List D)
mutual
def Rep(K:PySem.W.Frag)(H:Hp):D->V->Prop
 |.leaf v,x=>x=v/\kj v=true
 |.tup ds,x=> ∃p xs,x=.ref p/\SqT K H p xs/\Reps K H ds xs
 |.lst ds,x=> ∃p xs,x=.ref p/\SqL K H p xs/\Reps K H ds xs
def Reps(K:PySem.W.Frag)(H:Hp):List D->List V->Prop
 |[],[]=>True
 |d::ds,x::xs=>Rep K H d x/\Reps K H ds xs
 |_,_=>False
end
mutual
noncomputable def eqD:D->D->Bool
 |.leaf v,.leaf w=>eqV v w
 |.tup xs,.tup ys=>qAm xs ys
 |.lst xs,.lst ys=>qAm xs ys
 |_,_=>false
noncomputable def qAm:List D->List D->Bool
 |[],[]=>true
 |x::xs,y::ys=>eqD x y && qAm xs ys
 |_,_=>false
end
mutual
noncomputable def dep:D->Nat
 |.leaf _=>0
 |.tup xs=>qIo xs+1
 |.lst xs=>qIo xs+1
noncomputable def qIo:List D->Nat
 |[]=>0
 |x::xs=>max (dep x) (qIo xs)
end
theorem Reps.length{K:PySem.W.Frag}{H:Hp}:∀{ds:List D} {xs:List V},Reps K H ds xs->ds.length=xs.length
 |[],[],_=>rfl
 |_::_,_::_,h=>by unfold Reps at h;rw[YE,YE,h.2.length]
 |[],_::_,h=>by unfold Reps at h;exact h.elim
 |_::_,[],h=>by unfold Reps at h;exact h.elim
theorem qTb{v:V}(h:kj v=true):eqV v v=true:=by cases v <;> simp_all[kj,eqV]
theorem qDq:∀{xs ys:List D},qAm xs ys=true->xs.length=ys.length
 |[],[],_=>rfl
 |x::xs,y::ys,h=>by unfold qAm at h;rw[Yl]at h;rw[YE,YE,qDq h.2]
 |[],_::_,h=>by simp[qAm]at h
 |_::_,[],h=>by simp[qAm]at h
noncomputable def itE(xs ys:List D)(j:Nat):Bool:=match xs[j]?,ys[j]? with
 |some a,some b=>eqD a b
 |_,_=>false
theorem qKj:∀(xs ys:List D),((List.range (min xs.length ys.length)).all (itE xs ys) && xs.length==ys.length)=qAm xs ys
 |[],[]=>by simp[qAm]
 |[],y::ys=>by simp[qAm]
 |x::xs,[]=>by simp[qAm]
 |x::xs,y::ys=>by
  have ih:=qKj xs ys;have e:min (x::xs).length (y::ys).length=min xs.length ys.length+1:=by simp only[YE];omega
  rw[e,List.range_succ_eq_map,List.all_cons,List.all_map];have e2:(itE (x::xs) (y::ys)) ∘ Nat.succ=itE xs ys:=by funext j;simp[itE]
  have e3:itE (x::xs) (y::ys) 0=eqD x y:=by simp[itE]
  have e4:((x::xs).length==(y::ys).length)=(xs.length==ys.length):=by rw[Yu];simp
  rw[e2,e3,e4,Bool.and_assoc,ih]
  conv=>rhs;unfold qAm
theorem qLx{xs ys:List D}(h:xs.length=ys.length):(List.range xs.length).all (itE xs ys)=qAm xs ys:=by have:=qKj xs ys;rw[<-h,Nat.min_self]at this;simpa using this
section
variable{X:Cx}{pins:List (Addr×Obj)}{σ:L2.St}{H:Hp}{s:Shared}
mutual
theorem qHn(I:Inv X pins σ H s):∀(d e:D) {x:V},Rep X.K H d x->Rep X.K H e x->eqD d e=true
 |.leaf v,.leaf w,x,h1,h2=>by unfold Rep at h1 h2;obtain⟨rfl,f⟩:=h1;obtain⟨rfl,_⟩:=h2;unfold eqD;exact qTb f
 |.leaf v,.tup ds,x,h1,h2=>by unfold Rep at h1 h2;obtain⟨rfl,f⟩:=h1;obtain⟨p,xs,rfl,_⟩:=h2;cases f
 |.leaf v,.lst ds,x,h1,h2=>by unfold Rep at h1 h2;obtain⟨rfl,f⟩:=h1;obtain⟨p,xs,rfl,_⟩:=h2;cases f
 |.tup ds,.leaf w,x,h1,h2=>by unfold Rep at h1 h2;obtain⟨rfl,f⟩:=h2;obtain⟨p,xs,rfl,_⟩:=h1;cases f
 |.lst ds,.leaf w,x,h1,h2=>by unfold Rep at h1 h2;obtain⟨rfl,f⟩:=h2;obtain⟨p,xs,rfl,_⟩:=h1;cases f
 |.tup ds,.tup es,x,h1,h2=>by unfold Rep at h1 h2;obtain⟨p,xs,rfl,t1,r1⟩:=h1;obtain⟨q,ys,e,t2,r2⟩:=h2;cases e;rw[I.tuple_inj t1 t2]at r1;unfold eqD;exact qD6 I ds es r1 r2
 |.lst ds,.lst es,x,h1,h2=>by unfold Rep at h1 h2;obtain⟨p,xs,rfl,t1,r1⟩:=h1;obtain⟨q,ys,e,t2,r2⟩:=h2;cases e;rw[I.list_inj t1 t2]at r1;unfold eqD;exact qD6 I ds es r1 r2
 |.tup ds,.lst es,x,h1,h2=>by unfold Rep at h1 h2;obtain⟨p,xs,rfl,t1,r1⟩:=h1;obtain⟨q,ys,e,t2,r2⟩:=h2;cases e;obtain⟨_,_,i1,_⟩:=I.tuple t1;obtain⟨_,_,i2,_⟩:=I.list t2;exact(SeqAt.ne_of_list_tuple i2.isList i1 rfl).elim
 |.lst ds,.tup es,x,h1,h2=>by unfold Rep at h1 h2;obtain⟨p,xs,rfl,t1,r1⟩:=h1;obtain⟨q,ys,e,t2,r2⟩:=h2;cases e;obtain⟨_,_,i1,_⟩:=I.list t1;obtain⟨_,_,i2,_⟩:=I.tuple t2;exact(SeqAt.ne_of_list_tuple i1.isList i2 rfl).elim
theorem qD6(I:Inv X pins σ H s):∀(ds es:List D) {xs:List V},Reps X.K H ds xs->Reps X.K H es xs->qAm ds es=true
 |[],[],_,_,_=>by simp[qAm]
 |d::ds,e::es,[],h1,_=>by unfold Reps at h1;exact h1.elim
 |d::ds,e::es,x::xs,h1,h2=>by unfold Reps at h1 h2;unfold qAm;rw[qHn I d e h1.1 h2.1,qD6 I ds es h1.2 h2.2];rfl
 |[],e::es,[],_,h2=>by unfold Reps at h2;exact h2.elim
 |[],e::es,_::_,h1,_=>by unfold Reps at h1;exact h1.elim
 |d::ds,[],[],h1,_=>by unfold Reps at h1;exact h1.elim
 |d::ds,[],_::_,_,h2=>by unfold Reps at h2;exact h2.elim
end
theorem wJ{A:Around}{x:V}{u:Value}{p:Addr}{its:Array Value}(f:kj x=true)(r:RelV x u)(hu:A.units<cLine)(h:s.heap.IsTuple p its\/s.heap.IsList p its):SeqAt.EqAt A s u (.ref p) false/\SeqAt.EqAt A s (.ref p) u false:=by
 cases x with
 |non=>cases r;rcases h with h|h <;> exact⟨by first|exact SeqAt.EqAt.none_tuple h hu|exact SeqAt.EqAt.none_list h hu,by first|exact SeqAt.EqAt.tuple_none h hu|exact SeqAt.EqAt.list_none h hu⟩
 |bl b=>cases r;rcases h with h|h <;> exact⟨by first|exact SeqAt.EqAt.bool_tuple _ h hu|exact SeqAt.EqAt.bool_list _ h hu,by first|exact SeqAt.EqAt.tuple_bool _ h hu|exact SeqAt.EqAt.list_bool _ h hu⟩
 |int i=>obtain⟨t,rfl⟩:=r;rcases h with h|h <;> exact⟨by first|exact SeqAt.EqAt.int_tuple _ _ h hu|exact SeqAt.EqAt.int_list _ _ h hu,by first|exact SeqAt.EqAt.tuple_int _ _ h hu|exact SeqAt.EqAt.list_int _ _ h hu⟩
 |str i=>obtain⟨t,rfl⟩:=r;rcases h with h|h <;> exact⟨by first|exact SeqAt.EqAt.str_tuple _ _ h hu|exact SeqAt.EqAt.str_list _ _ h hu,by first|exact SeqAt.EqAt.tuple_str _ _ h hu|exact SeqAt.EqAt.list_str _ _ h hu⟩
 |_=>cases f
theorem Reps.get{K:PySem.W.Frag}{H:Hp}:∀{ds:List D} {xs:List V},Reps K H ds xs->∀(j:Nat) (d:D),ds[j]?=some d->∃x,xs[j]?=some x/\Rep K H d x
 |[],[],_,j,d,e=>by simp at e
 |a::ds,x::xs,h,0,d,e=>by
  unfold Reps at h;have:a=d:=by simpa using e
  subst this;exact⟨x,O,h.1⟩
 |a::ds,x::xs,h,j+1,d,e=>by unfold Reps at h;exact h.2.get j d (by simpa using e)
 |[],_::_,h,_,_,_=>by unfold Reps at h;exact h.elim
 |_::_,[],h,_,_,_=>by unfold Reps at h;exact h.elim
theorem qD0:∀{ds:List D} {j:Nat} {d:D},ds[j]?=some d->dep d<=qIo ds
 |a::ds,0,d,e=>by
  have:a=d:=by simpa using e
  subst this;unfold qIo;exact Nat.le_max_left _ _
 |a::ds,j+1,d,e=>by have:=qD0 (ds:=ds) (j:=j) (d:=d) (by simpa using e);unfold qIo;exact ZC this (Nat.le_max_right _ _)
 |[],_,_,e=>by simp at e
theorem qPm{A:Around}{ds es:List D}{xs ys:List V}{us ws:List Value}(r1:Reps X.K H ds xs)(r2:Reps X.K H es ys)(v1:Vals xs us)(v2:Vals ys ws)
 (ih:∀d e x y u w,d∈ds->Rep X.K H d x->Rep X.K H e y->RelV x u->RelV y w->SeqAt.EqAt A s u w (eqD d e)):
 ∀j (h1:j<us.toArray.size) (h2:j<ws.toArray.size),SeqAt.EqAt A s us.toArray[j] ws.toArray[j] (itE ds es j):=by
 intro j h1 h2;have l1:=v1.length;have l2:=v2.length;have m1:=r1.length;have m2:=r2.length;rw[YG]at h1 h2;have g1:ds[j]?=some ds[j]:=YD (by omega);have g2:es[j]?=some es[j]:=YD (by omega);obtain⟨x,ex,rx⟩:=r1.get j _ g1;obtain⟨y,ey,ry⟩:=r2.get j _ g2;obtain⟨u,eu,qu⟩:=v1.get ex;obtain⟨w,ew,qw⟩:=v2.get ey;have c1:us.toArray[j]=u:=by have:=(Ya.mp eu).2;simpa using this
 have c2:ws.toArray[j]=w:=by have:=(Ya.mp ew).2;simpa using this
 have e:itE ds es j=eqD ds[j] es[j]:=by unfold itE;rw[g1,g2]
 rw[c1,c2,e];exact ih _ _ _ _ _ _ (List.getElem_mem _) rx ry qu qw
theorem qW1(I:Inv X pins σ H s):∀(n:Nat) (A:Around) (d e:D) (x y:V) (u w:Value),dep d<=n->A.units+n<cLine->Rep X.K H d x->Rep X.K H e y->RelV x u->RelV y w->SeqAt.EqAt A s u w (eqD d e):=by
 intro n
 induction n with
 |zero=>
  intro A d e x y u w hd hu r1 r2 q1 q2;cases d with
  |leaf v=>
   unfold Rep at r1;obtain⟨rfl,f1⟩:=r1;cases e with
   |leaf v'=>
    unfold Rep at r2;obtain⟨rfl,f2⟩:=r2;unfold eqD;exact qMl q1 q2 f1 f2
   |tup es=>
    unfold Rep at r2;obtain⟨p,ys,rfl,t,_⟩:=r2;cases q2;obtain⟨_,_,i,_⟩:=I.tuple t;unfold eqD;exact(wJ f1 q1 hu (.inl i)).1
   |lst es=>
    unfold Rep at r2;obtain⟨p,ys,rfl,t,_⟩:=r2;cases q2;obtain⟨_,_,i,_⟩:=I.list t;unfold eqD;exact(wJ f1 q1 hu (.inr i.isList)).1
  |tup ds=>unfold dep at hd;omega
  |lst ds=>unfold dep at hd;omega
 |succ n ih=>
  intro A d e x y u w hd hu r1 r2 q1 q2;have hu0:A.units<cLine:=by omega
  have hu1:A.in1.units+n<cLine:=by show A.units+1+n<cLine;omega
  cases d with
  |leaf v=>
   unfold Rep at r1;obtain⟨rfl,f1⟩:=r1;cases e with
   |leaf v'=>
    unfold Rep at r2;obtain⟨rfl,f2⟩:=r2;unfold eqD;exact qMl q1 q2 f1 f2
   |tup es=>
    unfold Rep at r2;obtain⟨p,ys,rfl,t,_⟩:=r2;cases q2;obtain⟨_,_,i,_⟩:=I.tuple t;unfold eqD;exact(wJ f1 q1 hu0 (.inl i)).1
   |lst es=>
    unfold Rep at r2;obtain⟨p,ys,rfl,t,_⟩:=r2;cases q2;obtain⟨_,_,i,_⟩:=I.list t;unfold eqD;exact(wJ f1 q1 hu0 (.inr i.isList)).1
  |tup ds=>
   have r1':=r1;unfold Rep at r1;obtain⟨p,xs,rfl,t1,s1⟩:=r1;cases q1;obtain⟨us,v1,i1,_⟩:=I.tuple t1;cases e with
   |leaf v'=>
    unfold Rep at r2;obtain⟨rfl,f2⟩:=r2;unfold eqD;exact(wJ f2 q2 hu0 (.inl i1)).2
   |lst es=>
    unfold Rep at r2;obtain⟨q,ys,rfl,t2,_⟩:=r2;cases q2;obtain⟨_,_,i2,_⟩:=I.list t2;unfold eqD;exact SeqAt.EqAt.tuple_list i1 i2.isList hu0
   |tup es=>
    have r2':=r2;unfold Rep at r2;obtain⟨q,ys,rfl,t2,s2⟩:=r2;cases q2;by_cases pq:p=q
    . subst pq
      rw[qHn I _ _ r1' r2'];exact SeqAt.EqAt.same _
    obtain⟨ws,v2,i2,_⟩:=I.tuple t2;have hdd:qIo ds<=n:=by unfold dep at hd;omega
    have:=SeqAt.EqAt.of_refs pq (SeqAt.RcAt.tuples i1 i2 hu0 (qPm s1 s2 v1 v2 λd e x y u w hm ra rb qa qb=>by obtain⟨j,hj,ej⟩:=ZE.mp hm;have hde:dep d<=qIo ds:=qD0 (j:=j) (by rw[YD hj,ej]);exact ih A.in1 d e x y u w (by omega) hu1 ra rb qa qb))
    rw[YG,YG,<-v1.length,<-v2.length,<-s1.length,<-s2.length,qKj]at this;unfold eqD;exact this
  |lst ds=>
   have r1':=r1;unfold Rep at r1;obtain⟨p,xs,rfl,t1,s1⟩:=r1;cases q1;obtain⟨us,v1,i1,_⟩:=I.list t1;cases e with
   |leaf v'=>
    unfold Rep at r2;obtain⟨rfl,f2⟩:=r2;unfold eqD;exact(wJ f2 q2 hu0 (.inr i1.isList)).2
   |tup es=>
    unfold Rep at r2;obtain⟨q,ys,rfl,t2,_⟩:=r2;cases q2;obtain⟨_,_,i2,_⟩:=I.tuple t2;unfold eqD;exact SeqAt.EqAt.list_tuple i1.isList i2 hu0
   |lst es=>
    have r2':=r2;unfold Rep at r2;obtain⟨q,ys,rfl,t2,s2⟩:=r2;cases q2;by_cases pq:p=q
    . subst pq
      rw[qHn I _ _ r1' r2'];exact SeqAt.EqAt.same _
    obtain⟨ws,v2,i2,_⟩:=I.list t2;have hdd:qIo ds<=n:=by unfold dep at hd;omega
    unfold eqD;by_cases hl:ds.length=es.length
    . have hsz:us.toArray.size=ws.toArray.size:=by rw[YG,YG,<-v1.length,<-v2.length,<-s1.length,<-s2.length];exact hl
      have:=SeqAt.EqAt.of_refs pq (SeqAt.RcAt.lists i1.isList i2.isList hsz hu0 (qPm s1 s2 v1 v2 λd e x y u w hm ra rb qa qb=>by obtain⟨j,hj,ej⟩:=ZE.mp hm;have hde:dep d<=qIo ds:=qD0 (j:=j) (by rw[YD hj,ej]);exact ih A.in1 d e x y u w (by omega) hu1 ra rb qa qb))
      rw[YG,<-v1.length,<-s1.length,qLx hl]at this;exact this
    . have hsz:(us.toArray.size != ws.toArray.size)=true:=by rw[YG,YG,<-v1.length,<-v2.length,<-s1.length,<-s2.length];simpa using hl
      have e:qAm ds es=false:=by rw[Bool.eq_false_iff];intro z;exact hl (qDq z)
      rw[e];exact SeqAt.EqAt.of_refs pq (SeqAt.RcAt.lists_lengths i1.isList i2.isList hsz hu0)
noncomputable def kin:D->D->Bool
 |.tup _,.tup _=>true
 |.lst _,.lst _=>true
 |_,_=>false
inductive qT3(K:PySem.W.Frag)(neg:Bool)(x:V)(y:V)(H:Hp)(Q:VK):Prop
|mk (d e:D) (_:Rep K H d x) (_:Rep K H e y) (_:kin d e=true) (_:dep d<=60) (_:Q (.bl (if neg then !eqD d e else eqD d e)) H)
theorem wF{A:Around}(I:Inv X pins σ H s)(hu:A.units+64<cLine){ds es:List D}{xs ys:List V}{us ws:List Value}(hd:qIo ds<=60)(s1:Reps X.K H ds xs)(s2:Reps X.K H es ys)(v1:Vals xs us)(v2:Vals ys ws):
 ∀j (h1:j<us.toArray.size) (h2:j<ws.toArray.size),SeqAt.EqAt A.in1 s us.toArray[j] ws.toArray[j] (itE ds es j):=
 qPm s1 s2 v1 v2 λd e x y u w hm ra rb qa qb=>by obtain⟨j,hj,ej⟩:=ZE.mp hm;have hde:dep d<=qIo ds:=qD0 (j:=j) (by rw[YD hj,ej]);exact qW1 I 60 A.in1 d e x y u w (by omega) (by show A.units+1+60<cLine;omega) ra rb qa qb
theorem qXf(hu:X.A.units+64<cLine):OpR X (compareOp .Eq) (qT3 X.K false):=by
 intro pins s σ H x y v u Q I rx ry h;obtain⟨d,e,r1,r2,hk,hd,q⟩:=h;have hu0:X.A.units<cLine:=by omega
 cases d with
 |leaf a=>cases e <;> cases hk
 |tup ds=>
  cases e with
  |leaf b=>cases hk
  |lst es=>cases hk
  |tup es=>
   unfold Rep at r1 r2;obtain⟨p,xs,rfl,t1,s1⟩:=r1;obtain⟨p',ys,rfl,t2,s2⟩:=r2;cases rx;cases ry;obtain⟨us,v1,i1,_⟩:=I.tuple t1;obtain⟨ws,v2,i2,_⟩:=I.tuple t2;refine SeqAt.eq_tupleAt i1 i2 hu0 (wF I hu (by unfold dep at hd;omega) s1 s2 v1 v2) ?_;rw[YG,YG,<-v1.length,<-v2.length,<-s1.length,<-s2.length,qKj];refine⟨.bl _,H,I,O,?_⟩;unfold eqD at q;exact q
 |lst ds=>
  cases e with
  |leaf b=>cases hk
  |tup es=>cases hk
  |lst es=>
   unfold Rep at r1 r2;obtain⟨p,xs,rfl,t1,s1⟩:=r1;obtain⟨p',ys,rfl,t2,s2⟩:=r2;cases rx;cases ry;obtain⟨us,v1,i1,_⟩:=I.list t1;obtain⟨ws,v2,i2,_⟩:=I.list t2;unfold eqD at q;by_cases hl:ds.length=es.length
   . have hsz:us.toArray.size=ws.toArray.size:=by rw[YG,YG,<-v1.length,<-v2.length,<-s1.length,<-s2.length];exact hl
     refine SeqAt.eq_listAt i1.isList i2.isList hsz hu0 (wF I hu (by unfold dep at hd;omega) s1 s2 v1 v2) ?_;rw[YG,<-v1.length,<-s1.length,qLx hl];exact⟨.bl _,H,I,O,q⟩
   . have hsz:(us.toArray.size != ws.toArray.size)=true:=by rw[YG,YG,<-v1.length,<-v2.length,<-s1.length,<-s2.length];simpa using hl
     have e:qAm ds es=false:=by rw[Bool.eq_false_iff];intro z;exact hl (qDq z)
     rw[e]at q;exact SeqAt.eq_list_lengthsAt i1.isList i2.isList hsz hu0 ⟨.bl _,H,I,O,q⟩
theorem qMx(hu:X.A.units+64<cLine):OpR X (compareOp .NotEq) (qT3 X.K true):=by
 intro pins s σ H x y v u Q I rx ry h;obtain⟨d,e,r1,r2,hk,hd,q⟩:=h;have hu0:X.A.units<cLine:=by omega
 cases d with
 |leaf a=>cases e <;> cases hk
 |tup ds=>
  cases e with
  |leaf b=>cases hk
  |lst es=>cases hk
  |tup es=>
   unfold Rep at r1 r2;obtain⟨p,xs,rfl,t1,s1⟩:=r1;obtain⟨p',ys,rfl,t2,s2⟩:=r2;cases rx;cases ry;obtain⟨us,v1,i1,_⟩:=I.tuple t1;obtain⟨ws,v2,i2,_⟩:=I.tuple t2;refine SeqAt.RcNeAt.tuples i1 i2 hu0 (wF I hu (by unfold dep at hd;omega) s1 s2 v1 v2) _ _ _ _ ?_;rw[YG,YG,<-v1.length,<-v2.length,<-s1.length,<-s2.length,qKj];refine⟨.bl _,H,I,O,?_⟩;unfold eqD at q;exact q
 |lst ds=>
  cases e with
  |leaf b=>cases hk
  |tup es=>cases hk
  |lst es=>
   unfold Rep at r1 r2;obtain⟨p,xs,rfl,t1,s1⟩:=r1;obtain⟨p',ys,rfl,t2,s2⟩:=r2;cases rx;cases ry;obtain⟨us,v1,i1,_⟩:=I.list t1;obtain⟨ws,v2,i2,_⟩:=I.list t2;unfold eqD at q;by_cases hl:ds.length=es.length
   . have hsz:us.toArray.size=ws.toArray.size:=by rw[YG,YG,<-v1.length,<-v2.length,<-s1.length,<-s2.length];exact hl
     refine SeqAt.RcNeAt.lists i1.isList i2.isList hsz hu0 (wF I hu (by unfold dep at hd;omega) s1 s2 v1 v2) _ _ _ _ ?_;rw[YG,<-v1.length,<-s1.length,qLx hl];exact⟨.bl _,H,I,O,q⟩
   . have hsz:(us.toArray.size != ws.toArray.size)=true:=by rw[YG,YG,<-v1.length,<-v2.length,<-s1.length,<-s2.length];simpa using hl
     have e:qAm ds es=false:=by rw[Bool.eq_false_iff];intro z;exact hl (qDq z)
     rw[e]at q;exact SeqAt.RcNeAt.lists_lengths i1.isList i2.isList hsz hu0 _ _ _ _ ⟨.bl _,H,I,O,q⟩
end
mutual
theorem Rep.same{K:PySem.W.Frag}{H H':Hp}(e:Same H H'):∀(d:D) {x:V},Rep K H d x->Rep K H' d x
 |.leaf v,x,h=>by unfold Rep at h⊢;exact h
 |.tup ds,x,h=>by unfold Rep at h⊢;obtain⟨p,xs,h1,h2,h3⟩:=h;exact⟨p,xs,h1,L3.Same.tup e h2,Reps.same e ds h3⟩
 |.lst ds,x,h=>by unfold Rep at h⊢;obtain⟨p,xs,h1,h2,h3⟩:=h;exact⟨p,xs,h1,e.seq h2,Reps.same e ds h3⟩
theorem Reps.same{K:PySem.W.Frag}{H H':Hp}(e:Same H H'):∀(ds:List D) {xs:List V},Reps K H ds xs->Reps K H' ds xs
 |[],[],h=>by unfold Reps;trivial
 |d::ds,x::xs,h=>by unfold Reps at h⊢;exact⟨Rep.same e d h.1,Reps.same e ds h.2⟩
 |[],_::_,h=>by unfold Reps at h;exact h.elim
 |_::_,[],h=>by unfold Reps at h;exact h.elim
end
end L3
namespace L3
open PySem PySem.Spec PyProof.Rows L2
def CompEndF(js:List Nat)(tc:TT)(te:TE)(σ:L2.St)(Q:VK)(J:It)(H1:Hp):Prop:= ∃W:Nat->Nat->List V->Hp->Prop,(∃m,W 0 m [] H1)/\∀i m acc H2,W i m acc H2->
 acc.length<sizeLine/\((J.stop i H2/\∀D,H2 D=none->Q (.ref D) (upd H2 D (.lst acc)))\/
  (J.go i H2/\∀x H3,J.yld i H2 x H3->tc (some x::qBf js σ) H3 λok H4=>if ok=true then te (some x::qBf js σ) H4 λv H5=> ∃m',m'<m/\W (i+1) m' (acc++[v]) H5 else ∃m',m'<m/\W (i+1) m' acc H4))
def qWh(js:List Nat)(wi:TI)(tc:TT)(te:TE):TE:=λσ H Q=>wi σ H (CompEndF js tc te σ Q)
theorem CompEndF.g{js:List Nat}{tc:TT}{te:TE}(σ:L2.St)(Q:VK)(J:It)(H1:Hp):CompEndF js tc te σ Q J H1->wG 1 js (vk 0) tc te σ Q J H1:=λ⟨W,w0,st⟩=>
 ⟨W,w0,λi m acc H2 w=>⟨(st i m acc H2 w).1,(st i m acc H2 w).2.imp id λ⟨go,y⟩=>⟨go,λx H3 z=>⟨[some x],rfl,rfl,y x H3 z⟩⟩⟩⟩
theorem qNo{X:Cx}{elt iter cnd:Expr}{x:Str}{px:Pos}{scope:Scope}{cl:List (Str×Addr)}{pos:Pos}{wi:TI}{tc:TT}{te:TE}(ys:List Str)(js:List Nat)
 (hcm:X.calm=true) (hi:PI X (.Name x px) iter wi) (hc:∀C s H fp,PT (jS X scope cl C (x::ys) s H fp).nox cnd tc) (he:∀C s H fp,PE (jS X scope cl C (x::ys) s H fp).nox elt te) (hx:scope.names.lookup x=some .local:=by rfl) (hC:COk X scope cl iter [x] ys js:=by trivial):PE X (.ListComp elt [⟨.Name x px,iter,[cnd],0⟩] scope pos) (qWh js wi tc te):=
 qNl (xs:=[x]) (T:=CompEndF js tc te) hcm hi (λ_ _ _ _=>q8 (i:=0) hC.nd rfl (.inl (lookup_relabel_local hx)) (.inr (lookup_relabel_local hx))) (λC s H fp=>qQk (hc C s H fp)) he hC CompEndF.g
theorem qGt{K:PySem.W.Frag}{a:Addr}{xs:List V}{js:List Nat}{tc:TT}{te:TE}{σ:L2.St}{H:Hp}{Q:VK}(Pv:Nat->List V->Hp->Prop)(h0:Pv 0 [] H)(hl:∀i acc H,i<=xs.length->Pv i acc H->SqL K H a xs/\acc.length<sizeLine)
 (hs:∀i x acc H,i<xs.length->xs[i]?=some x->Pv i acc H->tc (some x::qBf js σ) H λok H'=>if ok=true then te (some x::qBf js σ) H' λv H''=>Nxt xs.length i (Pv (i+1) (acc++[v]) H'')else Nxt xs.length i (Pv (i+1) acc H')) (hd:∀acc H,Pv xs.length acc H->∀D,H D=none->Q (.ref D) (upd H D (.lst acc))):CompEndF js tc te σ Q (Itl K a) H:=by
 refine⟨λi m acc H=>m=xs.length-i/\i<=xs.length/\Pv i acc H,⟨xs.length,by simp,ZP _,h0⟩,?_⟩;rintro i m acc H2 ⟨rfl,hi,p⟩;obtain⟨q,hz⟩:=hl i acc H2 hi p;refine⟨hz,?_⟩;by_cases hlt:i<xs.length
 . refine .inr ⟨⟨xs,xs[i],q,by simp[hlt]⟩,λx H3 y=>?_⟩
   obtain⟨e,y⟩:=y;subst e;exact hs i x acc _ hlt (y xs q) p
 . have e:i=xs.length:=by omega
   subst e;exact .inl ⟨⟨xs,q,YI _⟩,hd acc H2 p⟩
theorem qPx{X:Cx}{pins:List (Addr×Obj)}{σ:L2.St}{H:Hp}{s:Shared}{h':Heap}{t':Nat}{ch:List Addr}(I:Inv X pins σ H s)(hf:∀b∈ch,qTr X pins H b)
 (k:∀b o,b∉ch->s.heap.get? b=some o->h'.get? b=some o):Inv X pins σ H {s with heap:=h',toks:=t'}:=by
 have nit:∀b u,H b=some u->b∉ch:=λb u e z=>by rw[(hf b z).1]at e;cases e
 refine I.step (g':=s.gens) (d':=s.drawn) (ch:=ch) (λb hb=>?_) (λb o _ _ hc e _=>k b o hc e) (λb o _ _ hc e _=>⟨o.slots,k b o hc e⟩) (λ_ _ _ _ n=>n)
  (λb o hc e=>⟨o,k b o hc e⟩) (λ_ _ e=>e) (λ_ _ _ e=>e) (λb ps e=>⟨#[],by rw[e];simp⟩) (λm hm=>?_) (λb u e=>?_) I.bare
 . obtain⟨_,f1,_,f3,f4,f5⟩:=hf b hb
   exact⟨f3,f1,f4,f5⟩
 . obtain⟨o,es,ep,ho,r⟩:=hm
   exact⟨o,es,ep,k _ o (λz=>(hf _ z).2.1 rfl) ho,r⟩
 . refine(I.hok b u e).stay (λc v hc q=>k c v ?_ q) (λ_ q=>q) λ_ _ q=>q
   rcases hc with z|z
   . rw[z];exact nit b u e
   . exact nit c _ z
theorem qT9{X:Cx}{pins:List (Addr×Obj)}{σ:L2.St}{H:Hp}{s:Shared}{h':Heap}{t':Nat}{ch:List Addr}{xs:List V}{us:Array Value}(I:Inv X pins σ H s)(hf:∀b∈ch,qTr X pins H b)(hlt:∀b∈ch,b<s.heap.objs.size)
 (k:∀b o,b∉ch->s.heap.get? b=some o->h'.get? b=some o) (hT:h'.get? s.heap.objs.size=some {cls:=.type "tuple",data:=.seq us}) (r:Vals xs us.toList) (hz:xs.length<=sizeLine):
 Inv X pins σ (upd H s.heap.objs.size (.tup xs)) {s with heap:=h',toks:=t'}/\∀b∈ch,upd H s.heap.objs.size (.tup xs) b=none:=by
 have hn:∀b∈ch,upd H s.heap.objs.size (.tup xs) b=none:=λb hb=>by rw[qQ (Yo (hlt b hb))];exact(hf b hb).1
 have I1:Inv X pins σ (upd H s.heap.objs.size (.tup xs)) {s with heap:=s.heap.push {cls:=.type "tuple",data:=.seq us},toks:=t'}:=
  I.laid (t':=t') (λb o e=>YM _ e) (YI _) ⟨hz,us.toList,r,⟨_,Yn _ rfl,rfl,_,rfl⟩⟩
 have I2:=qPx (h':=h') (t':=t') (ch:=ch) I1 (λb hb=>⟨hn b hb,(hf b hb).2⟩) (λb o hb e=>?_)
 . exact⟨I2,hn⟩
 rcases Heap.get?_push_cases e with ⟨e1,e2⟩|e1
 . rw[e1,e2];exact hT
 . exact k b o hb e1
noncomputable def Ite(K:PySem.W.Frag)(a:Addr):It:=
 ⟨λi H=> ∃xs x,SqL K H a xs/\xs[i]?=some x,λi H x H'=> ∃p v,H p=none/\x=.ref p/\(∀xs,SqL K H a xs->xs[i]?=some v)/\H'=upd H p (.tup [.int i,v]),λi H=> ∃xs,SqL K H a xs/\xs.length<=i⟩
theorem qRx{P:Program}{w:World}{K:PySem.W.Frag}{elts:List Expr}{k1:Nat}{pos:Pos}(a e it:Addr)(hne:e≠it):
 qUg P w K (.Tuple elts k1 pos) (Ite K a) [e,it] e (λi h=>(∃old,IsEnum h e it (i:Nat) old)/\h.IsListIter it a i) where
 mem:=by simp
 obj:=λi h st b hb=>by
  obtain⟨⟨old,he⟩,o,ho,c,d⟩:=st;rcases YU.mp hb with rfl|hb
  . exact⟨_,he,λv z=>by cases z⟩
  . have e:b=it:=by simpa using hb
    subst e;exact⟨o,ho,λv z=>by rw[d]at z;cases z⟩
 keep:=λi h h' st k=>by obtain⟨⟨old,he⟩,hi⟩:=st;exact⟨⟨old,k e (by simp) _ he⟩,hi.at λo q=>k it (by simp) o q⟩
 item:=by
  intro X hP hw hK hc i pins s σ H E I hf st hg;subst hP hw hK;obtain⟨⟨old,he⟩,hit⟩:=st;obtain⟨xs,x,hq,hx⟩:=hg;obtain⟨its,rv,p,hz⟩:=I.list hq;obtain⟨u,hu,ru⟩:=rv.get hx;refine wpAny_pyNext_enum_item he hit p.isList (x:=u) (by simpa using hu) hne λh' heo hit' hT hsz hk=>?_;refine⟨_,O,wpAny_letOwnedTupleGo_enum heo λh'' he'' hs''=>?_⟩;have hel:e<s.heap.objs.size:=YV he;have hil:it<s.heap.objs.size:=by obtain⟨_,q,_⟩:=hit;exact YV q
  have T:=qT9 (h':=h'') (t':=s.toks+1) (ch:=[e,it]) (xs:=[.int i,x]) (us:= #[.int i s.toks,u]) I hf (λb hb=>by
   rcases YU.mp hb with rfl|hb
   . exact hel
   . have z:b=it:=by simpa using hb
     subst z;exact hil)
   (λb o hb q=>(hs''.2 b (λz=>hb (by simp[z]))).trans (hk b o (λz=>hb (by simp[z])) (λz=>hb (by simp[z])) q))
   ((hs''.2 _ (Nat.ne_of_gt hel)).trans hT) (.cons ⟨_,rfl⟩ (.cons ru .nil)) (by show 2<=sizeLine;decide)
  refine⟨.ref s.heap.objs.size,_,T.1,O,⟨_,x,I.hok.fresh (YI _),O,λys hy=>by rw[I.list_inj hy hq];exact hx,O⟩,⟨⟨u,by simpa using he''⟩,hit'.at λo q=>(hs''.2 it hne.symm).trans q⟩,T.2⟩
 done:=by intro X hP hw hK hc i pins s σ H E I hf st hg;subst hP hw hK;obtain⟨⟨old,he⟩,hit⟩:=st;obtain⟨xs,hq,hx⟩:=hg;obtain⟨its,rv,p,hz⟩:=I.list hq;obtain⟨f0,f1,f2,f3,f4,f5⟩:=hf it (by simp);have hl:=rv.length;exact wpAny_pyNext_enum_end (I.ok.hd hc) he hit p.isList (by simp;omega) λh' eb=>⟨O,I.turned (t':=s.toks) (λb o hb e=>eb b o hb e) f0 f1 f3 f4 f5⟩
 self:=λ_ _ _ _ _ st h=>by obtain⟨⟨old,he⟩,_⟩:=st;exact wpAny_pyIter_enum he h
inductive qXj(K:PySem.W.Frag)(R:It->Hp->Prop)(vs:List V)(H1:Hp):Prop
|mk a (_:vs=[.ref a]) (_:(∃xs,SqL K H1 a xs)) (_:R (Ite K a) H1)
def qYk(K:PySem.W.Frag)(t:TA):TI:=λσ H R=>t σ H λvs H1=>qXj K R vs H1
theorem qPq{X:Cx}{l:Expr}{tl:TA}{elts:List Expr}{k1:Nat}{tpos p pos:Pos}(hg:Gl X "enumerate")(hm:X.mg "enumerate"=none)(hl:PA X [l] tl)(hs:starEach [l] X.env=[(false,eval l X.env)]:=by rfl):
 PI X (.Tuple elts k1 tpos) (.Call (.Name "enumerate" p) [l] [] pos) (qYk X.K tl):=by
 intro pins s σ H R I h;refine Call_ (qD9 I hg hm boot_enumerate (PyProof.Rows.callWith_type1 (thn (hl pos pins s σ H _ I h) λus s1 ⟨vs,H1,I1,r1,q1⟩=>?_) hs rfl));obtain⟨a,e,⟨xs,hq⟩,q⟩:=q1;subst e;cases r1 with
 |cons r rr=>
  cases rr;cases r;obtain⟨its,rv,pl,hz⟩:=I1.list hq;refine call_enumerate_list pl.isList λh' he hit hsz hk=>?_;refine wpAny_pyIter_enum he ?_;refine⟨s1.heap.objs.size+1,[s1.heap.objs.size+1,s1.heap.objs.size],_,_,H1,O,I1.kept (t':=s1.toks) λb o e=>hk b o e,qRx a _ _ (Nat.succ_ne_self _),⟨⟨_,he⟩,hit⟩,λb hb=>?_,q⟩;rcases YU.mp hb with rfl|hb
  . exact I1.fpOk (Nat.le_succ _) (I1.hok.fresh (Nat.le_succ _))
  . have e:b=s1.heap.objs.size:=by simpa using hb
    subst e;exact I1.fpOk (YI _) (I1.hok.fresh (YI _))
theorem qSa{K:PySem.W.Frag}{a:Addr}{xs:List V}{g:TG}{tb:TS}{D:qO4}{σ:L2.St}{H:Hp}(Pv:Nat->L2.St->Hp->Prop)(h0:Pv 0 σ H)(hl:∀i σ H,i<=xs.length->Pv i σ H->SqL K H a xs)
 (hs:∀i x σ H p,xs[i]?=some x->Pv i σ H->H p=none->g (.ref p) σ (upd H p (.tup [.int i,x])) λσ2 H2=>tb {D with nx:=Pv (i+1),ct:=Pv (i+1),bk:=D.nx} σ2 H2) (hd:∀σ H,Pv xs.length σ H->D.nx σ H):
 ∃W:Nat->Nat->L2.St->Hp->Prop,(∃m,W 0 m σ H)/\∀i m σ H,W i m σ H->
  ((Ite K a).stop i H/\D.nx σ H)\/((Ite K a).go i H/\∃N:L2.St->Hp->Prop,(∀σ' H',N σ' H'->∃m',m'<m/\W (i+1) m' σ' H')/\∀x H',(Ite K a).yld i H x H'->g x σ H' λσ2 H2=>tb {D with nx:=N,ct:=N,bk:=D.nx} σ2 H2):=by
 refine⟨λi m σ H=>m=xs.length-i/\i<=xs.length/\Pv i σ H,⟨xs.length,by simp,ZP _,h0⟩,?_⟩;rintro i m σ H ⟨rfl,hi,p⟩;have q:=hl i σ H hi p;by_cases hlt:i<xs.length
 . refine .inr ⟨⟨xs,xs[i],q,by simp[hlt]⟩,Pv (i+1),λσ' H' p'=>⟨xs.length-(i+1),by omega,O,hlt,p'⟩,λx H' y=>?_⟩
   obtain⟨z,v,hz,rfl,y,rfl⟩:=y;exact hs i v σ _ z (y xs q) p hz
 . have e:i=xs.length:=by omega
   subst e;exact .inl ⟨⟨xs,q,YI _⟩,hd σ H p⟩
theorem qRf:∀{ns:List Int} {us:List Value},Vals (ns.map V.int) us->∃xs:List (Int×Tok),us.toArray=intItems xs.toArray/\xs.map (·.1)=ns
 |[],us,r=>by cases r;exact⟨[],by simp[intItems],rfl⟩
 |n::ns,us,r=>by
  rw[ZG]at r;cases r with
  |cons h t=>
   obtain⟨xs,e1,e2⟩:=qRf t;obtain⟨tk,rfl⟩:=h;refine⟨(n,tk)::xs,?_,by rw[ZG,e2]⟩;have e3:=congrArg Array.toList e1;simp only[intItems,List.map_toArray]at e3⊢;rw[e3];rfl
theorem qJp{X:Cx}(hc:X.calm=true):zD X (.builtin "sum") (λxs H Q=> ∃(p:Addr) (ns:List Int),xs=[.ref p]/\SqL X.K H p (ns.map V.int)/\Q (.int ns.sum) H):=by
 intro pins s σ H xs us Q I r h;obtain⟨p,ns,rfl,hq,q⟩:=h;obtain⟨u,rfl,rx⟩:=qE9 r;cases rx;obtain⟨its,rv,pl,hz⟩:=I.list hq;obtain⟨ys,e1,e2⟩:=qRf rv;have pl':=pl.isList;rw[e1]at pl';refine sum_intListG (I.ok.hd hc) pl' λh' tk t' hk=>?_;rw[preSum_eq,List.take_of_length_le (by simp)];have e3:ys.toArray.toList.map (·.1)=ns:=by simpa using e2
 rw[e3];exact⟨.int ns.sum,H,I.kept λb o e=>hk b o e,⟨_,O⟩,q⟩
def jAw(t:TT):TT:=λσ H Q=> ∃R:Bool->Hp->Prop,t σ H R/\∀b H',R b H'->Q b H'
theorem qW5{X:Cx}{e:Expr}{t:TT}(h:PT X e t):PT X e (jAw t):=by rintro pins s σ H Q I ⟨R,ht,hR⟩;exact thn (h pins s σ H R I ht) λb s' ⟨H',I',r⟩=>⟨H',I',hR b H' r⟩
theorem qW6{X:Cx}{f:Value->Value->Sem Value}{r1 r2:R2}(h1:OpR X f r1)(h2:OpR X f r2):OpR X f (λx y H Q=>r1 x y H Q\/r2 x y H Q):=by
 intro pins s σ H x y v u Q I rx ry h;rcases h with h|h
 . exact h1 pins s σ H x y v u Q I rx ry h
 . exact h2 pins s σ H x y v u Q I rx ry h
def CompEndP(K:PySem.W.Frag)(js:List Nat)(tc:TT)(te:TE)(σ:L2.St)(Q:VK)(J:It)(H1:Hp):Prop:= ∃W:Nat->Nat->List V->Hp->Prop,(∃m,W 0 m [] H1)/\∀i m acc H2,W i m acc H2->
 acc.length<sizeLine/\((J.stop i H2/\∀D,H2 D=none->Q (.ref D) (upd H2 D (.lst acc)))\/
  (J.go i H2/\∀x H3,J.yld i H2 x H3->∃p va vb,x=.ref p/\SqT K H3 p [va,vb]/\tc (some va::some vb::qBf js σ) H3 λok H4=>if ok=true then te (some va::some vb::qBf js σ) H4 λv H5=> ∃m',m'<m/\W (i+1) m' (acc++[v]) H5 else ∃m',m'<m/\W (i+1) m' acc H4))
def qXc(K:PySem.W.Frag)(js:List Nat)(wi:TI)(tc:TT)(te:TE):TE:=λσ H Q=>wi σ H (CompEndP K js tc te σ Q)
theorem CompEndP.g{K:PySem.W.Frag}{js:List Nat}{tc:TT}{te:TE}(σ:L2.St)(Q:VK)(J:It)(H1:Hp):CompEndP K js tc te σ Q J H1->wG 2 js (qYc K 2 (qF0 (vk 0) (qF0 (vk 1) qYb))) tc te σ Q J H1:=λ⟨W,w0,st⟩=>
 ⟨W,w0,λi m acc H2 w=>⟨(st i m acc H2 w).1,(st i m acc H2 w).2.imp id λ⟨go,y⟩=>⟨go,λx H3 z=>let ⟨p,va,vb,e,q,r⟩:=y x H3 z;⟨p,_,e,q,rfl,va,_,rfl,vb,_,rfl,rfl,[some va,some vb],rfl,rfl,r⟩⟩⟩⟩
theorem qV1{X:Cx}{scope:Scope}{cl:List (Str×Addr)}{x1 x2:Str}{px1 px2:Pos}{tk:Nat}{tpos:Pos}{ys:List Str}(hcm:X.calm=true)(hnd:([x1,x2]++ys).Nodup)(hx1:scope.names.lookup x1=some .local)(hx2:scope.names.lookup x2=some .local)(C:Addr)(s:Shared)(H:Hp)(fp:List Addr):PG (jS X scope cl C ([x1,x2]++ys) s H fp).nox (.Tuple [.Name x1 px1,.Name x2 px2] tk tpos) (qYc X.K 2 (qF0 (vk 0) (qF0 (vk 1) qYb))):=
 qNh (X:=(jS X scope cl C ([x1,x2]++ys) s H fp).nox) hcm (zZ (q8 (i:=0) hnd rfl (.inl (lookup_relabel_local hx1)) (.inr (lookup_relabel_local hx1))) (zZ (q8 (i:=1) hnd rfl (.inl (lookup_relabel_local hx2)) (.inr (lookup_relabel_local hx2))) qH5))
theorem qSb{X:Cx}{elt iter cnd:Expr}{x1 x2:Str}{px1 px2:Pos}{tk:Nat}{tpos:Pos}{scope:Scope}{cl:List (Str×Addr)}{pos:Pos}{wi:TI}{tc:TT}{te:TE}(ys:List Str)(js:List Nat){i:Nat}{y:Str}{py spos:Pos}(hN:X.N.Nodup)(hi':X.N[i]?=some y)(hy:X.env.kindOf y=some .local)
 (hcm:X.calm=true) (hi:PI X (.Tuple [.Name x1 px1,.Name x2 px2] tk tpos) iter wi) (hc:∀C s H fp,PT (jS X scope cl C (x1::x2::ys) s H fp).nox cnd tc) (he:∀C s H fp,PE (jS X scope cl C (x1::x2::ys) s H fp).nox elt te) (hx1:scope.names.lookup x1=some .local:=by rfl) (hx2:scope.names.lookup x2=some .local:=by rfl) (hC:COk X scope cl iter [x1,x2] ys js:=by trivial) (hsw:swapsWith (.ListComp elt [⟨.Tuple [.Name x1 px1,.Name x2 px2] tk tpos,iter,[cnd],0⟩] scope pos) (some (.Name y py)) spos.line X.env=pure true:=by rfl):PS X (.Assign [.Name y py] (.ListComp elt [⟨.Tuple [.Name x1 px1,.Name x2 px2] tk tpos,iter,[cnd],0⟩] scope pos) spos) (qV9 (qXc X.K js wi tc te) (vk i)):=
 qMv (xs:=[x1,x2]) (T:=CompEndP X.K js tc te) hN hi' hy hcm hi (qV1 hcm hC.nd hx1 hx2) (λC s H fp=>qQk (hc C s H fp)) he hC CompEndP.g hsw
theorem qOz{K:PySem.W.Frag}{a:Addr}{xs:List V}{js:List Nat}{tc:TT}{te:TE}{σ:L2.St}{H:Hp}{Q:VK}(Pv:Nat->List V->Hp->Prop)(h0:Pv 0 [] H)(hl:∀i acc H,i<=xs.length->Pv i acc H->SqL K H a xs/\acc.length<sizeLine)
 (hs:∀i x acc H p,i<xs.length->xs[i]?=some x->Pv i acc H->H p=none->tc (some (.int i)::some x::qBf js σ) (upd H p (.tup [.int i,x])) λok H'=>if ok=true then te (some (.int i)::some x::qBf js σ) H' λv H''=>Nxt xs.length i (Pv (i+1) (acc++[v]) H'')else Nxt xs.length i (Pv (i+1) acc H')) (hd:∀acc H,Pv xs.length acc H->∀D,H D=none->Q (.ref D) (upd H D (.lst acc))):CompEndP K js tc te σ Q (Ite K a) H:=by
 refine⟨λi m acc H=>m=xs.length-i/\i<=xs.length/\Pv i acc H,⟨xs.length,by simp,ZP _,h0⟩,?_⟩;rintro i m acc H2 ⟨rfl,hi,p⟩;obtain⟨q,hz⟩:=hl i acc H2 hi p;refine⟨hz,?_⟩;by_cases hlt:i<xs.length
 . refine .inr ⟨⟨xs,xs[i],q,by simp[hlt]⟩,λx H3 y=>?_⟩
   obtain⟨z,v,hz,rfl,y,rfl⟩:=y;exact⟨z,_,_,O,SqT.of qC,hs i v acc _ z hlt (y xs q) p hz⟩
 . have e:i=xs.length:=by omega
   subst e;exact .inl ⟨⟨xs,q,YI _⟩,hd acc H2 p⟩
noncomputable def Itz(K:PySem.W.Frag)(a b:Addr):It:=
 ⟨λi H=> ∃xs ys x y,SqL K H a xs/\SqL K H b ys/\xs[i]?=some x/\ys[i]?=some y,
  λi H x H'=> ∃p v u,H p=none/\x=.ref p/\(∀xs,SqL K H a xs->xs[i]?=some v)/\(∀ys,SqL K H b ys->ys[i]?=some u)/\H'=upd H p (.tup [v,u]),
  λi H=> ∃xs ys,SqL K H a xs/\SqL K H b ys/\(xs.length<=i\/ys.length<=i)⟩
theorem qSh{P:Program}{w:World}{K:PySem.W.Frag}{elts:List Expr}{k1:Nat}{pos:Pos}(z TI TO i1 i2 a b:Addr)(n0:z≠TI/\z≠TO/\z≠i1/\z≠i2/\TI≠TO/\TI≠i1/\TI≠i2/\TO≠i1/\TO≠i2/\i1≠i2):
 qUg P w K (.Tuple elts k1 pos) (Itz K a b) [z,TI,TO,i1,i2] z (λi h=>IsZip h z TI TO .none/\IsPair h TI (.ref i1) (.ref i2)/\(∃u v,IsPair h TO u v)/\h.IsListIter i1 a i/\h.IsListIter i2 b i) where
 mem:=by simp
 obj:=λi h st c hc=>by
  obtain⟨hz,hTI,⟨u,v,hTO⟩,⟨o1,e1,_,d1⟩,o2,e2,_,d2⟩:=st;simp only[YU,ZD,or_false]at hc;rcases hc with rfl|rfl|rfl|rfl|rfl
  . exact⟨_,hz,λv z=>by cases z⟩
  . exact⟨_,hTI,λv z=>by cases z⟩
  . exact⟨_,hTO,λv z=>by cases z⟩
  . exact⟨o1,e1,λv z=>by rw[d1]at z;cases z⟩
  . exact⟨o2,e2,λv z=>by rw[d2]at z;cases z⟩
 keep:=λi h h' st k=>by obtain⟨hz,hTI,⟨u,v,hTO⟩,h1,h2⟩:=st;exact⟨k z (by simp) _ hz,k TI (by simp) _ hTI,⟨u,v,k TO (by simp) _ hTO⟩,h1.at λo q=>k i1 (by simp) o q,h2.at λo q=>k i2 (by simp) o q⟩
 item:=by
  intro X hP hw hK hc i pins s σ H E I hf st hg;subst hP hw hK;obtain⟨hz,hTI,⟨u0,v0,hTO⟩,h1,h2⟩:=st;obtain⟨xs,ys,x,y,hq1,hq2,hx,hy⟩:=hg;obtain⟨its1,rv1,p1,hz1⟩:=I.list hq1;obtain⟨its2,rv2,p2,hz2⟩:=I.list hq2;obtain⟨u,hu,ru⟩:=rv1.get hx;obtain⟨u',hu',ru'⟩:=rv2.get hy;have free:∀c∈[z,TI,TO,i1,i2],H c=none:=λc hc=>(hf c hc).1;have nl:∀(l:Addr) (zs:List V),SqL X.K H l zs->∀c∈[z,TI,TO,i1,i2],l≠c:=λl zs hl c hc e=>by
   subst e;rcases hl with (q|⟨o,q⟩)|⟨o,its,n,q,_⟩
   . rw[free _ hc]at q;cases q
   . rw[free _ hc]at q;cases q
   . have q1:=(I.bs l o (I.ok.mod.kin l o q)).1
     have:=hf l hc;rcases this.2.2.2.1 with q2|q2
     . exact I.ok.noex l o (I.ok.mod.kin l o q) q2
     . exact Nat.lt_irrefl _ (YR (YR (YV (I.ok.mod.kin l o q)) I.ok.bsz) q2)
  obtain⟨n1,n2,n3,n4,n5,n6,n7,n8,n9,n10⟩:=n0;have D:ZipApart z TI TO i1 i2 a b:=⟨n1.symm,n2.symm,n3.symm,n4.symm,n5,n6,n7,n8,n9,n10,nl a xs hq1 z (by simp),nl a xs hq1 TO (by simp),nl a xs hq1 i1 (by simp),nl a xs hq1 i2 (by simp),nl b ys hq2 z (by simp),nl b ys hq2 TO (by simp),nl b ys hq2 i1 (by simp),nl b ys hq2 i2 (by simp)⟩;refine wpAny_pyNext_zip_item D hz hTI hTO h1 h2 p1.isList p2.isList (x:=u) (y:=u') (by simpa using hu) (by simpa using hu') λh' hz' hTO' h1' h2' hT hsz hk=>?_;refine⟨_,O,wpAny_letOwnedTupleGo_zip hz' λh'' hz'' hs''=>?_⟩;have lt:∀c∈[z,TI,TO,i1,i2],c<s.heap.objs.size:=λc hc=>by
   simp only[YU,ZD,or_false]at hc;rcases hc with rfl|rfl|rfl|rfl|rfl
   . exact YV hz
   . exact YV hTI
   . exact YV hTO
   . obtain⟨_,q,_⟩:=h1;exact YV q
   . obtain⟨_,q,_⟩:=h2;exact YV q
  have up:∀c o,c≠z->h'.get? c=some o->h''.get? c=some o:=λc o hc q=>(hs''.2 c hc).trans q;have T:=qT9 (h':=h'') (t':=s.toks) (ch:=[z,TI,TO,i1,i2]) (xs:=[x,y]) (us:= #[u,u']) I hf lt
   (λc o hc q=>up c o (λe=>hc (by simp[e])) (hk c o (λe=>hc (by simp[e])) (λe=>hc (by simp[e])) (λe=>hc (by simp[e])) (λe=>hc (by simp[e])) q))
   (up _ _ (Nat.ne_of_gt (lt z (by simp))) hT) (.cons ru (.cons ru' .nil)) (by show 2<=sizeLine;decide)
  refine⟨.ref s.heap.objs.size,_,T.1,O,⟨_,x,y,I.hok.fresh (YI _),O,λzs hzs=>by rw[I.list_inj hzs hq1];exact hx,λzs hzs=>by rw[I.list_inj hzs hq2];exact hy,O⟩,?_,T.2⟩;exact⟨hz'',up _ _ n1.symm (hk _ _ n1.symm n5 n6 n7 hTI),⟨_,_,up _ _ n2.symm hTO'⟩,h1'.at λo q=>up _ o n3.symm q,h2'.at λo q=>up _ o n4.symm q⟩
 done:=by
  intro X hP hw hK hc i pins s σ H E I hf st hg;subst hP hw hK;obtain⟨hz,hTI,⟨u0,v0,hTO⟩,h1,h2⟩:=st;obtain⟨xs,ys,hq1,hq2,hend⟩:=hg;obtain⟨its1,rv1,p1,hz1⟩:=I.list hq1;obtain⟨its2,rv2,p2,hz2⟩:=I.list hq2;have free:∀c∈[z,TI,TO,i1,i2],H c=none:=λc hc=>(hf c hc).1;have nl:∀(l:Addr) (zs:List V),SqL X.K H l zs->∀c∈[z,TI,TO,i1,i2],l≠c:=λl zs hl c hc e=>by
   subst e;rcases hl with (q|⟨o,q⟩)|⟨o,its,n,q,_⟩
   . rw[free _ hc]at q;cases q
   . rw[free _ hc]at q;cases q
   . rcases (hf l hc).2.2.2.1 with q2|q2
     . exact I.ok.noex l o (I.ok.mod.kin l o q) q2
     . exact Nat.lt_irrefl _ (YR (YR (YV (I.ok.mod.kin l o q)) I.ok.bsz) q2)
  obtain⟨n1,n2,n3,n4,n5,n6,n7,n8,n9,n10⟩:=n0;have D:ZipApart z TI TO i1 i2 a b:=⟨n1.symm,n2.symm,n3.symm,n4.symm,n5,n6,n7,n8,n9,n10,nl a xs hq1 z (by simp),nl a xs hq1 TO (by simp),nl a xs hq1 i1 (by simp),nl a xs hq1 i2 (by simp),nl b ys hq2 z (by simp),nl b ys hq2 TO (by simp),nl b ys hq2 i1 (by simp),nl b ys hq2 i2 (by simp)⟩;have l1:=rv1.length;have l2:=rv2.length;refine wpAny_pyNext_zip_end (I.ok.hd hc) D hz hTI hTO h1 h2 p1.isList p2.isList ?_ λh' hk=>⟨O,qPx (t':=s.toks) (ch:=[z,TI,TO,i1,i2]) I hf λc o hc q=>hk c o (λe=>hc (by simp[e])) (λe=>hc (by simp[e])) (λe=>hc (by simp[e])) (λe=>hc (by simp[e])) q⟩;rcases hend with q|q
  . exact .inl (by simp;omega)
  . exact .inr (by simp;omega)
 self:=λ_ _ _ _ _ st h=>wpAny_pyIter_zip st.1 h
theorem qOq(n:Nat):n+4≠n+2/\n+4≠n+3/\n+4≠n/\n+4≠n+1/\n+2≠n+3/\n+2≠n/\n+2≠n+1/\n+3≠n/\n+3≠n+1/\n≠n+1:=by omega
def jAt(K:PySem.W.Frag)(t:TA):TI:=λσ H R=>t σ H λvs H1=> ∃a b,vs=[.ref a,.ref b]/\(∃xs,SqL K H1 a xs)/\(∃ys,SqL K H1 b ys)/\R (Itz K a b) H1
theorem qW0{X:Cx}{l l':Expr}{tl:TA}{elts:List Expr}{k1:Nat}{tpos p pos:Pos}(hg:Gl X "zip")(hm:X.mg "zip"=none)(hl:PA X [l,l'] tl)(hs:starEach [l,l'] X.env=[(false,eval l X.env),(false,eval l' X.env)]:=by rfl)(hs2:starEach [l'] X.env=[(false,eval l' X.env)]:=by rfl):
 PI X (.Tuple elts k1 tpos) (.Call (.Name "zip" p) [l,l'] [] pos) (jAt X.K tl):=by
 intro pins s σ H R I h;refine Call_ (qD9 I hg hm boot_zip (PyProof.Rows.callWith_type1 (thn (hl pos pins s σ H _ I h) λus s1 ⟨vs,H1,I1,r1,q1⟩=>?_) (by rw[hs,hs2]) (by rw[hs2];rfl)));obtain⟨a,b,e,⟨xs,hq1⟩,⟨ys,hq2⟩,q⟩:=q1;subst e;cases r1 with
 |cons r rr=>
  cases rr with
  |cons r' rr=>
   cases rr;cases r;cases r';obtain⟨its1,rv1,p1,hz1⟩:=I1.list hq1;obtain⟨its2,rv2,p2,hz2⟩:=I1.list hq2;refine call_zip_2 p1.isList p2.isList λh' hz hTI hTO h1 h2 hsz hk=>?_;refine wpAny_pyIter_zip hz ?_;refine⟨s1.heap.objs.size+4,[s1.heap.objs.size+4,s1.heap.objs.size+2,s1.heap.objs.size+3,s1.heap.objs.size,s1.heap.objs.size+1],_,_,H1,O,I1.kept (t':=s1.toks) λc o e=>hk c o e,qSh _ _ _ _ _ a b (qOq _),⟨hz,hTI,⟨_,_,hTO⟩,h1,h2⟩,λc hc=>?_,q⟩;have hle:s1.heap.objs.size<=c:=by simp only[YU,ZD,or_false]at hc;rcases hc with rfl|rfl|rfl|rfl|rfl <;> omega
   exact I1.fpOk hle (I1.hok.fresh hle)
theorem qVt{K:PySem.W.Frag}{a b:Addr}{xs ys:List V}{g:TG}{tb:TS}{D:qO4}{σ:L2.St}{H:Hp}(Pv:Nat->L2.St->Hp->Prop)(hlen:xs.length=ys.length)(h0:Pv 0 σ H)(hl:∀i σ H,i<=xs.length->Pv i σ H->SqL K H a xs/\SqL K H b ys)
 (hs:∀i x y σ H p,xs[i]?=some x->ys[i]?=some y->Pv i σ H->H p=none->g (.ref p) σ (upd H p (.tup [x,y])) λσ2 H2=>tb {D with nx:=Pv (i+1),ct:=Pv (i+1),bk:=D.nx} σ2 H2) (hd:∀σ H,Pv xs.length σ H->D.nx σ H):
 ∃W:Nat->Nat->L2.St->Hp->Prop,(∃m,W 0 m σ H)/\∀i m σ H,W i m σ H->
  ((Itz K a b).stop i H/\D.nx σ H)\/((Itz K a b).go i H/\∃N:L2.St->Hp->Prop,(∀σ' H',N σ' H'->∃m',m'<m/\W (i+1) m' σ' H')/\∀x H',(Itz K a b).yld i H x H'->g x σ H' λσ2 H2=>tb {D with nx:=N,ct:=N,bk:=D.nx} σ2 H2):=by
 refine⟨λi m σ H=>m=xs.length-i/\i<=xs.length/\Pv i σ H,⟨xs.length,by simp,ZP _,h0⟩,?_⟩;rintro i m σ H ⟨rfl,hi,p⟩;obtain⟨q1,q2⟩:=hl i σ H hi p;by_cases hlt:i<xs.length
 . have hlt2:i<ys.length:=by omega
   refine .inr ⟨⟨xs,ys,xs[i],ys[i],q1,q2,by simp[hlt],by simp[hlt2]⟩,Pv (i+1),λσ' H' p'=>⟨xs.length-(i+1),by omega,O,hlt,p'⟩,λx H' y=>?_⟩;obtain⟨z,v,u,hz,rfl,y1,y2,rfl⟩:=y;exact hs i v u σ _ z (y1 xs q1) (y2 ys q2) p hz
 . have e:i=xs.length:=by omega
   subst e;exact .inl ⟨⟨xs,ys,q1,q2,.inl (YI _)⟩,hd σ H p⟩
theorem qWr{X:Cx}{pins:List (Addr×Obj)}{σ:L2.St}{H:Hp}{s:Shared}{d:Addr}{kvs:List (Key×V)}{o:Obj}(I:Inv X pins σ H s)(e:H d=some (.dK kvs))(ho:s.heap.get? d=some o):
 Inv X pins σ (upd H d (.frz o (.dK kvs))) s:=by
 have ne:∀b u,H b=some u->u≠ .dK kvs->b≠d:=λb u h hu z=>by subst z;rw[e]at h;exact hu (Yb h).symm
 refine I.step (g':=s.gens) (d':=s.drawn) (t':=s.toks) (h':=s.heap) (ch:=[]) (λ_ z=>nomatch z) (λb o _ _ _ h _=>h) (λb o _ _ _ h _=>⟨o.slots,h⟩) (λb ob _ h n=>?_) (λb o _ h=>⟨o,h⟩) (λb xs h=>?_) (λb ob u h=>?_) (λb ps h=>?_) (λm hm=>hm) (λb u h=>?_) I.bare
 . rw[qQ (λz=>by subst z;rw[e]at n;cases n)];exact n
 . rw[qQ (ne b _ h (by intro z;cases z))];exact h
 . rw[qQ (ne b _ h (by intro z;cases z))];exact h
 . exact⟨#[],by rw[qQ (ne b _ h (by intro z;cases z)),h];simp⟩
 . by_cases hb:b=d
   . subst hb
     rw[qC]at h;cases h;exact⟨ho,I.hok _ _ e⟩
   . rw[qQ hb]at h
     exact(I.hok b u h).stay (λc v _ q=>q) (λc q=>by rw[qQ (ne c _ q (by intro z;cases z))];exact q) λc xs q=>by rw[qQ (ne c _ q (by intro z;cases z))];exact q
theorem KV.get{κ:Type}{kvs:List (κ×V)}{vs:List (κ×Value)}(r:KV kvs vs){i:Nat}{k:κ}{v:V}(h:kvs[i]?=some (k,v)):∃u,vs[i]?=some (k,u)/\RelV v u:=by
 induction r generalizing i with
 |nil=>simp at h
 | @cons p q ps qs hpq _ ih=>
  cases i with
  |zero=>
   have e:p=(k,v):=by simpa using h
   subst e;obtain⟨k',u⟩:=q;have e:k=k':=hpq.1;subst e;exact⟨u,O,hpq.2⟩
  |succ i=>exact ih (by simpa using h)
theorem qXk{κ:Type}{kvs:List (κ×V)}{vs:List (κ×Value)}(r:KV kvs vs):kvs.length=vs.length:=Paired.length r
def Frz(H:Hp)(d:Addr)(kvs:List (Key×V))(R:Obj->Hp->Prop):Prop:=(∃o,H d=some (.frz o (.dK kvs))/\R o H)\/(H d=some (.dK kvs)/\∀o,R o (upd H d (.frz o (.dK kvs))))
theorem qWn{X:Cx}{pins:List (Addr×Obj)}{σ:L2.St}{H:Hp}{s:Shared}{d:Addr}{kvs:List (Key×V)}{R:Obj->Hp->Prop}(I:Inv X pins σ H s)(h:Frz H d kvs R):
 ∃(o:Obj) (vs:List (Key×Value)) (ep:Nat) (H':Hp),Inv X pins σ H' s/\R o H'/\H' d=some (.frz o (.dK kvs))/\KV kvs vs/\(d==sysModules)=false/\∀h':Heap,h'.get? d=some o->h'.DictAt (q9 X.prog X.w) d vs ep:=by
 rcases h with ⟨o,e,q⟩|⟨e,q⟩
 . obtain⟨ho,_,hs,vs,r,o',es,ep,ho',rest⟩:=(show s.heap.get? d=some o/\kvs.length<=sizeLine/\(d==sysModules)=false/\∃vs,KV kvs vs/\s.heap.DictOf (q9 X.prog X.w) d vs from I.hok d _ e)
   rw[ho]at ho';cases ho';exact⟨o,vs,ep,H,I,q,e,r,hs,λh' hh=>⟨o,es,hh,rest⟩⟩
 . obtain⟨_,hs,vs,r,o,es,ep,ho,rest⟩:=(show kvs.length<=sizeLine/\(d==sysModules)=false/\∃vs,KV kvs vs/\s.heap.DictOf (q9 X.prog X.w) d vs from I.hok d _ e)
   exact⟨o,vs,ep,_,qWr I e ho,q o,qC,r,hs,λh' hh=>⟨o,es,hh,rest⟩⟩
theorem qBj{X:Cx}{f:Value}{r1 r2:List V->Hp->VK->Prop}(h1:zD X f r1)(h2:zD X f r2):zD X f (λxs H Q=>r1 xs H Q\/r2 xs H Q):=by
 intro pins s σ H xs us Q I r h;rcases h with h|h
 . exact h1 pins s σ H xs us Q I r h
 . exact h2 pins s σ H xs us Q I r h
theorem xg{X:Cx}:zD X (.builtin "isinstance") (λxs H Q=> ∃(p:Addr) (n t:String) (b:Bool),xs=[.ref p,.ty n]/\((∃ys,SqT X.K H p ys/\t="tuple")\/∃kvs:List (Key×V),Rd H p (.dK kvs)/\t="dict")/\PySem.W.kitOne X.K (.type t) (.type n)=some b/\Q (.bl b) H):=by
 intro pins s σ H xs us Q I r h;obtain⟨p,n,t,b,rfl,ht,e,q⟩:=h;obtain⟨u,w',rfl,ru,rw'⟩:=qPz r;cases ru;have ew:w'=.type n:=rw';subst ew;rcases ht with ⟨ys,hy,rfl⟩|⟨kvs,hk,rfl⟩
 . obtain⟨its,_,⟨o,h1,h2,_⟩,_⟩:=I.tuple hy
   exact PySem.W.kia_one PySem.W.kitx_tuple I.kIn ⟨o,h1,h2⟩ e (λz=>nomatch z) λtk=>⟨.bl b,H,I.tok tk,O,q⟩
 . obtain⟨_,_,vs,_,o,es,ep,h1,h2,_⟩:=qLt I.hok hk
   exact PySem.W.kia_one PySem.W.kitx_dict I.kIn ⟨o,h1,h2.1⟩ e (λz=>nomatch z) λtk=>⟨.bl b,H,I.tok tk,O,q⟩
theorem qHm{X:Cx}{K:PySem.W.Frag}(h:X.K=K):zD X (.type "list") (λxs H Q=> ∃p ys,xs=[.ref p]/\(SqL K H p ys\/SqT K H p ys)/\∀l,H l=none->Q (.ref l) (upd H l (.lst ys))):=h ▸ xh
theorem qNi{K:PySem.W.Frag}{a:Addr}{xs:List V}{js:List Nat}{te:TE}{σ:L2.St}{H:Hp}{Q:VK}(Pv:Nat->List V->Hp->Prop)(h0:Pv 0 [] H)(hl:∀i acc H,i<=xs.length->Pv i acc H->SqT K H a xs/\acc.length<sizeLine)
 (hs:∀i x acc H,i<xs.length->xs[i]?=some x->Pv i acc H->te (some x::qBf js σ) H λv H'=>Nxt xs.length i (Pv (i+1) (acc++[v]) H')) (hd:∀acc H,Pv xs.length acc H->∀D,H D=none->Q (.ref D) (upd H D (.lst acc))):CompEnd js te σ Q (Itt K a) H:=by
 refine⟨λi m acc H=>m=xs.length-i/\i<=xs.length/\Pv i acc H,⟨xs.length,by simp,ZP _,h0⟩,?_⟩;rintro i m acc H2 ⟨rfl,hi,p⟩;obtain⟨q,hz⟩:=hl i acc H2 hi p;refine⟨hz,?_⟩;by_cases hlt:i<xs.length
 . refine .inr ⟨⟨xs,xs[i],q,by simp[hlt]⟩,λx H3 y=>?_⟩
   obtain⟨e,y⟩:=y;subst e;exact hs i x acc _ hlt (y xs q) p
 . have e:i=xs.length:=by omega
   subst e;exact .inl ⟨⟨xs,q,YI _⟩,hd acc H2 p⟩
theorem qVv{xs:List V}{us:List Value}(hl:xs.length=us.length)(h:∀(j:Nat) (x:V) (u:Value),xs[j]?=some x->us[j]?=some u->RelV x u):Vals xs us:=by
 induction xs generalizing us with
 |nil=>
  cases us with
  |nil=>exact .nil
  |cons _ _=>simp at hl
 |cons x xs ih=>
  cases us with
  |nil=>simp at hl
  |cons u us=>exact .cons (h 0 x u rfl rfl) (ih (by simpa using hl) λj y v e1 e2=>h (j+1) y v (by simpa using e1) (by simpa using e2))
variable{X:Cx}
end L3
namespace L3
open PySem PySem.Spec PyProof.Rows L2 PySem.NumText PySem.Builtin.Str
def XES(X:Cx)(Ex:Value->Option Addr->L2.St->Hp->Prop):Value->Shared->Prop:=λe s'=> ∃ea C σ H',e=.ref ea/\Inv X [] σ H' s'/\qSp X.s₀.heap H' X.pn s'.heap ea C/\Ex C.1 C.2 σ H'
def qWz(sp:Sp)(Ex:Value->Option Addr->L2.St->Hp->Prop)(t:TA):TE:=λσ H Q=>t σ H λvs H1=>sp (vs++[]) H1 Q λC od H'=>Ex C od σ H'
theorem qUf{X:Cx}{Ex:Value->Option Addr->L2.St->Hp->Prop}(hex:X.ex=[]){pins:List (Addr×Obj)}{σ:L2.St}{H:Hp}{s:Shared}{e:Value}{s':Shared}(I:Inv (X.wish (XES X Ex)) pins σ H s)
 (h:CXR X.prog X.w X.stack H s (λC od H'=>Ex C od σ H') e s'):XES X Ex e s':=by
 obtain⟨ea,C,H',rfl,os,bare,un,hok,⟨n1,hd,r,n3⟩,q⟩:=h;have I0:=I.unwish;have I1:Inv X pins σ H' s':=I0.call' (ch:=[]) os un hok bare λb z=>nomatch z
 have old:∀b,s.heap.get? b=none->X.s₀.heap.get? b=none:=λb z=>by
  cases w:X.s₀.heap.get? b with
  |none=>rfl
  |some o=>
   obtain⟨o',w'⟩:=I0.base.there b o w (by rw[hex];intro y;cases y);rw[z]at w';cases w'
 have pn:∀b,s.heap.get? b=none->∀p∈X.pn,p.1≠b:=λb z p hp w=>by have q:=(I0.pin p (Yp _ hp)).1;rw[w,z]at q;cases q
 exact⟨ea,C,σ,H',O,I1.pins_of (pins':=[]) λp hp=>(nomatch hp),⟨⟨old _ n1.1,n1.2.1,pn _ n1.1⟩,hd,r,λT e=>⟨old _ (n3 T e).1,(n3 T e).2.1,pn _ (n3 T e).1⟩⟩,q⟩
theorem qTe{X:Cx}{Ex:Value->Option Addr->L2.St->Hp->Prop}{k j:Nat}{x:Str}{st:Stmt}{ps:List Str}{f:Addr}{fd:FuncData}{sp:Sp}{e:Expr}{es:List Expr}{t:TA}{p pos:Pos}(D:Def X.K X.mg x st ps f fd)(F:FnOk X.prog X.w X.K X.mg X.base (CXR X.prog X.w) j f fd ps sp)(hr:Room k X.A)(hg:Gl X x)
 (ha:PA (X.wish (XES X Ex)) (e::es) t) (hj:j<=k:=by decide) (hex:X.ex=[]:=by rfl)
 (hdb:(x==("__debug__":Str))=false:=by decide) (he:starEach (e::es) X.env=(false,eval e X.env)::starEach es X.env:=by rfl) (hpl:(backTo pos (starEach es X.env)).any (·.1)=false:=by rfl):
 PE (X.wish (XES X Ex)) (.Call (.Name x p) (e::es) [] pos) (qWz sp Ex t):=by
 intro pins s σ H Q I h;refine wpAny_Call_Name_kw (qAi I hg D.m ?_ hdb);refine PySem.W.callWith_K (h₀:=X.base) I.ok.mod.kin D.F.kp (thn (ha pos pins s σ H _ I h) λus s1 ⟨vs,H1,I1,r,q⟩=>⟨I1.kIn,?_⟩) he hpl;have r2:Vals (vs++[]) (us++[]):=r.append .nil;have hl:(us++[]).length=ps.length:=by rw[<-r2.length];exact F.len _ _ _ _ q
 refine wpAny_call (codeAny_mono (F.run X.A X.stack s1 H1 ⟨us,[]⟩ (us++[]) (vs++[]) Q _ (hr.mono hj) I1.env0 (D.b s1 us I1.kIn hl) r2 q) λr s' hq=>?_);cases r with
 |error e=>exact qUf hex I1 hq
 |ok fl=>
  cases fl with
  |ret u=>exact I1.after hq
  |next=>exact False.elim hq
  |brk=>exact False.elim hq
  |cont=>exact False.elim hq
def qZe(K:PySem.W.Frag)(Ex:Value->Option Addr->L2.St->Hp->Prop)(C:Addr)(i:Option Nat)(tb ts:TS):TS:=λD σ H=>tb D σ H/\∀(ea:Addr) (B:EC) (σ':L2.St) (H':Hp),Ex B.1 B.2 σ' H'->H' ea=none->σ'.length=σ.length->
 PySem.W.exmOne K B.1 (.ref C)=some true/\ts (qU2 D i) (qY9 i ea σ') (upd H' ea (qLz ea B))
theorem qP6{X:Cx}{body:List Stmt}{b₀:Stmt}{suite:List Stmt}{x:Str}{C:Addr}{nm:Option Str}{i:Option Nat}{np hpos pos:Pos}{tb ts:TS}(Ex:Value->Option Addr->L2.St->Hp->Prop)
 (hcl:qQm X nm i) (hN:X.N.Nodup) (hg:Gl X x) (hm:X.mg x=some (.ref C))
 (hb:∀l,PSs ((pnX X l).wish (XES (pnX X l) Ex)) body tb) (hs:∀l ea,PSs (hdX (pnX X l) ea).nox (b₀::suite) ts)
 (hstk:X.stack=X.env::X.outer:=by rfl) (hfr:X.env.frame=some X.env.locals:=by rfl) (hex:X.ex=[]:=by rfl) (hdb:(x==("__debug__":Str))=false:=by decide):
 PS X (.Try body [.ExceptHandler (some (.Name x np)) nm (b₀::suite) hpos] [] [] pos) (qZe X.K Ex C i tb ts):=by
 rintro pins s σ H D I ⟨h1,h2⟩;have I0:=qW7 I;refine wpAny_Try_except (YL (hb (X.pn++pins) [] s σ H D (I0.wish _) h1) (λf s1 q=>?_) λe s1 q=>?_)
 . have q:=q.unwish
   cases f with
   |next=>
    obtain⟨σ',H',J,z⟩:=q;exact wpAny_execs_nil ⟨σ',H',qDe J,z⟩
   |brk=>
    obtain⟨σ',H',J,z⟩:=q;exact⟨σ',H',qDe J,z⟩
   |cont=>
    obtain⟨σ',H',J,z⟩:=q;exact⟨σ',H',qDe J,z⟩
   |ret u=>
    obtain⟨v,σ',H',J,r,z⟩:=q;exact⟨v,σ',H',qDe J,r,z⟩
 . obtain⟨ea,B,σ',H',rfl,I1,⟨n1,hd,r,n3⟩,ex⟩:=q
   have hlen:σ'.length=σ.length:=I1.len.trans I.len.symm;obtain⟨hx,ht⟩:=h2 ea B σ' H' ex n1.2.1 hlen;have fr:X.A.frames=some (X.env::X.outer):=by rw[<-hstk];exact I.ok.frames
   have ff:s1.heap.FunFrames X.base (X.env::X.outer):=by have z:=I1.stack;rw[show (pnX X (X.pn++pins)).stack=X.env::X.outer from hstk]at z;exact z
   refine qO7 fr ff hfr r λh' N'=>?_;have N':Noted (frs X.stack) ea hd B s1.heap h':=by rw[hstk];exact N'
   obtain⟨I2,n1,hd2,r2,n3⟩:=vI I1 hex r n1 n3 N';refine wpAny_handleBy_cons (codeAny_handlers_test (qAi (X:=hdX (pnX X (X.pn++pins)) ea) (qP0 I2) hg hm ?_ hdb)) (by intro z;cases z);have LT:PySem.W.Looks (model X.prog X.w) h' (typeOf (.ref ea)) B.1:=by obtain⟨vs,sl,qe,_⟩:=r2;exact(PySem.W.Looks.ld qe).andThen .now
   refine(PySem.W.exm_one (M:=model X.prog X.w) I2.kIn LT hx).here ?_;show codeAny _ _ _ _ _;obtain⟨T,rfl,r3⟩:∃T,hd2=some T/\vj h' ea B (some T):=by
    obtain⟨T,_,_⟩:=N'.ent;cases hd2 with
    |some T=>exact⟨T,rfl,r2⟩
    |none=>
     obtain⟨T,_,rT⟩:=N'.ent;obtain⟨vs,sl,q1,q2⟩:=r2;obtain⟨vs',sl',q1',q2',_⟩:=rT;rw[q1]at q1';cases q1';rw[q2]at q2';cases q2'
   have run:∀(s4:Shared) (σ4:L2.St) (Q:Flow->Shared->Prop) (E:Value->Shared->Prop),Inv (hdX (pnX X (X.pn++pins)) ea) [] σ4 (upd H' ea (qLz ea B)) s4->ts (qU2 D i) σ4 (upd H' ea (qLz ea B))->
    (∀f s5,SP (hdX (pnX X (X.pn++pins)) ea) [] (qU2 D i) f s5->Q f s5)->wpAny (model X.prog X.w) (X.A.mark (some (.ref ea))) (execs (b₀::suite) X.env) Q E s4:=λs4 σ4 Q E I4 z k=>
    YL (hs (X.pn++pins) ea [] s4 σ4 _ _ (I4.wish _) z) (λf s5 q=>k f s5 q.unwish) λ_ _ z=>z.elim
   have hdn:(pnX X (X.pn++pins)).calm=true->(pnX X (X.pn++pins)).A.handled=none:=I2.ok.hd;cases hcl with
   |none=>
    refine codeAny_handlers_suite (qEc r3 λh3 N3=>?_);obtain⟨I3,n1,hd3,r4,n3⟩:=vI I2 hex r3 n1 n3 (N3 _);refine run _ _ _ _ (qP0 (qIp I3 hex n1 r4)) ht λf s5 q=>?_;cases f with
    |next=>obtain⟨σ5,H5,J,z⟩:=q;exact⟨σ5,H5,qDe (qIr J hdn),z⟩
    |brk=>obtain⟨σ5,H5,J,z⟩:=q;exact⟨σ5,H5,qDe (qIr J hdn),z⟩
    |cont=>obtain⟨σ5,H5,J,z⟩:=q;exact⟨σ5,H5,qDe (qIr J hdn),z⟩
    |ret u=>obtain⟨v,σ5,H5,J,rv,z⟩:=q;exact⟨v,σ5,H5,qDe (qIr J hdn),rv,z⟩
   |some hi hl=>
    refine codeAny_handlers_suite_as (qEc r3 λh3 N3=>?_);obtain⟨I3,n1,hd3,r4,n3⟩:=vI I2 hex r3 n1 n3 (N3 _);refine qDu (X:=hdX (pnX X (X.pn++pins)) ea) (v:=.ref ea) (qP0 (qIp I3 hex n1 r4)) hN hi (.inl hl) rfl (λs4 I4=>?_) (.inr hl);refine run _ _ _ _ I4 ht λf s5 q=>?_;cases f with
    |next=>obtain⟨σ5,H5,J,z⟩:=q;exact qAu (X:=pnX X (X.pn++pins)) (qIr J hdn) hN hi hl λs6 J6=>⟨_,H5,qDe J6,z⟩
    |brk=>obtain⟨σ5,H5,J,z⟩:=q;exact qAu (X:=pnX X (X.pn++pins)) (qIr J hdn) hN hi hl λs6 J6=>⟨_,H5,qDe J6,z⟩
    |cont=>obtain⟨σ5,H5,J,z⟩:=q;exact qAu (X:=pnX X (X.pn++pins)) (qIr J hdn) hN hi hl λs6 J6=>⟨_,H5,qDe J6,z⟩
    |ret u=>obtain⟨v,σ5,H5,J,rv,z⟩:=q;exact qAu (X:=pnX X (X.pn++pins)) (qIr J hdn) hN hi hl λs6 J6=>⟨v,_,H5,qDe J6,rv,z⟩
section
variable{X:Cx}
theorem qJ{a:Expr}{ta:TE}{i:Int}{j}{p pos:Pos}(ha:PE X a ta):PE X (.Subscript a (.Constant (.int i) j p) pos) (tOp (qVz X.K) ta (tC (.int i))):=jN qGp ha qG (λ_ _=>rfl)
theorem qW(i:Nat){x:Str}{e:Expr}{te:TE}{pos pos':Pos}(hN:X.N.Nodup)(he:PE X e te)(hi:X.N[i]?=some x:=by rfl)(hx:Loc X.env.scope x:=by trivial)(hs:swapsWith e (some (.Name x pos')) pos.line X.env=pure false:=by rfl)(hf:X.fn x=true\/X.env.scope.names.lookup x=some .local:=by trivial):
 PS X (.Assign [.Name x pos'] e pos) (qV9 te (vk i)):=qPr hN hi hx he hs hf
end
end L3
namespace L3
open PySem PySem.Spec PySem.W PyProof.Rows L2
section
variable{X:Cx}{pins:List (Addr×Obj)}{σ:L2.St}{H:Hp}{s:Shared}{a:Addr}{kvs:List (Key×V)}{k:Key}{u r:Value}{A:Around}{E:Value->Shared->Prop}
theorem qWu{x:V}{Q:Value->Shared->Prop}(I:Inv X pins σ H s)(e:H a=some (.dK kvs))(ry:RelV (kV k) u)(rx:RelV x r)(hz:kvs.length+1<=sizeLine)
 (h1:∀v w' s',x6 kvs k=some v->Inv X pins σ H s'->RelV v w'->Q w' s') (h2:x6 kvs k=none->∀s',Inv X pins σ (upd H a (.dK (zW kvs k x))) s'->Q r s'):
 wpAny (model X.prog X.w) A (call (.builtin "dict.setdefault") [.ref a,u,r]) Q E s:=by
 obtain⟨z,hd,vs,rel,dd⟩:=qRh I.hok e;have hv:=rel.val k;refine call_meetsIn PySem.F.slot_dict_setdefault dd.typeIs PySem.F.entry_dict_setdefault (PySem.F.args_dict_setdefault_3 _ _ _) (kt_meets_setdefault (q9 X.prog X.w) a (qK0 ry) hd r)
  ⟨vs,dd,by rw[<-rel.length];exact z,λv' hv'=>?_,λhn h' dd' hs=>?_⟩
 . cases l:x6 kvs k with
   |none=>
    have:=RelO.none_of (o:=valueAt vs k) (by rw[<-l];exact hv);rw[this]at hv';cases hv'
   |some v=>
    obtain⟨w',hw,rw'⟩:=RelO.some_of (v:=v) (o:=valueAt vs k) (by rw[<-l];exact hv);rw[hw]at hv';cases hv';exact h1 v _ _ l (I.tok _) rw'
 . cases l:x6 kvs k with
   |some v=>
    obtain⟨w',hw,rw'⟩:=RelO.some_of (v:=v) (o:=valueAt vs k) (by rw[<-l];exact hv);rw[hw]at hn;cases hn
   |none=>
    have hl:(zW kvs k x).length<=sizeLine:=by have:=kJ kvs k x;omega
    have he:∃q,h'.get? a=some q:=let ⟨q,_,_,hq,_⟩:=dd';⟨q,hq⟩
    exact h2 l _ (qBu I (by rw[e];exact True.intro) hs he (qM7 hl hd (rel.put k rx) dd'))
end
def qX5(td ty tx:TE):TE:=λσ H Q=>td σ H λx H1=> ∃a,x=.ref a/\IsD H1 a/\ty σ H1 λy H2=>tx σ H2 λz H3=> ∃kvs k,H3 a=some (.dK kvs)/\y=kV k/\kvs.length+1<=sizeLine/\∃u H4,((x6 kvs k=some u/\H4=H3)\/(x6 kvs k=none/\u=z/\H4=upd H3 a (.dK (zW kvs k z))))/\Q u H4
theorem qTm{X:Cx}{o e f:Expr}{td ty tx:TE}{apos cpos:Pos}(ho:PE X o td)(he:PE X e ty)(hf:PE X f tx)(m:M2 X o "setdefault" apos e f cpos):PE X (.Call (.Attribute o "setdefault" apos) [e,f] [] cpos) (qX5 td ty tx):=by
 intro pins s σ H Q I h;refine wpAny_Call_method m.base m.few m.line PySem.F.plainAttrs_dict PySem.F.slot_dict_setdefault PySem.F.type_dict_setdefault (thn (ho pins s σ H _ I h) λu s1 ⟨x,H1,I1,rx,a,ex,d,q1⟩=>?_);subst ex;obtain rfl:u=Value.ref a:=rx;obtain⟨t1,t2,_⟩:=qQc I1 d;refine⟨t1,t2,?_⟩;rw[m.trees];refine Calls.callWith_builtin rfl (Calls.evalArgs_plain (Calls.spliced_cons (thn (he pins s1 σ H1 _ I1 q1) λiv s2 ⟨y,H2,I2,ry,q2⟩=>
  Calls.spliced_cons (thn (hf pins s2 σ H2 _ I2 q2) λfv s3 ⟨z,H3,I3,rz,kvs,k,ea,ey,hz,u4,H4,hu4,q4⟩=>Calls.spliced_nil ?_))))
 subst ey;refine qWu I3 ea ry rz hz (λv w' s4 l I4 rw'=>?_) (λl s4 I4=>?_)
 . rcases hu4 with ⟨h1,rfl⟩|⟨h1,_⟩
   . rw[h1]at l
     cases l;exact⟨_,_,I4,rw',q4⟩
   . rw[h1]at l;cases l
 . rcases hu4 with ⟨h1,_⟩|⟨_,rfl,rfl⟩
   . rw[h1]at l;cases l
   . exact⟨_,_,I4,rz,q4⟩
end L3
namespace L3
open PySem PySem.Spec PyProof.Rows L2
def g5(K:PySem.W.Frag):TG:=qYc K 5 (qF0 (vk 0) (qF0 (vk 1) (qF0 (vk 2) (qF0 (vk 3) (qF0 (vk 4) qYb)))))
variable{X:Cx}
end L3
namespace WS
open PySem PySem.Spec PyProof.Rows
section
variable{prog:Program}{w:World}{A:Around}{E:Value->Shared->Prop}{s:Shared}
section
variable{I S:Addr}{k i j ep:Nat}{os:Obj}{es:Array (Int×Value)}{t:SetTable}{x:Value}{Q:Option Value->Shared->Prop}(hS:s.heap.get? S=some os)(hd:os.data=.set es ep t)(hf:t.fits es.size=true)
include hS hd hf
end
end
section
variable{prog:Program}{w:World}{A:Around}{E:Value->Shared->Prop}{s:Shared}
section
variable{S:Addr}{k i ep:Nat}{os:Obj}{es:Array (Int×Value)}{t:SetTable}(hS:s.heap.get? S=some os)(hd:os.data=.set es ep t)(hf:t.fits es.size=true)
include hS hd hf
end
section
variable{I S:Addr}{ep:Nat}{es:Array (Int×Value)}{t:SetTable}(hf:t.fits es.size=true)(hne:S≠I)(hh:A.handled=none)
include hf hne hh
end
end
end WS
set_option linter.all false
namespace L3
open PySem PySem.Spec PyProof.Rows L2
structure MD(K:PySem.W.Frag)(C:Addr)(m q:Str)(st:Stmt)(ps:List Str)(f:Addr)(fd:FuncData):Prop where
 F:Fun K m q st f fd
 b:Binds K fd ps []
 t:qWf K C m f
section
variable{X:Cx}{k j:Nat}{C:Addr}{m q:Str}{st:Stmt}{ps:List Str}{f:Addr}{fd:FuncData}{sp:Sp}{o e:Expr}{es:List Expr}{ta:TE}{t:TA}{apos pos:Pos}{pl:Sem Bool}
theorem qV2(ho:PE X o ta)(c:Cls X.K C)(D:MD X.K C m q st ps f fd)(F:FnOk X.prog X.w X.K X.mg X.base CX0 j f fd ps sp)(hr:Room k X.A)(ha:PA X (e::es) t)(hj:j<=k:=by decide)
 (hst:starEach (e::es) X.env=(false,eval e X.env)::starEach es X.env:=by rfl) (hpl:(backTo pos (starEach es X.env)).any (·.1)=false:=by rfl)
 (ht:eval (.Call (.Attribute o m apos) (e::es) [] pos) X.env=(do
   let ov<-eval o X.env
   standAt apos.atName
   let (f,first)<-holding [ov] (getMethod ov m pl)
   callWith pos f first (backTo pos (starEach (e::es) X.env)) (backToKw pos (keywordEach [] X.env))):=by rfl):
 PE X (.Call (.Attribute o m apos) (e::es) [] pos) (qS2 C m sp [] E0 ta t):=qVe ho c D.t F (hr.mono hj) D.b .nil qN7 ha hst hpl ht
theorem qCv(ho:PE X o ta)(c:Cls X.K C)(D:MD X.K C m q st ps f fd)(F:FnOk X.prog X.w X.K X.mg X.base CX0 j f fd ps sp)(hr:Room k X.A)(hj:j<=k:=by decide)
 (ht:eval (.Call (.Attribute o m apos) [] [] pos) X.env=(do
   let ov<-eval o X.env
   standAt apos.atName
   let (f,first)<-holding [ov] (getMethod ov m pl)
   callWith pos f first (backTo pos (starEach [] X.env)) (backToKw pos (keywordEach [] X.env))):=by rfl):
 PE X (.Call (.Attribute o m apos) [] [] pos) (qS2 C m sp [] E0 ta qWa):=qR7 ho c D.t F (hr.mono hj) D.b .nil qN7 ht
theorem qVq{x:Str}{p:Pos}(M:Mk X.K C f)(F:FnOk X.prog X.w X.K X.mg X.base CX0 j f fd ps sp)(hr:Room k X.A)(hg:Gl X x)(hm:X.mg x=some (.ref C))(hb:Binds X.K fd ps [])(ha:PA X (e::es) t)(hj:j+1<=k:=by decide)
 (hdb:(x==("__debug__":Str))=false:=by decide) (he:starEach (e::es) X.env=(false,eval e X.env)::starEach es X.env:=by rfl) (hpl:(backTo pos (starEach es X.env)).any (·.1)=false:=by rfl):
 PE X (.Call (.Name x p) (e::es) [] pos) (qXm C sp [] E0 t):=qU9 M F (hr.mono hj) hg hm hb .nil qN7 ha hdb he hpl
end
end L3
set_option linter.all false
namespace L3
open PySem PySem.Spec PyProof.Rows L2
noncomputable def Itv(d:Addr)(o:Obj)(kvs:List (Key×V)):It:=
 ⟨λi H=>H d=some (.frz o (.dK kvs))/\i<kvs.length,λi H x H'=> ∃k v,kvs[i]?=some (k,v)/\x=v/\H'=H,λi H=>H d=some (.frz o (.dK kvs))/\kvs.length<=i⟩
theorem qO9:entryFor table "dict_valueiterator.__iter__"=some Builtin.«dict_keyiterator.__iter__»:=by
 refine entryFor_alias (id':="dict_keyiterator.__iter__") ?_ ?_ ?_ ?_
 . kernel_rfl
 . first
    |rfl
    |decide+kernel
    |(unfold String.splitOn
      simp+decide [String.splitOnAux])
 . decide+kernel
 . kernel_rfl
section
variable{P:Program}{w:World}{K:PySem.W.Frag}
theorem qLo{tg:Expr}{d it:Addr}{o:Obj}{kvs:List (Key×V)}{vs:List (Key×Value)}{ep:Nat}(r:KV kvs vs)(hD:∀h:Heap,h.get? d=some o->h.DictAt (q9 P w) d vs ep):
 qUg P w K tg (Itv d o kvs) [it] it (λi h=>h.IsValIter it d i vs.length ep) where
 mem:=by simp
 obj:=λi h st b hb=>by
  obtain⟨ob,e,_,q⟩:=st;have z:b=it:=by simpa using hb
  subst z;exact⟨_,e,λv z=>by rw[q]at z;cases z⟩
 keep:=λi h h' st k=>by obtain⟨ob,e,q⟩:=st;exact⟨ob,k it (by simp) _ e,q⟩
 item:=by
  intro X hP hw hK hc i pins s σ H E I hf st hg;subst hP hw hK;obtain⟨hH,hi⟩:=hg;have hd:s.heap.get? d=some o:=(show s.heap.get? d=some o/\_ from I.hok d _ hH).1;have ex:kvs[i]?=some (kvs[i].1,kvs[i].2):=by rw[YD hi]
  obtain⟨u,hu,ru⟩:=KV.get r ex;obtain⟨f0,f1,f2,f3,f4,f5⟩:=hf it (by simp);refine wpAny_pyNext_values_item st (hD _ hd) hu λh' st' sb=>?_;have I1:Inv X pins σ H {s with heap:=h'}:=I.turned (t':=s.toks) (λb o hb e=>(sb.2 b hb).trans e) f0 f1 f3 f4 f5;obtain⟨ob,e,c,q⟩:=id st';exact⟨u,O,qRq (s:={s with heap:=h'}) e c q (by decide) ⟨kvs[i].2,H,I1,ru,⟨_,_,ex,O,O⟩,st',λb hb=>(hf b hb).1⟩⟩
 done:=by intro X hP hw hK hc i pins s σ H E I hf st hg;subst hP hw hK;obtain⟨hH,hi⟩:=hg;have hd:s.heap.get? d=some o:=(show s.heap.get? d=some o/\_ from I.hok d _ hH).1;obtain⟨f0,f1,f2,f3,f4,f5⟩:=hf it (by simp);have hl:=qXk r;exact wpAny_pyNext_values_end (I.ok.hd hc) st (hD _ hd) (by simp;omega) λh' eb=>⟨O,I.turned (t':=s.toks) (λb o hb e=>eb b o hb e) f0 f1 f3 f4 f5⟩
 self:=λ_ _ s' _ _ st h=>by refine wpAny_pyIter_slot st.typeIs F.slot_dict_valueiterator_iter (wpAny_call_entry F.slot_dict_valueiterator_iter st.typeIs qO9 ?_ (F.args_dict_valueiterator_iter_1 _));exact YK ⟨_,O,"dict_valueiterator",_,st.typeIs,F.slot_dict_valueiterator_next.lookup,h⟩
end
def qY6(td:TE):TI:=λσ H R=>td σ H λx H1=> ∃d kvs,x=.ref d/\Frz H1 d kvs λo H2=>R (Itv d o kvs) H2
theorem qPk{X:Cx}{e tg:Expr}{td:TE}{apos cpos:Pos}(he:PE X e td)
 (hbase:attributeBase e "values" X.env (eval e X.env)=eval e X.env:=by rfl) (hline:(apos.endLine==cpos.line)=true:=by rfl):
 PI X tg (.Call (.Attribute e "values" apos) [] [] cpos) (qY6 td):=by
 intro pins s σ H R I h;refine wpAny_Call_method0_late hbase hline (thn (he pins s σ H _ I h) λv s1 ⟨x,H1,I1,r1,d,kvs,ex,fz⟩=>?_);subst ex;cases r1;obtain⟨o,vs,ep,H2,I2,q,hd,r,hs,hD⟩:=qWn I1 fz;have hg:s1.heap.get? d=some o:=(show s1.heap.get? d=some o/\_ from I2.hok d _ hd).1;have hA:=hD _ hg;have hT:s1.TypeIs (.ref d) "dict":=hA.dictOf.typeIs;refine⟨"dict","dict.values",F.plainAttrs_dict,F.slot_dict_values,F.type_dict_values,hT,λa ea=>?_,Calls.callWith_builtin rfl (PySem.evalArgs_none ?_)⟩
 . cases ea
   obtain⟨o',es,e1,ex,_⟩:=hA;exact⟨o',e1,ex.2.1⟩
 refine call_meetsIn F.slot_dict_values hT F.entry_dict_values (F.args_dict_values_1 _) (meets_dict_values (q9 X.prog X.w) d hs) ⟨⟨vs,hA.dictOf⟩,?_⟩;have hA2:=hD (s1.heap.push {cls:=.type "dict_values",data:=.fields #[.ref d]}) (YM _ hg);refine wpAny_pyIter_values (knd:=q9 X.prog X.w) ⟨_,Yn _ rfl,O,O⟩ hA2 ?_;have I3:Inv X pins σ H2 {s1 with heap:=s1.heap.push {cls:=.type "dict_values",data:=.fields #[.ref d]}}:=I2.kept (t':=s1.toks) λb ob e=>YM _ e;refine⟨(s1.heap.push {cls:=.type "dict_values",data:=.fields #[.ref d]}).objs.size,[(s1.heap.push {cls:=.type "dict_values",data:=.fields #[.ref d]}).objs.size],_,_,H2,O,I3.kept (t':=s1.toks) λb ob e=>YM _ e,qLo r hD,⟨_,Yn _ rfl,O,O⟩,λb hb=>?_,q⟩;have e:b=(s1.heap.push {cls:=.type "dict_values",data:=.fields #[.ref d]}).objs.size:=by simpa using hb
 subst e;exact I3.fpOk (YI _) (I3.hok.fresh (YI _))
theorem qLf{d:Addr}{o:Obj}{kvs:List (Key×V)}{js:List Nat}{te:TE}{σ:L2.St}{H:Hp}{Q:VK}(Pv:Nat->List V->Hp->Prop)(h0:Pv 0 [] H)(hl:∀i acc H,i<=kvs.length->Pv i acc H->H d=some (.frz o (.dK kvs))/\acc.length<sizeLine)
 (hs:∀i k v acc H,i<kvs.length->kvs[i]?=some (k,v)->Pv i acc H->te (some v::qBf js σ) H λu H'=>Nxt kvs.length i (Pv (i+1) (acc++[u]) H')) (hd:∀acc H,Pv kvs.length acc H->∀D,H D=none->Q (.ref D) (upd H D (.lst acc))):CompEnd js te σ Q (Itv d o kvs) H:=by
 refine⟨λi m acc H=>m=kvs.length-i/\i<=kvs.length/\Pv i acc H,⟨kvs.length,by simp,ZP _,h0⟩,?_⟩;rintro i m acc H2 ⟨rfl,hi,p⟩;obtain⟨q,hz⟩:=hl i acc H2 hi p;refine⟨hz,?_⟩;by_cases hlt:i<kvs.length
 . refine .inr ⟨⟨q,hlt⟩,λx H3 y=>?_⟩
   obtain⟨k,v,ek,rfl,rfl⟩:=y;exact hs i k _ acc _ hlt ek p
 . have e:i=kvs.length:=by omega
   subst e;exact .inl ⟨⟨q,YI _⟩,hd acc H2 p⟩
end L3
set_option linter.all false
namespace L3
open PySem PySem.Spec PyProof.Rows L2
theorem jAu{X:Cx}{pins pins':List (Addr×Obj)}{σ σ':L2.St}{H H1:Hp}{s s1:Shared}{d:Addr}{kvs kvs0:List (Key×V)}{o:Obj}(I0:Inv X pins' σ' H s)(e0:H d=some (.dK kvs0))(I:Inv X pins σ H1 s1)(e:H1 d=some (.frz o (.dK kvs))):
 Inv X pins σ (upd H1 d (.dK kvs)) s1:=by
 have n0:∀o u,X.H₀ d≠some (.frz o u):=λo u z=>by have:=I0.base.frzs d o u z;rw[e0]at this;cases this
 have ne:∀b u,H1 b=some u->u≠ .frz o (.dK kvs)->b≠d:=λb u h hu z=>by subst z;rw[e]at h;exact hu (Yb h).symm
 have nn:∀b,H1 b=none->upd H1 d (.dK kvs) b=none:=λb h=>by rw[qQ (λz=>by subst z;rw[e]at h;cases h)];exact h
 have nt:∀b u,H1 b=some u->u≠ .frz o (.dK kvs)->upd H1 d (.dK kvs) b=some u:=λb u h hu=>by rw[qQ (ne b u h hu)];exact h
 refine⟨I.ok,I.os,I.bare,⟨I.base.keep,I.base.slot,λb ob h n hx=>nn b (I.base.free b ob h n hx),I.base.there,λb xs h=>nt b _ (I.base.tups b xs h) (by intro z;cases z),λb ob u h=>?_,λb ps h=>?_⟩,I.loc,I.cell,nn _ I.free,λx c h=>nn _ (I.freeC x c h),λp hp=>?_,λb u h=>?_,I.len⟩
 . have:=I.base.frzs b ob u h
   by_cases hb:b=d
   . subst hb;exact YC h (n0 ob u)
   . rw[qQ hb];exact this
 . obtain⟨more,q⟩:=I.base.tbls b ps h
   exact⟨more,nt b _ q (by intro z;cases z)⟩
 . obtain⟨h1,h2,h3⟩:=I.pin p hp
   exact⟨h1,nn _ h2,h3⟩
 . have st:∀{b u},ObjOk X.prog X.w H1 s1.heap b u->ObjOk X.prog X.w (upd H1 d (.dK kvs)) s1.heap b u:=λh=>h.stay (λc v _ q=>q) (λc q=>nt c _ q (by intro z;cases z)) λc xs q=>nt c _ q (by intro z;cases z)
   by_cases hb:b=d
   . subst hb
     rw[qC]at h;cases h;exact st (show s1.heap.get? b=some o/\ObjOk X.prog X.w H1 s1.heap b (.dK kvs)from I.hok b _ e).2
   . rw[qQ hb]at h
     exact st (I.hok b u h)
def qYg(t:TE):TE:=λσ H Q=> ∃d kvs0,H d=some (.dK kvs0)/\t σ H λv H1=> ∃o kvs,H1 d=some (.frz o (.dK kvs))/\Q v (upd H1 d (.dK kvs))
theorem qU8{X:Cx}{e:Expr}{t:TE}(h:PE X e t):PE X e (qYg t):=by intro pins s σ H Q I ⟨d,kvs0,e0,h'⟩;exact thn (h pins s σ H _ I h') λu s1 ⟨v,H1,I1,r,o,kvs,e1,q⟩=>⟨v,_,jAu I e0 I1 e1,r,q⟩
theorem qN1{prog:Program}{w:World}{A:Around}{E:Value->Shared->Prop}{s:Shared}{K:PySem.W.Frag}{x C:Addr}{ox:Obj}{od:Option Obj}{name:Str}{pl:Sem Bool}{Q:Value×List Value->Shared->Prop}
 (X:K.In s.heap) (I:PySem.W.InstAt s.heap x ox C od) (hga:PySem.W.findIn K (.ref C) "__getattribute__"=some (some (.builtin "object.__getattribute__"))) (hk:PySem.W.findIn K (.ref C) "__getattr__"=some none)
 (hf:PySem.W.findIn K (.ref C) name=some none) (h:wpAny (model prog w) A (getAttr (.ref x) name) (λv s'=>Q (v,[]) s') E s):
 wpAny (model prog w) A (getMethod (.ref x) name pl) Q E s:=by
 have hcan:=PySem.F.canon_object_ga;unfold getMethod specialOf;refine YJ (YJ (I.type.here ((PySem.W.looks_findIn X hga).here ?_)));dsimp only;rw[hcan,YA (by decide)];refine YJ (YJ (I.type.here ((PySem.W.looks_findIn X hk).here ?_)));refine YJ (YJ (I.type.here ((PySem.W.looks_findIn X hf).here ?_)));exact YJ (YL h (λv s' q=>YK q) λ_ _ q=>q)
end L3
set_option linter.all false
namespace L3
open PySem PySem.Spec PyProof.Rows L2
inductive VCall(P:Program)(w:World)(K:PySem.W.Frag)(mg:Str->Option Value)(base:Heap)(k:Nat)(x:V)(Q:VK)(vs:List V)(H:Hp):Prop
 |mk (f:Addr) (j:Nat) (fd:FuncData) (ps:List Str) (sp:Sp) (e:x=.ref f) (hj:j<=k) (F:FnOk P w K mg base CX0 j f fd ps sp) (b:Binds K fd ps []) (q:sp vs H Q E0)
def qVn(K:PySem.W.Frag)(x:V):Prop:= ∃f,x=.ref f/\PySem.W.keepIn K (.ref f)=true
section
variable{X:Cx}{k:Nat}{m x:Str}{o e:Expr}{es:List Expr}{ta:TE}{t:TA}{apos p pos:Pos}{pl:Sem Bool}
def qXh(P:Program)(w:World)(K:PySem.W.Frag)(mg:Str->Option Value)(base:Heap)(k:Nat)(m:Str)(ta:TE)(t:TA):TE:=λσ H Q=>ta σ H λx H1=> ∃a C dx fs v,x=.ref a/\H1 a=some (.ins C dx fs)/\Cls K C/\NoAttr K C m/\fs.lookup m=some v/\qVn K v/\
 t σ H1 λvs H2=>VCall P w K mg base k v Q vs H2
theorem qS5(ho:PE X o ta)(hr:Room k X.A)(ha:PA X (e::es) t)
 (hst:starEach (e::es) X.env=(false,eval e X.env)::starEach es X.env:=by rfl) (hpl:(backTo pos (starEach es X.env)).any (·.1)=false:=by rfl)
 (ht:eval (.Call (.Attribute o m apos) (e::es) [] pos) X.env=(do
   let ov<-eval o X.env
   standAt apos.atName
   let (f,first)<-holding [ov] (getMethod ov m pl)
   callWith pos f first (backTo pos (starEach (e::es) X.env)) (backToKw pos (keywordEach [] X.env))):=by rfl):
 PE X (.Call (.Attribute o m apos) (e::es) [] pos) (qXh X.prog X.w X.K X.mg X.base k m ta t):=by
 intro pins s σ H Q I h;refine PySem.W.methodCall_KW (pl:=pl) (thn (ho pins s σ H _ I h) λu s1 ⟨x,H1,I1,rx,a,C,dx,fs,v,ex,ea,c,n,l,kp,q⟩=>?_) ht;subst ex;obtain rfl:u=Value.ref a:=rx;obtain⟨f,rfl,kp⟩:=kp;obtain⟨mA,O9,_⟩:=qEb I1.hok ea;obtain⟨od,J,_⟩:=O9.look;refine qN1 I1.kIn J (PySem.W.plainGet_of (c.get m)).1 (PySem.W.plainGet_of (c.get m)).2 n (qGi I1 ea c n l λu' s2 I2 ru=>?_);obtain rfl:u'=Value.ref f:=ru;refine PySem.W.callWith_K (first:=[]) (h₀:=X.base) I.ok.mod.kin kp (thn (ha pos pins s2 σ H1 _ I2 q) λus s3 ⟨vs,H2,I3,r,q3⟩=>⟨I3.kIn,?_⟩) hst hpl;obtain⟨f',j,fd,ps,sp,e',hj,F,b,q4⟩:=q3;cases e';exact qKa (us:=us) (vs:=vs) (dvs:=[]) (E:=E0) F (hr.mono hj) b .nil qN7 I3 r (by rw[Ye];exact q4)
def qWt(P:Program)(w:World)(K:PySem.W.Frag)(mg:Str->Option Value)(base:Heap)(k:Nat)(ta:TE)(t:TA):TE:=λσ H Q=>ta σ H λv H1=>qVn K v/\t σ H1 λvs H2=>VCall P w K mg base k v Q vs H2
theorem qTf(ho:PE X (.Name x p) ta)(hr:Room k X.A)(ha:PA X (e::es) t)
 (hst:starEach (e::es) X.env=(false,eval e X.env)::starEach es X.env:=by rfl) (hpl:(backTo pos (starEach es X.env)).any (·.1)=false:=by rfl):
 PE X (.Call (.Name x p) (e::es) [] pos) (qWt X.prog X.w X.K X.mg X.base k ta t):=by
 intro pins s σ H Q I h;refine wpAny_Call_Name_kw (thn (ho pins s σ H _ I h) λu s1 ⟨v,H1,I1,rx,kp,q⟩=>?_);obtain⟨f,rfl,kp⟩:=kp;obtain rfl:u=Value.ref f:=rx;refine PySem.W.callWith_K (first:=[]) (h₀:=X.base) I.ok.mod.kin kp (thn (ha pos pins s1 σ H1 _ I1 q) λus s3 ⟨vs,H2,I3,r,q3⟩=>⟨I3.kIn,?_⟩) hst hpl;obtain⟨f',j,fd,ps,sp,e',hj,F,b,q4⟩:=q3;cases e';exact qKa (us:=us) (vs:=vs) (dvs:=[]) (E:=E0) F (hr.mono hj) b .nil qN7 I3 r (by rw[Ye];exact q4)
end
end L3
set_option linter.all false
namespace L3
open PySem PySem.Spec PyProof.Rows L2
def qXg(C:Addr)(m:Str)(sp:Sp)(Ex:Value->Option Addr->L2.St->Hp->Prop)(ta:TE)(t:TA):TE:=λσ H Q=>ta σ H λx H1=> ∃a dx fs,x=.ref a/\H1 a=some (.ins C dx fs)/\fs.lookup m=none/\t σ H1 λvs H2=>sp (x::(vs++[])) H2 Q λC od H'=>Ex C od σ H'
theorem qUs{X:Cx}{pl:Sem Bool}{C:Addr}{k j:Nat}{m q:Str}{st:Stmt}{o e:Expr}{es:List Expr}{ta:TE}{t:TA}{apos pos:PySem.Pos}{f:Addr}{fd:FuncData}{ps:List Str}{sp:Sp}{Ex:Value->Option Addr->L2.St->Hp->Prop}(ho:PE (X.wish (XES X Ex)) o ta)(c:Cls X.K C)(D:MD X.K C m q st ps f fd)(F:FnOk X.prog X.w X.K X.mg X.base (CXR X.prog X.w) j f fd ps sp)(hr:Room k X.A)(ha:PA (X.wish (XES X Ex)) (e::es) t)(hj:j<=k:=by decide)(hex:X.ex=[]:=by rfl)
 (hst:starEach (e::es) X.env=(false,eval e X.env)::starEach es X.env:=by rfl) (hpl:(backTo pos (starEach es X.env)).any (·.1)=false:=by rfl)
 (ht:eval (.Call (.Attribute o m apos) (e::es) [] pos) X.env=(do
   let ov<-eval o X.env
   standAt apos.atName
   let (f,first)<-holding [ov] (getMethod ov m pl)
   callWith pos f first (backTo pos (starEach (e::es) X.env)) (backToKw pos (keywordEach [] X.env))):=by rfl):
 PE (X.wish (XES X Ex)) (.Call (.Attribute o m apos) (e::es) [] pos) (qXg C m sp Ex ta t):=by
 intro pins s σ H Q I h;refine PySem.W.methodCall_KW (pl:=pl) (thn (ho pins s σ H _ I h) λu s1 ⟨x,H1,I1,rx,b,dx,fs,ex,ea,l,q⟩=>?_) ht;subst ex;obtain rfl:u=Value.ref b:=rx;refine qB3 I1 ea c D.t l ?_;refine PySem.W.callWith_K (first:=[.ref b]) (h₀:=X.base) I.ok.mod.kin D.t.kp (thn (ha pos pins s1 σ H1 _ I1 q) λus s2 ⟨vs,H2,I2,r,q2⟩=>⟨I2.kIn,?_⟩) hst hpl;have r2:Vals (V.ref b::(vs++[])) (Value.ref b::(us++[])):=.cons rfl (r.append .nil);have hl:(Value.ref b::(us++[])).length=ps.length:=by rw[<-r2.length];exact F.len _ _ _ _ q2
 refine wpAny_call (codeAny_mono (F.run X.A X.stack s2 H2 ⟨.ref b::us,[]⟩ (.ref b::us++[]) (.ref b::vs++[]) Q _ (hr.mono hj) I2.env0 (D.b s2 (.ref b::us) I2.kIn hl) r2 q2) λr s' hq=>?_);cases r with
 |error e=>exact qUf hex I2 hq
 |ok fl=>
  cases fl with
  |ret u=>exact I2.after hq
  |next=>exact False.elim hq
  |brk=>exact False.elim hq
  |cont=>exact False.elim hq
end L3
set_option linter.all false
namespace L3
open PySem PySem.Spec PyProof.Rows L2
theorem qM1{κ α:Type} [DecidableEq κ] {k:κ}{p:α}:∀{l:List (κ×α)} {j:Nat},(l.map (·.1)).Nodup->l[j]?=some (k,p)->l.eraseIdx j=l.filter λx=>decide (x.1≠k)
 |[],_,_,h=>by simp at h
 |x::l,0,hn,h=>by
  obtain rfl:x=(k,p):=by simpa using h
  have n:=(List.nodup_cons.mp hn).1;rw[List.filter_cons_of_neg (by simp)];exact(List.filter_eq_self.mpr λy hy=>by simpa using λe:y.1=k=>n (show k∈l.map (·.1) by rw[<-e];exact List.mem_map.mpr ⟨y,hy,O⟩)).symm
 |x::l,j+1,hn,h=>by
  obtain⟨n,n2⟩:=List.nodup_cons.mp hn;have h':l[j]?=some (k,p):=by simpa using h
  have:x.1≠k:=λe=>n (show x.1∈l.map (·.1) by rw[e];exact List.mem_map.mpr ⟨_,YF h',rfl⟩);rw[List.filter_cons_of_pos (by simpa using this)];show x::l.eraseIdx j=_;rw[qM1 n2 h']
section
variable{prog:Program}{w:World}{κ:Type} [DecidableEq κ] {knd:HeapKind prog w κ}{A:Around}{E:Value->Shared->Prop}{s:Shared}{d b:Addr}{xs:List (κ×Addr×Value)}{k:κ}{p:Addr×Value}
theorem qSk{Q:Option DictEntry->Shared->Prop}(hu:knd.room A)(hk:knd.is s.heap k b)(hm:s.heap.DictOfH knd d xs)(hp:atKey xs k=some p)(hz:xs.length<=sizeLine)
 (kk:∀e h',e.val=p.2->(∃o es ep,h'.get? d=some o/\o.ExactDict/\o.data=.dict es ep/\es.toList=(xs.filter λx=>decide (x.1≠k)).map (entryOfKey knd))->Heap.SameBut d s.heap h'->Q (some e) {s with heap:=h',toks:=s.toks+knd.draws k}):
 wpAny (model prog w) A (Builtin.Dict.takeOut d (.ref b)) Q E s:=by
 obtain⟨o,es,ep,g,gx,gd,ge,gi,gn⟩:=hm;unfold Builtin.Dict.takeOut;refine wpAny_holding (YJ (knd.pyHash hu hk (YJ (wpAny_dictFind_heap (s:={s with toks:=s.toks+knd.draws k}) hu hk g gd ge gi gn (λhno=>?_) λj q hj=>?_))))
 . rw[atKey_none_of_get hno]at hp;cases hp
 . rw[atKey_of_get gn hj]at hp
   cases hp;refine YJ (wpAny_dictEntries (s:={s with toks:=s.toks+knd.draws k}) g gd ?_);rw[entry_at ge j,hj];refine YJ (wpAny_updateDictKeys (hz:=by rw[size_of_entries ge];exact hz) (s:={s with toks:=s.toks+knd.draws k}) g gd (YK (kk _ _ rfl ⟨_,_,ep+1,Heap.get?_update_self _ g (Obj.isFreed_of_dict (Obj.data_mapDictKeys gd _)),gx.mapDictKeys _,Obj.data_mapDictKeys gd _,?_⟩ (Heap.SameBut.update ..))));have em:∀(l:List (κ×Addr×Value)) (i:Nat),(l.map (entryOfKey knd)).eraseIdx i=(l.eraseIdx i).map (entryOfKey knd):=λl=>by
    induction l with
    |nil=>intro i;rfl
    |cons y l ih=>intro i;cases i with
     |zero=>rfl
     |succ i=>exact congrArg _ (ih i)
   rw[<-qM1 gn hj,<-em,<-ge];obtain⟨l⟩:=es;simp
theorem qS9:MeetsIn prog w (Builtin.«dict.pop» ⟨[.ref d,.ref b],[]⟩) (λA R s=>knd.room A.in1/\∃k xs p,knd.is s.heap k b/\s.heap.DictOfH knd d xs/\atKey xs k=some p/\xs.length<=sizeLine/\
 ∀h',(∃o es ep,h'.get? d=some o/\o.ExactDict/\o.data=.dict es ep/\es.toList=(xs.filter λx=>decide (x.1≠k)).map (entryOfKey knd))->Heap.SameBut d s.heap h'->R (.ok (.ret p.2)) {s with heap:=h',toks:=s.toks+knd.draws k}):=
 .of_wp λA R s ⟨hu,k,xs,p,hk,hm,hp,hz,kk⟩=>by
  have ty:=hm.typeIs;obtain⟨o,es,ep,g,_,gd,ge,_,_⟩:=id hm;have hne:es.isEmpty=false:=by
   cases hx:es.isEmpty with
   |false=>rfl
   |true=>
    have:xs=[]:=List.map_eq_nil_iff.mp (by rw[<-ge,Array.isEmpty_iff.mp hx]);subst this;cases hp
  unfold Builtin.«dict.pop» Builtin.Dict.keyAndDefault;refine YJ (YJ (wpAny_notOrdered_dict ty (show wpAny _ _ (pure (d,Value.ref b,none)) _ _ s from YK ?_)));refine(show wpAny _ _ (dictEntries d none>>=λes=>pure es.isEmpty>>=_) _ _ s from YJ (wpAny_dictEntries g gd (YJ (YK ?_))));rw[hne];refine(show wpAny _ _ (Builtin.Dict.takeOut d (.ref b)>>=_) _ _ s from YJ (qSk hu hk hm hp hz λe h' he hd' hs'=>?_));exact(show wpAny _ _ (letGo [e.key] [e.val]>>=_) _ _ _ from YJ (wpAny_letGo (YK ⟨e.val,O,by rw[he];exact kk h' hd' hs'⟩)))
end
theorem KT.drop{H:Hp}{k:List Key}{kvs:List (List Key×V)}{xs:List (List Key×Addr×Value)}(r:KT H kvs xs):KT H (qAw kvs k) (xs.filter λx=>decide (x.1≠k)):=by
 unfold qAw
 induction r with
 |nil=>exact .nil
 | @cons p q ps qs hq t ih=>
  by_cases e:p.1=k
  . rw[List.filter_cons_of_neg (by simpa using e),List.filter_cons_of_neg (by rw[<-hq.1];simpa using e)]
    exact ih
  . rw[List.filter_cons_of_pos (by simpa using e),List.filter_cons_of_pos (by rw[<-hq.1];simpa using e)]
    exact .cons hq ih
def qZi(td ty:TE):TE:=λσ H Q=>td σ H λx H1=> ∃a,x=.ref a/\IsD H1 a/\ty σ H1 λy H2=> ∃kvs k b v,H2 a=some (.dT kvs)/\y=.ref b/\H2 b=some (.tup (k.map kV))/\x6 kvs k=some v/\Q v (upd H2 a (.dT (qAw kvs k)))
theorem qVg{X:Cx}{o e:Expr}{apos cpos:Pos}{td ty:TE}(hu:X.A.units+1<cLine)(ho:PE X o td)(he:PE X e ty)(m:M1 X o "pop" apos e cpos):PE X (.Call (.Attribute o "pop" apos) [e] [] cpos) (qZi td ty):=by intro pins s σ H Q I h;refine wpAny_Call_method m.base m.few m.line F.plainAttrs_dict F.slot_dict_pop F.type_dict_pop (thn (ho pins s σ H _ I h) λu s1 ⟨x,H1,I1,rx,a,ex,d,q1⟩=>?_);subst ex;cases rx;have t:=qQc I1 d;refine⟨t.1,t.2.1,?_⟩;rw[m.trees];refine Calls.callWith_builtin rfl (Calls.evalArgs_plain (Calls.spliced_cons (thn (he pins s1 σ H1 _ I1 q1) λiv s2 ⟨y,H2,I2,ry,kvs,k,b,v,ea,ey,eb,l,q2⟩=>Calls.spliced_nil ?_)));subst ey;cases ry;obtain⟨z,hd,xs,rel,dd⟩:=qSo I2.hok ea;obtain⟨w',hw,rw'⟩:=RelO.some_of (v:=v) (o:=(atKey xs k).map (·.2)) (by rw[<-l];exact rel.val k);obtain⟨p,hp,rfl⟩:=Option.map_eq_some_iff.mp hw;refine call_meetsIn F.slot_dict_pop dd.typeIs F.entry_dict_pop (F.args_dict_pop_2 _ _) (qS9 (knd:=tupleKind (q9 X.prog X.w))) ⟨tupleKind_room_in1 hu,k,xs,p,qKr I2.hok eb,dd,hp,by rw[<-Paired.length rel];exact z,λh' hd' hs=>⟨v,_,?_,rw',q2⟩⟩;obtain⟨q,es,ep,g1,g2,g3,g4⟩:=hd';obtain⟨_,_,_,_,_,_,_,_,gn⟩:=dd;exact qBu I2 (by rw[ea];trivial) hs ⟨q,g1⟩ ⟨ZC (qNq kvs k) z,hd,_,(KT.drop rel).keeps λc ys ec=>by rw[qQ (xC ec ea (λz=>nomatch z))];exact ec,q,es,ep,g1,g2,g3,g4,gn.sublist (List.filter_sublist.map _)⟩
section
variable{prog:Program}{w:World}{A:Around}{E:Value->Shared->Prop}{s:Shared}{I d:Addr}{i ep:Nat}{od:Obj}{es:Array DictEntry}
theorem qRi{Q:Option Value->Shared->Prop}(hh:A.handled=none)(hI:s.heap.IsKeyIter I d i es.size ep)(g:s.heap.get? d=some od)(ge:od.data=.dict es ep)
 (ki:∀e,es[i]?=some e->∀h',h'.IsKeyIter I d (i+1) es.size ep->Heap.SameBut I s.heap h'->Q (some e.key) {s with heap:=h'})
 (ke:es[i]?=none->∀h',Heap.ExtBut I s.heap h'->Q none {s with heap:=h'}):wpAny (model prog w) A (pyNext (.ref I)) Q E s:=by
 obtain⟨oI,g1,g2,g3⟩:=id hI;have ty:=hI.typeIs;unfold pyNext;refine YJ (wpAny_attempt (wpAny_callSpecial?_slot (name:=Str.ofString "__next__") ty F.slot_dict_keyiterator_next (wpAny_call_entry F.slot_dict_keyiterator_next ty F.entry_dict_keyiterator_next ?_ (F.args_dict_keyiterator_next_1 _))));refine YJ (YK (YJ (YJ (YJ (wpAny_typeNameOfWhole_keyiter ty (YK (YJ (wpAny_fieldsOf g1 g3 ?_))))))));simp only[show Builtin.Dict_items.ownsTuple "dict_keyiterator"=false by decide,Bool.false_eq_true,if_false];have nn:¬(Value.ref d==Value.none)=true:=YZ;refine(show wpAny _ _ (if (Value.ref d==Value.none)=true then _ else _) _ _ s from ?_);rw[YA nn];refine YJ (YK (YJ (wpAny_dictEntries g ge ?_)));rw[YA (by simp)];refine YJ (YK (YJ (wpAny_dictEpoch g ge ?_)));rw[YA (by simp)];refine YK ?_;simp only[show ¬((i:Int)<0) by omega,if_false,YQ];cases hx:es[i]? with
 |some e=>
  have up:=(show (s.heap.update I (Obj.mapFields (·.setIfInBounds 1 (rawInt ((i:Int)+1))))).IsKeyIter I d (i+1) es.size ep from ⟨_,Heap.get?_update_self _ g1 (Obj.isFreed_of_fields (Obj.data_mapFields g3 _)),(Obj.cls_mapFields ..).trans g2,by rw[Obj.data_mapFields g3];simp[rawInt]⟩);refine YJ (YJ (wpAny_typeNameOfWhole_keyiter ty (YK (YJ (wpAny_isOneOf_keyiter ty ?_)))));refine(show wpAny _ _ (setField (.ref I) 1 (rawInt ((i:Int)+1))>>=_) _ _ s from YJ (wpAny_setField g1 g3 (by simp) (YJ (wpAny_holding (YJ (wpAny_isOneOf_keyiter (s:={s with heap:=s.heap.update I (Obj.mapFields (·.setIfInBounds 1 (rawInt ((i:Int)+1))))}) up.typeIs ?_))))));exact(show wpAny _ _ (pure e.key) _ _ _ from YK (YK ⟨_,O,YK (ki e hx _ up (Heap.SameBut.update ..))⟩))
 |none=>
  refine YJ (YJ (wpAny_typeNameOfWhole_keyiter ty (YK ?_)));refine(show wpAny _ _ (setField (.ref I) 0 .none>>=_) _ _ s from YJ (wpAny_setField g1 g3 (by simp) (show wpAny _ _ (newExc (.type "StopIteration") []>>=_) _ _ _ from YJ ?_)));simp only[newExc,newTuple];refine YJ (wpAny_newObj_type (YJ (m:=firstArgMember _ _) (wpAny_of_eq (a:=Value.none) (by first|rfl|(simp only[firstArgMember];rfl)) (wpAny_newObj_type ?_ (by size_fits)))) (by size_fits));simp only[raiseNew];refine YJ (wpAny_handled ?_);rw[show A.in1.handled=none from hh];refine YJ (YK (wpAny_throw (YJ ?_)));exact wpAny_isInstance (T:="StopIteration") (b:=true) ⟨_,Yn _ rfl,O⟩ isSubtype_stop (YK (ke hx _ (((Heap.SameBut.update ..).extBut.push _).push _)))
def DEs(h:Heap)(d:Addr)(es:Array DictEntry)(ep:Nat):Prop:= ∃od,h.get? d=some od/\od.cls=.type "dict"/\od.data=.dict es ep
theorem qXt(lo:(d==sysModules)=false):PySem.W.KdlSrc prog w "dict" d d es.size (λi v=> ∃e,es[i]?=some e/\v=e.key) (λh=>DEs h d es ep) where
 type:=λ_ ⟨o,g,c,_⟩=>⟨o,g,c⟩
 there:=λ_ ⟨_,g,_⟩=>⟨YV g,YV g⟩
 keep:=λ_ _ ⟨o,g,r⟩ hk=>⟨o,hk d (.inl rfl) o g,r⟩
 notList:=by decide
 notTuple:=by decide
 hint:=λ_ _ _ _ ⟨o,g,c,_⟩ hq=>PySem.W.kdl_hint_dict ⟨o,g,c⟩ hq
 iter:=λA s hh ⟨od,g,c,ge⟩=>by
  have ty:s.TypeIs (.ref d) "dict":=⟨od,g,c⟩;refine⟨{cls:=.type "dict_keyiterator",data:=.fields #[.ref d,.int 0 0,.int es.size 0,.int ep 0]},λj h=>h.IsKeyIter s.heap.objs.size d j es.size ep/\DEs h d es ep,λE Q hq=>?_,?_,⟨_,Yn _ rfl,O,O⟩,od,YM _ g,c,ge⟩
  . refine wpAny_pyIter_slot ty F.slot_dict_iter (wpAny_call_entry F.slot_dict_iter ty F.entry_dict_iter ?_ (F.args_dict_iter_1 _))
    unfold Builtin.«dict.__iter__» Builtin.Dict.dictSlotNone;refine YJ (YJ (wpAny_notOrdered_dict ty (show wpAny _ _ (pure (Value.ref d)) _ _ s from YK (show wpAny _ _ (Builtin.Dict.showsAll d>>=_) _ _ s from ?_))));unfold Builtin.Dict.showsAll;rw[YA (by rw[lo];simp)];refine YJ (YK (YJ (wpAny_dictEntries g ge (YJ (wpAny_dictEpoch g ge (YJ (wpAny_newObj_type (YK ⟨_,O,"dict_keyiterator",_,⟨_,Yn _ rfl,O⟩,F.slot_dict_keyiterator_next.lookup,?_⟩))))))));simpa[rawInt]using hq
  . have hne:d≠s.heap.objs.size:=Yo (YV g)
    refine⟨λb hb=>by simp at hb;simp[hb],λj h h' st hk=>?_,λj s1 Q E hj st hQ=>?_,λs1 Q E st hQ=>?_,λj s1 Q E st hQ=>wpAny_pyIter_keyiter st.1 hQ⟩
    . obtain⟨⟨o,ho,r⟩,q,hq,r'⟩:=st
      exact⟨⟨o,hk _ (by simp) o ho,r⟩,q,hk d (by simp) q hq,r'⟩
    . obtain⟨st,q,hq,c',e'⟩:=st
      exact qRi hh st hq e' (λe he h' st' sb=>hQ _ h' s1.toks ⟨e,he,O⟩ ⟨st',q,sb.extBut d q hne hq,c',e'⟩ λb o hb z=>sb.extBut b o (λy=>hb (by simp[y])) z) λhe=>by simp at he;omega
    . obtain⟨st,q,hq,c',e'⟩:=st
      exact qRi hh st hq e' (λe he=>by simp at he) λ_ h' sb=>hQ h' s1.toks λb o hb z=>sb b o (λy=>hb (by simp[y])) z
end
theorem qKe{X:Cx}(hc:X.calm=true):zD X (.type "list") (λxs H Q=> ∃d kvs,xs=[.ref d]/\H d=some (.dT kvs)/\∀l (zs:List Addr),H l=none->zs.length=kvs.length->(∀(j:Nat) (z:Addr),zs[j]?=some z->∃k v,kvs[j]?=some (k,v)/\H z=some (.tup (k.map kV)))->Q (.ref l) (upd H l (.lst (zs.map V.ref)))):=by
 intro pins s σ H xs us Q I r h;obtain⟨d,kvs,rfl,hd,q⟩:=h;obtain⟨u,rfl,rx⟩:=qE9 r;cases rx;obtain⟨z,lo,ts,rel,o,es,ep,g,gx,gd,ge,_,_⟩:=qSo I.hok hd;have hl:=Paired.length rel;have hs:es.size=ts.length:=size_of_entries ge;have hat:∀(j:Nat) (e:DictEntry),es[j]?=some e->∃t,ts[j]?=some t/\e.key=.ref t.2.1:=λj e he=>by rw[entry_at ge j]at he;obtain⟨t,ht,rfl⟩:=Option.map_eq_some_iff.mp he;exact⟨t,ht,O⟩
 refine PySem.W.kdl_call (qXt (es:=es) (ep:=ep) lo) (I.ok.hd hc) ⟨o,g,gx.1,gd⟩ (by omega) λh' tk acc c kp hS hi=>?_;refine⟨.ref s.heap.objs.size,upd H s.heap.objs.size (.lst ((ts.map λt=>t.2.1).map V.ref)),I.laid (t':=tk) kp (YI _) (show ObjOk X.prog X.w _ h' _ (.lst ((ts.map λt=>t.2.1).map V.ref))from ⟨by simp;omega,acc.toList,c,?_,by simpa using hS⟩),O,q _ (ts.map λt=>t.2.1) (I.hok.fresh (YI _)) (by simp[hl]) λj z hz=>?_⟩
 . refine qVv (by have h1:=hi.1;have h2:=Array.length_toList (xs:=acc);rw[YS,YS];omega) λj x u e1 e2=>?_
   obtain⟨e,he,rfl⟩:=hi.2 j u (by rw[<-Array.getElem?_toList];exact e2);obtain⟨t,ht,ek⟩:=hat j e he;rw[Yj,Yj,ht]at e1;cases e1;rw[ek];rfl
 . rw[Yj]at hz
   obtain⟨t,ht,rfl⟩:=Option.map_eq_some_iff.mp hz;have at':∀{l:List (List Key×V)} {m:List (List Key×Addr×Value)},KT H l m->∀(j:Nat) t,m[j]?=some t->∃k v,l[j]?=some (k,v)/\H t.2.1=some (.tup (k.map kV)):=by
    intro l m r
    induction r with
    |nil=>intro j t h;simp at h
    | @cons p q ps qs hq _ ih=>
     intro j t h;cases j with
     |zero=>
      cases (show q=t by simpa using h);exact⟨p.1,p.2,O,hq.2.1⟩
     |succ j=>exact ih j t (by simpa using h)
   exact at' rel j t ht
end L3
namespace Lw
open PySem L2 L3 Mt
seal L2.PSs L2.PS L2.PE L2.PA L2.PT L2.PW L2.PC L2.PI L2.PG L2.PGs L2.PO
variable {N s i p j b q r lo M M':Int}{sc:Scope}{n x nm nm':Str}{cdv:Value}{A:Rg}{H H' H2:Hp}{σ:St}{xs vs:List V}{v y x0 x1 x2 x3 x4 fv:V}{Q:VK}{st:Stmt}{f rd z dz tz rz re td C kd sd:Addr}{fd:FuncData}{ps:List Str}{sp:Sp}{m m':Im}{u o:HO}{B ms ls:List Im}{tie:List Int}{rl:Rls}{R:Im->Int->Im->Prop}{Pm:Im->Prop}{c':Nat}{U Z:List (List Im)}{G:List Te->D}{S:Kpt}{es:List (Str×Addr)}
noncomputable def top(i:Nat):Stmt:=PySem.Challenge.pw_reelcut_k71_painted_anew.main.body.getD i (.Pass ⟨0,0,0,0⟩)
theorem scA{N P:List Str}(h1:sc.kind=.function:=by rfl)(h2:sc.isCoroutine=false:=by rfl)(h3:sc.isGenerator=false:=by rfl)(h4:N.Nodup:=by decide+kernel)(h5:N.take P.length=P:=by rfl)(h6:∀x∈P,sc.names.lookup x=some .local\/sc.names.lookup x=some .cell:=by decide+kernel)(h7:∀y∈sc.names,y.2≠ .free:=by decide+kernel):qL N P sc:=⟨h1,h2,h3,h4,h5,h6,h7⟩
abbrev qB1:Stmt:=top 9
abbrev xp:Stmt:=top 10
abbrev ka:Stmt:=top 11
abbrev qB7:Stmt:=top 12
abbrev qIl:Stmt:=top 13
abbrev qFh:Stmt:=top 14
abbrev qB6:Stmt:=top 15
abbrev qCk:Stmt:=top 16
abbrev wm:Stmt:=top 17
abbrev qCg:Stmt:=top 18
abbrev qFt:Stmt:=top 24
abbrev zN:Stmt:=top 25
abbrev qB4:Stmt:=top 26
abbrev vp:Stmt:=top 27
abbrev qCb:Stmt:=top 28
abbrev vz:Stmt:=top 29
abbrev qAb:Stmt:=top 30
abbrev qEf:Stmt:=top 31
abbrev zJ:Stmt:=top 32
abbrev wk:Stmt:=top 33
abbrev qAk:Stmt:=top 34
abbrev qAe:Stmt:=top 36
abbrev zG:Stmt:=top 37
abbrev vq:Stmt:=top 38
abbrev qB2:Stmt:=top 39
abbrev qAj:Stmt:=top 40
abbrev qD3:Stmt:=top 41
abbrev qD7:Stmt:=top 42
abbrev kO:Stmt:=top 43
abbrev zx:Stmt:=top 44
abbrev zF:Stmt:=top 45
abbrev xT:Stmt:=top 46
abbrev kR:Stmt:=top 47
abbrev wg:Stmt:=top 48
abbrev zS:Stmt:=top 49
abbrev vw:Stmt:=top 51
abbrev kX:Stmt:=top 52
abbrev wV:Stmt:=top 53
abbrev vx:Stmt:=top 54
abbrev qH9:Stmt:=top 55
abbrev kU:Stmt:=top 56
abbrev xw:Stmt:=top 57
abbrev zy:Stmt:=top 58
abbrev qCp:Stmt:=top 59
abbrev qE4:Stmt:=top 62
abbrev qA1:Stmt:=top 63
abbrev qEi:Stmt:=top 65
abbrev kz:Stmt:=top 69
abbrev qCl:Stmt:=top 70
abbrev vf:Stmt:=top 71
abbrev xx:Stmt:=top 72
abbrev zk:Stmt:=top 73
abbrev qFl:Stmt:=top 74
abbrev kT:Stmt:=top 75
abbrev wp:Stmt:=top 76
abbrev we:Stmt:=top 77
abbrev qEk:Stmt:=top 78
abbrev xE:Stmt:=top 79
abbrev vd:Stmt:=top 80
abbrev qH6:Stmt:=top 81
abbrev vP:Stmt:=top 87
abbrev qFj:Stmt:=top 88
abbrev zt:Stmt:=top 89
abbrev xt:Stmt:=top 90
abbrev zR:Stmt:=top 91
abbrev kN:Stmt:=top 92
abbrev kL:Stmt:=top 93
abbrev zh:Stmt:=top 94
abbrev zp:Stmt:=top 95
abbrev qBz:Stmt:=top 96
abbrev qHr:Stmt:=top 97
abbrev qLi:Stmt:=top 98
abbrev qFc:Stmt:=top 99
abbrev qIm:Stmt:=top 100
abbrev qE3:Stmt:=top 101
abbrev wY:Stmt:=top 102
abbrev zn:Stmt:=top 104
abbrev vh:Stmt:=top 105
abbrev vX:Stmt:=top 106
abbrev wZ:Stmt:=top 107
abbrev wX:Stmt:=top 108
abbrev ww:Stmt:=top 109
abbrev vc:Stmt:=top 110
abbrev vU:Stmt:=top 111
abbrev zz:Stmt:=top 112
abbrev xR:Stmt:=top 113
abbrev qCj:Stmt:=top 114
abbrev zq:Stmt:=top 115
abbrev zo:Stmt:=top 116
abbrev wv:Stmt:=top 117
abbrev vL:Stmt:=top 118
abbrev jk:Stmt:=top 119
abbrev xN:Stmt:=top 120
abbrev xH:Stmt:=top 121
abbrev xI:Stmt:=top 122
abbrev wl:Stmt:=top 123
abbrev qUq:Stmt:=top 124
abbrev xF:Stmt:=qBs (top 66) 0
abbrev zE:Stmt:=qBs (top 66) 1
abbrev xP:Stmt:=qBs (top 66) 2
abbrev zP:Stmt:=qBs (top 66) 3
abbrev xr:Stmt:=qBs (top 66) 4
theorem qK8:qL ["x"] ["x"] (qH qB1):=scA
theorem jq:qL ["one","other","rest"] ["one","other"] (qH xp):=scA
theorem qGf:qL ["x"] ["x"] (qH ka):=scA
theorem qAc:qL ["top","bottom","divisor"] ["top","bottom"] (qH qB7):=scA
theorem qP3:qL ["one","other"] ["one","other"] (qH qIl):=scA
theorem qNu:qL ["one","other"] ["one","other"] (qH qFh):=scA
theorem qL7:qL ["one","other"] ["one","other"] (qH qB6):=scA
theorem qMc:qL ["one","other"] ["one","other"] (qH qCk):=scA
theorem qIt:qL ["one","other"] ["one","other"] (qH wm):=scA
theorem qMi:qL ["one"] ["one"] (qH qCg):=scA
theorem qN4:qL ["thing"] ["thing"] (qH qFt):=scA
theorem qDj:qL ["item"] ["item"] (qH zN):=scA
theorem qLw:qL ["clip","k"] ["clip","k"] (qH qB4):=scA
theorem qHs:qL ["clip","k"] ["clip","k"] (qH vp):=scA
theorem qLh:qL ["picture","many"] ["picture","many"] (qH qCb):=scA
theorem qAr:qL ["item","reels","many"] ["item","reels"] (qH vz):=scA
theorem qIq:qL ["clip","low","high"] ["clip","low","high"] (qH qAb):=scA
theorem qOl:qL ["one","other"] ["one","other"] (qH qEf):=scA
theorem xm:qL ["first","step","many","room"] ["first","step","many"] (qH zJ):=scA
theorem qJ7:qL ["clip","reels"] ["clip","reels"] (qH wk):=scA
theorem qJn:qL ["clip","reels"] ["clip","reels"] (qH qAk):=scA
theorem qJz:qL ["thing"] ["thing"] (qH qAe):=scA
theorem qC5:qL ["item"] ["item"] (qH zG):=scA
theorem qG4:qL ["item"] ["item"] (qH vq):=scA
theorem xS:qL ["some","track","waiting","item"] ["some"] (qH qB2):=scA
theorem qKi:qL ["track"] ["track"] (qH qAj):=scA
theorem zA:qL ["track","moment","begin","place","item","end"] ["track","moment"] (qH qD3):=scA
theorem qOr:qL ["track","place"] ["track","place"] (qH qD7):=scA
theorem qF2:qL ["track","place"] ["track","place"] (qH kO):=scA
theorem qEy:qL ["track","place"] ["track","place"] (qH zx):=scA
theorem vC:qL ["track","moment","found"] ["track","moment"] (qH zF):=scA
theorem zY:qL ["track","moment","places"] ["track","moment"] (qH xT):=scA
theorem wS:qL ["track","moment","found"] ["track","moment"] (qH kR):=scA
theorem qKq:qL ["item","low","high"] ["item","low","high"] (qH wg):=scA
theorem qp:qL ["track","low","high","parts","begin","item","end","first","last"] ["track","low","high"] (qH zS):=scA
theorem qHa:qL ["length"] ["length"] (qH vw):=scA
theorem qF5:qL ["length"] ["length"] (qH kX):=scA
theorem xZ:qL ["track","spans","border","item"] ["track"] (qH wV):=scA
theorem qHh:qL ["length","j"] ["length","j"] (qH vx):=scA
theorem qA9:qL ["track","moment","places","place","span"] ["track","moment"] (qH qH9):=scA
theorem jE:qL ["track","place","j","length","ahead","behind","shares","from_border","first","second"] ["track","place","j"] (qH kU):=scA
theorem qCi:qL ["track","place"] ["track","place"] (qH xw):=scA
theorem qE8:qL ["track","place"] ["track","place"] (qH zy):=scA
theorem xQ:qL ["track","moment","reels","places","ahead","behind","most_ahead","most_behind"] ["track","moment","reels"] (qH qCp):=scA
theorem wB:qL ["track","moment","room","mixed","found","item"] ["track","moment","room"] (qH qE4):=scA
theorem kD:qL ["room","name","moment","tracks","track","told"] ["room","name","moment"] (qH qA1):=scA
theorem qOw:qL ["thing","told","key","part"] ["thing"] (qH qEi):=scA
theorem qGa:qL ["table","number","moment"] ["table","number","moment"] (qH kz):=scA
theorem qL3:qL ["by"] ["by"] (qH qCl):=scA
theorem qA6:qL ["track","moment","found"] ["track","moment"] (qH vf):=scA
theorem ju:qL ["track","moment","found","left","right"] ["track","moment"] (qH xx):=scA
theorem qDy:qL ["track","deed"] ["track","deed"] (qH zk):=scA
theorem qOo:qL ["track","place"] ["track","place"] (qH qFl):=scA
theorem qF1:qL ["most","by"] ["most","by"] (qH kT):=scA
theorem qKm:qL ["clip","by","reels"] ["clip","by","reels"] (qH wp):=scA
theorem qKk:qL ["left","right","by","reels"] ["left","right","by","reels"] (qH we):=scA
theorem qBw:qL ["track","place","by","reels","clip","changed"] ["track","place","by","reels"] (qH qEk):=scA
theorem jX:qL ["track","first","last","by","reels","left","right","changed"] ["track","first","last","by","reels"] (qH xE):=scA
theorem qAp:qL ["table","number","track","tracks"] ["table","number","track"] (qH vd):=scA
theorem qE2:qL ["table","deed","reels","track","places"] ["table","deed","reels"] (qH qH6):=scA
theorem qIa:qL ["deed"] ["deed"] (qH vP):=scA
theorem qNy:qL ["deed"] ["deed"] (qH qFj):=scA
theorem qEh:qL ["deed"] ["deed"] (qH zt):=scA
theorem qCm:qL ["table","deed"] ["table","deed"] (qH xt):=scA
theorem qDg:qL ["deed"] ["deed"] (qH zR):=scA
theorem wP:qL ["track","low","high","span"] ["track","low","high"] (qH kN):=scA
theorem zg:qL ["table","deed","stretch","number"] ["table","deed"] (qH kL):=scA
theorem qEp:qL ["table","deed","reels"] ["table","deed","reels"] (qH zh):=scA
theorem qDz:qL ["one","other"] ["one","other"] (qH zp):=scA
theorem qAa:qL ["track","places","one","other"] ["track","places"] (qH qBz):=scA
theorem vZ:qL ["table","deed","track","places","one","whole"] ["table","deed"] (qH qHr):=scA
theorem qDt:qL ["table","deed","reels","track","places","most"] ["table","deed","reels"] (qH qLi):=scA
theorem qB5:qL ["table","deed","track","places"] ["table","deed"] (qH qFc):=scA
theorem qI9:qL ["track","low","high","laid","filling"] ["track","low","high","laid"] (qH qIm):=scA
theorem zC:qL ["table","deed","stretch","told","number","laid"] ["table","deed"] (qH qE3):=scA
theorem qJu:qL ["table","deed","reels"] ["table","deed","reels"] (qH wY):=scA
theorem qEq:qL ["_law_script","_law_k"] ["_law_script","_law_k"] (qH zn):=scA
theorem xK:qL ["_law_number","_law_many","_law_found","_law_x","_law_k"] ["_law_number","_law_many"] (qH vh):=scA
theorem qH2:qL ["_law_cell"] ["_law_cell"] (qH vX):=scA
theorem vT:qL ["_law_x","_law_step_here","_law_start"] ["_law_x"] (qH wZ):=scA
theorem qJv:qL ["_law_x"] ["_law_x"] (qH wX):=scA
theorem zc:qL ["_law_x","_law_y","_law_tracks","_law_track","_law_moment","_law_way"] ["_law_x","_law_y","_law_tracks"] (qH ww):=scA
theorem kK:qL ["_law_cell","_law_tracks","_law_tied"] ["_law_cell"] (qH vc):=scA
theorem xD:qL ["_law_table_here","_law_deed_here","_law_reels_here","_law_found"] ["_law_table_here","_law_deed_here","_law_reels_here"] (qH vU):=scA
theorem qEz:qL ["_law_deed_here"] ["_law_deed_here"] (qH zz):=scA
theorem ql:qL ["_law_cell","_law_reels_here","_law_under","_law_above","_law_x"] ["_law_cell"] (qH xR):=scA
theorem xO:qL ["_law_painter","_law_room","_law_seen","_law_name","_law_moment","_law_telling","_law_calls","_law_due","_law_found"] ["_law_painter","_law_room","_law_seen","_law_name","_law_moment"] (qH qCj):=scA
theorem ji:qL ["_law_painter","_law_room","_law_calls","_law_refused_here","e"] ["_law_painter","_law_room"] (qH zq):=scA
theorem jg:qL ["_law_room","_law_cell","_law_x","_law_y","_law_reels_here","_law_tables","_law_name","_law_deed_here"] ["_law_room","_law_cell","_law_x","_law_y"] (qH zo):=scA
theorem j8:qL ["_law_painter","_law_room","_law_seen","_law_cell","_law_xs","_law_name","_law_where","_law_x"] ["_law_painter","_law_room","_law_seen","_law_cell"] (qH wv):=scA
theorem qH4:qL ["_law_telling"] ["_law_telling"] (qH vL):=scA
theorem xM:qL ["_law_telling","_law_found"] ["_law_telling"] (qH jk):=scA
theorem qBi:qL ["_law_telling"] ["_law_telling"] (qH xN):=scA
theorem qAf:qL ["_law_telling"] ["_law_telling"] (qH xH):=scA
theorem wz:qL ["_law_telling"] ["_law_telling"] (qH xI):=scA
theorem jh:qL ["_law_room","_law_paint_here","_law_painter","_law_due","_law_turn","_law_name","_law_found"] ["_law_room"] (qH wl):=scA
theorem qGs:qL ["_law_script","_law_painter","_law_room","_law_seen","_law_k"] ["_law_script"] (qH qUq):=scA
theorem qAd:qL ["self","paint"] ["self","paint"] (qH xF):=scA
theorem j4:qL ["self","room","name","moment","telling","moments","picture"] ["self","room","name","moment"] (qH zE):=scA
theorem qBl:qL ["self"] ["self"] (qH xP):=scA
theorem qDf:qL ["self"] ["self"] (qH zP):=scA
theorem qB9:qL ["self","name"] ["self","name"] (qH xr):=scA
abbrev wD:Stmt:=qBs (top 7) 0
theorem qQn:qL ["self","most"] ["self","most"] (qH wD):=⟨rfl,rfl,rfl,by decide+kernel,rfl,by decide+kernel,by decide+kernel⟩
set_option genInjectivity false
set_option genSizeOf false
structure Ads where
 A0:Addr
 B0:FuncData
 A1:Addr
 B1:FuncData
 A2:Addr
 B2:FuncData
 A3:Addr
 B3:FuncData
 A4:Addr
 B4:FuncData
 A5:Addr
 B5:FuncData
 A6:Addr
 B6:FuncData
 A7:Addr
 B7:FuncData
 A8:Addr
 B8:FuncData
 A9:Addr
 B9:FuncData
 A10:Addr
 B10:FuncData
 A11:Addr
 B11:FuncData
 A12:Addr
 B12:FuncData
 A13:Addr
 B13:FuncData
 A14:Addr
 B14:FuncData
 A15:Addr
 B15:FuncData
 A16:Addr
 B16:FuncData
 A17:Addr
 B17:FuncData
 A18:Addr
 B18:FuncData
 A19:Addr
 B19:FuncData
 A20:Addr
 B20:FuncData
 A21:Addr
 B21:FuncData
 A22:Addr
 B22:FuncData
 A23:Addr
 B23:FuncData
 A24:Addr
 B24:FuncData
 A25:Addr
 B25:FuncData
 A26:Addr
 B26:FuncData
 A27:Addr
 B27:FuncData
 A28:Addr
 B28:FuncData
 A29:Addr
 B29:FuncData
 A30:Addr
 B30:FuncData
 A31:Addr
 B31:FuncData
 A32:Addr
 B32:FuncData
 A33:Addr
 B33:FuncData
 A34:Addr
 B34:FuncData
 A35:Addr
 B35:FuncData
 A36:Addr
 B36:FuncData
 A37:Addr
 B37:FuncData
 A38:Addr
 B38:FuncData
 A39:Addr
 B39:FuncData
 A40:Addr
 B40:FuncData
 A41:Addr
 B41:FuncData
 A42:Addr
 B42:FuncData
 A43:Addr
 B43:FuncData
 A44:Addr
 B44:FuncData
 A45:Addr
 B45:FuncData
 A46:Addr
 B46:FuncData
 A47:Addr
 B47:FuncData
 A48:Addr
 B48:FuncData
 A49:Addr
 B49:FuncData
 A50:Addr
 B50:FuncData
 A51:Addr
 B51:FuncData
 A52:Addr
 B52:FuncData
 A53:Addr
 B53:FuncData
 A54:Addr
 B54:FuncData
 A55:Addr
 B55:FuncData
 A56:Addr
 B56:FuncData
 A57:Addr
 B57:FuncData
 A58:Addr
 B58:FuncData
 A59:Addr
 B59:FuncData
 A60:Addr
 B60:FuncData
 A61:Addr
 B61:FuncData
 A62:Addr
 B62:FuncData
 A63:Addr
 B63:FuncData
 A64:Addr
 B64:FuncData
 A65:Addr
 B65:FuncData
 A66:Addr
 B66:FuncData
 A67:Addr
 B67:FuncData
 A68:Addr
 B68:FuncData
 A69:Addr
 B69:FuncData
 A70:Addr
 B70:FuncData
 A71:Addr
 B71:FuncData
 A72:Addr
 B72:FuncData
 A73:Addr
 B73:FuncData
 A74:Addr
 B74:FuncData
 A75:Addr
 B75:FuncData
 A76:Addr
 B76:FuncData
 A77:Addr
 B77:FuncData
 A78:Addr
 B78:FuncData
 A79:Addr
 B79:FuncData
 A80:Addr
 B80:FuncData
 A81:Addr
 B81:FuncData
 A82:Addr
 B82:FuncData
 A83:Addr
 B83:FuncData
 A84:Addr
 B84:FuncData
 A85:Addr
 B85:FuncData
 A86:Addr
 B86:FuncData
 A87:Addr
 B87:FuncData
 A88:Addr
 B88:FuncData
 A89:Addr
 B89:FuncData
 A90:Addr
 B90:FuncData
 A91:Addr
 B91:FuncData
 A92:Addr
 B92:FuncData
 A93:Addr
 B93:FuncData
 A94:Addr
 B94:FuncData
 A95:Addr
 B95:FuncData
 A96:Addr
 B96:FuncData
 A97:Addr
 B97:FuncData
 A98:Addr
 B98:FuncData
 A99:Addr
 B99:FuncData
 A100:Addr
 B100:FuncData
 A101:Addr
 B101:FuncData
 k_CutError:Addr
 k_NoNumber:Addr
 k_NoClip:Addr
 k_NoPlace:Addr
 k_Mixed:Addr
 k_NoRoom:Addr
 k_Short:Addr
 k_Painter:Addr
 t_LETTERS:Tok
 t_LONGEST_NAME:Tok
 t_MOST_ROOM:Tok
 n_NOUGHT:Addr
 n_WHOLE_SHARE:Addr
 t_MOST_BY:Tok
 n_ROLLS:Addr
 n_LAYS:Addr
 n_PUSHES:Addr
 n_CHANGES:Addr
 fi_Short:Addr
 gi_Short:FuncData
structure Tx(K:PySem.W.Frag)(mg:Str->Option Value)(a:Ads):Prop where
 D0:L3.Def K mg "is_whole" qB1 ["x"] a.A0 a.B0
 D1:L3.Def K mg "common_divisor" xp ["one","other"] a.A1 a.B1
 D2:L3.Def K mg "is_fraction" ka ["x"] a.A2 a.B2
 D3:L3.Def K mg "fraction" qB7 ["top","bottom"] a.A3 a.B3
 D4:L3.Def K mg "sum_of" qIl ["one","other"] a.A4 a.B4
 D5:L3.Def K mg "less_by" qFh ["one","other"] a.A5 a.B5
 D6:L3.Def K mg "times_of" qB6 ["one","other"] a.A6 a.B6
 D7:L3.Def K mg "quotient" qCk ["one","other"] a.A7 a.B7
 D8:L3.Def K mg "is_before" wm ["one","other"] a.A8 a.B8
 D9:L3.Def K mg "floor_of" qCg ["one"] a.A9 a.B9
 D10:L3.Def K mg "is_name" qFt ["thing"] a.A10 a.B10
 D11:L3.Def K mg "has_clip_form" zN ["item"] a.A11 a.B11
 D12:L3.Def K mg "place_at" qB4 ["clip","k"] a.A12 a.B12
 D13:L3.Def K mg "picture_at" vp ["clip","k"] a.A13 a.B13
 D14:L3.Def K mg "is_there" qCb ["picture","many"] a.A14 a.B14
 D15:L3.Def K mg "check_clip" vz ["item","reels"] a.A15 a.B15
 D16:L3.Def K mg "clip_part" qAb ["clip","low","high"] a.A16 a.B16
 D17:L3.Def K mg "goes_on" qEf ["one","other"] a.A17 a.B17
 D18:L3.Def K mg "moments_there" zJ ["first","step","many"] a.A18 a.B18
 D19:L3.Def K mg "head_room" wk ["clip","reels"] a.A19 a.B19
 D20:L3.Def K mg "tail_room" qAk ["clip","reels"] a.A20 a.B20
 D21:L3.Def K mg "is_length" qAe ["thing"] a.A21 a.B21
 D22:L3.Def K mg "has_nest_form" zG ["item"] a.A22 a.B22
 D23:L3.Def K mg "moments_of" vq ["item"] a.A23 a.B23
 D24:L3.Def K mg "one_form" qB2 ["some"] a.A24 a.B24
 D25:L3.Def K mg "length_of" qAj ["track"] a.A25 a.B25
 D26:L3.Def K mg "item_at" qD3 ["track","moment"] a.A26 a.B26
 D27:L3.Def K mg "kind_at" qD7 ["track","place"] a.A27 a.B27
 D28:L3.Def K mg "place_ahead" kO ["track","place"] a.A28 a.B28
 D29:L3.Def K mg "place_behind" zx ["track","place"] a.A29 a.B29
 D30:L3.Def K mg "neighbours_at" zF ["track","moment"] a.A30 a.B30
 D31:L3.Def K mg "clips_at_border" xT ["track","moment"] a.A31 a.B31
 D32:L3.Def K mg "lies_within" kR ["track","moment"] a.A32 a.B32
 D33:L3.Def K mg "item_part" wg ["item","low","high"] a.A33 a.B33
 D34:L3.Def K mg "part_of_track" zS ["track","low","high"] a.A34 a.B34
 D35:L3.Def K mg "part_ahead" vw ["length"] a.A35 a.B35
 D36:L3.Def K mg "part_behind" kX ["length"] a.A36 a.B36
 D37:L3.Def K mg "mix_spans" wV ["track"] a.A37 a.B37
 D38:L3.Def K mg "mix_shares" vx ["length","j"] a.A38 a.B38
 D39:L3.Def K mg "mix_at" qH9 ["track","moment"] a.A39 a.B39
 D40:L3.Def K mg "told_in_mix" kU ["track","place","j"] a.A40 a.B40
 D41:L3.Def K mg "taken_at_begin" xw ["track","place"] a.A41 a.B41
 D42:L3.Def K mg "taken_at_end" zy ["track","place"] a.A42 a.B42
 D43:L3.Def K mg "most_mix" qCp ["track","moment","reels"] a.A43 a.B43
 D44:L3.Def K mg "told_on" qE4 ["track","moment","room"] a.A44 a.B44
 D45:L3.Def K mg "told_at" qA1 ["room","name","moment"] a.A45 a.B45
 D46:L3.Def K mg "new_one" qEi ["thing"] a.A46 a.B46
 D47:L3.Def K mg "check_place" kz ["table","number","moment"] a.A47 a.B47
 D48:L3.Def K mg "check_by" qCl ["by"] a.A48 a.B48
 D49:L3.Def K mg "clip_there" vf ["track","moment"] a.A49 a.B49
 D50:L3.Def K mg "clip_and_sides" xx ["track","moment"] a.A50 a.B50
 D51:L3.Def K mg "places_named" zk ["track","deed"] a.A51 a.B51
 D52:L3.Def K mg "has_mix" qFl ["track","place"] a.A52 a.B52
 D53:L3.Def K mg "check_short" kT ["most","by"] a.A53 a.B53
 D54:L3.Def K mg "most_slip" wp ["clip","by","reels"] a.A54 a.B54
 D55:L3.Def K mg "most_roll" we ["left","right","by","reels"] a.A55 a.B55
 D56:L3.Def K mg "slipped" qEk ["track","place","by","reels"] a.A56 a.B56
 D57:L3.Def K mg "with_rolled_ends" xE ["track","first","last","by","reels"] a.A57 a.B57
 D58:L3.Def K mg "table_with" vd ["table","number","track"] a.A58 a.B58
 D59:L3.Def K mg "rolled" qH6 ["table","deed","reels"] a.A59 a.B59
 D60:L3.Def K mg "stretch_of" vP ["deed"] a.A60 a.B60
 D61:L3.Def K mg "laid_by" qFj ["deed"] a.A61 a.B61
 D62:L3.Def K mg "laid_on_tied" zt ["deed"] a.A62 a.B62
 D63:L3.Def K mg "tracks_changed" xt ["table","deed"] a.A63 a.B63
 D64:L3.Def K mg "check_numbers" zR ["deed"] a.A64 a.B64
 D65:L3.Def K mg "touches_mix" kN ["track","low","high"] a.A65 a.B65
 D66:L3.Def K mg "check_mixes" kL ["table","deed"] a.A66 a.B66
 D67:L3.Def K mg "check_change" zh ["table","deed","reels"] a.A67 a.B67
 D68:L3.Def K mg "nest_goes_on" zp ["one","other"] a.A68 a.B68
 D69:L3.Def K mg "can_heal" qBz ["track","places"] a.A69 a.B69
 D70:L3.Def K mg "healed" qHr ["table","deed"] a.A70 a.B70
 D71:L3.Def K mg "mixed" qLi ["table","deed","reels"] a.A71 a.B71
 D72:L3.Def K mg "unmixed" qFc ["table","deed"] a.A72 a.B72
 D73:L3.Def K mg "relaid" qIm ["track","low","high","laid"] a.A73 a.B73
 D74:L3.Def K mg "changed" qE3 ["table","deed"] a.A74 a.B74
 D75:L3.Def K mg "deed_done" wY ["table","deed","reels"] a.A75 a.B75
 D76:L3.Def K mg "_law_cell_at" zn ["_law_script","_law_k"] a.A76 a.B76
 D77:L3.Def K mg "_law_drawn" vh ["_law_number","_law_many"] a.A77 a.B77
 D78:L3.Def K mg "_law_reels" vX ["_law_cell"] a.A78 a.B78
 D79:L3.Def K mg "_law_clip" wZ ["_law_x"] a.A79 a.B79
 D80:L3.Def K mg "_law_item" wX ["_law_x"] a.A80 a.B80
 D81:L3.Def K mg "_law_deed" ww ["_law_x","_law_y","_law_tracks"] a.A81 a.B81
 D82:L3.Def K mg "_law_table" vc ["_law_cell"] a.A82 a.B82
 D83:L3.Def K mg "_law_tried" vU ["_law_table_here","_law_deed_here","_law_reels_here"] a.A83 a.B83
 D84:L3.Def K mg "_law_without" zz ["_law_deed_here"] a.A84 a.B84
 D85:L3.Def K mg "_law_first_room" xR ["_law_cell"] a.A85 a.B85
 D86:L3.Def K mg "_law_ask" qCj ["_law_painter","_law_room","_law_seen","_law_name","_law_moment"] a.A86 a.B86
 D87:L3.Def K mg "_law_refused" zq ["_law_painter","_law_room"] a.A87 a.B87
 D88:L3.Def K mg "_law_changed" zo ["_law_room","_law_cell","_law_x","_law_y"] a.A88 a.B88
 D89:L3.Def K mg "_law_step" wv ["_law_painter","_law_room","_law_seen","_law_cell"] a.A89 a.B89
 D90:L3.Def K mg "_law_paint" vL ["_law_telling"] a.A90 a.B90
 D91:L3.Def K mg "_law_paint_clearing" jk ["_law_telling"] a.A91 a.B91
 D92:L3.Def K mg "_law_paint_none" xN ["_law_telling"] a.A92 a.B92
 D93:L3.Def K mg "_law_paint_empty" xH ["_law_telling"] a.A93 a.B93
 D94:L3.Def K mg "_law_paint_false" xI ["_law_telling"] a.A94 a.B94
 D95:L3.Def K mg "_law_once" wl ["_law_room"] a.A95 a.B95
 D96:L3.Def K mg "law" qUq ["_law_script"] a.A96 a.B96
 D97:L3.MD K a.k_Painter "__init__" "Painter.__init__" xF ["self","paint"] a.A97 a.B97
 D98:L3.MD K a.k_Painter "asked" "Painter.asked" zE ["self","room","name","moment"] a.A98 a.B98
 D99:L3.MD K a.k_Painter "painted" "Painter.painted" xP ["self"] a.A99 a.B99
 D100:L3.MD K a.k_Painter "known" "Painter.known" zP ["self"] a.A100 a.B100
 D101:L3.MD K a.k_Painter "forget" "Painter.forget" xr ["self","name"] a.A101 a.B101
 c_CutError:mg "CutError"=some (.ref a.k_CutError)
 c_NoNumber:mg "NoNumber"=some (.ref a.k_NoNumber)
 c_NoClip:mg "NoClip"=some (.ref a.k_NoClip)
 c_NoPlace:mg "NoPlace"=some (.ref a.k_NoPlace)
 c_Mixed:mg "Mixed"=some (.ref a.k_Mixed)
 c_NoRoom:mg "NoRoom"=some (.ref a.k_NoRoom)
 c_Short:mg "Short"=some (.ref a.k_Short)
 c_Painter:mg "Painter"=some (.ref a.k_Painter)
 cl_Painter:Cls K a.k_Painter
 mk_Painter:Mk K a.k_Painter a.A97
 na_Painter_paint:NoAttr K a.k_Painter "paint"
 na_Painter_calls:NoAttr K a.k_Painter "calls"
 na_Painter_kept:NoAttr K a.k_Painter "kept"
 b_isinstance:mg "isinstance"=none
 b_int:mg "int"=none
 b_bool:mg "bool"=none
 b_abs:mg "abs"=none
 b_tuple:mg "tuple"=none
 b_len:mg "len"=none
 b_all:mg "all"=none
 b_str:mg "str"=none
 b_min:mg "min"=none
 b_sum:mg "sum"=none
 b_enumerate:mg "enumerate"=none
 b_max:mg "max"=none
 b_zip:mg "zip"=none
 b_list:mg "list"=none
 b_dict:mg "dict"=none
 b_any:mg "any"=none
 b_range:mg "range"=none
 g_LETTERS:mg "LETTERS"=some (.str "abcdefghijklmnopqrstuvwxyz" a.t_LETTERS)
 g_LONGEST_NAME:mg "LONGEST_NAME"=some (.int 8 a.t_LONGEST_NAME)
 g_MOST_ROOM:mg "MOST_ROOM"=some (.int 1000000 a.t_MOST_ROOM)
 g_NOUGHT:mg "NOUGHT"=some (.ref a.n_NOUGHT)
 sq_NOUGHT:∀H,SqT K H a.n_NOUGHT [.int 0,.int 1]
 g_WHOLE_SHARE:mg "WHOLE_SHARE"=some (.ref a.n_WHOLE_SHARE)
 sq_WHOLE_SHARE:∀H,SqT K H a.n_WHOLE_SHARE [.int 1,.int 1]
 g_MOST_BY:mg "MOST_BY"=some (.int 1000000 a.t_MOST_BY)
 g_ROLLS:mg "ROLLS"=some (.ref a.n_ROLLS)
 sq_ROLLS:∀H,SqT K H a.n_ROLLS [.str "roll",.str "slip",.str "slide"]
 g_LAYS:mg "LAYS"=some (.ref a.n_LAYS)
 sq_LAYS:∀H,SqT K H a.n_LAYS [.str "lay_in",.str "lay_over"]
 g_PUSHES:mg "PUSHES"=some (.ref a.n_PUSHES)
 sq_PUSHES:∀H,SqT K H a.n_PUSHES [.str "lay_in",.str "open",.str "close"]
 g_CHANGES:mg "CHANGES"=some (.ref a.n_CHANGES)
 sq_CHANGES:∀H,SqT K H a.n_CHANGES [.str "cut",.str "lay_in",.str "open",.str "close",.str "lift",.str "lay_over"]
 x_NoPlace:L3.OwnX K a.k_NoPlace
 x_Mixed:L3.OwnX K a.k_Mixed
 yPC:PySem.W.exmOne K (.ref a.k_NoPlace) (.ref a.k_CutError)=some true
 yMC:PySem.W.exmOne K (.ref a.k_Mixed) (.ref a.k_CutError)=some true
 ySC:PySem.W.exmOne K (.ref a.k_Short) (.ref a.k_CutError)=some true
 x_NoRoom:L3.OwnX K a.k_NoRoom
 e_NoRoom:L3.ExcK K a.k_NoRoom
 yRR:PySem.W.exmOne K (.ref a.k_NoRoom) (.ref a.k_NoRoom)=some true
 rP:PySem.W.kitOne K (.ref a.k_NoRoom) (.ref a.k_NoPlace)=some false
 i_Short:Fun K "__init__" "Short.__init__" wD a.fi_Short a.gi_Short
 ib_Short:Binds K a.gi_Short ["self","most"] []
 m_Short:L3.XMk K a.k_Short a.k_CutError a.fi_Short
 tk_Short:PySem.W.takerIn K a.k_Short "most"=some none
inductive qTl(K:PySem.W.Frag)(vs:List V)(H:Hp)(Q:VK)(_:XK):Prop
|mk (a:Addr) (ns:List Int) (_:vs=[.ref a]) (_:SqL K H a (ns.map V.int)) (_:ns.length<=63) (_:∀H',Q (.bl true) H')
def qUw(H:Hp)(Q:VK)(p q:Int):Prop:= ∀z,H z=none->Q (.ref z) (upd H z (.tup [.int p,.int q]))
theorem jD{CX:CXT}{P:Program}{w:World}{K:PySem.W.Frag}{mg:Str->Option Value}{base:Heap}{ns:List Str}{ad:Addr}{A:Around}{outer:List Env}{s:Shared}{E:XK}:(qN3 CX P w K mg base ns n sc ad cdv A outer s H E).K=K:=rfl
theorem qc{CX:CXT}{P:Program}{w:World}{K:PySem.W.Frag}{mg:Str->Option Value}{base:Heap}{ns:List Str}{ad:Addr}{A:Around}{outer:List Env}{s:Shared}{E:XK}:(qN3 CX P w K mg base ns n sc ad cdv A outer s H E).nox.K=K:=rfl
theorem sL0:(0:Nat)<=sizeLine:=by decide
theorem sL1:(1:Nat)<=sizeLine:=by decide
theorem sL2:(2:Nat)<=sizeLine:=by decide
theorem sL3:(3:Nat)<=sizeLine:=by decide
theorem sL4:(4:Nat)<=sizeLine:=by decide
theorem sL5:(5:Nat)<=sizeLine:=by decide
theorem glt{α:Type}{xs:List α}{i:Nat}{x:α}(h:xs[i]?=some x):i<xs.length:=(Ya.mp h).1
theorem ixT{K:PySem.W.Frag}{p:Addr}(h:SqT K H p xs)(a:atI xs i=some v)(q:Q v H):tC (.int i) σ H (λy H2=>qVz K (.ref p) y H2 Q):=⟨p,xs,i,v,rfl,rfl,h,a,q⟩
theorem zf{K:PySem.W.Frag}{p:Addr}{j:Nat}(e:σ[j]?=some (some (.ref p)))(h:SqT K H p xs)(a:atI xs i=some v)(q:Q v H):tOp (qVz K) (qIn j) (tC (.int i)) σ H Q:=⟨.ref p,e,p,xs,i,v,rfl,rfl,h,a,q⟩
theorem ixO{K:PySem.W.Frag}{p:Addr}{j:Nat}(h:H p=some (.tup xs))(a:atI xs i=some v)(q:Q v H)(e:σ[j]?=some (some (.ref p)):=by rfl):tOp (qVz K) (qIn j) (tC (.int i)) σ H Q:=zf e (SqT.of h) a q
section
variable{P:Program}{w:World}{K:W.Frag}{mg:Str->Option Value}{base:Heap}{a:Ads}
theorem oL{qual:Str}{N:List Str}{k:Nat}(F:Fun K x qual st f fd)(S:qL N ps (qH st))
 (hb:∀(cdv:Value) (A:Around) (outer:List Env) (s:Shared) (H:Hp) (vs:List V) (Q:VK) (E:XK),Room k (A.deeper (PyProof.Rows.envOfC qual (qH st) s.heap.objs.size f cdv))->sp vs H Q E->
   ∀X:Prop,((∃t,PSs (qN3 CX0 P w K mg base N qual (qH st) f cdv A outer s H E).nox (j7 st) t/\t {nx:=λ_ H'=>Q .non H',rt:=Q} (qEa N vs) H)->X)->X)
 (len:∀vs H Q E,sp vs H Q E->vs.length=ps.length:=by trivial):FnOk P w K mg base CX0 (k+1) f fd ps sp:=
 F.ok S len λcdv A outer s H vs Q E hr h=>hb cdv A outer s H vs Q E hr h _ id
theorem oX{qual:Str}{N:List Str}{k:Nat}(F:Fun K x qual st f fd)(S:qL N ps (qH st))
 (hb:∀(cdv:Value) (A:Around) (outer:List Env) (s:Shared) (H:Hp) (vs:List V) (Q:VK) (E:XK),Room k (A.deeper (PyProof.Rows.envOfC qual (qH st) s.heap.objs.size f cdv))->sp vs H Q E->
   ∀X:Prop,((∃t,PSs ((qN3 (CXR P w) P w K mg base N qual (qH st) f cdv A outer s H E).wish (XE (qN3 (CXR P w) P w K mg base N qual (qH st) f cdv A outer s H E) E)) (j7 st) t/\t {nx:=λ_ H'=>Q .non H',rt:=Q} (qEa N vs) H)->X)->X)
 (len:∀vs H Q E,sp vs H Q E->vs.length=ps.length:=by trivial):FnOk P w K mg base (CXR P w) (k+1) f fd ps sp:=
 okX F S len λcdv A outer s H vs Q E hr h=>hb cdv A outer s H vs Q E hr h _ id
inductive qLe(vs:List V)(H:Hp)(Q:VK)(_:XK):Prop
|mk (i:Int) (_:vs=[.int i]) (_:Q (.bl true) H)
theorem jA(T:Tx K mg a):FnOk P w K mg base CX0 1 a.A0 a.B0 ["x"] qLe:=by
 refine oL T.D0.F qK8 λ_ _ _ _ H vs Q _ hr h _ Y=>?_;obtain⟨i,rfl,q⟩:=h;apply Y;refine⟨_,(qF (qK (xy (qX jB rfl T.b_isinstance rfl (qA (pv 0) (qA (qDo rfl T.b_int rfl) qB))) (kC (qUi (qX jB rfl T.b_isinstance rfl (qA (pv 0) (qA (qDo rfl T.b_bool rfl) qB)))))))),?_⟩
 try dsimp only[jD,qc]
 refine⟨_,O,_,_,_,true,O,.int i,⟨_,.inl ⟨O,O⟩⟩,true,O,jn ?_⟩;refine⟨_,O,_,_,_,false,O,.int i,⟨_,.inl ⟨O,by kernel_rfl⟩⟩,false,O,?_⟩;exact q
inductive qCe(vs:List V)(H:Hp)(Q:VK)(_:XK):Prop
|mk (i j:Int) (_:vs=[.int i,.int j]) (_:Q (.int ((Int.gcd i j:Nat):Int)) H)
theorem kB(T:Tx K mg a):FnOk P w K mg base CX0 1 a.A1 a.B1 ["one","other"] qCe:=by
 refine oL T.D1.F jq λ_ _ _ s H _ _ _ hr h _ Y=>?_;obtain⟨i,j,rfl,q⟩:=h;apply Y;refine⟨_,(qD (qSv PassesOwn.never (qM z7 (pv 1) qG (qO _)) (qD (qW 2 jq.nd (qP qi (pv 0) (pv 1)))
  (qD (qW 0 jq.nd (pv 1))
  (qF (qW 1 jq.nd (pv 2))))))
  (qF (qK (qX qHq rfl T.b_abs rfl (qA (pv 0) qB))))),?_⟩
 try dsimp only[jD,qc]
 refine qTq (λσ H'=>H'=H/\∃(x y:Int) (v:Option V),σ=[some (.int x),some (.int y),v]/\Int.gcd x y=Int.gcd i j)
  (λσ _=>match σ with|[_,some (.int y),_]=>y.natAbs|_=>0) ⟨rfl,i,j,none,rfl,rfl⟩ ?_ ?_
 . rintro σ H1 ⟨rfl,x,y,v,rfl,e⟩
   refine⟨_,O,O,_,O,?_⟩;refine ja (λc=>?_) (λc=>?_)
   . have hy:y≠0:=by simpa using c
     refine⟨_,O,_,O,_,_,O,O,hy,_,O,_,O,⟨O,y,x.fmod y,_,O,?_⟩,?_⟩
     . rw[qS0];exact e
     . exact qV4 x y hy
   . have hy:y=0:=by simpa using c
     subst hy;refine⟨_,O,x,O,?_⟩;have e2:(if x<0 then-x else x)=((Int.gcd i j:Nat):Int):=by rw[<-e,Int.gcd_zero_right];split <;> omega
     rw[e2];exact q
 . rintro σ H1 Q1 Q2 hq h
   refine qS λ_ Y=>?_;obtain⟨v,e,s,k,hk,z⟩:=h;apply Y;exact⟨v,e,s,k,hk,hq _ _ z⟩
theorem qR8{t:Int}(h:b≠0)(hb:b.natAbs<2 ^ 8000):CDivB t (sg t b)/\CDivB b (sg t b):=by
 have h1:=qY0 (t:=t) h;have h2:(sg t b).natAbs<2 ^ 8000:=by rw[qNc];exact Yd (Nat.le_of_dvd (by omega) (Int.gcd_dvd_natAbs_right ..)) hb
 exact⟨⟨h1,h2⟩,⟨h1,h2⟩⟩
inductive qLa(vs:List V)(H:Hp)(Q:VK)(_:XK):Prop
|mk (t b:Int) (_:vs=[.int t,.int b]) (_:b≠0) (_:b.natAbs<2 ^ 8000) (_:qUw H Q (xX t b) (j6 t b))
theorem jm(T:Tx K mg a):FnOk P w K mg base CX0 2 a.A3 a.B3 ["top","bottom"] qLa:=by
 refine oL T.D3.F qAc λ_ _ _ _ H _ Q _ hr h _ Y=>?_;obtain⟨t,b,rfl,hb,hs,q⟩:=h;apply Y;refine⟨_,(qD (qZ (PW.pt (jv (jK (qr (qI T.D0 (jA T) hr rfl (qA (pv 0) qB)))) (jL (jK (qr (qI T.D0 (jA T) hr rfl (qA (pv 1) qB))))))) jc qN)
  (qD (qZ (qM jM (pv 1) qG (qO _)) jc qN)
  (qD (qW 2 qAc.nd (qI T.D1 (kB T) hr rfl (qA (pv 0) (qA (pv 1) qB))))
  (qD (qZ (qM zM (pv 1) qG (qO _)) (qF (qW 2 qAc.nd (qE7 vW (pv 2)))) qN)
  (qF (qK (qY (qA (qP qf (pv 0) (pv 2)) (qA (qP qf (pv 1) (pv 2)) qB))))))))),?_⟩
 try dsimp only[jD,qc]
 refine⟨_,O,t,O,true,O,qv ?_⟩;refine⟨_,O,b,O,true,O,qv ?_⟩;refine⟨_,O,O,_,O,?_⟩;refine ja (λc=>YC (by simpa using c) hb) (λ_=>?_);refine⟨_,O,_,O,t,b,O,?_⟩;refine⟨_,O,_,_,O,O,_,O,?_⟩;obtain⟨d1,d2⟩:=qR8 (t:=t) hb hs;refine ja (λc=>?_) (λc=>?_)
 . have c':b<0:=by simpa using c
   have e: -((Int.gcd t b:Nat):Int)=sg t b:=by unfold sg;rw[YB c']
   have q':qUw H Q (t.fdiv (-((Int.gcd t b:Nat):Int))) (b.fdiv (-((Int.gcd t b:Nat):Int))):=by rw[e];exact q
   exact⟨_,O,_,O,_,O,_,O,_,_,O,O,(by rw[e];exact d1),_,O,_,O,_,_,O,O,(by rw[e];exact d2),sL2,q'⟩
 . have c':¬b<0:=by simpa using c
   have e:((Int.gcd t b:Nat):Int)=sg t b:=by unfold sg;rw[YA c']
   have q':qUw H Q (t.fdiv ((Int.gcd t b:Nat):Int)) (b.fdiv ((Int.gcd t b:Nat):Int)):=by rw[e];exact q
   exact⟨_,O,_,O,_,_,O,O,(by rw[e];exact d1),_,O,_,O,_,_,O,O,(by rw[e];exact d2),sL2,q'⟩
def Pr(K:W.Frag)(H:Hp)(v:V)(p q:Int):Prop:= ∃z,v=.ref z/\SqT K H z [.int p,.int q]
def Sm(i:Int):Prop:=i.natAbs<2 ^ 3000
theorem Sm.mul(h1:Sm i)(h2:Sm j):CMulB i j:=by unfold Sm at h1 h2;have:(2:Nat) ^ 3000<=2 ^ 60000:=Yh (by decide) (by decide);exact .inr ⟨by omega,by omega⟩
theorem Sm.prod(h1:Sm i)(h2:Sm j):(i*j).natAbs<2 ^ 8000:=by unfold Sm at h1 h2;rw[Int.natAbs_mul];have h3:i.natAbs*j.natAbs<2 ^ 3000*2 ^ 3000:=Nat.mul_lt_mul'' h1 h2;rw[<-Nat.pow_add]at h3;exact YR h3 (Yh (by decide) (by decide))
theorem at0{x:V}:atI [x,y] 0=some x:=rfl
theorem at1{x:V}:atI [x,y] 1=some y:=rfl
inductive qPt(K:W.Frag)(vs:List V)(H:Hp)(Q:VK)(_:XK):Prop
|mk (x y:V) (p q r s:Int) (_:vs=[x,y]) (_:Pr K H x p q) (_:Pr K H y r s) (_:q≠0) (_:s≠0) (_:Sm p) (_:Sm q) (_:Sm r) (_:Sm s) (_:qUw H Q (xX (p*s+r*q) (q*s)) (j6 (p*s+r*q) (q*s)))
theorem qQ5(T:Tx K mg a):FnOk P w K mg base CX0 3 a.A4 a.B4 ["one","other"] (qPt K):=by
 refine oL T.D4.F qP3 λ_ _ _ _ H vs Q _ hr h _ Y=>?_;obtain⟨x,y,p,q,r,s',rfl,⟨z1,rfl,h1⟩,⟨z2,rfl,h2⟩,hq,hs,bp,bq,br,bs,k⟩:=h;apply Y;refine⟨_,(qF (qK (qI T.D3 (jm T) hr rfl (qA (qP qk (qP jd (qJ (pv 0)) (qJ (pv 1))) (qP jd (qJ (pv 1)) (qJ (pv 0)))) (qA (qP jd (qJ (pv 0)) (qJ (pv 1))) qB))))),?_⟩
 try dsimp only[jD,qc]
 refine(zf rfl h1 at0 (zf rfl h2 at1 ⟨_,_,O,O,bp.mul bs,?_⟩));refine(zf rfl h2 at0 (zf rfl h1 at1 ⟨_,_,O,O,br.mul bq,_,_,O,O,?_⟩));refine(zf rfl h1 at1 (zf rfl h2 at1 ⟨_,_,O,O,bq.mul bs,?_⟩));exact⟨_,_,O,ZS hq hs,bq.prod bs,k⟩
inductive qMb(K:W.Frag)(vs:List V)(H:Hp)(Q:VK)(_:XK):Prop
|mk (x:V) (p q:Int) (_:vs=[x]) (_:Pr K H x p q) (_:q≠0) (_:q.natAbs<2 ^ 8000) (_:Q (.int (p.fdiv q)) H)
theorem kr(T:Tx K mg a):FnOk P w K mg base CX0 1 a.A9 a.B9 ["one"] (qMb K):=by
 refine oL T.D9.F qMi λ_ _ _ _ _ _ _ _ hr h _ Y=>?_;obtain⟨x,p,q,rfl,⟨z1,rfl,h1⟩,hq,bq,k⟩:=h;apply Y;refine⟨_,(qF (qK (qP qf (qJ (pv 0)) (qJ (pv 0))))),?_⟩
 try dsimp only[jD,qc]
 exact(zf rfl h1 at0 (zf rfl h1 at1 ⟨_,_,O,O,⟨hq,bq⟩,k⟩))
theorem nz(h:j≠0:=by decide):j≠0:=h
theorem cdB(h0:j≠0)(h:j.natAbs<18446744073709551616):CDivB i j:=
 ⟨h0,YR h (ZC (by decide:18446744073709551616<=2 ^ 64) (Yh (by decide) (by decide)))⟩
theorem cmL(h1: -(18446744073709551616:Int)<i)(h2:i<18446744073709551616):CMulB i j:=.inl (.inl ⟨h1,h2⟩)
theorem fm(i:Int)(h:0<j):0<=i.fmod j/\i.fmod j<j:=⟨Int.fmod_nonneg_of_pos i h,Int.fmod_lt_of_pos i h⟩
theorem cpw{n:Nat}(h:n<=1000000):qZ2 10 (n:Int):=⟨by omega,by omega,by decide⟩
def qWb(n:Nat)(p q:Int):Prop:=0<q/\Int.gcd p q=1/\p.natAbs<2 ^ n/\q.natAbs<2 ^ n
theorem Sm.of200(h:i.natAbs<2 ^ 200):Sm i:=YR h (Yh (by decide) (by decide))
inductive qL1(K:W.Frag)(vs:List V)(H:Hp)(Q:VK)(_:XK):Prop
|mk (x y:V) (p q r s:Int) (_:vs=[x,y]) (_:Pr K H x p q) (_:Pr K H y r s) (_:q≠0) (_:s≠0) (_:Sm p) (_:Sm q) (_:Sm r) (_:Sm s) (_:qUw H Q (xX (p*r) (q*s)) (j6 (p*r) (q*s)))
theorem qLl(T:Tx K mg a):FnOk P w K mg base CX0 3 a.A6 a.B6 ["one","other"] (qL1 K):=by
 refine oL T.D6.F qL7 λ_ _ _ s H vs Q _ hr h _ Y=>?_;obtain⟨x,y,p,q,r,s',rfl,⟨z1,rfl,h1⟩,⟨z2,rfl,h2⟩,hq,hs,bp,bq,br,bs,k⟩:=h;apply Y;refine⟨_,(qF (qK (qI T.D3 (jm T) hr rfl (qA (qP jd (qJ (pv 0)) (qJ (pv 1))) (qA (qP jd (qJ (pv 0)) (qJ (pv 1))) qB))))),?_⟩
 try dsimp only[jD,qc]
 refine(zf rfl h1 at0 (zf rfl h2 at0 ⟨_,_,O,O,bp.mul br,?_⟩));refine(zf rfl h1 at1 (zf rfl h2 at1 ⟨_,_,O,O,bq.mul bs,?_⟩));exact⟨_,_,O,ZS hq hs,bq.prod bs,k⟩
inductive qOm(K:W.Frag)(vs:List V)(H:Hp)(Q:VK)(_:XK):Prop
|mk (x y:V) (p q r s:Int) (_:vs=[x,y]) (_:Pr K H x p q) (_:Pr K H y r s) (_:q≠0) (_:s≠0) (_:Sm p) (_:Sm q) (_:Sm r) (_:Sm s) (_:qUw H Q (xX (p*s-r*q) (q*s)) (j6 (p*s-r*q) (q*s)))
theorem qBv(T:Tx K mg a):FnOk P w K mg base CX0 3 a.A5 a.B5 ["one","other"] (qOm K):=by
 refine oL T.D5.F qNu λ_ _ _ s H vs Q _ hr h _ Y=>?_;obtain⟨x,y,p,q,r,s',rfl,⟨z1,rfl,h1⟩,⟨z2,rfl,h2⟩,hq,hs,bp,bq,br,bs,k⟩:=h;apply Y;refine⟨_,(qF (qK (qI T.D3 (jm T) hr rfl (qA (qP jG (qP jd (qJ (pv 0)) (qJ (pv 1))) (qP jd (qJ (pv 1)) (qJ (pv 0)))) (qA (qP jd (qJ (pv 0)) (qJ (pv 1))) qB))))),?_⟩
 try dsimp only[jD,qc]
 refine(zf rfl h1 at0 (zf rfl h2 at1 ⟨_,_,O,O,bp.mul bs,?_⟩));refine(zf rfl h2 at0 (zf rfl h1 at1 ⟨_,_,O,O,br.mul bq,_,_,O,O,?_⟩));refine(zf rfl h1 at1 (zf rfl h2 at1 ⟨_,_,O,O,bq.mul bs,?_⟩));exact⟨_,_,O,ZS hq hs,bq.prod bs,k⟩
inductive qMe(K:W.Frag)(vs:List V)(H:Hp)(Q:VK)(_:XK):Prop
|mk (x y:V) (p q r s:Int) (_:vs=[x,y]) (_:Pr K H x p q) (_:Pr K H y r s) (_:q≠0) (_:r≠0) (_:Sm p) (_:Sm q) (_:Sm r) (_:Sm s) (_:qUw H Q (xX (p*s) (q*r)) (j6 (p*s) (q*r)))
theorem qFw(T:Tx K mg a):FnOk P w K mg base CX0 3 a.A7 a.B7 ["one","other"] (qMe K):=by
 refine oL T.D7.F qMc λ_ _ _ s H vs Q _ hr h _ Y=>?_;obtain⟨x,y,p,q,r,s',rfl,⟨z1,rfl,h1⟩,⟨z2,rfl,h2⟩,hq,hr',bp,bq,br,bs,k⟩:=h;apply Y;refine⟨_,(qF (qK (qI T.D3 (jm T) hr rfl (qA (qP jd (qJ (pv 0)) (qJ (pv 1))) (qA (qP jd (qJ (pv 0)) (qJ (pv 1))) qB))))),?_⟩
 try dsimp only[jD,qc]
 refine(zf rfl h1 at0 (zf rfl h2 at1 ⟨_,_,O,O,bp.mul bs,?_⟩));refine(zf rfl h1 at1 (zf rfl h2 at0 ⟨_,_,O,O,bq.mul br,?_⟩));exact⟨_,_,O,ZS hq hr',bq.prod br,k⟩
inductive qJ1(K:W.Frag)(vs:List V)(H:Hp)(Q:VK)(_:XK):Prop
|mk (x y:V) (p q r s:Int) (_:vs=[x,y]) (_:Pr K H x p q) (_:Pr K H y r s) (_:Sm p) (_:Sm q) (_:Sm r) (_:Sm s) (_:Q (.bl (decide (p*s<r*q))) H)
theorem qKl(T:Tx K mg a):FnOk P w K mg base CX0 1 a.A8 a.B8 ["one","other"] (qJ1 K):=by
 refine oL T.D8.F qIt λ_ _ _ s H _ _ _ hr h _ Y=>?_;obtain⟨x,y,p,q,r,s',rfl,⟨z1,rfl,h1⟩,⟨z2,rfl,h2⟩,bp,bq,br,bs,k⟩:=h;apply Y;refine⟨_,(qF (qK (jH zM (qP jd (qJ (pv 0)) (qJ (pv 1))) (qP jd (qJ (pv 1)) (qJ (pv 0))) (qO _)))),?_⟩
 try dsimp only[jD,qc]
 refine(zf rfl h1 at0 (zf rfl h2 at1 ⟨_,_,O,O,bp.mul bs,?_⟩));exact(zf rfl h2 at0 (zf rfl h1 at1 ⟨_,_,O,O,br.mul bq,_,_,O,O,k⟩))
structure Cp(K:W.Frag)(H:Hp)(v:V)(n:Str)(p q r s len:Int):Prop where
 ex:∃z z1 z2,v=.ref z/\SqT K H z [.str "clip",.str n,.ref z1,.ref z2,.int len]/\SqT K H z1 [.int p,.int q]/\SqT K H z2 [.int r,.int s]
theorem Cp.same{len:Int}(e:Same H H')(h:Cp K H v n p q r s len):Cp K H' v n p q r s len:=
 let ⟨z,z1,z2,h1,h2,h3,h4⟩:=h.ex;⟨z,z1,z2,h1,L3.Same.tup e h2,L3.Same.tup e h3,L3.Same.tup e h4⟩
theorem qUn:atI [x0,x1,x2,x3,x4] 2=some x2:=rfl
theorem qLp:atI [x0,x1,x2,x3,x4] 3=some x3:=rfl
theorem qSf{k:Int}(hq:0<q)(hs:0<s):
 xX (p*j6 (k*r) (1*s)+xX (k*r) (1*s)*q) (q*j6 (k*r) (1*s))=xX (p*s+k*r*q) (q*s)/\
 j6 (p*j6 (k*r) (1*s)+xX (k*r) (1*s)*q) (q*j6 (k*r) (1*s))=j6 (p*s+k*r*q) (q*s):=by
 rw[Int.one_mul];have c:=vo (k*r) s;have n0:=zr (t:=k*r) (b:=s) (by omega);generalize xX (k*r) s=m at c⊢;generalize j6 (k*r) s=n at c n0⊢;have b1:q*s≠0:=ZS (by omega) (by omega);have b2:q*n≠0:=ZS (by omega) (by omega);refine qNe b2 (zr b1) (qL0 b1) ?_;have e:=vo (p*s+k*r*q) (q*s);generalize xX (p*s+k*r*q) (q*s)=u at e⊢;generalize j6 (p*s+k*r*q) (q*s)=v at e⊢;have h:(u*(q*n))*s=((p*n+m*q)*v)*s:=by
  calc (u*(q*n))*s=(u*(q*s))*n:=by rw[Yi,Yi,Yi,Yi,ZI n s]
   _=((p*s+k*r*q)*v)*n:=by rw[e]
   _=(p*n*s+(k*r*n)*q)*v:=by
    have h1:(p*s+k*r*q)*v*n=(p*s+k*r*q)*n*v:=by rw[Yi,ZI v n,<-Yi]
    have h2:(p*s+k*r*q)*n=p*n*s+k*r*n*q:=by rw[Int.add_mul,Yi p s n,ZI s n,<-Yi,Yi (k*r) q n,ZI q n,<-Yi]
    rw[h1,h2]
   _=(p*n*s+(m*s)*q)*v:=by rw[<-c]
   _=((p*n+m*q)*v)*s:=by
    have h3:p*n*s+m*s*q=(p*n+m*q)*s:=by rw[Int.add_mul,Yi m s q,ZI s q,<-Yi]
    rw[h3,Yi,ZI s v,<-Yi]
 exact ZT (by omega) h
def Sm2(i:Int):Prop:=i.natAbs<2 ^ 700
theorem Sm2.sm(h:Sm2 i):Sm i:=YR h (Yh (by decide) (by decide))
theorem jo{n m:Nat}(h1:i.natAbs<2 ^ n)(h2:j.natAbs<2 ^ m):(i*j).natAbs<2 ^ (n+m):=by rw[Int.natAbs_mul,Nat.pow_add];exact Nat.mul_lt_mul'' h1 h2
inductive qL6(K:W.Frag)(vs:List V)(H:Hp)(Q:VK)(_:XK):Prop
|mk (v:V) (n:Str) (p q r s len k:Int) (_:vs=[v,.int k]) (_:Cp K H v n p q r s len) (_:0<q) (_:0<s) (_:Sm2 p) (_:Sm2 q) (_:Sm2 r) (_:Sm2 s) (_:Sm2 k) (_:∀z H',Same H H'->H' z=some (.tup [.int (xX (p*s+k*r*q) (q*s)),.int (j6 (p*s+k*r*q) (q*s))])->Q (.ref z) H')
theorem zI(T:Tx K mg a):FnOk P w K mg base CX0 4 a.A12 a.B12 ["clip","k"] (qL6 K):=by
 refine oL T.D12.F qLw λ_ _ _ _ H _ _ _ hr h _ Y=>?_;obtain⟨v,n,p,q,r,s',len,k,rfl,⟨z,z1,z2,rfl,hc,h1,h2⟩,hq,hs,bp,bq,br,bs,bk,kk⟩:=h;apply Y;refine⟨_,(qF (qK (qI T.D4 (qQ5 T) hr rfl (qA (qJ (pv 0)) (qA (qI T.D6 (qLl T) hr rfl (qA (qI T.D3 (jm T) hr rfl (qA (pv 1) (qA qG qB))) (qA (qJ (pv 0)) qB))) qB))))),?_⟩
 try dsimp only[jD,qc]
 refine⟨_,O,z,_,_,_,O,O,hc,qUn,_,O,k,1,O,by decide,YR (m:=2 ^ 1) (by decide) (Yh (by decide) (by decide)),λy hy=>?_⟩;have s1:=qE hy (.tup [.int (xX k 1),.int (j6 k 1)]);obtain⟨l1,l2⟩:=qNn (p:=k) (q:=1) (by decide) (Int.gcd_one_right ..);refine⟨_,O,z,_,_,_,O,O,L3.Same.tup s1 hc,qLp,?_⟩;have one:Sm 1:=YR (m:=2 ^ 1) (by decide) (Yh (by decide) (by decide));refine⟨_,_,k,1,r,s',O,⟨y,O,?_⟩,⟨z2,O,L3.Same.tup s1 h2⟩,by decide,by omega,bk.sm,one,br.sm,bs.sm,λx hx=>?_⟩
 . have e:SqT K (upd H y (.tup [.int (xX k 1),.int (j6 k 1)])) y [.int (xX k 1),.int (j6 k 1)]:=SqT.of qC
   rw[l1,l2]at e⊢;exact e
 have s2:=s1.trans (qE hx (.tup [.int (xX (k*r) (1*s')),.int (j6 (k*r) (1*s'))]));have b1:(1*s')≠0:=by omega
 have n0:=zr (t:=k*r) b1;have bm:Sm (xX (k*r) (1*s')):=by refine Yd (qHo b1) (YR (jo bk br) (Yh (by decide) (by decide)))
 have bn:Sm (j6 (k*r) (1*s')):=by refine Yd (wE b1) ?_;rw[Int.one_mul];exact bs.sm
 refine⟨_,_,p,q,_,_,O,⟨z1,O,L3.Same.tup s2 h1⟩,⟨x,O,SqT.of qC⟩,by omega,by omega,bp.sm,bq.sm,bm,bn,λu hu=>?_⟩;obtain⟨e1,e2⟩:=qSf (p:=p) (r:=r) (k:=k) hq hs;refine kk u _ (s2.trans (qE hu _)) ?_;rw[qC,e1,e2]
theorem qFp{t:Int}(hb:0<b):(xX t b).fdiv (j6 t b)=t.fdiv b:=by
 have e1:=qSq t b;have e2:=qPb t b;have sp:0<sg t b:=by have g:=qB0 (t:=t) (b:=b) (by omega);unfold sg;rw[YA (by omega)];omega
 have q0:=zr (t:=t) (b:=b) (by omega);obtain⟨h1,h2⟩:=jW (p:=xX t b) q0;obtain⟨h3,h4⟩:=jW (p:=t) hb;generalize (xX t b).fdiv (j6 t b)=f at h1 h2⊢;generalize t.fdiv b=g at h3 h4⊢;generalize xX t b=u at e1 h1 h2;generalize j6 t b=v at e2 h1 h2 q0;generalize sg t b=w at e1 e2 sp;subst e1 e2;have k1:g*v<=u:=by rw[<-Yi]at h3;exact Int.le_of_mul_le_mul_right h3 sp
 have k2:u<(g+1)*v:=by rw[<-Yi]at h4;exact Yq h4 (by omega)
 have k3:f<g+1:=Yq (a:=v) (by omega) (by omega);have k4:g<f+1:=Yq (a:=v) (by omega) (by omega);omega
inductive qHe(K:W.Frag)(vs:List V)(H:Hp)(Q:VK)(_:XK):Prop
|mk (v:V) (n:Str) (p q r s len k:Int) (_:vs=[v,.int k]) (_:Cp K H v n p q r s len) (_:0<q) (_:0<s) (_:Sm2 p) (_:Sm2 q) (_:Sm2 r) (_:Sm2 s) (_:Sm2 k) (_:∀H',Same H H'->Q (.int ((p*s+k*r*q).fdiv (q*s))) H')
theorem xJ(T:Tx K mg a):FnOk P w K mg base CX0 5 a.A13 a.B13 ["clip","k"] (qHe K):=by
 refine oL T.D13.F qHs λ_ _ _ _ _ _ _ _ hr h _ Y=>?_;obtain⟨v,n,p,q,r,s',len,k,rfl,hc,hq,hs,bp,bq,br,bs,bk,kk⟩:=h;apply Y;refine⟨_,(qF (qK (qI T.D9 (kr T) hr rfl (qA (qI T.D12 (zI T) hr rfl (qA (pv 0) (qA (pv 1) qB))) qB)))),?_⟩
 try dsimp only[jD,qc]
 refine⟨_,O,_,O,v,n,p,q,r,s',len,k,O,hc,hq,hs,bp,bq,br,bs,bk,λz H' sH hz=>?_⟩;have b1:q*s'≠0:=ZS (by omega) (by omega);refine⟨_,_,_,O,⟨z,O,SqT.of hz⟩,?_,?_,?_⟩
 . have:=zr (t:=p*s'+k*r*q) b1;omega
 . exact Yd (wE b1) (YR (jo bq bs) (Yh (by decide) (by decide)))
 . rw[qFp (Yt hq hs)]
   exact kk H' sH
theorem qXu:atI [x0,x1,x2,x3,x4] 0=some x0:=rfl
theorem qEe:atI [x0,x1,x2,x3,x4] 1=some x1:=rfl
theorem qCs:atI [x0,x1,x2,x3,x4] 4=some x4:=rfl
theorem eq2(a b c d:Int):qK3 [.int a,.int b] [.int c,.int d]=(a==c && b==d):=by simp[qK3,eqV,List.range_succ]
structure Bn(n:Nat)(p q r s:Int):Prop where
 q0:0<q
 s0:0<s
 bp:p.natAbs<2 ^ n
 bq:q.natAbs<2 ^ n
 br:r.natAbs<2 ^ n
 bs:s.natAbs<2 ^ n
theorem qAx{n m:Nat}(h:i.natAbs<2 ^ n)(l:n<=m:=by decide):i.natAbs<2 ^ m:=YR h (Yh (by decide) l)
theorem Bn.mono{n m:Nat}(h:Bn n p q r s)(l:n<=m:=by decide):Bn m p q r s:=⟨h.q0,h.s0,qAx h.bp l,qAx h.bq l,qAx h.br l,qAx h.bs l⟩
theorem Bn.part{k:Int}(h:Bn 110 p q r s)(hk:k.natAbs<2 ^ 30):Bn 340 (plP p q r s k) (plQ p q r s k) r s:=by
 obtain⟨hq,hs,bp,bq,br,bs⟩:=h;refine⟨qJq hq hs,hs,Yd (qV5 hq hs) ?_,Yd (qUl hq hs) (qAx (jo bq bs)),qAx br,qAx bs⟩;have h1:=jo bp bs;have h2:=jo (jo hk br) bq;have e:(2:Nat) ^ (110+110)+2 ^ (30+110+110)<=2 ^ 340:=by decide
 omega
theorem qS4{n:Nat}(h:i.natAbs<2 ^ n)(l:n<=8000:=by decide):i.natAbs<2 ^ 8000:=qAx h l
inductive qFm(K:W.Frag)(vs:List V)(H:Hp)(Q:VK)(_:XK):Prop
|mk (z:Addr) (ns:List Int) (i:Int) (_:vs=[.ref z,.int i]) (_:SqL K H z (ns.map V.int)) (_:ns.length<=63) (_:0<=i) (_:∀c:Int,Q (.int c) H)
theorem ve(T:Tx K mg a):FnOk P w K mg base CX0 1 a.A76 a.B76 ["_law_script","_law_k"] (qFm K):=by
 refine oL T.D76.F qEq λ_ _ _ _ _ _ _ _ hr h _ Y=>?_;obtain⟨z,ns,i,rfl,hS,hl,h0,k⟩:=h;apply Y;refine⟨_,(qD (qZ (qM zM (pv 1) (qX jV rfl T.b_len rfl (qA (pv 0) qB)) (qO _)) (qF (qK (jN qh (pv 0) (pv 1) (λ_ _=>rfl)))) qN)
  (qF (qK qG))),?_⟩
 try dsimp only[jD,qc]
 have hml:(ns.map V.int).length=ns.length:=YS _;refine⟨_,O,_,O,z,_,O,.inl hS,_,_,O,O,_,O,?_⟩;refine ja (λc=>?_) (λ_=>?_)
 . have c':i<((ns.map V.int).length:Int):=ZK c
   rw[hml]at c';have hi:i.toNat<ns.length:=by omega
   have e:i=((i.toNat:Nat):Int):=by omega
   have hat:atI (ns.map V.int) ((i.toNat:Nat):Int)=some (.int ns[i.toNat]):=qz (by rw[Yj,YD hi];rfl);rw[<-e]at hat;exact⟨_,O,_,O,z,_,_,.int ns[i.toNat],O,O,hS,hat,k _⟩
 . exact k 0
noncomputable def thB(i m:Int):Bool:=decide (0<=i) && decide (i<m)
theorem qRv{D m:Int}(hD:0<D):thB (N.fdiv D) m=true↔InR N D m:=by rw[qEw hD];simp[thB]
inductive qLd(vs:List V)(H:Hp)(Q:VK)(_:XK):Prop
|mk (i m:Int) (_:vs=[.int i,.int m]) (_:Q (.bl (thB i m)) H)
theorem wx(T:Tx K mg a):FnOk P w K mg base CX0 1 a.A14 a.B14 ["picture","many"] qLd:=by
 refine oL T.D14.F qLh λ_ _ _ _ _ _ _ _ hr h _ Y=>?_;obtain⟨i,m,rfl,q⟩:=h;apply Y;refine⟨_,(qF (qK (xy (jH qRa qG (pv 0) (qO _)) (kC (jH zM (pv 0) (pv 1) (qO _)))))),?_⟩
 try dsimp only[jD,qc]
 refine⟨_,O,_,_,O,O,_,O,?_⟩;unfold thB at q;by_cases h0:0<=i
 . rw[YX h0]at q⊢
   exact jn ⟨_,O,_,O,_,_,O,O,q⟩
 . rw[YW h0]at q⊢
   exact qv q
noncomputable def qZg(c:Nat):Bool:=!(Builtin.Str.occurrences "abcdefghijklmnopqrstuvwxyz" ⟨#[c]⟩ 0 ("abcdefghijklmnopqrstuvwxyz":Str).length 1).isEmpty
noncomputable def qJi(z:Str):Bool:=decide (1<=z.length/\z.length<=8) && z.cps.toList.all qZg
theorem qG2{c d:Int}(hd:0<d)(g:Int.gcd c d=1):xX (0*d-c*1) (1*d)=-c/\j6 (0*d-c*1) (1*d)=d:=by
 refine qNe (by omega) hd (by rw[Int.neg_gcd];exact g) ?_
 grind
inductive qDn(K:W.Frag)(vs:List V)(H:Hp)(Q:VK)(_:XK):Prop
|mk (x y:V) (A B c d m:Int) (_:vs=[x,y,.int m]) (_:Pr K H x A B) (_:Pr K H y c d) (_:0<B) (_:0<d) (_:Int.gcd c d=1) (_:A.natAbs<2 ^ 700) (_:B.natAbs<2 ^ 700) (_:c.natAbs<2 ^ 700) (_:d.natAbs<2 ^ 700) (_:m.natAbs<2 ^ 700) (_:∀H',Same H H'->Q (.int (z9 (A*d) (c*B) (B*d) m)) H')
theorem vA(T:Tx K mg a):FnOk P w K mg base CX0 4 a.A18 a.B18 ["first","step","many"] (qDn K):=by
 refine oL T.D18.F xm λ_ _ _ _ H _ Q _ hr h _ Y=>?_;obtain⟨x,y,A',B,c,d,m,rfl,⟨z1,rfl,h1⟩,⟨z2,rfl,h2⟩,hB,hd,hg,bA,bB,bc,bd,bm,kk⟩:=h;apply Y;have hu:=hr.units0;refine⟨_,(qD (qZ (qM (qT8 hu) (pv 1) (jQ (v:=.ref a.n_NOUGHT) rfl T.g_NOUGHT rfl) (qO _)) (qF (qK (jQ (v:=.int 1000000) rfl T.g_MOST_ROOM ⟨_,O⟩))) qN)
  (qD (qZ (jK (qr (qI T.D14 (wx T) hr rfl (qA (qI T.D9 (kr T) hr rfl (qA (pv 0) qB)) (qA (pv 2) qB))))) (qF (qK qG)) qN)
  (qD (kn (qZ (qr (qI T.D8 (qKl T) hr rfl (qA (pv 1) (qA (jQ (v:=.ref a.n_NOUGHT) rfl T.g_NOUGHT rfl) qB)))) (qF (qW 3 xm.nd (qP qk (qI T.D9 (kr T) hr rfl (qA (qI T.D7 (qFw T) hr rfl (qA (pv 0) (qA (qI T.D5 (qBv T) hr rfl (qA (jQ (v:=.ref a.n_NOUGHT) rfl T.g_NOUGHT rfl) (qA (pv 1) qB))) qB))) qB)) qG))) (qF (qW 3 xm.nd (qE7 vW (qI T.D9 (kr T) hr rfl (qA (qI T.D7 (qFw T) hr rfl (qA (qI T.D5 (qBv T) hr rfl (qA (pv 0) (qA (qI T.D3 (jm T) hr rfl (qA (pv 2) (qA qG qB))) qB))) (qA (pv 1) qB))) qB)))))))
  (qF (qK (qX (zO rfl) rfl T.b_min rfl (qA (pv 3) (qA (jQ (v:=.int 1000000) rfl T.g_MOST_ROOM ⟨_,rfl⟩) qB)))))))),?_⟩
 try dsimp only[jD,qc]
 have S:∀{i:Int},i.natAbs<2 ^ 700->Sm i:=λh=>qAx h;have one:Sm 1:=Sm.of200 (by decide);have nul:Sm 0:=Sm.of200 (by decide);have hBd:=Yt hB hd;have H1:∀{H':Hp},Same H H'->SqT K H' z1 [.int A',.int B]:=λe=>L3.Same.tup e h1;have H2:∀{H':Hp},Same H H'->SqT K H' z2 [.int c,.int d]:=λe=>L3.Same.tup e h2;refine⟨_,O,_,_,_,_,O,O,h2,T.sq_NOUGHT _,O,O,_,O,?_⟩;rw[YA (by decide:¬(false=true)),eq2];by_cases hc:c=0
 . have d1:d=1:=by subst hc;rw[Int.gcd_zero_left]at hg;omega
   rw[show (c==0 && d==1)=true by simp[hc,d1]];refine jn ?_;have:=kk H (Same.refl _);unfold z9 at this;rw[YB (by rw[hc,Int.zero_mul])]at this;exact this
 rw[show (c==0 && d==1)=false by simp[hc]];refine qv ?_;have hcB:¬(c*B=0):=ZS hc (by omega);have ef:A'.fdiv B=(A'*d).fdiv (B*d):=qBq hB hBd (by grind);refine⟨_,O,_,A',B,O,⟨z1,O,h1⟩,by omega,qS4 bB,_,O,_,_,O,_,O,?_⟩;by_cases ht:0<=A'.fdiv B/\A'.fdiv B<m
 rotate_left
 . rw[show thB (A'.fdiv B) m=false by unfold thB;rw[Bool.eq_false_iff];simpa using ht]
   refine jn ?_;have:=kk H (Same.refl _);unfold z9 at this;rw[YA hcB,YB (by rw[<-ef];exact ht)]at this;exact this
 rw[show thB (A'.fdiv B) m=true by simp[thB,ht]];refine qv ?_;have res:∀H',Same H H'->Q (.int (if 1000000<(if c*B<0 then (A'*d).fdiv (-(c*B))+1 else-((A'*d-m*(B*d)).fdiv (c*B)))then 1000000 else (if c*B<0 then (A'*d).fdiv (-(c*B))+1 else-((A'*d-m*(B*d)).fdiv (c*B))))) H':=λH' e=>by have:=kk H' e;unfold z9 at this;rw[YA hcB,YA (by rw[<-ef];simpa using ht)]at this;exact this
 generalize hgg:(if c*B<0 then (A'*d).fdiv (-(c*B))+1 else-((A'*d-m*(B*d)).fdiv (c*B)))=g at res;refine⟨λσ' H'=>σ'=[some (.ref z1),some (.ref z2),some (.int m),some (.int g)]/\Same H H',?_,?_⟩
 . refine⟨_,O,_,_,c,d,0,1,O,⟨z2,O,h2⟩,⟨_,O,T.sq_NOUGHT _⟩,S bc,S bd,nul,one,_,O,?_⟩
   by_cases hn:c*1<0*d
   . rw[YX hn]
     refine jn ?_;have c0:c<0:=by omega
     refine⟨_,O,_,O,_,_,0,1,c,d,O,⟨_,O,T.sq_NOUGHT _⟩,⟨z2,O,h2⟩,by decide,by omega,nul,one,S bc,S bd,λu hu'=>?_⟩;rw[(qG2 hd hg).1,(qG2 hd hg).2];have w1:=qE hu' (.tup [.int (-c),.int d]);have bnc:(-c).natAbs<2 ^ 700:=by rw[Int.natAbs_neg];exact bc
     have hpos:0<B*(-c):=Yt hB (by omega);refine⟨_,_,A',B,-c,d,O,⟨z1,O,H1 w1⟩,⟨u,O,SqT.of qC⟩,by omega,by omega,S bA,S bB,S bnc,S bd,λv hv=>?_⟩;have w2:=w1.trans (qE hv (.tup [.int (xX (A'*d) (B*(-c))),.int (j6 (A'*d) (B*(-c)))]));have lq:=zr (t:=A'*d) (b:=B*(-c)) (by omega);refine⟨_,_,_,O,⟨v,O,SqT.of qC⟩,by omega,Yd (wE (by omega)) (qS4 (jo bB bnc)),?_⟩;rw[qFp hpos];refine⟨_,_,O,O,?_,w2⟩;have e:g=(A'*d).fdiv (B* -c)+1:=by rw[<-hgg,YB (by have:=Int.mul_neg_of_neg_of_pos c0 hB;exact this)];rw[show-(c*B)=B* -c by grind]
     rw[e];rfl
   . rw[YW hn]
     refine qv ?_;have c0:0<c:=by omega
     obtain⟨l1,l2⟩:=qNn (p:=m) (q:=1) (by decide) (Int.gcd_one_right ..);refine⟨_,O,_,O,m,1,O,by decide,qS4 (n:=1) (by decide),λu hu'=>?_⟩;rw[l1,l2];have w1:=qE hu' (.tup [.int m,.int 1]);refine⟨_,_,A',B,m,1,O,⟨z1,O,H1 w1⟩,⟨u,O,SqT.of qC⟩,by omega,by decide,S bA,S bB,S bm,one,λv hv=>?_⟩;have hb1:B*1≠0:=by omega
     have cr:=vo (A'*1-m*B) (B*1);have lq:=zr (t:=A'*1-m*B) hb1;have aP:=qHo (t:=A'*1-m*B) hb1;have aQ:=wE (t:=A'*1-m*B) hb1;have w2:=w1.trans (qE hv (.tup [.int (xX (A'*1-m*B) (B*1)),.int (j6 (A'*1-m*B) (B*1))]));have ev:=qC (H:=upd H u (.tup [.int m,.int 1])) (a:=v) (o:=.tup [.int (xX (A'*1-m*B) (B*1)),.int (j6 (A'*1-m*B) (B*1))]);generalize upd (upd H u (.tup [.int m,.int 1])) v (.tup [.int (xX (A'*1-m*B) (B*1)),.int (j6 (A'*1-m*B) (B*1))])=H3 at w2 ev⊢;generalize xX (A'*1-m*B) (B*1)=P' at cr aP ev⊢;generalize j6 (A'*1-m*B) (B*1)=Q' at cr aQ lq ev⊢;have sP:Sm P':=by
      have t:=jo bm bB;have:(A'*1-m*B).natAbs<2 ^ 1500:=by
       have e:(2:Nat) ^ 700+2 ^ (700+700)<=2 ^ 1500:=by decide
       rw[Int.mul_one];exact YR (Yd (Int.natAbs_sub_le _ _) (Nat.add_lt_add bA t)) e
      exact Yd aP (qAx this)
     have bQ:Q'.natAbs<2 ^ 700:=by rw[Int.mul_one]at aQ;omega
     refine⟨_,O,_,_,P',Q',c,d,O,⟨v,O,SqT.of ev⟩,⟨z2,O,H2 w2⟩,by omega,hc,sP,S bQ,S bc,S bd,λx hx=>?_⟩;have hpos:0<Q'*c:=Yt lq c0;have w3:=w2.trans (qE hx (.tup [.int (xX (P'*d) (Q'*c)),.int (j6 (P'*d) (Q'*c))]));have lq2:=zr (t:=P'*d) (b:=Q'*c) (by omega);refine⟨_,_,_,O,⟨x,O,SqT.of qC⟩,by omega,Yd (wE (by omega)) (qS4 (jo bQ bc)),?_⟩;rw[qFp hpos];refine⟨_,O,?_,w3⟩;have e:g=-(P'*d).fdiv (Q'*c):=by have hcB':=Yt c0 hB;rw[<-hgg,YA (by omega)];rw[qBq hcB' hpos (by grind:(A'*d-m*(B*d))*(Q'*c)=P'*d*(c*B))]
     rw[e];rfl
 rintro σ' H' ⟨rfl,sH⟩;exact⟨_,O,_,_,O,res H' sH⟩
theorem qHu(e:Same H H'){a:Addr}(h:Rd H a u):Rd H' a u:=by
 rcases h with h|⟨o,h⟩
 . exact .inl (e _ _ h)
 . exact .inr ⟨o,e _ _ h⟩
def Reel(H:Hp)(rd:Addr)(n:Str)(m:Int):Prop:= ∃kvs,Rd H rd (.dK kvs)/\x6 kvs (Sum.inr n)=some (.int m)
theorem Reel.same{m:Int}(e:Same H H')(h:Reel H rd n m):Reel H' rd n m:=let ⟨k,h1,h2⟩:=h;⟨k,qHu e h1,h2⟩
theorem Reel.get{m:Int}(h:Reel H rd n m):DGet H rd (.str n) (some (.int m)):=let ⟨k,h1,h2⟩:=h;.inl ⟨k,Sum.inr n,h1,rfl,h2.symm⟩
noncomputable def Vk(p q r s k:Int):Int:=p*s+k*r*q
structure Ch(H:Hp)(z:Addr)(n:Str)(p q r s len:Int):Prop where
 ex:∃z1 z2,H z=some (.tup [.str "clip",.str n,.ref z1,.ref z2,.int len])/\H z1=some (.tup [.int p,.int q])/\H z2=some (.tup [.int r,.int s])
theorem Ch.same{len:Int}(e:Same H H')(h:Ch H z n p q r s len):Ch H' z n p q r s len:=let ⟨z1,z2,h1,h2,h3⟩:=h.ex;⟨z1,z2,e _ _ h1,e _ _ h2,e _ _ h3⟩
theorem Ch.cp{len:Int}(h:Ch H z n p q r s len):Cp K H (.ref z) n p q r s len:=let ⟨z1,z2,h1,h2,h3⟩:=h.ex;⟨z,z1,z2,rfl,SqT.of h1,SqT.of h2,SqT.of h3⟩
theorem qPu{k0 e m:Int}(hq:0<q)(hs:0<s)(he:e=1\/e=-1)(h0:r=0->InR (Vk p q r s 0) (q*s) m):
 let g:=z9 (plP p q r s k0*s) (e*r*plQ p q r s k0) (plQ p q r s k0*s) m
 0<=g/\g<=1000000/\(∀j,0<=j->j<g->InR (Vk p q r s (k0+e*j)) (q*s) m)/\(g<1000000->¬InR (Vk p q r s (k0+e*g)) (q*s) m)/\(r=0->g=1000000):=by
 intro g;have c:=qIc p q r s k0;have hb:=qJq (p:=p) (r:=r) (k:=k0) hq hs;have hbs:=Yt hb hs;have hqs:=Yt hq hs;have cross:∀j:Int,InR (plP p q r s k0*s+j*(e*r*plQ p q r s k0)) (plQ p q r s k0*s) m↔InR (Vk p q r s (k0+e*j)) (q*s) m:=λj=>by
  refine qJ2 hbs hqs ?_;unfold Vk;generalize plP p q r s k0=u at c⊢;generalize plQ p q r s k0=v at c⊢
  grind
 have key:=qUz (N:=plP p q r s k0*s) (R:=e*r*plQ p q r s k0) (D:=plQ p q r s k0*s) (m:=m) hbs (λz=>by
  have r0:r=0:=by
   rcases Int.mul_eq_zero.mp z with z|z
   . rcases Int.mul_eq_zero.mp z with z|z
     . omega
     . exact z
   . omega
  have:=h0 r0;have e0:=(cross 0).mpr (by
   have e:Vk p q r s (k0+e*0)=Vk p q r s 0:=by unfold Vk;rw[r0];grind
   rw[e];exact this)
  rw[Int.zero_mul,Yc]at e0;exact e0)
 obtain⟨k1,k2,k3,k4,k5⟩:=key;refine⟨k1,k2,λj a b=>(cross j).mp (k3 j a b),λz w=>k4 z ((cross _).mpr w),λz=>k5 ?_⟩;rw[z]
 grind
inductive qKx(K:W.Frag)(vs:List V)(H:Hp)(Q:VK)(_:XK):Prop
|mk (v:V) (n:Str) (p q r s len m:Int) (rd:Addr) (_:vs=[v,.ref rd]) (_:Cp K H v n p q r s len) (_:qWb 110 p q) (_:qWb 110 r s) (_:Reel H rd n m) (_:m.natAbs<2 ^ 700) (_:∀H',Same H H'->Q (.int (z9 (plP p q r s (-1)*s) (-1*r*plQ p q r s (-1)) (plQ p q r s (-1)*s) m)) H')
theorem vy(T:Tx K mg a):FnOk P w K mg base CX0 5 a.A19 a.B19 ["clip","reels"] (qKx K):=by
 refine oL T.D19.F qJ7 λ_ _ _ s H vs Q _ hr h _ Y=>?_;obtain⟨v,n,p,q,r,s',len,m,rd,rfl,hc,g1,g2,hrd,bm,kk⟩:=h;apply Y;have hu1:=qJ8 hr;refine⟨_,(qF (qK (qI T.D18 (vA T) hr rfl (qA (qI T.D12 (zI T) hr rfl (qA (pv 0) (qA (qE7 vW qG) qB))) (qA (qI T.D5 (qBv T) hr rfl (qA (jQ (v:=.ref a.n_NOUGHT) rfl T.g_NOUGHT rfl) (qA (qJ (pv 0)) qB))) (qA (kh hu1 (pv 1) (qJ (pv 0)) (λ_ _=>rfl)) qB)))))),?_⟩
 try dsimp only[jD,qc]
 have hb:Bn 110 p q r s':=⟨g1.1,g2.1,g1.2.2.1,g1.2.2.2,g2.2.2.1,g2.2.2.2⟩;have hb7:=hb.mono (m:=700);have hp:=(hb.part (k:= -1) (by decide)).mono (m:=700);refine⟨_,O,_,O,v,n,p,q,r,s',len,-1,O,hc,hb7.q0,hb7.s0,hb7.bp,hb7.bq,hb7.br,hb7.bs,qAx (n:=30) (by decide),λy H1 s1 e1=>?_⟩;refine qS λ_ Y=>?_;obtain⟨z,z1,z2,e,h0,h1,h2⟩:=(hc.same s1).ex;subst e;apply Y;have S:∀{i:Int},i.natAbs<2 ^ 700->Sm i:=λh=>qAx h;refine(zf rfl h0 qLp ?_);refine⟨_,_,0,1,r,s',rfl,⟨_,rfl,T.sq_NOUGHT _⟩,⟨z2,rfl,h2⟩,by decide,by have:=hb.s0;omega,Sm.of200 (by decide),Sm.of200 (by decide),S hb7.br,S hb7.bs,λu hu'=>?_⟩;rw[(qG2 hb.s0 g2.2.1).1,(qG2 hb.s0 g2.2.1).2];have w1:=qE hu' (.tup [.int (-r),.int s']);refine⟨_,O,_,O,z,_,_,_,O,O,L3.Same.tup w1 h0,qEe,rd,_,O,(hrd.same (s1.trans w1)).get,?_⟩;refine⟨_,_,_,_,-r,s',m,O,⟨y,O,SqT.of (w1 _ _ e1)⟩,⟨u,O,SqT.of qC⟩,hp.q0,hb.s0,by rw[Int.neg_gcd];exact g2.2.1,hp.bp,hp.bq,by rw[Int.natAbs_neg];exact hb7.br,hb7.bs,bm,λH' sH=>?_⟩;have:=kk H' (s1.trans (w1.trans sH));rw[show-1*r*plQ p q r s' (-1)=-r*plQ p q r s' (-1) by grind]at this;exact this
inductive qIz(K:W.Frag)(vs:List V)(H:Hp)(Q:VK)(_:XK):Prop
|mk (v:V) (n:Str) (p q r s len m:Int) (rd:Addr) (_:vs=[v,.ref rd]) (_:Cp K H v n p q r s len) (_:qWb 110 p q) (_:qWb 110 r s) (_:len.natAbs<2 ^ 30) (_:Reel H rd n m) (_:m.natAbs<2 ^ 700) (_:∀H',Same H H'->Q (.int (z9 (plP p q r s len*s) (1*r*plQ p q r s len) (plQ p q r s len*s) m)) H')
theorem vJ(T:Tx K mg a):FnOk P w K mg base CX0 5 a.A20 a.B20 ["clip","reels"] (qIz K):=by
 refine oL T.D20.F qJn λ_ _ _ _ _ _ _ _ hr h _ Y=>?_;obtain⟨v,n,p,q,r,s',len,m,rd,rfl,hc,g1,g2,bl,hrd,bm,kk⟩:=h;apply Y;have hu1:=qJ8 hr;refine⟨_,(qF (qK (qI T.D18 (vA T) hr rfl (qA (qI T.D12 (zI T) hr rfl (qA (pv 0) (qA (qJ (pv 0)) qB))) (qA (qJ (pv 0)) (qA (kh hu1 (pv 1) (qJ (pv 0)) (λ_ _=>rfl)) qB)))))),?_⟩
 try dsimp only[jD,qc]
 have hb:Bn 110 p q r s':=⟨g1.1,g2.1,g1.2.2.1,g1.2.2.2,g2.2.2.1,g2.2.2.2⟩;have hb7:=hb.mono (m:=700);have hp:=(hb.part (k:=len) bl).mono (m:=700);have hc0:=hc;refine qS λ_ Y=>?_;obtain⟨z,z1,z2,e,h0,h1,h2⟩:=hc0.ex;subst e;apply Y;refine⟨_,O,zf rfl h0 qCs ⟨_,n,p,q,r,s',len,len,O,hc,hb7.q0,hb7.s0,hb7.bp,hb7.bq,hb7.br,hb7.bs,qAx bl,λy H1 s1 e1=>?_⟩⟩;refine⟨_,O,z,_,_,_,O,O,L3.Same.tup s1 h0,qLp,?_⟩;refine⟨_,O,_,O,z,_,_,_,O,O,L3.Same.tup s1 h0,qEe,rd,_,O,(hrd.same s1).get,?_⟩;refine⟨_,_,_,_,r,s',m,O,⟨y,O,SqT.of e1⟩,⟨z2,O,L3.Same.tup s1 h2⟩,hp.q0,hb.s0,g2.2.1,hp.bp,hp.bq,hb7.br,hb7.bs,bm,λH' sH=>?_⟩;have:=kk H' (s1.trans sH);rw[Int.one_mul]at this;exact this
theorem qZa{c A B:Prop} [Decidable c] (hc:¬c)(h:A):if (!decide c)=true then A else B:=by rw[YW hc];exact jn h
inductive Im where
 |clip (n:Str) (p q r s l:Int)
 |nest (n:Str) (b l:Int)
 |gap (l:Int)
 |mix (l:Int)
noncomputable def Im.wd:Im->Str
 |.clip .. =>"clip"
 |.nest .. =>"nest"
 |.gap _=>"gap"
 |.mix _=>"mix"
noncomputable def Im.l:Im->Int
 |.clip _ _ _ _ _ l=>l
 |.nest _ _ l=>l
 |.gap l=>l
 |.mix l=>l
def TS(H H':Hp):Prop:= ∀b xs,H b=some (.tup xs)->H' b=some (.tup xs)
theorem qd(e:Same H H'):TS H H':=λ_ _ h=>e _ _ h
theorem z6{l:Addr}(h:H l=some (.lst xs)):TS H (upd H l o):=λb ys hb=>by rw[qQ (xC hb h (by intro z;cases z))];exact hb
theorem xG{y:Addr}(e:Same H H')(h:H y=none):Same H (upd H' y o):=λb u hb=>by rw[qQ (qV hb h)];exact e b u hb
def IsI(H:Hp):Im->V->Prop
 |.clip n p q r s l,v=> ∃z x y:Addr,v=.ref z/\H z=some (.tup [.str "clip",.str n,.ref x,.ref y,.int l])/\H x=some (.tup [.int p,.int q])/\H y=some (.tup [.int r,.int s])
 |.nest n b l,v=> ∃z:Addr,v=.ref z/\H z=some (.tup [.str "nest",.str n,.int b,.int l])
 |.gap l,v=> ∃z:Addr,v=.ref z/\H z=some (.tup [.str "gap",.int l])
 |.mix l,v=> ∃z:Addr,v=.ref z/\H z=some (.tup [.str "mix",.int l])
theorem isG{l:Int}(h:H z=some (.tup [.str "gap",.int l])):IsI H (.gap l) (.ref z):=⟨z,rfl,h⟩
theorem isM{l:Int}(h:H z=some (.tup [.str "mix",.int l])):IsI H (.mix l) (.ref z):=⟨z,rfl,h⟩
theorem isN{l:Int}(h:H z=some (.tup [.str "nest",.str n,.int b,.int l])):IsI H (.nest n b l) (.ref z):=⟨z,rfl,h⟩
theorem IsI.ts(e:TS H H'):∀{m:Im} {v:V},IsI H m v->IsI H' m v
 |.clip ..,_,⟨z,x,y,h,hz,hx,hy⟩=>⟨z,x,y,h,e _ _ hz,e _ _ hx,e _ _ hy⟩
 |.nest ..,_,⟨z,h,hz⟩=>⟨z,h,e _ _ hz⟩
 |.gap _,_,⟨z,h,hz⟩=>⟨z,h,e _ _ hz⟩
 |.mix _,_,⟨z,h,hz⟩=>⟨z,h,e _ _ hz⟩
theorem IsI.opn(h:IsI H m v):∃(z:Addr) (xs:List V),v=.ref z/\H z=some (.tup xs)/\atI xs 0=some (.str m.wd)/\atI xs (-1)=some (.int m.l):=by
 cases m with
 |clip n p q r s l=>obtain⟨z,x,y,h,hz,_⟩:=h;exact⟨z,_,h,hz,rfl,rfl⟩
 |nest n b l=>obtain⟨z,h,hz⟩:=h;exact⟨z,_,h,hz,rfl,rfl⟩
 |gap l=>obtain⟨z,h,hz⟩:=h;exact⟨z,_,h,hz,rfl,rfl⟩
 |mix l=>obtain⟨z,h,hz⟩:=h;exact⟨z,_,h,hz,rfl,rfl⟩
theorem qM8{H:Hp}:∀{xs:List V},xs.all kj=true->Reps K H (xs.map D.leaf) xs
 |[],_=>by simp[Reps]
 |x::xs,h=>by rw[List.all_cons,Yl]at h;rw[ZG];unfold Reps Rep;exact⟨⟨O,h.1⟩,qM8 h.2⟩
def IsIs(H:Hp):List Im->List V->Prop
 |[],[]=>True
 |m::ms,v::vs=>IsI H m v/\IsIs H ms vs
 |_,_=>False
theorem IsIs.len{H:Hp}:∀{ms:List Im} {vs:List V},IsIs H ms vs->vs.length=ms.length
 |[],[],_=>rfl
 |_::_,_::_,h=>by rw[YE,YE,IsIs.len h.2]
 |[],_::_,h=>h.elim
 |_::_,[],h=>h.elim
theorem IsIs.ts{H H':Hp}(e:TS H H'):∀{ms:List Im} {vs:List V},IsIs H ms vs->IsIs H' ms vs
 |[],[],_=>trivial
 |_::_,_::_,h=>⟨IsI.ts e h.1,IsIs.ts e h.2⟩
 |[],_::_,h=>h.elim
 |_::_,[],h=>h.elim
theorem IsIs.get{H:Hp}:∀{ms:List Im} {vs:List V} {i:Nat} {v:V},IsIs H ms vs->vs[i]?=some v->∃m,ms[i]?=some m/\IsI H m v
 |[],[],_,_,_,h=>by simp at h
 |m::_,x::_,0,v,h,e=>by
  have e':x=v:=by simpa using e
  subst e';exact⟨m,O,h.1⟩
 |_::ms,_::vs,i+1,v,h,e=>by obtain⟨m,h1,h2⟩:=IsIs.get (i:=i) h.2 (by simpa using e);exact⟨m,by simpa using h1,h2⟩
 |[],_::_,_,_,h,_=>h.elim
 |_::_,[],_,_,h,_=>h.elim
theorem IsIs.get'{i:Nat}(h:IsIs H ms vs)(e:ms[i]?=some m):∃v,vs[i]?=some v/\IsI H m v:=by
 have hi:i<vs.length:=by rw[h.len];exact(glt e)
 have ev:vs[i]?=some vs[i]:=YD hi;obtain⟨m',h1,h2⟩:=h.get ev;rw[e]at h1;cases h1;exact⟨_,ev,h2⟩
theorem IsIs.app{H:Hp}:∀{ms:List Im} {vs:List V} {ms':List Im} {vs':List V},IsIs H ms vs->IsIs H ms' vs'->IsIs H (ms++ms') (vs++vs')
 |[],[],_,_,_,h'=>h'
 |_::_,_::_,_,_,h,h'=>⟨h.1,h.2.app h'⟩
 |[],_::_,_,_,h,_=>h.elim
 |_::_,[],_,_,h,_=>h.elim
theorem IsIs.one(h:IsI H m v):IsIs H [m] [v]:=⟨h,trivial⟩
def Tr(H:Hp)(z:Addr)(ms:List Im):Prop:= ∃vs,H z=some (.lst vs)/\IsIs H ms vs
theorem Tr.same(e:Same H H')(h:Tr H z ms):Tr H' z ms:=let ⟨vs,h1,h2⟩:=h;⟨vs,e _ _ h1,h2.ts (qd e)⟩
theorem qEm(h:m.wd="gap"):∃l,m=.gap l:=by
 cases m with
 |gap l=>exact⟨l,rfl⟩
 |clip=>exact YC (show ("clip":Str)="gap" from h) (by decide+kernel)
 |nest=>exact YC (show ("nest":Str)="gap" from h) (by decide+kernel)
 |mix=>exact YC (show ("mix":Str)="gap" from h) (by decide+kernel)
noncomputable def z8:Int->List Im->List Im
 |_,[]=>[]
 |w,.gap l::ms=>z8 (w+l) ms
 |w,.clip n p q r s l::ms=>if 0<w then .gap w:: .clip n p q r s l::z8 0 ms else .clip n p q r s l::z8 0 ms
 |w,.nest n b l::ms=>if 0<w then .gap w:: .nest n b l::z8 0 ms else .nest n b l::z8 0 ms
 |w,.mix l::ms=>if 0<w then .gap w:: .mix l::z8 0 ms else .mix l::z8 0 ms
theorem jF(h:m.wd≠"gap")(w:Int)(ms:List Im):z8 w (m::ms)=if 0<w then .gap w::m::z8 0 ms else m::z8 0 ms:=by
 cases m with
 |gap l=>exact YC rfl h
 |_=>rw[z8]
inductive qMj(vs:List V)(H:Hp)(Q:VK)(_:XK):Prop
|mk (z:Addr) (ms:List Im) (_:vs=[.ref z]) (_:Tr H z ms) (_:ms.length<=300) (_:∀(y:Addr) (H':Hp),Same H H'->H y=none->Tr H' y (z8 0 ms)->Q (.ref y) H')
theorem qMd(T:Tx K mg a):FnOk P w K mg base CX0 1 a.A24 a.B24 ["some"] qMj:=by
 refine oL T.D24.F xS λ_ _ _ _ H vs _ _ hr h _ Y=>?_;obtain⟨z,ms,rfl,⟨xs,hz,his⟩,hl,kk⟩:=h;apply Y;refine⟨_,(qD (qW 1 xS.nd (qo qB))
  (qD (qW 2 xS.nd qG)
  (qD (xj PassesOwn.never rfl (jl (pv 0)) (q8 (i:=3) xS.nd rfl (Or.inl rfl)) (qF (qZ (qM jM (qJ (pv 3)) qR (qO _)) (qF (qW 2 xS.nd (qP qk (pv 2) (qJ (pv 3))))) (qD (qZ (qM qGh (pv 2) qG (qO _)) (qF (jR (qOd F.plainAttrs_list F.slot_list_append F.type_list_append kG (pv 1) (qA (qY (qA qR (qA (pv 2) qB))) qB)))) qN)
  (qD (qW 2 xS.nd qG)
  (qF (jR (qOd F.plainAttrs_list F.slot_list_append F.type_list_append kG (pv 1) (qA (pv 3) qB)))))))))
  (qF (qK (pv 1)))))),?_⟩
 try dsimp only[jD,qc]
 refine⟨sL0,λy hy=>?_⟩;refine⟨_,O,z,O,⟨_,SqL.of ((qE hy _) _ _ hz)⟩,j3 (K:=K) (a:=z) (xs:=xs) (λi σ H'=> ∃(w:Int) (as:List Im) (o:Option V) (vs:List V),σ=[some (.ref z),some (.ref y),some (.int w),o]/\H' y=some (.lst vs)/\IsIs H' as vs/\as.length<=2*i/\as++z8 w (ms.drop i)=z8 0 ms/\Same H H')
  ⟨0,[],none,[],rfl,qC,trivial,by simp,rfl,qE hy _⟩ ?_ ?_ ?_⟩
 . rintro i σ H' hi ⟨w,as,o,vs,rfl,_,_,_,_,e⟩
   exact SqL.of (e _ _ hz)
 . rintro i x σ H' hx ⟨w,as,o,vs,rfl,hv,hiv,hal,hap,e⟩
   refine qS λ_ Y=>?_;obtain⟨m,hm,hIx⟩:=his.get hx;have hI:=hIx.ts (qd e);have hi:i<ms.length:=(glt hm);have hd:ms.drop i=m::ms.drop (i+1):=by rw[List.drop_eq_getElem_cons hi];rw[YD hi]at hm;cases hm;rfl
   have hvl:vs.length<=2*i:=by rw[hiv.len];exact hal
   obtain⟨zi,xi,rfl,hzi,h0,h1⟩:=hI.opn;apply Y;refine⟨_,O,zi,xi,_,_,O,O,SqT.of hzi,h0,O,_,O,ja (λc=>?_) (λc=>?_)⟩
   . obtain⟨l,rfl⟩:=qEm (by simpa using c)
     refine qS λ_ Y=>?_;obtain⟨z2,e2,hz2⟩:=hI;cases e2;apply Y;refine⟨_,O,ixO hz2 at1 ⟨_,_,O,O,w+l,as,_,vs,O,hv,hiv,by omega,?_,e⟩⟩;rw[hd,z8]at hap;exact hap
   . have hne:m.wd≠"gap":=by simpa using c
     rw[hd,jF hne]at hap;refine⟨_,O,_,_,O,O,_,O,ja (λc=>?_) (λc=>?_)⟩
     . have c':0<w:=by simpa using c
       rw[YB c']at hap;refine⟨_,O,.inl ⟨O,_,SqL.of hv⟩,_,O,sL2,λg hg=>?_⟩;have w1:=qE hg (.tup [.str "gap",.int w]);refine⟨y,_,_,O,O,w1 _ _ hv,qj (by omega),?_⟩;have t2:TS (upd H' g (.tup [.str "gap",.int w])) (upd (upd H' g (.tup [.str "gap",.int w])) y (.lst (vs++[.ref g]))):=z6 (w1 _ _ hv);have k2:IsIs (upd (upd H' g (.tup [.str "gap",.int w])) y (.lst (vs++[.ref g]))) (as++[.gap w]) (vs++[.ref g]):=((hiv.ts (qd w1)).app (.one (isG qC))).ts t2;have k1:IsI (upd (upd H' g (.tup [.str "gap",.int w])) y (.lst (vs++[.ref g]))) m (.ref zi):=(hI.ts (qd w1)).ts t2;have e2:Same H (upd (upd H' g (.tup [.str "gap",.int w])) y (.lst (vs++[.ref g]))):=xG (e.trans w1) hy;have hv2:(upd (upd H' g (.tup [.str "gap",.int w])) y (.lst (vs++[.ref g]))) y=some (.lst (vs++[.ref g])):=qC;generalize upd (upd H' g (.tup [.str "gap",.int w])) y (.lst (vs++[.ref g]))=H2 at k1 k2 e2 hv2⊢;refine⟨_,O,.inl ⟨O,_,SqL.of hv2⟩,_,O,y,_,_,O,O,hv2,qj (by rw[YN];simp;omega),?_⟩;refine⟨0,as++[.gap w]++[m],_,_,O,qC,(k2.app (.one k1)).ts (z6 hv2),by simp;omega,?_,xG e2 hy⟩;rw[<-hap];simp
     . have c':¬0<w:=by simpa using c
       rw[YA c']at hap;refine⟨_,O,.inl ⟨O,_,SqL.of hv⟩,_,O,y,_,_,O,O,hv,qj (by omega),?_⟩;refine⟨0,as++[m],_,_,O,qC,(hiv.app (.one hI)).ts (z6 hv),by simp;omega,?_,xG e hy⟩;rw[<-hap];simp
 . rintro σ H' ⟨w,as,o,vs,rfl,hv,hiv,_,hap,e⟩
   refine⟨_,O,kk y H' e hy ⟨vs,hv,?_⟩⟩;rw[his.len,ZH,z8,Ye]at hap;rw[<-hap];exact hiv
noncomputable def Im.mo:Im->Int
 |.mix _=>0
 |.clip _ _ _ _ _ l=>l
 |.nest _ _ l=>l
 |.gap l=>l
theorem xB(h:m.wd="mix"):∃l,m=.mix l:=by
 cases m with
 |mix l=>exact⟨l,rfl⟩
 |clip=>exact YC (show ("clip":Str)="mix" from h) (by decide+kernel)
 |nest=>exact YC (show ("nest":Str)="mix" from h) (by decide+kernel)
 |gap=>exact YC (show ("gap":Str)="mix" from h) (by decide+kernel)
theorem jAg(h:m.wd≠"mix"):m.mo=m.l:=by
 cases m with
 |mix l=>exact YC rfl h
 |_=>rfl
theorem qPf{y:Str}:decide (V.str x=V.str y)=decide (x=y):=by rw[Yu];simp
inductive qH7(vs:List V)(H:Hp)(Q:VK)(_:XK):Prop
|mk (v:V) (m:Im) (_:vs=[v]) (_:IsI H m v) (_:Q (.int m.mo) H)
theorem jt(T:Tx K mg a):FnOk P w K mg base CX0 1 a.A23 a.B23 ["item"] qH7:=by
 refine oL T.D23.F qG4 λ_ _ _ _ H vs Q _ hr h _ Y=>?_;obtain⟨v,m,rfl,hI,kk⟩:=h;apply Y;refine⟨_,(qF (qK (kc (qM jM (qJ (pv 0)) qR (qO _)) qG (jN qGp (pv 0) (qE7 vW qG) (λ_ _=>rfl))))),?_⟩
 try dsimp only[jD,qc]
 refine qS λ_ Y=>?_;obtain⟨z,xs,rfl,hz,h0,h1⟩:=hI.opn;apply Y;refine⟨_,O,z,xs,_,_,O,O,SqT.of hz,h0,O,_,O,ja (λc=>?_) (λc=>?_)⟩
 . obtain⟨l,rfl⟩:=xB (by simpa using c)
   exact kk
 . rw[jAg (by simpa using c)]at kk
   exact⟨_,O,_,O,z,xs,_,_,O,O,SqT.of hz,h1,kk⟩
inductive qIx(vs:List V)(H:Hp)(Q:VK)(_:XK):Prop
|mk (z:Addr) (ms:List Im) (_:vs=[.ref z]) (_:Tr H z ms) (_:ms.length<=300) (_:∀H',Same H H'->Q (.int (ms.map Im.mo).sum) H')
theorem qCu(T:Tx K mg a):FnOk P w K mg base CX0 3 a.A25 a.B25 ["track"] qIx:=by
 refine oL T.D25.F qKi λ_ _ _ _ H _ _ _ hr h _ Y=>?_;obtain⟨z,ms,rfl,⟨xs,hz,his⟩,hl,kk⟩:=h;apply Y;refine⟨_,(qF (qK (qX (qJp rfl) rfl T.b_sum rfl (qA (wU [] [] rfl (jl (pv 0)) (λ_ _ _ _=>(qI T.D23 (jt T) hr rfl (qA (pv 0) qB)))) qB)))),?_⟩
 try dsimp only[jD,qc]
 refine⟨_,O,z,O,⟨_,SqL.of hz⟩,qFf (K:=K) (a:=z) (xs:=xs) (λi acc H'=>H'=H/\acc=((ms.take i).map Im.mo).map V.int) ⟨O,O⟩ ?_ ?_ ?_⟩
 . rintro i acc H' hi ⟨rfl,rfl⟩
   exact⟨SqL.of hz,qj (by simp;omega)⟩
 . rintro i x acc H' hi hx ⟨rfl,rfl⟩
   refine qS λ_ Y=>?_;obtain⟨m,hm,hI⟩:=his.get hx;apply Y;refine⟨_,O,x,m,O,hI,Nxt.mk hi ⟨O,?_⟩⟩;rw[Ys,hm];simp
 . rintro acc H' ⟨rfl,rfl⟩ d hd
   refine⟨d,(ms.map Im.mo),O,?_,kk _ (qE hd _)⟩;rw[his.len,Yw];exact SqL.of qC
noncomputable def xf:Int->Nat->List Im->Int->Option (Nat×Int)
 |_,_,[],_=>none
 |b,i,m::ms,t=>if b<=t/\t<b+m.mo then some (i,t-b)else xf (b+m.mo) (i+1) ms t
def AtR(H:Hp)(Q:VK)(r:Option (Nat×Int)):Prop:=match r with
 |none=> ∀H',Same H H'->Q .non H'
 |some (i,d)=> ∀(p:Addr) (H':Hp),Same H H'->H' p=some (.tup [.int (i:Int),.int d])->Q (.ref p) H'
theorem jy{α:Type}{xs:List α}{i:Nat}{x:α}(h:xs[i]?=some x):xs.drop i=x::xs.drop (i+1):=by have hi:i<xs.length:=(glt h);rw[List.drop_eq_getElem_cons hi];rw[YD hi]at h;cases h;rfl
inductive qOc(vs:List V)(H:Hp)(Q:VK)(_:XK):Prop
|mk (z:Addr) (ms:List Im) (t:Int) (_:vs=[.ref z,.int t]) (_:Tr H z ms) (_:AtR H Q (xf 0 0 ms t))
theorem v9(T:Tx K mg a):FnOk P w K mg base CX0 3 a.A26 a.B26 ["track","moment"] qOc:=by
 refine oL T.D26.F zA λ_ _ _ _ H _ _ _ hr h _ Y=>?_;obtain⟨z,ms,t,rfl,⟨xs,hz,his⟩,kk⟩:=h;apply Y;refine⟨_,(qD (qW 2 zA.nd qG)
  (qD (xj PassesOwn.never rfl (qPq rfl T.b_enumerate (qA (pv 0) qB)) (qNh rfl (zZ (q8 (i:=3) zA.nd rfl (Or.inl rfl)) (zZ (q8 (i:=4) zA.nd rfl (Or.inl rfl)) qH5))) (qD (qW 5 zA.nd (qP qk (pv 2) (qI T.D23 (jt T) hr rfl (qA (pv 4) qB))))
  (qD (qZ (PW.pt (vO (qM qRa (pv 2) (pv 1) (qO _)) (zK (qM zM (pv 1) (pv 5) (qO _))))) (qF (qK (qY (qA (pv 3) (qA (qP jG (pv 1) (pv 2)) qB))))) qN)
  (qF (qW 2 zA.nd (pv 5))))))
  (qF (qK vM)))),?_⟩
 try dsimp only[jD,qc]
 refine⟨_,O,z,O,⟨_,SqL.of hz⟩,qSa (K:=K) (a:=z) (xs:=xs) (λi σ H'=> ∃(b:Int) (o1 o2 o3:Option V),σ=[some (.ref z),some (.int t),some (.int b),o1,o2,o3]/\xf b i (ms.drop i) t=xf 0 0 ms t/\Same H H')
  ⟨0,none,none,none,rfl,rfl,Same.refl _⟩ ?_ ?_ ?_⟩
 . rintro i σ H' hi ⟨b,o1,o2,o3,rfl,_,e⟩
   exact SqL.of (e _ _ hz)
 . rintro i x σ H' p hx ⟨b,o1,o2,o3,rfl,hap,e⟩ hp
   refine qS λ_ Y=>?_;obtain⟨m,hm,hIx⟩:=his.get hx;apply Y;have w1:=qE hp (.tup [.int (i:Int),x]);have e1:=e.trans w1;have hI:=hIx.ts (qd e1);rw[jy hm,xf]at hap;refine⟨p,_,O,SqT.of qC,O,_,_,O,_,_,O,O,?_⟩;generalize upd H' p (.tup [.int (i:Int),x])=H1 at e1 hI⊢;refine⟨_,O,_,O,x,m,O,hI,_,_,O,O,?_⟩;refine⟨_,O,_,O,_,_,O,O,_,O,?_⟩;refine ja (λc1=>?_) (λc1=>?_)
   . refine⟨_,O,_,O,_,_,O,O,_,O,?_⟩
     refine ja (λc2=>?_) (λc2=>?_)
     . rw[YB ⟨by simpa using c1,by simpa using c2⟩]at hap
       rw[<-hap]at kk;refine⟨_,O,_,O,_,O,_,_,O,O,sL2,λq hq=>?_⟩;exact kk q _ (e1.trans (qE hq _)) qC
     . rw[YA (λc=>c2 (by simpa using c.2))]at hap
       exact⟨_,O,_,_,_,_,O,hap,e1⟩
   . rw[YA (λc=>c1 (by simpa using c.1))]at hap
     exact qv ⟨_,O,_,_,_,_,O,hap,e1⟩
 . rintro σ H' ⟨b,o1,o2,o3,rfl,hap,e⟩
   rw[his.len,ZH,xf]at hap;rw[<-hap]at kk;exact kk H' e
def Sh(H:Hp)(z:Addr)(p q r s:Int):Prop:= ∃x y:Addr,H z=some (.tup [.ref x,.ref y])/\H x=some (.tup [.int p,.int q])/\H y=some (.tup [.int r,.int s])
inductive qGy(vs:List V)(H:Hp)(Q:VK)(_:XK):Prop
|mk (l j:Int) (_:vs=[.int l,.int j]) (_:0<=j) (_:j<l) (_:l<2 ^ 60) (_:∀(z:Addr) (H':Hp),Same H H'->Sh H' z (xX (l-j) (l+1)) (j6 (l-j) (l+1)) (xX (j+1) (l+1)) (j6 (j+1) (l+1))->Q (.ref z) H')
theorem p60(h0:0<b)(h:b<2 ^ 61):b.natAbs<2 ^ 8000:=by
 have e:b.natAbs<2 ^ 61:=by omega
 exact YR e (Yh (by decide) (by decide))
theorem qG6(T:Tx K mg a):FnOk P w K mg base CX0 3 a.A38 a.B38 ["length","j"] qGy:=by
 refine oL T.D38.F qHh λ_ _ _ _ _ _ _ _ hr h _ Y=>?_;obtain⟨l,j,rfl,j0,j1,l1,kk⟩:=h;apply Y;refine⟨_,(qF (qK (qY (qA (qI T.D3 (jm T) hr rfl (qA (qP jG (pv 0) (pv 1)) (qA (qP qk (pv 0) qG) qB))) (qA (qI T.D3 (jm T) hr rfl (qA (qP qk (pv 1) qG) (qA (qP qk (pv 0) qG) qB))) qB))))),?_⟩
 try dsimp only[jD,qc]
 refine⟨_,O,_,O,_,_,O,O,_,O,_,_,O,O,_,_,O,by omega,p60 (by omega) (by omega),λx hx=>?_⟩;refine⟨_,O,_,_,O,O,_,O,_,_,O,O,_,_,O,by omega,p60 (by omega) (by omega),λy hy=>?_⟩;refine⟨sL2,λz hz=>?_⟩;have w1:=qE hx (.tup [.int (xX (l-j) (l+1)),.int (j6 (l-j) (l+1))]);have w2:=qE hy (.tup [.int (xX (j+1) (l+1)),.int (j6 (j+1) (l+1))]);have w3:=qE hz (.tup [.ref x,.ref y]);exact kk z _ ((w1.trans w2).trans w3) ⟨x,y,qC,w3 _ _ (w2 _ _ qC),w3 _ _ qC⟩
noncomputable def qy(ms:List Im)(i:Int):Str:=if i<0 then "" else match ms[i.toNat]? with
 |some m=>m.wd
 |none=>""
theorem vQ{i:Nat}(h:ms[i]?=some m){k:Int}(hk:k=(i:Int)):qy ms k=m.wd:=by
 subst hk;unfold qy;rw[YA (by omega)];have e:((i:Int)).toNat=i:=by omega
 rw[e,h]
inductive qN9(vs:List V)(H:Hp)(Q:VK)(_:XK):Prop
|mk (z:Addr) (ms:List Im) (i:Int) (_:vs=[.ref z,.int i]) (_:Tr H z ms) (_:Q (.str (qy ms i)) H)
theorem jO(T:Tx K mg a):FnOk P w K mg base CX0 1 a.A27 a.B27 ["track","place"] qN9:=by
 refine oL T.D27.F qOr λ_ _ _ _ _ vs _ _ hr h _ Y=>?_;obtain⟨z,ms,i,rfl,⟨vs,hz,his⟩,q⟩:=h;apply Y;refine⟨_,(qD (qZ (PW.pt (jv (qM zM (pv 1) qG (qO _)) (jL (qM qMh (pv 1) (qX jV rfl T.b_len rfl (qA (pv 0) qB)) (qO _))))) (qF (qK qR)) qN)
  (qF (qK (qJ (jN qh (pv 0) (pv 1) (λ_ _=>rfl)))))),?_⟩
 try dsimp only[jD,qc]
 have hl:=his.len;refine⟨_,O,_,_,O,O,_,O,?_⟩;by_cases h0:i<0
 . rw[YX h0]
   have e:qy ms i="":=by unfold qy;rw[YB h0]
   rw[e]at q;exact jn (jn q)
 rw[YW h0];refine qv ⟨_,O,_,O,z,_,O,.inl (SqL.of hz),_,_,O,O,_,O,?_⟩;by_cases h1:((vs.length:Nat):Int)<=i
 . rw[YX (show i ≥ ((vs.length:Nat):Int)from h1)]
   have e:qy ms i="":=by unfold qy;rw[YA h0,List.getElem?_eq_none (by omega)]
   rw[e]at q;exact jn q
 . rw[YW (show ¬i ≥ ((vs.length:Nat):Int)from h1)]
   refine qv ?_;have hi:i.toNat<ms.length:=by omega
   have hm:ms[i.toNat]?=some ms[i.toNat]:=YD hi;refine qS λ_ Y=>?_;obtain⟨v,hv,hI⟩:=his.get' hm;obtain⟨zi,xi,rfl,hzi,q0,_⟩:=hI.opn;apply Y;have ei:i=((i.toNat:Nat):Int):=by omega
   have hat:atI vs i=some (.ref zi):=by rw[ei];exact qz hv
   have e:qy ms i=ms[i.toNat].wd:=vQ hm ei;rw[e]at q;exact⟨_,O,_,O,z,_,_,_,O,O,SqL.of hz,hat,zi,xi,_,_,O,O,SqT.of hzi,q0,q⟩
inductive qGc(vs:List V)(H:Hp)(Q:VK)(_:XK):Prop
|mk (z:Addr) (ms:List Im) (i:Int) (_:vs=[.ref z,.int i]) (_:Tr H z ms) (_:Q (.int (if qy ms (i-1)="mix" then i-2 else i-1)) H)
theorem wM(T:Tx K mg a):FnOk P w K mg base CX0 2 a.A28 a.B28 ["track","place"] qGc:=by
 refine oL T.D28.F qF2 λ_ _ _ _ H vs Q _ hr h _ Y=>?_;obtain⟨z,ms,i,rfl,tT,q⟩:=h;apply Y;refine⟨_,(qF (qK (kc (qM jM (qI T.D27 (jO T) hr rfl (qA (pv 0) (qA (qP jG (pv 1) qG) qB))) qR (qO _)) (qP jG (pv 1) qG) (qP jG (pv 1) qG)))),?_⟩
 try dsimp only[jD,qc]
 refine⟨_,O,_,O,_,_,O,O,z,ms,_,O,tT,O,_,O,ja (λc=>?_) (λc=>?_)⟩
 . rw[YB (by simpa using c)]at q
   exact⟨_,O,_,_,O,O,q⟩
 . rw[YA (by simpa using c)]at q
   exact⟨_,O,_,_,O,O,q⟩
noncomputable def nbF(ms:List Im)(t:Int):Option (Int×Int):=match xf 0 0 ms t with
 |some (i,d)=>if d≠0\/(i:Int)=0 then none else some (if qy ms ((i:Int)-1)="mix" then (i:Int)-2 else (i:Int)-1,(i:Int))
 |none=>none
noncomputable def cbF(ms:List Im)(t:Int):Option (Int×Int):=match nbF ms t with
 |some (i,j)=>if qy ms i="clip"/\qy ms j="clip" then some (i,j)else none
 |none=>none
def PrR(H:Hp)(Q:VK)(r:Option (Int×Int)):Prop:=match r with
 |none=> ∀H',Same H H'->Q .non H'
 |some (i,j)=> ∀(p:Addr) (H':Hp),Same H H'->H' p=some (.tup [.int i,.int j])->Q (.ref p) H'
inductive qDh(vs:List V)(H:Hp)(Q:VK)(_:XK):Prop
|mk (z:Addr) (ms:List Im) (t:Int) (_:vs=[.ref z,.int t]) (_:Tr H z ms) (_:PrR H Q (nbF ms t))
theorem vE(T:Tx K mg a):FnOk P w K mg base CX0 4 a.A30 a.B30 ["track","moment"] qDh:=by
 refine oL T.D30.F vC λ_ _ _ _ H vs Q _ hr h _ Y=>?_;obtain⟨z,ms,t,rfl,tT,kk⟩:=h;apply Y;refine⟨_,(qD (qW 2 vC.nd (qI T.D26 (v9 T) hr rfl (qA (pv 0) (qA (pv 1) qB))))
  (qD (qZ (PW.pt (jv (zV (wO (pv 2))) (jv (qM z7 (qJ (pv 2)) qG (qO _)) (jL (qM jM (qJ (pv 2)) qG (qO _)))))) (qF (qK vM)) qN)
  (qF (qK (qY (qA (qI T.D28 (wM T) hr rfl (qA (pv 0) (qA (qJ (pv 2)) qB))) (qA (qJ (pv 2)) qB))))))),?_⟩
 try dsimp only[jD,qc]
 refine⟨_,O,_,O,z,ms,_,O,tT,?_⟩;unfold nbF at kk;cases hit:xf 0 0 ms t with
 |none=>
  rw[hit]at kk;intro H1 e1;exact⟨_,O,_,O,jn (kk H1 e1)⟩
 |some x=>
  obtain⟨i,d⟩:=x;rw[hit]at kk;dsimp only at kk;intro p H1 e1 hp;refine⟨_,O,_,O,ja (λc=>YC c (by simp)) (λ_=>?_)⟩;refine(ixO hp at1 ?_);refine⟨O,_,O,ja (λc=>?_) (λc=>?_)⟩
  . rw[YB (.inl (by simpa using c))]at kk
    exact kk H1 e1
  . refine(ixO hp at0 ?_)
    refine⟨O,_,O,ja (λc2=>?_) (λc2=>?_)⟩
    . rw[YB (.inr (by simpa using c2))]at kk
      exact kk H1 e1
    . rw[YA (λz=>z.elim (λz=>c (by simpa using z)) (λz=>c2 (by simpa using z)))]at kk
      refine⟨_,O,ixO hp at0 ⟨z,ms,_,O,tT.same e1,?_⟩⟩;refine(ixO hp at0 ⟨sL2,λq hq=>?_⟩);exact kk q _ (e1.trans (qE hq _)) qC
inductive qBa(vs:List V)(H:Hp)(Q:VK)(_:XK):Prop
|mk (z:Addr) (ms:List Im) (t:Int) (_:vs=[.ref z,.int t]) (_:Tr H z ms) (_:PrR H Q (cbF ms t))
theorem je(T:Tx K mg a):FnOk P w K mg base CX0 5 a.A31 a.B31 ["track","moment"] qBa:=by
 refine oL T.D31.F zY λ_ _ _ _ H vs _ _ hr h _ Y=>?_;obtain⟨z,ms,t,rfl,tT,kk⟩:=h;apply Y;refine⟨_,(qD (qW 2 zY.nd (qI T.D30 (vE T) hr rfl (qA (pv 0) (qA (pv 1) qB))))
  (qD (qZ (PW.pt (jv (zV (wO (pv 2))) (jv (qM z7 (qI T.D27 (jO T) hr rfl (qA (pv 0) (qA (qJ (pv 2)) qB))) qR (qO _)) (jL (qM z7 (qI T.D27 (jO T) hr rfl (qA (pv 0) (qA (qJ (pv 2)) qB))) qR (qO _)))))) (qF (qK vM)) qN)
  (qF (qK (pv 2))))),?_⟩
 try dsimp only[jD,qc]
 refine⟨_,O,_,O,z,ms,_,O,tT,?_⟩;unfold cbF at kk;cases hit:nbF ms t with
 |none=>
  rw[hit]at kk;intro H1 e1;exact⟨_,O,_,O,jn (kk H1 e1)⟩
 |some x=>
  obtain⟨i,j⟩:=x;rw[hit]at kk;dsimp only at kk;intro p H1 e1 hp;refine⟨_,O,_,O,ja (λc=>YC c (by simp)) (λ_=>?_)⟩;refine⟨_,O,ixO hp at0 ⟨z,ms,_,O,tT.same e1,?_⟩⟩;refine⟨O,_,O,ja (λc=>?_) (λc=>?_)⟩
  . rw[YA (λz=>YC c (by simpa using z.1))]at kk
    exact kk H1 e1
  . refine⟨_,O,ixO hp at1 ⟨z,ms,_,O,tT.same e1,?_⟩⟩
    refine⟨O,_,O,ja (λc2=>?_) (λc2=>?_)⟩
    . rw[YA (λz=>YC c2 (by simpa using z.2))]at kk
      exact kk H1 e1
    . rw[YB ⟨by simpa using c,by simpa using c2⟩]at kk
      exact⟨_,O,kk p H1 e1 hp⟩
def TrsAt(H:Hp):List (List Im)->List V->Prop
 |[],[]=>True
 |ms::r,v::vs=>(∃z:Addr,v=.ref z/\Tr H z ms)/\TrsAt H r vs
 |_,_=>False
theorem TrsAt.same{H H':Hp}(e:Same H H'):∀{ts:List (List Im)} {vs:List V},TrsAt H ts vs->TrsAt H' ts vs
 |[],[],_=>trivial
 |_::_,_::_,⟨⟨z,h1,h2⟩,h⟩=>⟨⟨z,h1,h2.same e⟩,TrsAt.same e h⟩
 |[],_::_,h=>h.elim
 |_::_,[],h=>h.elim
theorem TrsAt.len{H:Hp}:∀{ts:List (List Im)} {vs:List V},TrsAt H ts vs->vs.length=ts.length
 |[],[],_=>rfl
 |_::_,_::_,h=>by rw[YE,YE,TrsAt.len h.2]
 |[],_::_,h=>h.elim
 |_::_,[],h=>h.elim
theorem TrsAt.get{H:Hp}:∀{ts:List (List Im)} {vs:List V} {i:Nat} {v:V},TrsAt H ts vs->vs[i]?=some v->∃(ms:List Im) (z:Addr),ts[i]?=some ms/\v=.ref z/\Tr H z ms
 |[],[],_,_,_,h=>by simp at h
 |ms::_,u::_,0,v,h,e=>by
  have e':u=v:=by simpa using e
  subst e';obtain⟨⟨z,h1,h2⟩,_⟩:=h;exact⟨ms,z,O,h1,h2⟩
 |_::_,_::_,i+1,v,h,e=>by obtain⟨ms,z,h1,h2⟩:=TrsAt.get (i:=i) h.2 (by simpa using e);exact⟨ms,z,by simpa using h1,h2⟩
 |[],_::_,_,_,h,_=>h.elim
 |_::_,[],_,_,h,_=>h.elim
def TabAt(H:Hp)(v:V)(ts:List (List Im)):Prop:= ∃(tt tl ti:Addr) (zs:List V),v=.ref tt/\H tt=some (.tup [.ref tl,.ref ti])/\H tl=some (.lst zs)/\TrsAt H ts zs
theorem TabAt.same{H H':Hp}(e:Same H H'){v:V}{ts:List (List Im)}(h:TabAt H v ts):TabAt H' v ts:=
 let ⟨tt,tl,ti,zs,h1,h2,h3,h4⟩:=h;⟨tt,tl,ti,zs,h1,e _ _ h2,e _ _ h3,h4.same e⟩
theorem qDp{l:Int}(h:IsI H (.clip n p q r s l) v):Cp K H v n p q r s l:=by obtain⟨z,x,y,h0,hz,hx,hy⟩:=h;exact⟨z,x,y,h0,SqT.of hz,SqT.of hx,SqT.of hy⟩
def TabF(H:Hp)(v:V)(ts:List (List Im))(tie:List Int):Prop:= ∃(tt tl ti:Addr) (zs:List V),v=.ref tt/\H tt=some (.tup [.ref tl,.ref ti])/\H tl=some (.lst zs)/\TrsAt H ts zs/\H ti=some (.lst (tie.map V.int))
theorem TabF.tab{ts:List (List Im)}(h:TabF H v ts tie):TabAt H v ts:=let ⟨tt,tl,ti,zs,h1,h2,h3,h4,_⟩:=h;⟨tt,tl,ti,zs,h1,h2,h3,h4⟩
theorem TabF.same{H H':Hp}(e:Same H H'){v:V}{ts:List (List Im)}{tie:List Int}(h:TabF H v ts tie):TabF H' v ts tie:=
 let ⟨tt,tl,ti,zs,h1,h2,h3,h4,h5⟩:=h;⟨tt,tl,ti,zs,h1,e _ _ h2,e _ _ h3,h4.same e,e _ _ h5⟩
theorem qRb{H:Hp}:∀{ts:List (List Im)} {vs:List V} {ms:List Im} {z:Addr},TrsAt H ts vs->Tr H z ms->TrsAt H (ts++[ms]) (vs++[.ref z])
 |[],[],_,z,_,h=>⟨⟨z,rfl,h⟩,trivial⟩
 |_::_,_::_,_,_,⟨h1,h2⟩,h=>⟨h1,qRb h2 h⟩
 |[],_::_,_,_,h,_=>h.elim
 |_::_,[],_,_,h,_=>h.elim
theorem qBd{b:Bool}{A B:Prop}(h:b=false)(q:B):if b=true then A else B:=by subst h;exact q
theorem wo{b:Bool}{A B:Prop}(h:b=true)(q:A):if b=true then A else B:=by subst h;exact q
inductive qOh(vs:List V)(H:Hp)(Q:VK)(_:XK):Prop
|mk (z:Str) (_:vs=[.str z]) (_:qJi z=true) (_:∀H',Same H H'->Q (.bl true) H')
theorem qGv(T:Tx K mg a):FnOk P w K mg base CX0 1 a.A10 a.B10 ["thing"] qOh:=by
 refine oL T.D10.F qN4 λ_ _ _ _ H vs Q _ hr h _ Y=>?_;obtain⟨z,rfl,hn,kk⟩:=h;apply Y;refine⟨_,(qD (qZ (jK (qr (qX jB rfl T.b_isinstance rfl (qA (pv 0) (qA (qDo rfl T.b_str rfl) qB))))) (qF (qK zH)) qN)
  (qD (qZ (PW.pt (jv (qM zM (qX qCx rfl T.b_len rfl (qA (pv 0) qB)) qG (qO _)) (jL (qM qGh (qX qCx rfl T.b_len rfl (qA (pv 0) qB)) (jQ (v:=.int 8) rfl T.g_LONGEST_NAME ⟨_,rfl⟩) (qO _))))) (qF (qK zH)) qN)
  (qF (qK (qX (qQu rfl) rfl T.b_all rfl (qA (wU [] [] rfl (qWj (pv 0)) (λ_ _ _ _=>(jH qXd (pv 0) (jQ (v:=.str "abcdefghijklmnopqrstuvwxyz") rfl T.g_LETTERS ⟨_,rfl⟩) rfl))) qB)))))),?_⟩
 try dsimp only[jD,qc]
 unfold qJi at hn;obtain⟨h1,h2⟩:=Yl _ _ ▸ hn;have h1:=ZK h1;have hsz:z.length<=sizeLine:=Nat.le_of_lt (qj (by omega));refine⟨_,O,_,_,_,true,O,.str z,⟨_,.inl ⟨O,by kernel_rfl⟩⟩,true,O,qv ?_⟩;refine⟨_,O,z,O,hsz,_,_,O,O,_,O,qBd (YW (by omega)) ⟨_,O,z,O,hsz,_,_,O,O,_,O,qBd (YW (by show ¬(8:Int)<_;omega)) ?_⟩⟩;refine⟨_,O,z,O,qTj (λi acc H'=>H'=H/\acc=((z.cps.toList.take i).map qZg).map V.bl) ⟨O,O⟩ ?_ ?_ ?_⟩
 . rintro i acc H' hi ⟨_,rfl⟩
   rw[YS,YS,Yk];exact qj (by have:z.cps.size=z.length:=rfl;omega)
 . rintro i c acc H' hi hc ⟨rfl,rfl⟩
   refine⟨_,O,_,_,O,O,Nxt.mk hi ⟨O,?_⟩⟩;have hc':z.cps.toList[i]?=some c:=by simpa using hc
   rw[List.take_succ,hc',Yr,Yr];rfl
 . rintro acc H' ⟨rfl,rfl⟩ D hD
   refine⟨D,_,O,SqL.of qC,?_⟩;rw[List.take_of_length_le (by simp),List.all_map,show (z.cps.toList.all (id ∘ qZg))=true from h2];exact kk _ (qE hD _)
inductive qF6(vs:List V)(H:Hp)(Q:VK)(_:XK):Prop
|mk (z:Addr) (p q:Int) (_:vs=[.ref z]) (_:H z=some (.tup [.int p,.int q])) (_:1<=q) (_:Int.gcd p q=1) (_:Q (.bl true) H)
theorem wN(T:Tx K mg a):FnOk P w K mg base CX0 2 a.A2 a.B2 ["x"] qF6:=by
 refine oL T.D2.F qGf λ_ _ _ s H vs Q _ hr h _ Y=>?_;obtain⟨z,p,q,rfl,hz,hq,hg,k⟩:=h;apply Y;have h1:SqT K H z [.int p,.int q]:=SqT.of hz;refine⟨_,(qD (qZ (PW.pt (jv (jK (qr (qX jB rfl T.b_isinstance rfl (qA (pv 0) (qA (qDo rfl T.b_tuple rfl) qB))))) (jL (qM z7 (qX jV rfl T.b_len rfl (qA (pv 0) qB)) qG (qO _))))) (qF (qK zH)) qN)
  (qD (qZ (PW.pt (jv (jK (qr (qI T.D0 (jA T) hr rfl (qA (qJ (pv 0)) qB)))) (jL (jK (qr (qI T.D0 (jA T) hr rfl (qA (qJ (pv 0)) qB))))))) (qF (qK zH)) qN)
  (qF (qK (xy (jH qMh (qJ (pv 0)) qG (qO _)) (kC (jH jM (qI T.D1 (kB T) hr rfl (qA (qJ (pv 0)) (qA (qJ (pv 0)) qB))) qG (qO _)))))))),?_⟩
 try dsimp only[jD,qc]
 refine⟨_,O,_,_,_,true,O,.tup hz,⟨_,.inl ⟨O,by kernel_rfl⟩⟩,true,O,qv ?_⟩;refine⟨_,O,_,_,O,.inr h1,O,_,O,qv ?_⟩;refine(zf rfl h1 at0 ⟨p,O,true,O,qv ?_⟩);refine(zf rfl h1 at1 ⟨q,O,true,O,qv ?_⟩);refine(zf rfl h1 at1 ⟨_,_,O,O,true,?_,jn ?_⟩)
 . have:decide (1<=q)=true:=YX hq
   rw[<-this]
 refine(zf rfl h1 at0 (zf rfl h1 at1 ⟨p,q,O,O,?_⟩));rw[hg];exact k
structure GF(n:Str)(p q r s len:Int):Prop where
 hn:qJi n=true
 hl:n.length<=1000
 hb:Bn 700 p q r s
 gq:Int.gcd p q=1
 gs:Int.gcd r s=1
 l1:1<=len
 bl:len.natAbs<2 ^ 30
inductive qDm(vs:List V)(H:Hp)(Q:VK)(_:XK):Prop
|mk (z:Addr) (n:Str) (p q r s len:Int) (_:vs=[.ref z]) (_:Ch H z n p q r s len) (_:qJi n=true) (_:1<=q) (_:Int.gcd p q=1) (_:1<=s) (_:Int.gcd r s=1) (_:1<=len) (_:∀H',Same H H'->Q (.bl true) H')
theorem qDa(T:Tx K mg a):FnOk P w K mg base CX0 3 a.A11 a.B11 ["item"] qDm:=by
 refine oL T.D11.F qDj λ_ _ _ s H vs Q _ hr h _ Y=>?_;obtain⟨z,n,p,q,r,s',len,rfl,⟨z1,z2,e0,e1,e2⟩,hn,hq,gq,hs,gs,l1,kk⟩:=h;apply Y;refine⟨_,(qD (qZ (PW.pt (jv (jK (qr (qX jB rfl T.b_isinstance rfl (qA (pv 0) (qA (qDo rfl T.b_tuple rfl) qB))))) (jL (qM z7 (qX jV rfl T.b_len rfl (qA (pv 0) qB)) qG (qO _))))) (qF (qK zH)) qN)
  (qD (qZ (PW.pt (jv (qM z7 (qJ (pv 0)) qR (qO _)) (jL (jK (qr (qI T.D10 (qGv T) hr rfl (qA (qJ (pv 0)) qB))))))) (qF (qK zH)) qN)
  (qD (qZ (PW.pt (jv (jK (qr (qI T.D2 (wN T) hr rfl (qA (qJ (pv 0)) qB)))) (jL (jK (qr (qI T.D2 (wN T) hr rfl (qA (qJ (pv 0)) qB))))))) (qF (qK zH)) qN)
  (qF (qK (xy (qI T.D0 (jA T) hr rfl (qA (qJ (pv 0)) qB)) (kC (jH qMh (qJ (pv 0)) qG (qO _))))))))),?_⟩
 try dsimp only[jD,qc]
 have h0:∀{H':Hp},Same H H'->SqT K H' z [.str "clip",.str n,.ref z1,.ref z2,.int len]:=λe=>SqT.of (e _ _ e0);refine⟨_,O,_,_,_,true,O,.tup e0,⟨_,.inl ⟨O,by kernel_rfl⟩⟩,true,O,qv ?_⟩;refine⟨_,O,_,_,O,.inr (h0 (Same.refl _)),O,_,O,qv ?_⟩;refine⟨_,O,_,_,_,_,O,O,h0 (Same.refl _),qXu,O,_,O,qVl rfl ?_⟩;refine⟨_,O,_,_,_,_,O,O,h0 (Same.refl _),qEe,n,O,hn,λH1 s1=>⟨true,O,qv ?_⟩⟩;refine⟨_,O,_,_,_,_,O,O,h0 s1,qUn,z1,p,q,O,s1 _ _ e1,hq,gq,true,O,qv ?_⟩;refine⟨_,O,_,_,_,_,O,O,h0 s1,qLp,z2,r,s',O,s1 _ _ e2,hs,gs,true,O,qv ?_⟩;refine⟨_,O,_,_,_,_,O,O,h0 s1,qCs,len,O,true,O,jn ?_⟩;refine⟨_,O,_,_,_,_,O,O,h0 s1,qCs,_,_,O,O,?_⟩;have z:=kk H1 s1;rw[<-YX l1]at z;exact z
inductive qHv(K:W.Frag)(vs:List V)(H:Hp)(Q:VK)(_:XK):Prop
|mk (v:V) (rd:Addr) (n:Str) (p q r s l N:Int) (_:vs=[v,.ref rd]) (_:IsI H (.clip n p q r s l) v) (_:GF n p q r s l) (_:Reel H rd n N) (_:InR (Vk p q r s 0) (q*s) N) (_:InR (Vk p q r s (l-1)) (q*s) N) (_:∀H',Same H H'->Q .non H')
theorem qG3(T:Tx K mg a):FnOk P w K mg base CX0 6 a.A15 a.B15 ["item","reels"] (qHv K):=by
 refine oL T.D15.F qAr λ_ _ _ _ H _ _ _ hr h _ Y=>?_;obtain⟨v,rd,n,p,q,r,s',len,m,rfl,⟨z,x,y,rfl,hz,hx,hy⟩,⟨hn,hl,hb,gq,gs,l1,bl⟩,hrd,i0,i1,kg⟩:=h;apply Y;have hc:Ch H z n p q r s' len:=⟨⟨x,y,hz,hx,hy⟩⟩;have hu1:=qJ8 hr;refine⟨_,(qD (qZ (jK (qr (qI T.D11 (qDa T) hr rfl (qA (pv 0) qB)))) jc qN)
  (qD (qZ (zV (qA5 hu1 (qJ (pv 0)) (pv 1))) jc qN)
  (qD (qW 2 qAr.nd (kh hu1 (pv 1) (qJ (pv 0)) (λ_ _=>rfl)))
  (qF (qZ (PW.pt (jv (jK (qr (qI T.D14 (wx T) hr rfl (qA (qI T.D13 (xJ T) hr rfl (qA (pv 0) (qA qG qB))) (qA (pv 2) qB))))) (jL (jK (qr (qI T.D14 (wx T) hr rfl (qA (qI T.D13 (xJ T) hr rfl (qA (pv 0) (qA (qP jG (qJ (pv 0)) qG) qB))) (qA (pv 2) qB)))))))) jc qN))))),?_⟩
 try dsimp only[jD,qc]
 have hqs:=Yt hb.q0 hb.s0;have h0:∀{H':Hp},Same H H'->∃z1 z2,SqT K H' z [.str "clip",.str n,.ref z1,.ref z2,.int len]:=λe=>let ⟨z1,z2,h1,_,_⟩:=(hc.same e).ex;⟨z1,z2,SqT.of h1⟩
 refine⟨_,O,z,n,p,q,r,s',len,O,hc,hn,hb.q0,gq,hb.s0,gs,l1,λH1 s1=>⟨true,O,qv ?_⟩⟩;refine qS λ_ Y=>?_;obtain⟨z1,z2,t1⟩:=h0 s1;apply Y;refine⟨_,O,z,_,_,_,O,O,t1,qEe,_,O,rd,_,O,(hrd.same s1).get,_,O,qv ?_⟩;refine⟨_,O,_,O,z,_,_,_,O,O,t1,qEe,rd,_,O,(hrd.same s1).get,?_⟩;refine⟨_,O,_,n,p,q,r,s',len,0,O,(hc.same s1).cp,hb.q0,hb.s0,hb.bp,hb.bq,hb.br,hb.bs,qAx (n:=30) (by decide),λH2 s2=>?_⟩;have s2:=s1.trans s2;refine⟨_,O,_,m,O,_,O,?_⟩;have e:thB ((p*s'+0*r*q).fdiv (q*s')) m=true:=(qRv hqs).mpr i0;rw[e];refine qv ?_;refine qS λ_ Y=>?_;obtain⟨z1,z2,t2⟩:=h0 s2;apply Y;have bl1:(len-1).natAbs<2 ^ 700:=by exact YR (show _<2 ^ 31 by omega) (Yh (by decide) (by decide))
 refine⟨_,O,_,O,z,_,_,_,O,O,t2,qCs,_,_,O,O,_,n,p,q,r,s',len,len-1,O,(hc.same s2).cp,hb.q0,hb.s0,hb.bp,hb.bq,hb.br,hb.bs,bl1,λH3 s3=>?_⟩;have s3:=s2.trans s3;refine⟨_,O,_,m,O,_,O,?_⟩;have e:thB ((p*s'+(len-1)*r*q).fdiv (q*s')) m=true:=(qRv hqs).mpr i1;rw[e];exact qv (kg H3 s3)
abbrev Rls:=Str->Option Int
def ReelsAt(H:Hp)(rd:Addr)(rl:Rls):Prop:= ∀n N,rl n=some N->Reel H rd n N
theorem ReelsAt.same{H H':Hp}{rd:Addr}{rl:Rls}(e:Same H H')(h:ReelsAt H rd rl):ReelsAt H' rd rl:=λn N q=>(h n N q).same e
theorem qBg(T:Tx K mg a):FnOk P w K mg base CX0 1 a.fi_Short a.gi_Short ["self","most"] (qLk a.k_Short "most"):=by
 refine T.i_Short.ok qQn (λvs H Q E h=>?_) (λcdv A outer s H vs Q E hr h=>?_)
 . obtain⟨e,v,rfl,_⟩:=h
   rfl
 refine qS λ_ Y=>?_;obtain⟨e,v,rfl,he,kk⟩:=h;apply Y;refine⟨_,qF (qV3 (pv 0) (pv 1)),?_⟩;exact⟨_,O,_,O,e,_,_,O,he,T.m_Short.ov,T.m_Short.hd,T.m_Short.sa,T.tk_Short,kk⟩
inductive qF7(vs:List V)(H:Hp)(Q:VK)(_:XK):Prop
|mk (tz tl td:Addr) (zs:List V) (n t:Int) (_:vs=[.ref tz,.int n,.int t]) (_:H tz=some (.tup [.ref tl,.ref td])) (_:H tl=some (.lst zs)) (_:0<=n) (_:n<(zs.length:Int)) (_:0<=t) (_:Q .non H)
theorem wR(T:Tx K mg a):FnOk P w K mg base CX0 2 a.A47 a.B47 ["table","number","moment"] qF7:=by
 refine oL T.D47.F qGa λ_ _ _ _ H vs Q _ hr h _ Y=>?_;obtain⟨tz,tl,td,zs,n,t,rfl,htz,htl,h0,h1,h2,kg⟩:=h;apply Y;refine⟨_,(qD (qZ (PW.pt (jv (jK (qr (qI T.D0 (jA T) hr rfl (qA (pv 1) qB)))) (jv (qM zM (pv 1) qG (qO _)) (jL (qM qMh (pv 1) (qX jV rfl T.b_len rfl (qA (qJ (pv 0)) qB)) (qO _)))))) jc qN)
  (qF (qZ (PW.pt (jv (jK (qr (qI T.D0 (jA T) hr rfl (qA (pv 2) qB)))) (jL (qM zM (pv 2) qG (qO _))))) jc qN))),?_⟩
 try dsimp only[jD,qc]
 refine⟨_,O,n,O,true,O,qv ⟨_,O,_,_,O,O,_,O,qBd (YW (by omega)) ?_⟩⟩;refine⟨_,O,ixO htz at0 ⟨tl,_,O,.inl (SqL.of htl),_,_,O,O,_,O,qBd (YW (by omega)) ?_⟩⟩;exact⟨_,O,t,O,true,O,qv ⟨_,O,_,_,O,O,_,O,qBd (YW (by omega)) kg⟩⟩
inductive qLg(vs:List V)(H:Hp)(Q:VK)(_:XK):Prop
|mk (b:Int) (_:vs=[.int b]) (_:b.natAbs<=1000000) (_:Q .non H)
theorem qL8(T:Tx K mg a):FnOk P w K mg base CX0 2 a.A48 a.B48 ["by"] qLg:=by
 refine oL T.D48.F qL3 λ_ _ _ _ H vs Q _ hr h _ Y=>?_;obtain⟨b,rfl,hb,kg⟩:=h;apply Y;refine⟨_,(qF (qZ (PW.pt (jv (jK (qr (qI T.D0 (jA T) hr rfl (qA (pv 0) qB)))) (jL (qM qGh (qX qHq rfl T.b_abs rfl (qA (pv 0) qB)) (jQ (v:=.int 1000000) rfl T.g_MOST_BY ⟨_,O⟩) (qO _))))) jc qN)),?_⟩
 try dsimp only[jD,qc]
 refine⟨_,O,b,O,true,O,qv ⟨_,O,b,O,_,_,O,O,_,O,qBd (YW ?_) kg⟩⟩;split <;> omega
noncomputable def hmB(ms:List Im)(i:Int):Bool:=decide (qy ms (i-1)="mix") || decide (qy ms (i+1)="mix")
inductive qOf(vs:List V)(H:Hp)(Q:VK)(_:XK):Prop
|mk (z:Addr) (ms:List Im) (i:Int) (_:vs=[.ref z,.int i]) (_:Tr H z ms) (_:Q (.bl (hmB ms i)) H)
theorem qOx(T:Tx K mg a):FnOk P w K mg base CX0 2 a.A52 a.B52 ["track","place"] qOf:=by
 refine oL T.D52.F qOo λ_ _ _ _ H vs Q E hr h _ Y=>?_;obtain⟨z,ms,i,rfl,tT,q⟩:=h;apply Y;refine⟨_,(qF (qK (qYw (jH jM (qI T.D27 (jO T) hr rfl (qA (pv 0) (qA (qP jG (pv 1) qG) qB))) qR (qO _)) (kC (jH jM (qI T.D27 (jO T) hr rfl (qA (pv 0) (qA (qP qk (pv 1) qG) qB))) qR (qO _)))))),?_⟩
 try dsimp only[jD,qc]
 refine⟨_,O,_,O,_,_,O,O,z,ms,_,O,tT,O,_,O,?_⟩;unfold hmB at q;rw[qPf];by_cases h1:qy ms (i-1)="mix"
 . rw[YX h1]at q⊢
   exact jn q
 rw[YW h1]at q⊢;refine qv ⟨_,O,_,O,_,_,O,O,z,ms,_,O,tT,O,?_⟩;rw[qPf];exact q
noncomputable def qHp(b:Int):Int:=if b<0 then-b else b
noncomputable def sgM(b m:Int):Int:=if 0<b then m else-m
inductive qEo(S:Addr)(vs:List V)(H:Hp)(Q:VK)(E:XK):Prop
|mk (m b:Int) (_:vs=[.int m,.int b]) (_:(qHp b<=m->Q .non H)) (_:(¬qHp b<=m->∀(dx:Addr) (H':Hp),Same H H'->H' dx=some (.xd [("most",.int (sgM b m))])->E (.ref S) (some dx) H'))
theorem vR(T:Tx K mg a):FnOk P w K mg base (CXR P w) 3 a.A53 a.B53 ["most","by"] (qEo a.k_Short):=by
 refine oX T.D53.F qF1 λ_ _ _ s H vs Q _ hr h _ Y=>?_;obtain⟨m,b,rfl,kg,kb⟩:=h;apply Y;refine⟨_,(qF (qZ (qM qGh (qX qHq rfl T.b_abs rfl (qA (pv 1) qB)) (pv 0) (qO _)) (qF (qIs T.m_Short (qBg T) T.ib_Short (hr.mono (by decide)) rfl rfl T.c_Short (qA (kc (qM qGh (pv 1) qG (qO _)) (pv 0) (qE7 vW (pv 0))) qB))) qN)),?_⟩
 try dsimp only[jD,qc]
 refine⟨_,O,b,O,_,O,_,_,O,O,_,O,ja (λc=>?_) (λc=>?_)⟩
 . have c':¬qHp b<=m:=by
    have:(if b<0 then-b else b)>m:=by simpa using c
    unfold qHp;omega
   refine⟨_,O,_,_,O,O,_,O,ja (λcb=>?_) (λcb=>?_)⟩
   . have e:sgM b m=m:=by unfold sgM;exact YB (by simpa using cb)
     rw[e]at kb;exact⟨_,O,_,O,λdx hdx=>kb c' dx _ (qE hdx _) qC⟩
   . have e:sgM b m=-m:=by unfold sgM;exact YA (by simpa using cb)
     rw[e]at kb;exact⟨_,O,_,O,_,O,λdx hdx=>kb c' dx _ (qE hdx _) qC⟩
 . refine kg ?_
   have:¬(if b<0 then-b else b)>m:=by simpa using c
   unfold qHp;omega
inductive qKs(K:W.Frag)(vs:List V)(H:Hp)(Q:VK)(_:XK):Prop
|mk (v:V) (n:Str) (p q r s len lo hi:Int) (_:vs=[v,.int lo,.int hi]) (_:IsI H (.clip n p q r s len) v) (_:Bn 700 p q r s) (_:lo.natAbs<2 ^ 700) (_:∀(u:V) (H':Hp),Same H H'->IsI H' (.clip n (plP p q r s lo) (plQ p q r s lo) r s (hi-lo)) u->Q u H')
theorem zd(T:Tx K mg a):FnOk P w K mg base CX0 5 a.A16 a.B16 ["clip","low","high"] (qKs K):=by
 refine oL T.D16.F qIq λ_ _ _ s _ _ _ _ hr h _ Y=>?_;obtain⟨v,n,p,q,r,s',len,lo,hi,rfl,hI,⟨hq,hs,bp,bq,br,bs⟩,bl,kk⟩:=h;apply Y;refine⟨_,(qF (qK (qY (qA qR (qA (qJ (pv 0)) (qA (qI T.D12 (zI T) hr rfl (qA (pv 0) (qA (pv 1) qB))) (qA (qJ (pv 0)) (qA (qP jG (pv 2) (pv 1)) qB)))))))),?_⟩
 try dsimp only[jD,qc]
 refine qS λ_ Y=>?_;obtain⟨z,z1,z2,rfl,h0,h1,h2⟩:=id hI;apply Y;refine(ixO h0 qEe ⟨_,O,_,O,_,n,p,q,r,s',len,lo,O,qDp hI,hq,hs,bp,bq,br,bs,bl,λy H1 s1 e1=>?_⟩);refine(ixO (s1 _ _ h0) qLp ⟨_,O,_,O,_,_,O,O,sL5,λt ht=>?_⟩);have s2:=qE ht (.tup [.str "clip",.str n,.ref y,.ref z2,.int (hi-lo)]);exact kk _ _ (s1.trans s2) ⟨t,y,z2,O,qC,s2 _ _ e1,s2 _ _ (s1 _ _ h2)⟩
noncomputable def kZ(p q r s l N:Int):Int:=z9 (plP p q r s l*s) (1*r*plQ p q r s l) (plQ p q r s l*s) N
noncomputable def kP(p q r s N:Int):Int:=z9 (plP p q r s (-1)*s) (-1*r*plQ p q r s (-1)) (plQ p q r s (-1)*s) N
structure Rc(n:Str)(p q r s l:Int)(rl:Rls)(N:Int):Prop where
 g1:qWb 110 p q
 g2:qWb 110 r s
 bl:l.natAbs<2 ^ 30
 l1:1<=l
 rn:rl n=some N
 bN:N.natAbs<2 ^ 700
theorem Rc.bn{l:Int}(h:Rc n p q r s l rl N):Bn 110 p q r s:=⟨h.g1.1,h.g2.1,h.g1.2.2.1,h.g1.2.2.2,h.g2.2.2.1,h.g2.2.2.2⟩
noncomputable def qHd(b tl hd l l':Int):Int:=if 0<b then (if l'-1<tl then l'-1 else tl)else (if hd<l-1 then hd else l-1)
inductive qJ9(K:W.Frag)(vs:List V)(H:Hp)(Q:VK)(_:XK):Prop
|mk (v u:V) (b:Int) (rd:Addr) (rl:Rls) (n n':Str) (p q r s l N p' q' r' s' l' N':Int) (_:vs=[v,u,.int b,.ref rd]) (_:IsI H (.clip n p q r s l) v) (_:IsI H (.clip n' p' q' r' s' l') u) (_:Rc n p q r s l rl N) (_:Rc n' p' q' r' s' l' rl N') (_:ReelsAt H rd rl) (_:∀H',Same H H'->Q (.int (qHd b (kZ p q r s l N) (kP p' q' r' s' N') l l')) H')
theorem qJg(T:Tx K mg a):FnOk P w K mg base CX0 6 a.A55 a.B55 ["left","right","by","reels"] (qJ9 K):=by
 refine oL T.D55.F qKk λ_ _ _ _ _ _ _ _ hr h _ Y=>?_;obtain⟨v,u,b,rd,rl,n,n',p,q,r,s1,l,N,p',q',r',s2,l',N',rfl,hv,hu,c1,c2,hrl,kk⟩:=h;apply Y;refine⟨_,(qD (qZ (qM qGh (pv 2) qG (qO _)) (qF (qK (qX (zO rfl) rfl T.b_min rfl (qA (qI T.D20 (vJ T) hr rfl (qA (pv 0) (qA (pv 3) qB))) (qA (qP jG (qJ (pv 1)) qG) qB))))) qN)
  (qF (qK (qX (zO rfl) rfl T.b_min rfl (qA (qP jG (qJ (pv 0)) qG) (qA (qI T.D19 (vy T) hr rfl (qA (pv 1) (qA (pv 3) qB))) qB)))))),?_⟩
 try dsimp only[jD,qc]
 unfold qHd at kk;refine⟨_,O,_,_,O,O,_,O,ja (λc=>?_) (λc=>?_)⟩
 . rw[YB (by simpa using c)]at kk
   refine qS λ_ Y=>?_;obtain⟨zu,xu,yu,rfl,hzu,_⟩:=id hu;apply Y;refine⟨_,O,_,O,v,n,p,q,r,s1,l,N,rd,O,qDp hv,c1.g1,c1.g2,c1.bl,hrl _ _ c1.rn,c1.bN,λH1 e1=>?_⟩;exact(ixO (e1 _ _ hzu) qCs ⟨_,_,O,O,_,_,O,kk H1 e1⟩)
 . rw[YA (by simpa using c)]at kk
   refine qS λ_ Y=>?_;obtain⟨zv,xv,yv,rfl,hzv,_⟩:=id hv;apply Y;refine(ixO hzv qCs ⟨_,_,O,O,?_⟩);refine⟨_,O,_,O,u,n',p',q',r',s2,l',N',rd,O,qDp hu,c2.g1,c2.g2,hrl _ _ c2.rn,c2.bN,λH1 e1=>?_⟩;exact⟨_,_,O,kk H1 e1⟩
theorem IsIs.set{H:Hp}:∀{ms:List Im} {vs:List V} {i:Nat} {m:Im} {v:V},IsIs H ms vs->IsI H m v->IsIs H (ms.set i m) (vs.set i v)
 |[],[],_,_,_,_,_=>trivial
 |_::_,_::_,0,_,_,h,h'=>⟨h',h.2⟩
 |_::_,_::_,_+1,_,_,h,h'=>⟨h.1,h.2.set h'⟩
 |[],_::_,_,_,_,h,_=>h.elim
 |_::_,[],_,_,_,h,_=>h.elim
theorem qHl{n i:Nat}(h:i<n):ixN n (i:Int)=some i:=by unfold ixN;rw[YB (by omega),YB (by omega)];congr 1
noncomputable def qVf(ms:List Im)(i j:Nat)(b:Int)(n:Str)(p q r s l:Int)(n':Str)(p' q' r' s' l':Int):List Im:=(ms.set i (.clip n p q r s (l+b))).set j (.clip n' (plP p' q' r' s' b) (plQ p' q' r' s' b) r' s' (l'-b))
inductive wL(S:Addr)(vs:List V)(H:Hp)(Q:VK)(E:XK):Prop
|mk (z rd:Addr) (ms:List Im) (i j:Nat) (b:Int) (rl:Rls) (n n':Str) (p q r s l N p' q' r' s' l' N':Int) (_:vs=[.ref z,.int (i:Int),.int (j:Int),.int b,.ref rd]) (_:Tr H z ms) (_:ms.length<=300) (_:ms[i]?=some (.clip n p q r s l)) (_:ms[j]?=some (.clip n' p' q' r' s' l')) (_:Rc n p q r s l rl N) (_:Rc n' p' q' r' s' l' rl N') (_:ReelsAt H rd rl) (_:b.natAbs<=1000000) (_:(qHp b<=qHd b (kZ p q r s l N) (kP p' q' r' s' N') l l'->∀(y:Addr) (H':Hp),Same H H'->H y=none->Tr H' y (qVf ms i j b n p q r s l n' p' q' r' s' l')->Q (.ref y) H')) (_:(¬qHp b<=qHd b (kZ p q r s l N) (kP p' q' r' s' N') l l'->∀(dx:Addr) (H':Hp),Same H H'->H' dx=some (.xd [("most",.int (sgM b (qHd b (kZ p q r s l N) (kP p' q' r' s' N') l l')))])->E (.ref S) (some dx) H'))
theorem wK(T:Tx K mg a):FnOk P w K mg base (CXR P w) 7 a.A57 a.B57 ["track","first","last","by","reels"] (wL a.k_Short):=by
 refine oX T.D57.F jX λ_ _ _ _ H vs _ _ hr h _ Y=>?_;obtain⟨z,rd,ms,i,j,b,rl,n,n',p,q,r,s1,l,N,p',q',r',s2,l',N',rfl,tT,hln,hi,hj,c1,c2,hrl,hb,kg,kb⟩:=h;apply Y;refine⟨_,(qD (qW 5 jX.nd (jN qh (pv 0) (pv 1) (λ_ _=>rfl)))
  (qD (qW 6 jX.nd (jN qh (pv 0) (pv 2) (λ_ _=>rfl)))
  (qD (jR (xn T.D53 (vR T) hr rfl (qA (qI T.D55 (qJg T) hr rfl (qA (pv 5) (qA (pv 6) (qA (pv 3) (qA (pv 4) qB))))) (qA (pv 3) qB))))
  (qD (qW 7 jX.nd (jw xh rfl T.b_list rfl (qA (pv 0) qB)))
  (qD (qJw (qI T.D16 (zd T) hr rfl (qA (pv 5) (qA qG (qA (qP qk (qJ (pv 5)) (pv 3)) qB)))) (qMu (pv 7) (pv 1) qDs))
  (qD (qJw (qI T.D16 (zd T) hr rfl (qA (pv 6) (qA (pv 3) (qA (qJ (pv 6)) qB)))) (qMu (pv 7) (pv 2) qDs))
  (qF (qK (pv 7))))))))),?_⟩
 try dsimp only[jD,qc]
 refine qS λ_ Y=>?_;obtain⟨vs,hz,his⟩:=id tT;obtain⟨va,hva,Ia⟩:=his.get' hi;obtain⟨vb,hvb,Ib⟩:=his.get' hj;apply Y;have hlv:=his.len;have li:i<vs.length:=(glt hva);have lj:j<vs.length:=(glt hvb);refine⟨_,O,_,O,z,_,_,_,O,O,SqL.of hz,qz hva,?_⟩;refine⟨_,O,_,O,z,_,_,_,O,O,SqL.of hz,qz hvb,?_⟩;refine⟨_,O,_,O,_,O,_,O,va,vb,b,rd,rl,n,n',p,q,r,s1,l,N,p',q',r',s2,l',N',O,Ia,Ib,c1,c2,hrl,λH1 e1=>?_⟩;refine⟨_,O,_,b,O,λhc=>?_,λhc dx H' e' hdx=>kb hc dx H' (e1.trans e') hdx⟩;refine⟨_,O,z,vs,O,.inl (SqL.of (e1 _ _ hz)),λy hy=>?_⟩;have w2:=qE hy (.lst vs);have e2:=e1.trans w2;have hy0:H y=none:=by
  cases q0:H y with
  |none=>rfl
  |some o=>rw[e1 _ _ q0]at hy;cases hy
 refine qS λ_ Y=>?_;obtain⟨za,xa,ya,rfl,hza,hxa,hya⟩:=id Ia;apply Y;have b1:=c1.bn.mono (m:=700);have b2:=c2.bn.mono (m:=700);have bb7:b.natAbs<2 ^ 700:=Yd hb (by decide);have hy2:upd H1 y (.lst vs) y=some (.lst vs):=qC;generalize upd H1 y (.lst vs)=H2 at w2 e2 hy2⊢;refine⟨_,O,ixO (e2 _ _ hza) qCs ⟨_,O,_,_,O,O,_,n,p,q,r,s1,l,0,_,O,Ia.ts (qd e2),b1,by decide,λu H3 e3 I3=>?_⟩⟩;rw[(qHk c1.bn.q0 c1.bn.s0 c1.g1.2.1).1,(qHk c1.bn.q0 c1.bn.s0 c1.g1.2.1).2,ZQ]at I3;refine⟨_,O,_,O,y,vs,_,i,O,O,e3 _ _ hy2,qHl li,?_⟩;have e4:Same H (upd H3 y (.lst (vs.set i u))):=xG (e2.trans e3) hy0;have t4:TS H3 (upd H3 y (.lst (vs.set i u))):=z6 (e3 _ _ hy2);have hy4:upd H3 y (.lst (vs.set i u)) y=some (.lst (vs.set i u)):=qC;have I4:=I3.ts t4;have is4:=(his.ts (qd e4)).set (i:=i) I4;generalize upd H3 y (.lst (vs.set i u))=H4 at e4 hy4 I4 is4⊢;refine qS λ_ Y=>?_;obtain⟨zb,xb,yb,rfl,hzb,hxb,hyb⟩:=id Ib;apply Y;refine⟨_,O,_,O,ixO (e4 _ _ hzb) qCs ⟨_,n',p',q',r',s2,l',b,_,O,Ib.ts (qd e4),b2,bb7,λu' H5 e5 I5=>?_⟩⟩;refine⟨_,O,_,O,y,_,_,j,O,O,e5 _ _ hy4,qHl (by rw[ZL];exact lj),?_⟩;have e6:Same H (upd H5 y (.lst ((vs.set i u).set j u'))):=xG (e4.trans e5) hy0;have t6:TS H5 (upd H5 y (.lst ((vs.set i u).set j u'))):=z6 (e5 _ _ hy4);exact⟨_,O,kg hc y _ e6 hy0 ⟨_,qC,((is4.ts (qd e5)).ts t6).set (I5.ts t6)⟩⟩
theorem TrsAt.set{H:Hp}:∀{ts:List (List Im)} {vs:List V} {i:Nat} {ms:List Im} {z:Addr},TrsAt H ts vs->Tr H z ms->TrsAt H (ts.set i ms) (vs.set i (.ref z))
 |[],[],_,_,_,_,_=>trivial
 |_::_,_::_,0,_,z,h,h'=>⟨⟨z,rfl,h'⟩,h.2⟩
 |_::_,_::_,_+1,_,_,h,h'=>⟨h.1,h.2.set h'⟩
 |[],_::_,_,_,_,h,_=>h.elim
 |_::_,[],_,_,_,h,_=>h.elim
inductive qGz(vs:List V)(H:Hp)(Q:VK)(_:XK):Prop
|mk (tz y:Addr) (n:Nat) (ts:List (List Im)) (tie:List Int) (ms:List Im) (_:vs=[.ref tz,.int (n:Int),.ref y]) (_:TabF H (.ref tz) ts tie) (_:Tr H y ms) (_:n<ts.length) (_:ts.length<=300) (_:∀(t:Addr) (H':Hp),Same H H'->TabF H' (.ref t) (ts.set n ms) tie->Q (.ref t) H')
theorem jp(T:Tx K mg a):FnOk P w K mg base CX0 1 a.A58 a.B58 ["table","number","track"] qGz:=by
 refine oL T.D58.F qAp λ_ _ _ _ H _ _ _ hr h _ Y=>?_;obtain⟨tz,y,n,ts,tie,ms,rfl,⟨tt,tl,ti,zs,e0,h2,h3,h4,h5⟩,hy,hn,hl,kk⟩:=h;cases e0;apply Y;have hzl:=h4.len;refine⟨_,(qD (qUu (i:=3) [] [] qAp.nd rfl rfl rfl (jl (qJ (pv 0))) (λ_ _ _ _=>(jw (qHm (K:=K) rfl) rfl T.b_list rfl (qA (pv 0) qB))))
  (qD (qJw (pv 2) (qMu (pv 3) (pv 1) qDs))
  (qF (qK (qY (qA (pv 3) (qA (jw xh rfl T.b_list rfl (qA (qJ (pv 0)) qB)) qB))))))),?_⟩
 try dsimp only[jD,qc]
 refine(ixO h2 at0 ⟨tl,O,⟨_,SqL.of h3⟩,qFf (K:=K) (a:=tl) (xs:=zs) (λj acc H2=>TrsAt H2 (ts.take j) acc/\Same H H2) ⟨trivial,Same.refl _⟩ ?_ ?_ ?_⟩)
 . rintro j acc H2 hj ⟨ht,e2⟩
   exact⟨SqL.of (e2 _ _ h3),qj (by rw[ht.len,Yk];omega)⟩
 . rintro j x acc H2 hj hx ⟨ht,e2⟩
   refine qS λ_ Y=>?_;obtain⟨ms1,z,hms,rfl,us,hz,his⟩:=h4.get hx;apply Y;refine⟨_,O,z,us,O,.inl (SqL.of (e2 _ _ hz)),λl hl'=>Nxt.mk hj ⟨?_,e2.trans (qE hl' _)⟩⟩;have w3:=qE hl' (.lst us);have etk:ts.take (j+1)=ts.take j++[ms1]:=by rw[Ys,hms];rfl
   rw[etk];exact qRb (ht.same w3) ⟨us,qC,his.ts (qd (e2.trans w3))⟩
 rintro acc H2 ⟨ht,e2⟩ d hd;rw[hzl,Yw]at ht;refine⟨_,O,_,O,_,O,d,acc,_,n,O,O,qC,qHl (by rw[ht.len];exact hn),?_⟩;rw[qIj];have w4:=qE hd (.lst (acc.set n (.ref y)));have e4:=e2.trans w4;refine⟨_,O,ixO (e4 _ _ h2) at1 ⟨ti,_,O,.inl (SqL.of (e4 _ _ h5)),λl hl'=>⟨sL2,λt ht'=>?_⟩⟩⟩;have w5:=qE hl' (.lst (tie.map V.int));have w6:=qE ht' (.tup [.ref d,.ref l]);have w56:=w5.trans w6;exact kk t _ (e4.trans w56) ⟨t,d,l,_,O,qC,w56 _ _ qC,((ht.same w4).set (hy.same e4)).same w56,w6 _ _ qC⟩
theorem qF8:atI [x0,x1,x2,x3] 0=some x0:=rfl
theorem qHj:atI [x0,x1,x2,x3] 1=some x1:=rfl
theorem qCq:atI [x0,x1,x2,x3] 2=some x2:=rfl
theorem qAs:atI [x0,x1,x2,x3] 3=some x3:=rfl
theorem qS6:atI [x0] 0=some x0:=rfl
inductive qFd(vs:List V)(H:Hp)(Q:VK)(_:XK):Prop
|mk (z:Addr) (ms:List Im) (i:Int) (_:vs=[.ref z,.int i]) (_:Tr H z ms) (_:Q (.int (if qy ms (i+1)="mix" then i+2 else i+1)) H)
theorem qFo(T:Tx K mg a):FnOk P w K mg base CX0 2 a.A29 a.B29 ["track","place"] qFd:=by
 refine oL T.D29.F qEy λ_ _ _ s H vs Q _ hr h _ Y=>?_;obtain⟨z,ms,i,rfl,tT,q⟩:=h;apply Y;refine⟨_,(qF (qK (kc (qM jM (qI T.D27 (jO T) hr rfl (qA (pv 0) (qA (qP qk (pv 1) qG) qB))) qR (qO _)) (qP qk (pv 1) qG) (qP qk (pv 1) qG)))),?_⟩
 try dsimp only[jD,qc]
 refine⟨_,O,_,O,_,_,O,O,z,ms,_,O,tT,O,_,O,ja (λc=>?_) (λc=>?_)⟩
 . rw[YB (by simpa using c)]at q
   exact⟨_,O,_,_,O,O,q⟩
 . rw[YA (by simpa using c)]at q
   exact⟨_,O,_,_,O,O,q⟩
inductive qJ3(K:W.Frag)(vs:List V)(H:Hp)(Q:VK)(_:XK):Prop
|mk (v:V) (b:Int) (rd:Addr) (rl:Rls) (n:Str) (p q r s l N:Int) (_:vs=[v,.int b,.ref rd]) (_:IsI H (.clip n p q r s l) v) (_:Rc n p q r s l rl N) (_:ReelsAt H rd rl) (_:∀H',Same H H'->Q (.int (if 0<b then kZ p q r s l N else kP p q r s N)) H')
theorem qI3(T:Tx K mg a):FnOk P w K mg base CX0 6 a.A54 a.B54 ["clip","by","reels"] (qJ3 K):=by
 refine oL T.D54.F qKm λ_ _ _ s H vs Q E hr h _ Y=>?_;obtain⟨v,b,rd,rl,n,p,q,r,s1,l,N,rfl,hv,c1,hrl,kk⟩:=h;apply Y;refine⟨_,(qF (qK (kc (qM qGh (pv 1) qG (qO _)) (qI T.D20 (vJ T) hr rfl (qA (pv 0) (qA (pv 2) qB))) (qI T.D19 (vy T) hr rfl (qA (pv 0) (qA (pv 2) qB)))))),?_⟩
 try dsimp only[jD,qc]
 refine⟨_,O,_,_,O,O,_,O,ja (λc=>?_) (λc=>?_)⟩
 . refine⟨_,O,_,O,v,n,p,q,r,s1,l,N,rd,O,qDp hv,c1.g1,c1.g2,c1.bl,hrl _ _ c1.rn,c1.bN,λH1 e1=>?_⟩
   have:=kk H1 e1;rw[YB (by simpa using c)]at this;exact this
 . refine⟨_,O,_,O,v,n,p,q,r,s1,l,N,rd,O,qDp hv,c1.g1,c1.g2,hrl _ _ c1.rn,c1.bN,λH1 e1=>?_⟩
   have:=kk H1 e1;rw[YA (by simpa using c)]at this;exact this
inductive qL2(S:Addr)(vs:List V)(H:Hp)(Q:VK)(E:XK):Prop
|mk (z rd:Addr) (ms:List Im) (i:Nat) (b:Int) (rl:Rls) (n:Str) (p q r s l N:Int) (_:vs=[.ref z,.int (i:Int),.int b,.ref rd]) (_:Tr H z ms) (_:ms.length<=300) (_:ms[i]?=some (.clip n p q r s l)) (_:Rc n p q r s l rl N) (_:ReelsAt H rd rl) (_:b.natAbs<=1000000) (_:(qHp b<=(if 0<b then kZ p q r s l N else kP p q r s N)->∀(y:Addr) (H':Hp),Same H H'->H y=none->Tr H' y (ms.set i (.clip n (plP p q r s b) (plQ p q r s b) r s l))->Q (.ref y) H')) (_:(¬qHp b<=(if 0<b then kZ p q r s l N else kP p q r s N)->∀(dx:Addr) (H':Hp),Same H H'->H' dx=some (.xd [("most",.int (sgM b (if 0<b then kZ p q r s l N else kP p q r s N)))])->E (.ref S) (some dx) H'))
theorem qMf(T:Tx K mg a):FnOk P w K mg base (CXR P w) 7 a.A56 a.B56 ["track","place","by","reels"] (qL2 a.k_Short):=by
 refine oX T.D56.F qBw λ_ _ _ _ H vs _ _ hr h _ Y=>?_;obtain⟨z,rd,ms,i,b,rl,n,p,q,r,s1,l,N,rfl,tT,hln,hi,c1,hrl,hb,kg,kb⟩:=h;apply Y;refine⟨_,(qD (qW 4 qBw.nd (jN qh (pv 0) (pv 1) (λ_ _=>rfl)))
  (qD (jR (xn T.D53 (vR T) hr rfl (qA (qI T.D54 (qI3 T) hr rfl (qA (pv 4) (qA (pv 2) (qA (pv 3) qB)))) (qA (pv 2) qB))))
  (qD (qW 5 qBw.nd (jw xh rfl T.b_list rfl (qA (pv 0) qB)))
  (qD (qJw (qI T.D16 (zd T) hr rfl (qA (pv 4) (qA (pv 2) (qA (qP qk (pv 2) (qJ (pv 4))) qB)))) (qMu (pv 5) (pv 1) qDs))
  (qF (qK (pv 5))))))),?_⟩
 try dsimp only[jD,qc]
 refine qS λ_ Y=>?_;obtain⟨vs,hz,his⟩:=id tT;obtain⟨va,hva,Ia⟩:=his.get' hi;apply Y;have hlv:=his.len;have li:i<vs.length:=(glt hva);refine⟨_,O,_,O,z,_,_,_,O,O,SqL.of hz,qz hva,?_⟩;refine⟨_,O,_,O,_,O,va,b,rd,rl,n,p,q,r,s1,l,N,O,Ia,c1,hrl,λH1 e1=>?_⟩;refine⟨_,O,_,b,O,λhc=>?_,λhc dx H' e' hdx=>kb hc dx H' (e1.trans e') hdx⟩;refine⟨_,O,z,vs,O,.inl (SqL.of (e1 _ _ hz)),λy hy=>?_⟩;have w2:=qE hy (.lst vs);have e2:=e1.trans w2;have hy0:H y=none:=e1.free hy;refine qS λ_ Y=>?_;obtain⟨za,xa,ya,rfl,hza,hxa,hya⟩:=id Ia;apply Y;have b1:=c1.bn.mono (m:=700);have bb7:b.natAbs<2 ^ 700:=Yd hb (by decide);have hy2:upd H1 y (.lst vs) y=some (.lst vs):=qC;generalize upd H1 y (.lst vs)=H2 at w2 e2 hy2⊢;refine⟨_,O,_,O,_,O,ixO (e2 _ _ hza) qCs ⟨_,_,O,O,_,n,p,q,r,s1,l,b,_,O,Ia.ts (qd e2),b1,bb7,λu H3 e3 I3=>?_⟩⟩;rw[show b+l-b=l by omega]at I3;refine⟨_,O,_,O,y,vs,_,i,O,O,e3 _ _ hy2,qHl li,?_⟩;have e4:Same H (upd H3 y (.lst (vs.set i u))):=xG (e2.trans e3) hy0;have t4:TS H3 (upd H3 y (.lst (vs.set i u))):=z6 (e3 _ _ hy2);exact⟨_,O,kg hc y _ e4 hy0 ⟨_,qC,(his.ts (qd e4)).set (i:=i) (I3.ts t4)⟩⟩
noncomputable def paF(ms:List Im)(i:Int):Int:=if qy ms (i-1)="mix" then i-2 else i-1
noncomputable def pbF(ms:List Im)(i:Int):Int:=if qy ms (i+1)="mix" then i+2 else i+1
noncomputable def ctF(ms:List Im)(t:Int):Option Nat:=match xf 0 0 ms t with
 |some (i,_)=>if qy ms (i:Int)="clip" then some i else none
 |none=>none
noncomputable def csF(ms:List Im)(t:Int):Option (List Int):=match ctF ms t with
 |some i=>if qy ms (paF ms i)="clip"/\qy ms (pbF ms i)="clip" then some [paF ms i,(i:Int),pbF ms i]else none
 |none=>none
def qZc(H:Hp)(Q:VK)(r:Option (List Int)):Prop:=match r with
 |none=> ∀H',Same H H'->Q .non H'
 |some is=> ∀(p:Addr) (H':Hp),Same H H'->H' p=some (.tup (is.map V.int))->Q (.ref p) H'
noncomputable def plF(wd:Str)(ms:List Im)(t:Int):Option (List Int):=if wd="roll" then (cbF ms t).map (λp=>[p.1,p.2])else if wd="slip" then (ctF ms t).map (λi=>[(i:Int)])else csF ms t
inductive qIh(vs:List V)(H:Hp)(Q:VK)(_:XK):Prop
|mk (z:Addr) (ms:List Im) (t:Int) (_:vs=[.ref z,.int t]) (_:Tr H z ms) (_:qZc H Q ((ctF ms t).map λi=>[(i:Int)]))
theorem qA2(T:Tx K mg a):FnOk P w K mg base CX0 4 a.A49 a.B49 ["track","moment"] qIh:=by
 refine oL T.D49.F qA6 λ_ _ _ _ H vs Q _ hr h _ Y=>?_;obtain⟨z,ms,t,rfl,tT,kk⟩:=h;apply Y;refine⟨_,(qD (qW 2 qA6.nd (qI T.D26 (v9 T) hr rfl (qA (pv 0) (qA (pv 1) qB))))
  (qD (qZ (PW.pt (jv (zV (wO (pv 2))) (jL (qM z7 (qI T.D27 (jO T) hr rfl (qA (pv 0) (qA (qJ (pv 2)) qB))) qR (qO _))))) (qF (qK vM)) qN)
  (qF (qK (qY (qA (qJ (pv 2)) qB)))))),?_⟩
 try dsimp only[jD,qc]
 refine⟨_,O,_,O,z,ms,_,O,tT,?_⟩;unfold ctF at kk;cases hit:xf 0 0 ms t with
 |none=>
  rw[hit]at kk;intro H1 e1;exact⟨_,O,_,O,wo (by decide) (jn (kk H1 e1))⟩
 |some r=>
  obtain⟨i,d⟩:=r;rw[hit]at kk;dsimp only at kk;intro p H1 e1 hp;refine⟨_,O,_,O,ja (λc=>YC c (by simp)) (λ_=>?_)⟩;refine⟨_,O,ixO hp at0 ⟨z,ms,_,O,tT.same e1,O,_,O,ja (λc=>?_) (λc=>?_)⟩⟩
  . have hk:¬qy ms (i:Int)="clip":=by simpa using c
    rw[YA hk]at kk;exact kk H1 e1
  . have hk:qy ms (i:Int)="clip":=by simpa using c
    rw[YB hk]at kk;refine(ixO hp at0 ⟨sL1,λq hq=>?_⟩);exact kk q _ (e1.trans (qE hq _)) qC
inductive qBr(vs:List V)(H:Hp)(Q:VK)(_:XK):Prop
|mk (z:Addr) (ms:List Im) (t:Int) (_:vs=[.ref z,.int t]) (_:Tr H z ms) (_:qZc H Q (csF ms t))
theorem qCh(T:Tx K mg a):FnOk P w K mg base CX0 5 a.A50 a.B50 ["track","moment"] qBr:=by
 refine oL T.D50.F ju λ_ _ _ _ H vs Q _ hr h _ Y=>?_;obtain⟨z,ms,t,rfl,tT,kk⟩:=h;apply Y;refine⟨_,(qD (qW 2 ju.nd (qI T.D49 (qA2 T) hr rfl (qA (pv 0) (qA (pv 1) qB))))
  (qD (qZ (zV (wO (pv 2))) (qF (qK vM)) qN)
  (qD (qW 3 ju.nd (qI T.D28 (wM T) hr rfl (qA (pv 0) (qA (qJ (pv 2)) qB))))
  (qD (qW 4 ju.nd (qI T.D29 (qFo T) hr rfl (qA (pv 0) (qA (qJ (pv 2)) qB))))
  (qD (qZ (PW.pt (jv (qM z7 (qI T.D27 (jO T) hr rfl (qA (pv 0) (qA (pv 3) qB))) qR (qO _)) (jL (qM z7 (qI T.D27 (jO T) hr rfl (qA (pv 0) (qA (pv 4) qB))) qR (qO _))))) (qF (qK vM)) qN)
  (qF (qK (qY (qA (pv 3) (qA (qJ (pv 2)) (qA (pv 4) qB))))))))))),?_⟩
 try dsimp only[jD,qc]
 refine⟨_,O,_,O,z,ms,_,O,tT,?_⟩;unfold csF at kk;cases hc:ctF ms t with
 |none=>
  rw[hc]at kk;intro H1 e1;exact⟨_,O,_,O,wo (by decide) (kk H1 e1)⟩
 |some i=>
  rw[hc]at kk;dsimp only at kk;unfold paF pbF at kk;intro p H1 e1 hp1;refine⟨_,O,_,O,ja (λc=>YC c (by simp)) (λ_=>?_)⟩;refine⟨_,O,ixO hp1 qS6 ⟨z,ms,_,O,tT.same e1,?_⟩⟩;refine⟨_,O,ixO hp1 qS6 ⟨z,ms,_,O,tT.same e1,?_⟩⟩;generalize (if qy ms ((i:Int)-1)="mix" then (i:Int)-2 else (i:Int)-1)=L at kk⊢;generalize (if qy ms ((i:Int)+1)="mix" then (i:Int)+2 else (i:Int)+1)=R at kk⊢;refine⟨_,O,_,O,z,ms,_,O,tT.same e1,O,_,O,ja (λc=>?_) (λc=>?_)⟩
  . have hk:¬qy ms L="clip":=by simpa using c
    rw[YA (λz=>hk z.1)]at kk;exact jn (kk H1 e1)
  have hk1:qy ms L="clip":=by simpa using c
  refine⟨_,O,_,O,z,ms,_,O,tT.same e1,O,_,O,ja (λc=>?_) (λc=>?_)⟩
  . have hk:¬qy ms R="clip":=by simpa using c
    rw[YA (λz=>hk z.2)]at kk;exact kk H1 e1
  have hk2:qy ms R="clip":=by simpa using c
  rw[YB ⟨hk1,hk2⟩]at kk;refine⟨_,O,ixO hp1 qS6 ⟨_,O,sL3,λq hq=>?_⟩⟩;exact kk q _ (e1.trans (qE hq _)) qC
def Wd3(wd:Str):Prop:=wd="roll"\/wd="slip"\/wd="slide"
inductive qFg(vs:List V)(H:Hp)(Q:VK)(_:XK):Prop
|mk (z dz:Addr) (ms:List Im) (n b:V) (t:Int) (wd:Str) (_:vs=[.ref z,.ref dz]) (_:Tr H z ms) (_:H dz=some (.tup [.str wd,n,.int t,b])) (_:Wd3 wd) (_:qZc H Q (plF wd ms t))
theorem qFb(T:Tx K mg a):FnOk P w K mg base CX0 6 a.A51 a.B51 ["track","deed"] qFg:=by
 refine oL T.D51.F qDy λ_ _ _ _ _ _ _ _ hr h _ Y=>?_;obtain⟨z,dz,ms,n,b,t,wd,rfl,tT,hd,hw,kk⟩:=h;apply Y;refine⟨_,(qD (qZ (qM jM (qJ (pv 1)) qR (qO _)) (qF (qK (qI T.D31 (je T) hr rfl (qA (pv 0) (qA (qJ (pv 1)) qB))))) qN)
  (qD (qZ (qM jM (qJ (pv 1)) qR (qO _)) (qF (qK (qI T.D49 (qA2 T) hr rfl (qA (pv 0) (qA (qJ (pv 1)) qB))))) qN)
  (qD (qZ (qM jM (qJ (pv 1)) qR (qO _)) (qF (qK (qI T.D50 (qCh T) hr rfl (qA (pv 0) (qA (qJ (pv 1)) qB))))) qN)
  (qF (qK vM))))),?_⟩
 try dsimp only[jD,qc]
 unfold plF at kk;rcases hw with rfl|rfl|rfl
 . rw[YB rfl]at kk
   refine(ixO hd qF8 ⟨O,_,O,jn ?_⟩);refine⟨_,O,ixO hd qCq ⟨z,ms,t,O,tT,?_⟩⟩;cases hc:cbF ms t with
   |none=>rw[hc]at kk;exact kk
   |some r=>obtain⟨i,j⟩:=r;rw[hc]at kk;exact kk
 . rw[YA (by decide+kernel),YB rfl]at kk
   refine(ixO hd qF8 ⟨O,_,O,qv ?_⟩);refine(ixO hd qF8 ⟨O,_,O,jn ?_⟩);exact⟨_,O,ixO hd qCq ⟨z,ms,t,O,tT,kk⟩⟩
 . rw[YA (by decide+kernel),YA (by decide+kernel)]at kk
   refine(ixO hd qF8 ⟨O,_,O,qv ?_⟩);refine(ixO hd qF8 ⟨O,_,O,qv ?_⟩);refine(ixO hd qF8 ⟨O,_,O,jn ?_⟩);exact⟨_,O,ixO hd qCq ⟨z,ms,t,O,tT,kk⟩⟩
theorem j2{x:Int}(h:qy ms x="clip"):∃(i:Nat) (n:Str) (p q r s l:Int),x=(i:Int)/\ms[i]?=some (.clip n p q r s l):=by
 unfold qy at h;split at h
 . exact YC h (by decide+kernel)
 . rename_i h0
   cases hm:ms[x.toNat]? with
   |none=>rw[hm]at h;exact YC h (by decide+kernel)
   |some m=>
    rw[hm]at h;dsimp only at h;cases m with
    |clip n p q r s l=>exact⟨x.toNat,n,p,q,r,s,l,by omega,hm⟩
    |gap=>exact YC (show ("gap":Str)="clip" from h) (by decide+kernel)
    |nest=>exact YC (show ("nest":Str)="clip" from h) (by decide+kernel)
    |mix=>exact YC (show ("mix":Str)="clip" from h) (by decide+kernel)
noncomputable def j9(ms:List Im)(x:Int):Im:=(ms[x.toNat]?).getD (.gap 0)
noncomputable def qVk(rl:Rls)(m:Im)(b:Int):Int:=match m with
 |.clip n p q r s l=>(match rl n with
  |some N=>if 0<b then kZ p q r s l N else kP p q r s N
  |none=>0)
 |_=>0
noncomputable def qWi(rl:Rls)(m m':Im)(b:Int):Int:=match m,m' with
 |.clip n p q r s l,.clip n' p' q' r' s' l'=>(match rl n,rl n' with
  |some N,some N'=>qHd b (kZ p q r s l N) (kP p' q' r' s' N') l l'
  |_,_=>0)
 |_,_=>0
noncomputable def qR4(rl:Rls)(ms:List Im)(wd:Str)(is:List Int)(b:Int):Int:=if wd="slip" then qVk rl (j9 ms (is.headD 0)) b else qWi rl (j9 ms (is.headD 0)) (j9 ms (is.getLastD 0)) b
noncomputable def qUo(ms:List Im)(wd:Str)(is:List Int)(b:Int):List Im:=if wd="slip" then (match j9 ms (is.headD 0)with
 |.clip n p q r s l=>ms.set (is.headD 0).toNat (.clip n (plP p q r s b) (plQ p q r s b) r s l)
 |_=>ms)
 else match j9 ms (is.headD 0),j9 ms (is.getLastD 0)with
  |.clip n p q r s l,.clip n' p' q' r' s' l'=>qVf ms (is.headD 0).toNat (is.getLastD 0).toNat b n p q r s l n' p' q' r' s' l'
  |_,_=>ms
theorem kY{t:Int}(h:cbF ms t=some (i,j)):qy ms i="clip"/\qy ms j="clip":=by
 unfold cbF at h;split at h
 . split at h
   . rename_i c;cases h;exact c
   . cases h
 . cases h
theorem qYo{t:Int}(h:cbF ms t=some (i,j)):i<j:=by
 unfold cbF at h;split at h
 . rename_i hn
   split at h
   . cases h
     unfold nbF at hn;split at hn
     . split at hn
       . cases hn
       . cases hn
         split <;> omega
     . cases hn
   . cases h
 . cases h
def qZz(rl:Rls)(ms:List Im)(w:Str)(is:List Int):Prop:=is.length<=3/\∃(i j:Nat) (n:Str) (p q r s l N:Int) (n':Str) (p' q' r' s' l' N':Int),i<j/\(i:Int)∈is/\(j:Int)∈is/\atI (is.map V.int) 0=some (.int (i:Int))/\atI (is.map V.int) (-1)=some (.int (j:Int))/\ms[i]?=some (.clip n p q r s l)/\ms[j]?=some (.clip n' p' q' r' s' l')/\rl n=some N/\rl n'=some N'/\
 ∀b,qR4 rl ms w is b=qHd b (kZ p q r s l N) (kP p' q' r' s' N') l l'/\qUo ms w is b=qVf ms i j b n p q r s l n' p' q' r' s' l'
theorem qZ4{w:Str}{t:Int}{is:List Int}(hc:∀n p q r s l,Im.clip n p q r s l∈ms->∃N,rl n=some N)(hw:Wd3 w)(hp:plF w ms t=some is):
 (w="slip"/\∃(i:Nat) (n:Str) (p q r s l N:Int),is=[(i:Int)]/\ms[i]?=some (.clip n p q r s l)/\rl n=some N/\∀b,qR4 rl ms w is b=(if 0<b then kZ p q r s l N else kP p q r s N)/\qUo ms w is b=ms.set i (.clip n (plP p q r s b) (plQ p q r s b) r s l))\/
 (w≠"slip"/\qZz rl ms w is):=by
 have ec:∀{i:Nat} {m:Im},ms[i]?=some m->j9 ms (i:Int)=m:=λh=>by unfold j9;rw[YQ,h];rfl
 have fin:∀x y:Int,w≠"slip"->is.length<=3->x<y->is.headD 0=x->is.getLastD 0=y->x∈is->y∈is->atI (is.map V.int) 0=some (.int x)->atI (is.map V.int) (-1)=some (.int y)->qy ms x="clip"->qy ms y="clip"->w≠"slip"/\qZz rl ms w is:=λx y ns h3 hlt hh hl m1 m2 a0 a1 hk hk'=>by
  obtain⟨i,n,p,q,r,s,l,rfl,hm⟩:=j2 hk;obtain⟨j,n',p',q',r',s',l',rfl,hm'⟩:=j2 hk';obtain⟨N,hN⟩:=hc _ _ _ _ _ _ (YF hm);obtain⟨N',hN'⟩:=hc _ _ _ _ _ _ (YF hm');refine⟨ns,h3,i,j,n,p,q,r,s,l,N,n',p',q',r',s',l',N',by omega,m1,m2,a0,a1,hm,hm',hN,hN',λb=>⟨?_,?_⟩⟩
  . unfold qR4
    rw[YA ns,hh,hl,ec hm,ec hm'];unfold qWi;dsimp only;rw[hN,hN']
  . unfold qUo
    rw[YA ns,hh,hl,ec hm,ec hm',YQ,YQ]
 have hp0:=hp;unfold plF at hp;rcases hw with rfl|rfl|rfl
 . rw[YB rfl]at hp
   cases hq:cbF ms t with
   |none=>rw[hq]at hp;cases hp
   |some x=>
    obtain⟨x,y⟩:=x;rw[hq]at hp;cases hp;obtain⟨k1,k2⟩:=kY hq;exact .inr (fin x y (by decide+kernel) (by show 2<=3;decide) (qYo hq) rfl rfl (by simp) (by simp) rfl rfl k1 k2)
 . rw[YA (by decide+kernel),YB rfl]at hp
   cases hq:ctF ms t with
   |none=>rw[hq]at hp;cases hp
   |some x=>
    rw[hq]at hp;cases hp;have hk:qy ms (x:Int)="clip":=by
     unfold ctF at hq;split at hq
     . split at hq
       . rename_i c;cases hq;exact c
       . cases hq
     . cases hq
    obtain⟨i,n,p,q,r,s,l,e,hm⟩:=j2 hk;have e:x=i:=by omega
    subst e;obtain⟨N,hN⟩:=hc _ _ _ _ _ _ (YF hm);refine .inl ⟨O,x,n,p,q,r,s,l,N,O,hm,hN,λb=>⟨?_,?_⟩⟩
    . unfold qR4
      rw[YB rfl];show qVk rl (j9 ms (x:Int)) b=_;rw[ec hm];unfold qVk;dsimp only;rw[hN]
    . unfold qUo
      rw[YB rfl];show (match j9 ms (x:Int)with|.clip n p q r s l=>ms.set ((x:Int)).toNat (.clip n (plP p q r s b) (plQ p q r s b) r s l)|_=>ms)=_;rw[ec hm,YQ]
 . rw[YA (by decide+kernel),YA (by decide+kernel)]at hp
   unfold csF at hp;cases hq:ctF ms t with
   |none=>rw[hq]at hp;cases hp
   |some i=>
    rw[hq]at hp;dsimp only at hp;split at hp
    . rename_i c
      cases hp;exact .inr (fin (paF ms i) (pbF ms i) (by decide+kernel) (by show 3<=3;decide) (by unfold paF pbF;split <;> split <;> omega) rfl rfl (by simp) (by simp) rfl rfl c.1 c.2)
    . cases hp
def ItR(rl:Rls)(m:Im):Prop:= ∀n p q r s l,m=.clip n p q r s l->∃N,Rc n p q r s l rl N
inductive qOk(N M S:Addr)(vs:List V)(H:Hp)(Q:VK)(E:XK):Prop
|mk (tz dz rd:Addr) (ts:List (List Im)) (tie:List Int) (wd:Str) (nt:Nat) (t b:Int) (ms:List Im) (rl:Rls) (_:vs=[.ref tz,.ref dz,.ref rd]) (_:TabF H (.ref tz) ts tie) (_:H dz=some (.tup [.str wd,.int (nt:Int),.int t,.int b])) (_:Wd3 wd) (_:ts[nt]?=some ms) (_:0<=t) (_:b.natAbs<=1000000) (_:ts.length<=300) (_:ms.length<=300) (_:(∀m∈ms,ItR rl m)) (_:ReelsAt H rd rl) (_:(plF wd ms t=none->∀H',Same H H'->E (.ref N) none H')) (_:∀is,plF wd ms t=some is->(is.any (hmB ms)=true->∀H',Same H H'->E (.ref M) none H')/\(is.any (hmB ms)=false->(qHp b<=qR4 rl ms wd is b->∀(t':Addr) (H':Hp),Same H H'->TabF H' (.ref t') (ts.set nt (qUo ms wd is b)) tie->Q (.ref t') H')/\(¬qHp b<=qR4 rl ms wd is b->∀(dx:Addr) (H':Hp),Same H H'->H' dx=some (.xd [("most",.int (sgM b (qR4 rl ms wd is b)))])->E (.ref S) (some dx) H')))
theorem qO2(T:Tx K mg a):FnOk P w K mg base (CXR P w) 8 a.A59 a.B59 ["table","deed","reels"] (qOk a.k_NoPlace a.k_Mixed a.k_Short):=by
 refine oX T.D59.F qE2 λ_ _ _ s _ _ _ _ hr h _ Y=>?_;obtain⟨tz,dz,rd,ts,tie,wd,nt,t,b,ms,rl,rfl,hT,hd,hw,hms,t0,hbb,htl,hml,hmi,hre,k0,k1⟩:=h;apply Y;refine⟨_,(qD (jR (qI T.D47 (wR T) hr rfl (qA (pv 0) (qA (qJ (pv 1)) (qA (qJ (pv 1)) qB)))))
  (qD (jR (qI T.D48 (qL8 T) hr rfl (qA (qJ (pv 1)) qB)))
  (qD (qPr (i:=3) qE2.nd rfl (Or.inr rfl) (jN qh (qJ (pv 0)) (qJ (pv 1)) (λ_ _=>rfl)))
  (qD (qW 4 qE2.nd (qI T.D51 (qFb T) hr rfl (qA (pv 3) (qA (pv 1) qB))))
  (qD (qZ (zV (wO (pv 4))) (qF (xV rfl rfl T.c_NoPlace T.x_NoPlace (qA qR qB))) qN)
  (qD (qZ (qr (qX (qQh rfl) rfl T.b_any rfl (qA (wU ["track"] [3] rfl (qT1 (pv 4)) (λ_ _ _ _=>(qI T.D52 (qOx T) hr rfl (qA (pv 1) (qA (pv 0) qB))))) qB))) (qF (xV rfl rfl T.c_Mixed T.x_Mixed (qA qR qB))) qN)
  (qD (qZ (qM jM (qJ (pv 1)) qR (qO _)) (qF (qK (qI T.D58 (jp T) hr rfl (qA (pv 0) (qA (qJ (pv 1)) (qA (xn T.D56 (qMf T) hr rfl (qA (pv 3) (qA (qJ (pv 4)) (qA (qJ (pv 1)) (qA (pv 2) qB))))) qB)))))) qN)
  (qF (qK (qI T.D58 (jp T) hr rfl (qA (pv 0) (qA (qJ (pv 1)) (qA (xn T.D57 (wK T) hr rfl (qA (pv 3) (qA (qJ (pv 4)) (qA (jN qGp (pv 4) (qE7 vW qG) (λ_ _=>rfl)) (qA (qJ (pv 1)) (qA (pv 2) qB)))))) qB))))))))))))),?_⟩
 try dsimp only[jD,qc]
 have one:(1:Nat)<=sizeLine:=by decide
 refine qS λ_ Y=>?_;obtain⟨tt,tl,ti,zs,e0,g2,g3,g4,g5⟩:=id hT;cases e0;apply Y;have hzl:=g4.len;have hnt:=(glt hms);refine⟨_,O,ixO hd qHj (ixO hd qCq ⟨tz,tl,ti,zs,_,_,O,g2,g3,by omega,by omega,t0,?_⟩)⟩;refine(ixO hd qAs ⟨b,O,hbb,?_⟩);have ez:zs[nt]?=some zs[nt]:=YD (by omega);refine qS λ_ Y=>?_;obtain⟨ms1,z,hms1,ezz,tT⟩:=g4.get ez;rw[hms]at hms1;cases hms1;apply Y;rw[ezz]at ez;refine(ixO g2 at0 (ixO hd qHj ⟨tl,_,_,_,O,O,SqL.of g3,qz ez,?_⟩));refine⟨_,O,_,O,z,dz,ms,_,_,t,wd,O,tT,hd,hw,?_⟩;cases hpl:plF wd ms t with
 |none=>
  intro H1 e1;exact⟨_,O,_,O,wo (by decide) ⟨one,k0 hpl H1 e1⟩⟩
 |some is=>
 obtain⟨k1,k2⟩:=k1 is hpl;intro pz H1 e1 hpz;refine⟨_,O,_,O,ja (λc=>YC c (by simp)) (λ_=>?_)⟩;have hends:=qZ4 (λn p q r s l hm=>let ⟨N,c⟩:=hmi _ hm _ _ _ _ _ _ rfl;⟨N,c.rn⟩) hw hpl;have hisl:is.length<=3:=by
  rcases hends with ⟨_,x,_,_,_,_,_,_,_,rfl,_⟩|⟨_,h,_⟩
  . show 1<=3;decide
  . exact h
 refine⟨_,O,pz,O,⟨_,SqT.of hpz⟩,qNi (K:=K) (a:=pz) (xs:=is.map V.int) (λj acc H2=>acc=((is.take j).map (hmB ms)).map V.bl/\H2=H1) ⟨O,O⟩ ?_ ?_ ?_⟩
 . rintro j acc H2 hj ⟨rfl,rfl⟩
   exact⟨SqT.of hpz,by rw[YS,YS,Yk];exact qj (by omega)⟩
 . rintro j x acc H2 hj hx ⟨rfl,rfl⟩
   refine qS λ_ Y=>?_;obtain⟨k,hk,rfl⟩:∃k:Int,is[j]?=some k/\x=.int k:=by
    rw[Yj]at hx;cases hq:is[j]? with
    |none=>rw[hq]at hx;cases hx
    |some k=>rw[hq]at hx;cases hx;exact⟨k,rfl,rfl⟩
   apply Y;refine⟨_,O,_,O,z,ms,k,O,tT.same e1,Nxt.mk hj ⟨?_,O⟩⟩;rw[Ys,hk];simp
 rintro acc H2 ⟨rfl,rfl⟩ d hd';rw[YS,Yw];have w2:=qE hd' (.lst ((is.map (hmB ms)).map V.bl));have e2:=e1.trans w2;have hany:(is.map (hmB ms)).any id=is.any (hmB ms):=by rw[List.any_map];rfl
 refine⟨d,is.map (hmB ms),O,SqL.of qC,?_⟩;have hpz2:=w2 _ _ hpz;by_cases hmx:is.any (hmB ms)=true
 . exact⟨true,by rw[hany,hmx],jn ⟨one,k1 hmx _ e2⟩⟩
 have hmx:=Bool.eq_false_iff.mpr hmx;obtain⟨kq,ks⟩:=k2 hmx;refine⟨false,by rw[hany,hmx],qv ?_⟩;generalize upd H2 d (.lst ((is.map (hmB ms)).map V.bl))=H3 at w2 e2 hpz2⊢;have hd3:=e2 _ _ hd;have rc:∀{i:Nat} {n:Str} {p q r s l N:Int},ms[i]?=some (.clip n p q r s l)->rl n=some N->Rc n p q r s l rl N:=λ{i n p q r s l N} hm hr=>by obtain⟨N',hc⟩:=hmi _ (YF hm) _ _ _ _ _ _ rfl;have:=hc.rn;rw[hr]at this;cases this;exact hc
 refine qS λ_ Y=>?_;rcases hends with ⟨rfl,i,nn,p,q,r,s',l,N,rfl,hm,hN,hv⟩|⟨hwn,_,i,j,nn,p,q,r,s',l,N,nn',p',q',r',s'',l',N',_,_,_,hx0,hy0,hm,hm',hN,hN',hv⟩
 . have hc:=rc hm hN
   rw[(hv b).1,(hv b).2]at kq;rw[(hv b).1]at ks;apply Y;refine(ixO hd3 qF8 ⟨O,_,O,jn ?_⟩);refine⟨_,O,ixO hd3 qHj ?_⟩;refine⟨_,O,ixO hpz2 qS6 (ixO hd3 qAs ⟨_,O,?_⟩)⟩;refine⟨z,rd,ms,i,b,rl,_,_,_,_,_,_,_,O,tT.same e2,hml,hm,hc,hre.same e2,hbb,λhc y H4 e4 hy tY=>?_,λhc dx H4 e4 hdx=>ks hc dx H4 (e2.trans e4) hdx⟩;refine⟨tz,y,nt,ts,tie,_,O,hT.same (e2.trans e4),tY,hnt,htl,λt H5 e5 hN=>?_⟩;exact kq hc t H5 ((e2.trans e4).trans e5) hN
 . have hc:=rc hm hN
   have hc':=rc hm' hN';rw[(hv b).1,(hv b).2]at kq;rw[(hv b).1]at ks;have dw:decide (V.str wd=V.str "slip")=false:=by rw[qPf];exact YW hwn
   apply Y;refine(ixO hd3 qF8 ⟨O,_,O,qBd dw ?_⟩);refine⟨_,O,ixO hd3 qHj ?_⟩;refine⟨_,O,_,O,pz,_,_,_,O,O,SqT.of hpz2,hx0,_,O,1,O,pz,_,_,_,O,O,SqT.of hpz2,hy0,ixO hd3 qAs ⟨_,O,?_⟩⟩;refine⟨z,rd,ms,i,j,b,rl,_,_,_,_,_,_,_,_,_,_,_,_,_,_,O,tT.same e2,hml,hm,hm',hc,hc',hre.same e2,hbb,λhc y H4 e4 hy tY=>?_,λhc dx H4 e4 hdx=>ks hc dx H4 (e2.trans e4) hdx⟩;refine⟨tz,y,nt,ts,tie,_,O,hT.same (e2.trans e4),tY,hnt,htl,λt H5 e5 hN=>?_⟩;exact kq hc t H5 ((e2.trans e4).trans e5) hN
theorem qX2{w:Str}:inV (.str w) [.str "clip",.str "nest"]=(decide (w="clip") || decide (w="nest")):=by
 unfold inV;rw[Yu];simp[eqV];constructor
 . rintro(h|h)
   . exact .inl h.symm
   . exact .inr h.symm
 . rintro(h|h)
   . exact .inl h.symm
   . exact .inr h.symm
noncomputable def v8(ms:List Im)(t:Int):Bool:=match xf 0 0 ms t with
 |some (i,d)=>decide (d>0) && (decide (qy ms (i:Int)="clip") || decide (qy ms (i:Int)="nest"))
 |none=>false
inductive qGg(vs:List V)(H:Hp)(Q:VK)(_:XK):Prop
|mk (z:Addr) (ms:List Im) (t:Int) (_:vs=[.ref z,.int t]) (_:Tr H z ms) (_:∀H',Same H H'->Q (.bl (v8 ms t)) H')
theorem qF9(T:Tx K mg a):FnOk P w K mg base CX0 4 a.A32 a.B32 ["track","moment"] qGg:=by
 refine oL T.D32.F wS λ_ _ _ s H vs Q _ hr h _ Y=>?_;obtain⟨z,ms,t,rfl,tT,kk⟩:=h;apply Y;refine⟨_,(qD (qW 2 wS.nd (qI T.D26 (v9 T) hr rfl (qA (pv 0) (qA (pv 1) qB))))
  (qF (qK (xy (qXb (qQi (pv 2))) (xy (jH qGh (qJ (pv 2)) qG (qO _)) (kC (jH xc (qI T.D27 (jO T) hr rfl (qA (pv 0) (qA (qJ (pv 2)) qB))) (qY (qA qR (qA qR qB))) rfl))))))),?_⟩
 try dsimp only[jD,qc]
 refine⟨_,O,_,O,z,ms,_,O,tT,?_⟩;unfold v8 at kk;cases hit:xf 0 0 ms t with
 |none=>
  rw[hit]at kk;intro H1 e1;exact⟨_,O,_,O,qv (kk H1 e1)⟩
 |some x=>
  obtain⟨i,d⟩:=x;rw[hit]at kk;dsimp only at kk;intro p H1 e1 hp;refine⟨_,O,_,O,jn ?_⟩;refine(ixO hp at1 ⟨_,_,O,O,_,O,ja (λc=>?_) (λc=>?_)⟩)
  . have hd:d>0:=by simpa using c
    rw[YX hd,Bool.true_and]at kk;refine⟨_,O,ixO hp at0 ⟨z,ms,_,O,tT.same e1,sL2,λq hq=>?_⟩⟩;have:=kk _ (e1.trans (qE hq (.tup [.str "clip",.str "nest"])));rw[<-qX2]at this;exact⟨q,_,O,.inr (SqT.of qC),O,O,this⟩
  . have hd:¬d>0:=by simpa using c
    rw[YW hd,Bool.false_and]at kk;exact kk H1 e1
noncomputable def kF:Im->Int->Int->Im
 |.clip n p q r s _,lo,hi=>.clip n (plP p q r s lo) (plQ p q r s lo) r s (hi-lo)
 |.nest n b _,lo,hi=>.nest n (b+lo) (hi-lo)
 |.gap _,lo,hi=>.gap (hi-lo)
 |.mix _,lo,hi=>.gap (hi-lo)
def ImB(m:Im):Prop:=match m with
 |.clip _ p q r s _=>Bn 700 p q r s
 |_=>True
inductive qJl(vs:List V)(H:Hp)(Q:VK)(_:XK):Prop
|mk (v:V) (m:Im) (lo hi:Int) (_:vs=[v,.int lo,.int hi]) (_:IsI H m v) (_:ImB m) (_:lo.natAbs<2 ^ 700) (_:m.wd≠"mix") (_:∀(u:V) (H':Hp),Same H H'->IsI H' (kF m lo hi) u->Q u H')
theorem qJr(T:Tx K mg a):FnOk P w K mg base CX0 6 a.A33 a.B33 ["item","low","high"] qJl:=by
 refine oL T.D33.F qKq λ_ _ _ _ _ _ _ _ hr h _ Y=>?_;obtain⟨v,m,lo,hi,rfl,hI,hB,bl,hnm,kk⟩:=h;apply Y;refine⟨_,(qD (qZ (qM jM (qJ (pv 0)) qR (qO _)) (qF (qK (qI T.D16 (zd T) hr rfl (qA (pv 0) (qA (pv 1) (qA (pv 2) qB)))))) qN)
  (qD (qZ (qM jM (qJ (pv 0)) qR (qO _)) (qF (qK (qY (qA qR (qA (qJ (pv 0)) (qA (qP qk (qJ (pv 0)) (pv 1)) (qA (qP jG (pv 2) (pv 1)) qB))))))) qN)
  (qF (qK (qY (qA qR (qA (qP jG (pv 2) (pv 1)) qB))))))),?_⟩
 try dsimp only[jD,qc]
 cases m with
 |mix l=>exact YC rfl hnm
 |clip n p q r s1 l=>
  refine qS λ_ Y=>?_;obtain⟨z,x,y,rfl,hz,hx,hy⟩:=id hI;apply Y;refine(ixO hz qXu ⟨O,_,O,jn ?_⟩);exact⟨_,O,_,O,_,O,_,n,p,q,r,s1,l,lo,hi,O,hI,hB,bl,kk⟩
 |nest n b l=>
  refine qS λ_ Y=>?_;obtain⟨z,rfl,hz⟩:=id hI;apply Y;have a0:atI [V.str "nest",.str n,.int b,.int l] 0=some (.str "nest"):=rfl;have a1:atI [V.str "nest",.str n,.int b,.int l] 1=some (.str n):=rfl;have a2:atI [V.str "nest",.str n,.int b,.int l] 2=some (.int b):=rfl;refine(ixO hz a0 ⟨O,_,O,qv ?_⟩);refine(ixO hz a0 ⟨O,_,O,jn ?_⟩);refine(ixO hz a1 (ixO hz a2 ⟨_,O,_,_,O,O,_,O,_,O,_,_,O,O,sL4,λt ht=>?_⟩));exact kk _ _ (qE ht _) (isN qC)
 |gap l=>
  refine qS λ_ Y=>?_;obtain⟨z,rfl,hz⟩:=id hI;apply Y;refine(ixO hz at0 ⟨O,_,O,qv ?_⟩);refine(ixO hz at0 ⟨O,_,O,qv ?_⟩);refine⟨_,O,_,O,_,_,O,O,sL2,λt ht=>?_⟩;exact kk _ _ (qE ht _) (isG qC)
noncomputable def qBp(i j:Int):Int:=if j>i then j else i
noncomputable def qLr(i j:Int):Int:=if j<i then j else i
noncomputable def zU(lo hi:Int):Int->List Im->List Im
 |_,[]=>[]
 |b,m::r=>(if m.wd="mix" then (if lo<b/\b<hi then [m]else [])else if qBp lo b<qLr hi (b+m.mo)then [kF m (qBp lo b-b) (qLr hi (b+m.mo)-b)]else [])++zU lo hi (b+m.mo) r
theorem qEl(lo hi:Int):∀(b:Int) (ms:List Im),(zU lo hi b ms).length<=ms.length
 |_,[]=>by simp[zU]
 |b,m::r=>by have:=qEl lo hi (b+m.mo) r;rw[zU,YN,YE];split <;> split <;> simp <;> omega
def MsB(ms:List Im):Prop:=(∀m∈ms,ImB m/\0<=m.mo)/\ms.length<=300
inductive qC9(vs:List V)(H:Hp)(Q:VK)(_:XK):Prop
|mk (z:Addr) (ms:List Im) (lo hi:Int) (_:vs=[.ref z,.int lo,.int hi]) (_:Tr H z ms) (_:MsB ms) (_:0<=lo) (_:lo<=2 ^ 500) (_:∀(y:Addr) (H':Hp),Same H H'->H y=none->Tr H' y (zU lo hi 0 ms)->Q (.ref y) H')
theorem vD(T:Tx K mg a):FnOk P w K mg base CX0 7 a.A34 a.B34 ["track","low","high"] qC9:=by
 refine oL T.D34.F qp λ_ _ _ _ H vs _ _ hr h _ Y=>?_;obtain⟨z,ms,lo,hi,rfl,⟨vs,hz,his⟩,⟨hB,hln⟩,h0,h1,kk⟩:=h;apply Y;refine⟨_,(qD (qW 3 qp.nd (qo qB))
  (qD (qW 4 qp.nd qG)
  (qD (xj PassesOwn.never rfl (jl (pv 0)) (q8 (i:=5) qp.nd rfl (Or.inl rfl)) (qD (qW 6 qp.nd (qP qk (pv 4) (qI T.D23 (jt T) hr rfl (qA (pv 5) qB))))
  (qD (qW 7 qp.nd (qX (qBm rfl) rfl T.b_max rfl (qA (pv 1) (qA (pv 4) qB))))
  (qD (qW 8 qp.nd (qX (zO rfl) rfl T.b_min rfl (qA (pv 2) (qA (pv 6) qB))))
  (qD (qZ (qM jM (qJ (pv 5)) qR (qO _)) (qF (qZ (PW.pt (vO (qM zM (pv 1) (pv 4) (qO _)) (zK (qM zM (pv 4) (pv 2) (qO _))))) (qF (jR (qOd F.plainAttrs_list F.slot_list_append F.type_list_append kG (pv 3) (qA (pv 5) qB)))) qN)) (qF (qZ (qM zM (pv 7) (pv 8) (qO _)) (qF (jR (qOd F.plainAttrs_list F.slot_list_append F.type_list_append kG (pv 3) (qA (qI T.D33 (qJr T) hr rfl (qA (pv 5) (qA (qP jG (pv 7) (pv 4)) (qA (qP jG (pv 8) (pv 4)) qB)))) qB)))) qN)))
  (qF (qW 4 qp.nd (pv 6))))))))
  (qF (qK (pv 3)))))),?_⟩
 try dsimp only[jD,qc]
 refine⟨sL0,λy hy=>?_⟩;have w0:=qE hy (.lst []);have hvl:=his.len;refine⟨_,O,z,O,⟨_,SqL.of (w0 _ _ hz)⟩,j3 (K:=K) (a:=z) (xs:=vs) (λi σ H'=> ∃(o1 o2 o3 o4:Option V) (b:Int) (ps:List Im),σ=[some (.ref z),some (.int lo),some (.int hi),some (.ref y),some (.int b),o1,o2,o3,o4]/\Tr H' y ps/\ps++zU lo hi b (ms.drop i)=zU lo hi 0 ms/\ps.length<=i/\0<=b/\Same H H')
  ⟨none,none,none,none,0,[],rfl,⟨[],qC,trivial⟩,rfl,YI _,by decide,w0⟩ ?_ ?_ ?_⟩
 . rintro i σ H' hi' ⟨o1,o2,o3,o4,b,ps,rfl,_,_,_,_,e⟩
   exact SqL.of (e _ _ hz)
 . rintro i x σ H' hx ⟨o1,o2,o3,o4,b,ps,rfl,tP,hap,hpl,b0,e⟩
   refine qS λ_ Y=>?_;obtain⟨m,hm,hIx⟩:=his.get hx;have hI:=hIx.ts (qd e);have hin:i<ms.length:=(glt hm);obtain⟨hBm,hmo⟩:=hB m (YF hm);obtain⟨us,hyu,hisP⟩:=tP;apply Y;have hul:=hisP.len;rw[jy hm,zU]at hap;refine⟨_,O,_,O,x,m,O,hI,_,_,O,O,?_⟩;refine⟨_,O,_,O,_,_,O,?_⟩;refine⟨_,O,_,O,_,_,O,?_⟩;dsimp only;change qZr _ _ _ _ _;refine qS λ_ Y=>?_;obtain⟨zi,xi,rfl,hzi,a0,_⟩:=hI.opn;apply Y;have skip:∀(q:List Im),ps++([]++q)=ps++q:=λq=>by simp
   refine⟨_,O,zi,xi,_,_,O,O,SqT.of hzi,a0,O,_,O,ja (λc=>?_) (λc=>?_)⟩
   . have hw:m.wd="mix":=by simpa using c
     rw[YB hw]at hap;refine⟨_,O,_,O,_,_,O,O,_,O,ja (λc1=>?_) (λc1=>?_)⟩
     . refine⟨_,O,_,O,_,_,O,O,_,O,ja (λc2=>?_) (λc2=>?_)⟩
       . rw[YB ⟨by simpa using c1,by simpa using c2⟩]at hap
         refine⟨_,O,.inl ⟨O,_,SqL.of hyu⟩,_,O,y,_,_,O,O,hyu,qj (by omega),?_⟩;exact⟨_,O,_,_,_,_,_,ps++[m],O,⟨_,qC,(hisP.app (.one hI)).ts (z6 hyu)⟩,by rw[Yv];exact hap,by rw[YN];show ps.length+1<=i+1;omega,by omega,xG e hy⟩
       . rw[YA (λz=>c2 (by simpa using z.2)),skip]at hap
         exact⟨_,O,_,_,_,_,_,ps,O,⟨_,hyu,hisP⟩,hap,by omega,by omega,e⟩
     . rw[YA (λz=>c1 (by simpa using z.1)),skip]at hap
       exact qv ⟨_,O,_,_,_,_,_,ps,O,⟨_,hyu,hisP⟩,hap,by omega,by omega,e⟩
   . have hw:m.wd≠"mix":=by simpa using c
     rw[YA hw]at hap;refine⟨_,O,_,O,_,_,O,O,_,O,ja (λc1=>?_) (λc1=>?_)⟩
     . rw[YB (ZK (show decide (qBp lo b<qLr hi (b+m.mo))=true from c1))]at hap
       refine⟨_,O,.inl ⟨O,_,SqL.of hyu⟩,_,O,_,O,_,O,_,_,O,O,_,O,_,O,_,_,O,O,_,m,qBp lo b-b,qLr hi (b+m.mo)-b,O,hI,hBm,?_,hw,λu H5 e5 hI5=>?_⟩
       . have:(qBp lo b-b).natAbs<=(2 ^ 500:Nat):=by
          have h1':lo.natAbs<=2 ^ 500:=by
           have:=Int.natAbs_of_nonneg h0;have h1'':((lo.natAbs:Nat):Int)<=((2 ^ 500:Nat):Int):=by rw[this];exact_mod_cast h1
           exact_mod_cast h1''
          refine ZC ?_ h1';unfold qBp;split <;> omega
         exact Yd this (Nat.pow_lt_pow_right (by decide) (by decide))
       refine⟨y,_,_,O,O,e5 _ _ hyu,qj (by omega),?_⟩;exact⟨_,O,_,_,_,_,_,ps++[kF m (qBp lo b-b) (qLr hi (b+m.mo)-b)],O,⟨_,qC,((hisP.ts (qd e5)).app (.one hI5)).ts (z6 (e5 _ _ hyu))⟩,by rw[Yv];exact hap,by rw[YN];show ps.length+1<=i+1;omega,by omega,xG (e.trans e5) hy⟩
     . rw[YA (λz=>c1 (show decide (qBp lo b<qLr hi (b+m.mo))=true from YX z)),skip]at hap
       exact⟨_,O,_,_,_,_,_,ps,O,⟨_,hyu,hisP⟩,hap,by omega,by omega,e⟩
 . rintro σ H' ⟨o1,o2,o3,o4,b,ps,rfl,tP,hap,hpl,b0,e⟩
   rw[hvl,ZH,zU,Ye]at hap;rw[hap]at tP;exact⟨_,O,kk y H' e hy tP⟩
inductive Dk where
 |cut (t:Int)
 |hel (t:Int)
 |opn (t l:Int)
 |cls (t u:Int)
 |lft (t u:Int)
 |lin (t:Int) (m:Im)
 |lov (t:Int) (m:Im)
noncomputable def Dk.wd:Dk->Str
 |.cut _=>"cut"
 |.hel _=>"heal"
 |.opn .. =>"open"
 |.cls .. =>"close"
 |.lft .. =>"lift"
 |.lin .. =>"lay_in"
 |.lov .. =>"lay_over"
noncomputable def Dk.t:Dk->Int
 |.cut t=>t
 |.hel t=>t
 |.opn t _=>t
 |.cls t _=>t
 |.lft t _=>t
 |.lin t _=>t
 |.lov t _=>t
noncomputable def Dk.hi:Dk->Int
 |.cut t=>t
 |.hel t=>t
 |.opn t _=>t
 |.cls _ u=>u
 |.lft _ u=>u
 |.lin t _=>t
 |.lov t m=>t+m.mo
noncomputable def Dk.laid:Dk->List Im
 |.opn _ l=>[.gap l]
 |.lft t u=>[.gap (u-t)]
 |.lin _ m=>[m]
 |.lov _ m=>[m]
 |_=>[]
noncomputable def Dk.push:Dk->Bool
 |.opn .. =>true
 |.cls .. =>true
 |.lin .. =>true
 |_=>false
def DAt(H:Hp)(dz:Addr)(n:Int):Dk->Prop
 |.cut t=>H dz=some (.tup [.str "cut",.int n,.int t])
 |.hel t=>H dz=some (.tup [.str "heal",.int n,.int t])
 |.opn t l=>H dz=some (.tup [.str "open",.int n,.int t,.int l])
 |.cls t u=>H dz=some (.tup [.str "close",.int n,.int t,.int u])
 |.lft t u=>H dz=some (.tup [.str "lift",.int n,.int t,.int u])
 |.lin t m=> ∃v,H dz=some (.tup [.str "lay_in",.int n,.int t,v])/\IsI H m v
 |.lov t m=> ∃v,H dz=some (.tup [.str "lay_over",.int n,.int t,v])/\IsI H m v
theorem DAt.same{n:Int}{d:Dk}(e:Same H H')(h:DAt H dz n d):DAt H' dz n d:=by
 cases d with
 |lin t m=>obtain⟨v,h1,h2⟩:=h;exact⟨v,e _ _ h1,h2.ts (qd e)⟩
 |lov t m=>obtain⟨v,h1,h2⟩:=h;exact⟨v,e _ _ h1,h2.ts (qd e)⟩
 |_=>exact e _ _ h
theorem DAt.opn{n:Int}{d:Dk}(h:DAt H dz n d):∃xs,H dz=some (.tup xs)/\atI xs 0=some (.str d.wd)/\atI xs 1=some (.int n)/\atI xs 2=some (.int d.t):=by
 cases d with
 |lin t m=>obtain⟨v,h1,_⟩:=h;exact⟨_,h1,rfl,rfl,rfl⟩
 |lov t m=>obtain⟨v,h1,_⟩:=h;exact⟨_,h1,rfl,rfl,rfl⟩
 |_=>exact⟨_,h,rfl,rfl,rfl⟩
theorem zj{w:Str}{ws:List V}{b:Bool}(h:inV (.str w) ws=b):V.bl (if false=true then !inV (.str w) ws else inV (.str w) ws)=V.bl b:=by rw[YA (by decide),h]
theorem qQ7{w:Str}{ws:List V}{b:Bool}(h:inV (.str w) ws=b):V.bl (if true=true then !inV (.str w) ws else inV (.str w) ws)=V.bl (!b):=by rw[YB rfl,h]
inductive qG0(vs:List V)(H:Hp)(Q:VK)(_:XK):Prop
|mk (dz:Addr) (n:Int) (d:Dk) (_:vs=[.ref dz]) (_:DAt H dz n d) (_:∀(p:Addr) (H':Hp),Same H H'->H' p=some (.tup [.int d.t,.int d.hi])->Q (.ref p) H')
theorem qBe(T:Tx K mg a):FnOk P w K mg base CX0 2 a.A60 a.B60 ["deed"] qG0:=by
 refine oL T.D60.F qIa λ_ _ _ _ H vs Q _ hr h _ Y=>?_;obtain⟨dz,n,d,rfl,hD,kk⟩:=h;apply Y;refine⟨_,(qD (qZ (qM xc (qJ (pv 0)) (qY (qA qR (qA qR qB))) rfl) (qF (qK (qY (qA (qJ (pv 0)) (qA (qJ (pv 0)) qB))))) qN)
  (qD (qZ (qM jM (qJ (pv 0)) qR (qO _)) (qF (qK (qY (qA (qJ (pv 0)) (qA (qP qk (qJ (pv 0)) (qI T.D23 (jt T) hr rfl (qA (qJ (pv 0)) qB))) qB))))) qN)
  (qF (qK (qY (qA (qJ (pv 0)) (qA (qJ (pv 0)) qB))))))),?_⟩
 try dsimp only[jD,qc]
 refine qS λ_ Y=>?_;obtain⟨xs,hd,a0,a1,a2⟩:=hD.opn;apply Y;have two:(2:Nat)<=sizeLine:=by decide
 refine(ixO hd a0 ⟨two,λq hq=>?_⟩);have w1:=qE hq (.tup [.str "close",.str "lift"]);have hd1:=w1 _ _ hd;cases d with
 |cls t u=>
  refine⟨q,_,O,.inr (SqT.of qC),O,O,true,(zj (w:="close") (by decide+kernel)),jn ?_⟩;exact(ixO (w1 _ _ hD) qCq (ixO (w1 _ _ hD) qAs ⟨two,λp hp=>kk p _ (w1.trans (qE hp _)) qC⟩))
 |lft t u=>
  refine⟨q,_,O,.inr (SqT.of qC),O,O,true,(zj (w:="lift") (by decide+kernel)),jn ?_⟩;exact(ixO (w1 _ _ hD) qCq (ixO (w1 _ _ hD) qAs ⟨two,λp hp=>kk p _ (w1.trans (qE hp _)) qC⟩))
 |lov t m=>
  refine qS λ_ Y=>?_;obtain⟨v,hv,hI⟩:=hD;apply Y;refine⟨q,_,O,.inr (SqT.of qC),O,O,false,(zj (w:="lay_over") (by decide+kernel)),qv ?_⟩;refine(ixO hd1 a0 ⟨O,_,O,jn ?_⟩);exact(ixO hd1 a2 (ixO hd1 a2 (ixO (w1 _ _ hv) qAs ⟨v,m,O,hI.ts (qd w1),_,_,O,O,two,λp hp=>kk p _ (w1.trans (qE hp _)) qC⟩)))
 |cut t=>
  refine⟨q,_,O,.inr (SqT.of qC),O,O,false,(zj (w:="cut") (by decide+kernel)),qv ?_⟩;refine(ixO hd1 a0 ⟨O,_,O,qv ?_⟩);exact(ixO hd1 a2 (ixO hd1 a2 ⟨two,λp hp=>kk p _ (w1.trans (qE hp _)) qC⟩))
 |hel t=>
  refine⟨q,_,O,.inr (SqT.of qC),O,O,false,(zj (w:="heal") (by decide+kernel)),qv ?_⟩;refine(ixO hd1 a0 ⟨O,_,O,qv ?_⟩);exact(ixO hd1 a2 (ixO hd1 a2 ⟨two,λp hp=>kk p _ (w1.trans (qE hp _)) qC⟩))
 |opn t l=>
  refine⟨q,_,O,.inr (SqT.of qC),O,O,false,(zj (w:="open") (by decide+kernel)),qv ?_⟩;refine(ixO hd1 a0 ⟨O,_,O,qv ?_⟩);exact(ixO hd1 a2 (ixO hd1 a2 ⟨two,λp hp=>kk p _ (w1.trans (qE hp _)) qC⟩))
 |lin t m=>
  refine⟨q,_,O,.inr (SqT.of qC),O,O,false,(zj (w:="lay_in") (by decide+kernel)),qv ?_⟩;refine(ixO hd1 a0 ⟨O,_,O,qv ?_⟩);exact(ixO hd1 a2 (ixO hd1 a2 ⟨two,λp hp=>kk p _ (w1.trans (qE hp _)) qC⟩))
inductive qOy(vs:List V)(H:Hp)(Q:VK)(_:XK):Prop
|mk (dz:Addr) (n:Int) (d:Dk) (_:vs=[.ref dz]) (_:DAt H dz n d) (_:∀(y:Addr) (H':Hp),Same H H'->H y=none->Tr H' y d.laid->Q (.ref y) H')
theorem qGq(T:Tx K mg a):FnOk P w K mg base CX0 1 a.A61 a.B61 ["deed"] qOy:=by
 refine oL T.D61.F qNy λ_ _ _ _ _ _ _ _ hr h _ Y=>?_;obtain⟨dz,n,d,rfl,hD,kk⟩:=h;apply Y;refine⟨_,(qD (qZ (qM xc (qJ (pv 0)) (jQ (v:=.ref a.n_LAYS) rfl T.g_LAYS rfl) rfl) (qF (qK (qo (qA (qJ (pv 0)) qB)))) qN)
  (qD (qZ (qM jM (qJ (pv 0)) qR (qO _)) (qF (qK (qo (qA (qY (qA qR (qA (qJ (pv 0)) qB))) qB)))) qN)
  (qD (qZ (qM jM (qJ (pv 0)) qR (qO _)) (qF (qK (qo (qA (qY (qA qR (qA (qP jG (qJ (pv 0)) (qJ (pv 0))) qB))) qB)))) qN)
  (qF (qK (qo qB)))))),?_⟩
 try dsimp only[jD,qc]
 refine qS λ_ Y=>?_;obtain⟨xs,hd,a0,a1,a2⟩:=hD.opn;apply Y;have one:(1:Nat)<=sizeLine:=by decide
 have two:(2:Nat)<=sizeLine:=by decide
 have zero:(0:Nat)<=sizeLine:=by decide
 refine(ixO hd a0 ⟨a.n_LAYS,_,O,.inr (T.sq_LAYS _),O,O,?_⟩);cases d with
 |lin t m=>
  refine qS λ_ Y=>?_;obtain⟨v,hv,hI⟩:=hD;apply Y;refine⟨true,(zj (w:="lay_in") (by decide+kernel)),jn (ixO hv qAs ⟨one,λp hp=>?_⟩)⟩;exact kk p _ (qE hp _) hp ⟨_,qC,hI.ts (qd (qE hp _)),trivial⟩
 |lov t m=>
  refine qS λ_ Y=>?_;obtain⟨v,hv,hI⟩:=hD;apply Y;refine⟨true,(zj (w:="lay_over") (by decide+kernel)),jn (ixO hv qAs ⟨one,λp hp=>?_⟩)⟩;exact kk p _ (qE hp _) hp ⟨_,qC,hI.ts (qd (qE hp _)),trivial⟩
 |opn t l=>
  refine⟨false,(zj (w:="open") (by decide+kernel)),qv ?_⟩;refine(ixO hd a0 ⟨O,_,O,jn ?_⟩);refine(ixO hD qAs ⟨two,λg hg=>⟨one,λp hp=>?_⟩⟩);exact kk p _ ((qE hg _).trans (qE hp _)) ((qE hg _).free hp) ⟨_,qC,isG ((qE hp _) _ _ qC),trivial⟩
 |lft t u=>
  refine⟨false,(zj (w:="lift") (by decide+kernel)),qv ?_⟩;refine(ixO hd a0 ⟨O,_,O,qv ?_⟩);refine(ixO hd a0 ⟨O,_,O,jn ?_⟩);refine(ixO hD qAs (ixO hD qCq ⟨_,_,O,O,two,λg hg=>⟨one,λp hp=>?_⟩⟩));exact kk p _ ((qE hg _).trans (qE hp _)) ((qE hg _).free hp) ⟨_,qC,isG ((qE hp _) _ _ qC),trivial⟩
 |cut t=>
  refine⟨false,(zj (w:="cut") (by decide+kernel)),qv ?_⟩;refine(ixO hd a0 ⟨O,_,O,qv ?_⟩);refine(ixO hd a0 ⟨O,_,O,qv ?_⟩);exact⟨zero,λp hp=>kk p _ (qE hp _) hp ⟨[],qC,trivial⟩⟩
 |hel t=>
  refine⟨false,(zj (w:="heal") (by decide+kernel)),qv ?_⟩;refine(ixO hd a0 ⟨O,_,O,qv ?_⟩);refine(ixO hd a0 ⟨O,_,O,qv ?_⟩);exact⟨zero,λp hp=>kk p _ (qE hp _) hp ⟨[],qC,trivial⟩⟩
 |cls t u=>
  refine⟨false,(zj (w:="close") (by decide+kernel)),qv ?_⟩;refine(ixO hd a0 ⟨O,_,O,qv ?_⟩);refine(ixO hd a0 ⟨O,_,O,qv ?_⟩);exact⟨zero,λp hp=>kk p _ (qE hp _) hp ⟨[],qC,trivial⟩⟩
noncomputable def chF(tie:List Int)(n:Int)(push:Bool):List Int:=if push=true/\n∈tie then n::tie.filter (λx=>decide (x≠n))else [n]
theorem qSc{ps:List Int}:inV (.int i) (ps.map V.int)=decide (i∈ps):=by unfold inV;rw[Yu];simp[eqV]
theorem qOv(ps:List Int):(ps.map V.int).all kj=true:=by rw[List.all_map,List.all_eq_true];intro _ _;rfl
theorem Dk.push_in(d:Dk):inV (.str d.wd) [.str "lay_in",.str "open",.str "close"]=d.push:=by
 cases d with
 |cut t=>show inV (.str "cut") _=false;decide+kernel
 |hel t=>show inV (.str "heal") _=false;decide+kernel
 |opn t l=>show inV (.str "open") _=true;decide+kernel
 |cls t u=>show inV (.str "close") _=true;decide+kernel
 |lft t u=>show inV (.str "lift") _=false;decide+kernel
 |lin t m=>show inV (.str "lay_in") _=true;decide+kernel
 |lov t m=>show inV (.str "lay_over") _=false;decide+kernel
inductive qE0(vs:List V)(H:Hp)(Q:VK)(_:XK):Prop
|mk (dz:Addr) (n:Int) (d:Dk) (_:vs=[.ref dz]) (_:DAt H dz n d) (_:∀(y:Addr) (H':Hp),Same H H'->H y=none->Tr H' y (d.laid.map λm=>.gap m.mo)->Q (.ref y) H')
theorem Dk.laid_len(d:Dk):d.laid.length<=1:=by cases d <;> simp[Dk.laid]
theorem qD1(T:Tx K mg a):FnOk P w K mg base CX0 2 a.A62 a.B62 ["deed"] qE0:=by
 refine oL T.D62.F qEh λ_ _ _ _ H vs Q _ hr h _ Y=>?_;obtain⟨dz,n,d,rfl,hD,kk⟩:=h;apply Y;refine⟨_,(qF (qK (wU [] [] rfl (jl (qI T.D61 (qGq T) hr rfl (qA (pv 0) qB))) (λ_ _ _ _=>(qY (qA qR (qA (qI T.D23 (jt T) hr rfl (qA (pv 0) qB)) qB))))))),?_⟩
 try dsimp only[jD,qc]
 refine⟨_,rfl,dz,n,d,rfl,hD,λl H1 e1 hl ⟨us,hlu,his⟩=>?_⟩;have hll:=d.laid_len;have hul:=his.len;refine⟨l,O,⟨_,SqL.of hlu⟩,qFf (K:=K) (a:=l) (xs:=us) (λj acc H2=>IsIs H2 ((d.laid.take j).map λm=>.gap m.mo) acc/\Same H1 H2) ⟨trivial,Same.refl _⟩ ?_ ?_ ?_⟩
 . rintro j acc H2 hj ⟨ht,e2⟩
   exact⟨SqL.of (e2 _ _ hlu),qj (by rw[ht.len,YS,Yk];omega)⟩
 . rintro j x acc H2 hj hx ⟨ht,e2⟩
   refine qS λ_ Y=>?_;obtain⟨m,hm,hI⟩:=his.get hx;apply Y;refine⟨_,O,x,m,O,hI.ts (qd e2),sL2,λg hg=>Nxt.mk hj ⟨?_,e2.trans (qE hg _)⟩⟩;rw[Ys,hm,Yr];exact(ht.ts (qd (qE hg _))).app (.one (isG qC))
 rintro acc H2 ⟨ht,e2⟩ y hy;rw[hul,Yw]at ht;exact kk y _ ((e1.trans e2).trans (qE hy _)) ((e1.trans e2).free hy) ⟨_,qC,ht.ts (qd (qE hy _))⟩
inductive qBy(vs:List V)(H:Hp)(Q:VK)(_:XK):Prop
|mk (tz tl ti dz:Addr) (tie:List Int) (n:Int) (d:Dk) (_:vs=[.ref tz,.ref dz]) (_:H tz=some (.tup [.ref tl,.ref ti])) (_:H ti=some (.lst (tie.map V.int))) (_:tie.length<=300) (_:DAt H dz n d) (_:∀(y:Addr) (H':Hp),Same H H'->H y=none->H' y=some (.lst ((chF tie n d.push).map V.int))->Q (.ref y) H')
theorem kI(T:Tx K mg a):FnOk P w K mg base CX0 1 a.A63 a.B63 ["table","deed"] qBy:=by
 refine oL T.D63.F qCm λ_ _ _ _ H vs Q _ hr h _ Y=>?_;obtain⟨tz,tl,ti,dz,tie,n,d,rfl,htz,hti,htl,hD,kk⟩:=h;apply Y;refine⟨_,(qD (qZ (PW.pt (jv (qM vt (qJ (pv 1)) (jQ (v:=.ref a.n_PUSHES) rfl T.g_PUSHES rfl) rfl) (jL (qM vt (qJ (pv 1)) (qJ (pv 0)) rfl)))) (qF (qK (qo (qA (qJ (pv 1)) qB)))) qN)
  (qF (qK (qP qA3 (qo (qA (qJ (pv 1)) qB)) (qNo ["deed"] [1] rfl (jl (qJ (pv 0))) (λ_ _ _ _=>(qM z7 (pv 0) (jN (qQ6 (K:=K) rfl) (pv 1) qG (λ_ _=>rfl)) (qO _))) (λ_ _ _ _=>(pv 0))))))),?_⟩
 try dsimp only[jD,qc]
 refine qS λ_ Y=>?_;obtain⟨xs,hd,a0,a1,a2⟩:=hD.opn;apply Y;have one:(1:Nat)<=sizeLine:=by decide
 have fin1:¬(d.push=true/\n∈tie)->∀p,H p=none->Q (.ref p) (upd H p (.lst [.int n])):=λhc p hp=>by refine kk p _ (qE hp _) hp ?_;unfold chF;rw[YA hc,qC];rfl
 refine(ixO hd a0 ⟨a.n_PUSHES,_,O,.inr (T.sq_PUSHES _),O,O,!d.push,qQ7 d.push_in,?_⟩);cases hp:d.push with
 |false=>
  refine jn (jn (ixO hd a1 ⟨one,λp hp'=>fin1 (λz=>?_) p hp'⟩));rw[hp]at z;exact YC z.1 (by simp)
 |true=>
  refine qv (ixO hd a1 (ixO htz at1 ⟨ti,_,O,.inl (SqL.of hti),O,qOv tie,!decide (n∈tie),?_,?_⟩))
  . show V.bl (!inV (.int n) (tie.map V.int))=_
    rw[qSc]
  by_cases hm:n∈tie
  . rw[YX hm]
    refine qv (ixO hd a1 ⟨one,λl1 hl1=>?_⟩);have w1:=qE hl1 (.lst [.int n]);have k1:upd H l1 (.lst [.int n]) l1=some (.lst [.int n]):=qC;have hl10:=hl1;change _;generalize upd H l1 (.lst [.int n])=H1 at w1 k1;refine(ixO (w1 _ _ htz) at1 ⟨ti,O,⟨_,SqL.of (w1 _ _ hti)⟩,qGt (K:=K) (a:=ti) (xs:=tie.map V.int) (λj acc H2=>acc=((tie.take j).filter (λx=>decide (x≠n))).map V.int/\H2=H1) ⟨O,O⟩ ?_ ?_ ?_⟩)
    . rintro j acc H2 hj ⟨rfl,rfl⟩
      refine⟨SqL.of (w1 _ _ hti),qj ?_⟩;rw[YS];have:=List.length_filter_le (λx=>decide (x≠n)) (tie.take j);have:=List.length_take_le j tie;rw[Yk]at*;omega
    . rintro j x acc H2 hj hx ⟨rfl,rfl⟩
      refine qS λ_ Y=>?_;obtain⟨xi,hxi,rfl⟩:∃xi:Int,tie[j]?=some xi/\x=.int xi:=by
       rw[Yj]at hx;cases hq:tie[j]? with
       |none=>rw[hq]at hx;cases hx
       |some k=>rw[hq]at hx;cases hx;exact⟨k,rfl,rfl⟩
      apply Y;have etk:tie.take (j+1)=tie.take j++[xi]:=by rw[Ys,hxi];rfl
      refine⟨_,O,ixO (w1 _ _ hd) a1 ⟨O,_,O,ja (λc=>?_) (λc=>?_)⟩⟩
      . have hne:xi≠n:=by simpa using c
        refine⟨_,O,Nxt.mk hj ⟨?_,O⟩⟩;rw[etk,List.filter_append,Yr];simp[hne]
      . have hne:xi=n:=by simpa using c
        refine Nxt.mk hj ⟨?_,O⟩;rw[etk,List.filter_append,Yr];simp[hne]
    rintro acc H2 ⟨rfl,rfl⟩ l2 hl2;rw[YS,Yw];have w2:=qE hl2 (.lst ((tie.filter (λx=>decide (x≠n))).map V.int));refine⟨l1,l2,_,_,O,O,w2 _ _ k1,qC,?_,λy hy=>?_⟩
    . have:=qj (n:=1+((tie.filter (λx=>decide (x≠n))).map V.int).length) (by rw[YS];have:=List.length_filter_le (λx=>decide (x≠n)) tie;omega)
      show 1+((tie.filter (λx=>decide (x≠n))).map V.int).length<=sizeLine;omega
    refine kk y _ ((w1.trans w2).trans (qE hy _)) ((w1.trans w2).free hy) ?_;unfold chF;rw[YB ⟨hp,hm⟩,qC];rfl
  . rw[YW hm]
    exact jn (ixO hd a1 ⟨one,λp hp'=>fin1 (λz=>hm z.2) p hp'⟩)
inductive qG5(vs:List V)(H:Hp)(Q:VK)(_:XK):Prop
|mk (l:Int) (_:vs=[.int l]) (_:Q (.int (l.fdiv 2)) H)
theorem kW(T:Tx K mg a):FnOk P w K mg base CX0 1 a.A35 a.B35 ["length"] qG5:=by
 refine oL T.D35.F qHa λ_ _ _ _ H vs Q _ hr h _ Y=>?_;obtain⟨l,rfl,kk⟩:=h;apply Y;refine⟨_,(qF (qK (qP qf (pv 0) qG))),?_⟩
 try dsimp only[jD,qc]
 exact⟨_,O,_,_,O,O,cdB (by decide) (by decide),kk⟩
inductive qF3(vs:List V)(H:Hp)(Q:VK)(_:XK):Prop
|mk (l:Int) (_:vs=[.int l]) (_:Q (.int (l-l.fdiv 2)) H)
theorem wQ(T:Tx K mg a):FnOk P w K mg base CX0 1 a.A36 a.B36 ["length"] qF3:=by
 refine oL T.D36.F qF5 λ_ _ _ _ _ _ _ _ hr h _ Y=>?_;obtain⟨l,rfl,kk⟩:=h;apply Y;refine⟨_,(qF (qK (qP jG (pv 0) (qP qf (pv 0) qG)))),?_⟩
 try dsimp only[jD,qc]
 exact⟨_,O,_,O,_,_,O,O,cdB (by decide) (by decide),_,_,O,O,kk⟩
noncomputable def qx:Int->List Im->List (Int×Int×Int)
 |_,[]=>[]
 |b,.mix l::ms=>(b-l.fdiv 2,b,b+(l-l.fdiv 2))::qx b ms
 |b,.clip _ _ _ _ _ l::ms=>qx (b+l) ms
 |b,.nest _ _ l::ms=>qx (b+l) ms
 |b,.gap l::ms=>qx (b+l) ms
theorem qt(h:m.wd≠"mix")(b:Int)(ms:List Im):qx b (m::ms)=qx (b+m.mo) ms:=by
 cases m with
 |mix l=>exact YC rfl h
 |_=>rfl
noncomputable def jb:Nat->List Im->List Nat
 |_,[]=>[]
 |i,.mix _::ms=>i::jb (i+1) ms
 |i,.clip _ _ _ _ _ _::ms=>jb (i+1) ms
 |i,.nest _ _ _::ms=>jb (i+1) ms
 |i,.gap _::ms=>jb (i+1) ms
theorem xY(h:m.wd≠"mix")(i:Nat)(ms:List Im):jb i (m::ms)=jb (i+1) ms:=by
 cases m with
 |mix l=>exact YC rfl h
 |_=>rfl
theorem qCd:∀(i:Nat) (b:Int) (ms:List Im),(jb i ms).length=(qx b ms).length
 |_,_,[]=>rfl
 |i,b,m::ms=>by
  by_cases h:m.wd="mix"
  . obtain⟨l,rfl⟩:=xB h
    rw[jb,qx,YE,YE,qCd (i+1) b ms]
  . rw[xY h,qt h,qCd (i+1) (b+m.mo) ms]
noncomputable def qL4:Int->Nat->List Im->Int->Option (Nat×Int)
 |_,_,[],_=>none
 |b,i,.mix l::ms,t=>if b-l.fdiv 2<=t/\t<b+(l-l.fdiv 2)then some (i,t-(b-l.fdiv 2))else qL4 b (i+1) ms t
 |b,i,.clip _ _ _ _ _ l::ms,t=>qL4 (b+l) (i+1) ms t
 |b,i,.nest _ _ l::ms,t=>qL4 (b+l) (i+1) ms t
 |b,i,.gap l::ms,t=>qL4 (b+l) (i+1) ms t
theorem qGu(h:m.wd≠"mix")(b:Int)(i:Nat)(ms:List Im)(t:Int):qL4 b i (m::ms) t=qL4 (b+m.mo) (i+1) ms t:=by
 cases m with
 |mix l=>exact YC rfl h
 |_=>rfl
noncomputable def qOa:List Nat->List (Int×Int×Int)->Int->Option (Nat×Int)
 |p::ps,(x,_,z)::ss,t=>if x<=t/\t<z then some (p,t-x)else qOa ps ss t
 |_,_,_=>none
theorem qIk:∀(b:Int) (i:Nat) (ms:List Im) (t:Int),qOa (jb i ms) (qx b ms) t=qL4 b i ms t
 |_,_,[],_=>rfl
 |b,i,m::ms,t=>by
  by_cases h:m.wd="mix"
  . obtain⟨l,rfl⟩:=xB h
    rw[jb,qx,qOa,qL4,qIk b (i+1) ms t]
  . rw[xY h,qt h,qGu h,qIk _ (i+1) ms t]
theorem qMg:∀{b:Int} {i:Nat} {ms:List Im} {t:Int} {k:Nat} {j:Int},qL4 b i ms t=some (k,j)->∃l,i<=k/\ms[k-i]?=some (.mix l)/\0<=j/\j<l
 |_,_,[],_,_,_,h=>by simp[qL4]at h
 |b,i,m::ms,t,k,j,h=>by
  by_cases hm:m.wd="mix"
  . obtain⟨l,rfl⟩:=xB hm
    rw[qL4]at h;by_cases hc:b-l.fdiv 2<=t/\t<b+(l-l.fdiv 2)
    . rw[YB hc]at h
      cases h;exact⟨l,YI _,by simp,by omega,by omega⟩
    . rw[YA hc]at h
      obtain⟨l',h1,h2,h3⟩:=qMg h;have e:k-i=(k-(i+1))+1:=by omega
      exact⟨l',by omega,by rw[e,List.getElem?_cons_succ];exact h2,h3⟩
  . rw[qGu hm]at h
    obtain⟨l',h1,h2,h3⟩:=qMg h;have e:k-i=(k-(i+1))+1:=by omega
    exact⟨l',by omega,by rw[e,List.getElem?_cons_succ];exact h2,h3⟩
def SpAt(H:Hp):List (Int×Int×Int)->List V->Prop
 |[],[]=>True
 |(x,y,z)::ss,v::vs=>(∃p:Addr,v=.ref p/\H p=some (.tup [.int x,.int y,.int z]))/\SpAt H ss vs
 |_,_=>False
theorem SpAt.len{H:Hp}:∀{ss:List (Int×Int×Int)} {vs:List V},SpAt H ss vs->vs.length=ss.length
 |[],[],_=>rfl
 |(_,_,_)::_,_::_,h=>by rw[YE,YE,SpAt.len h.2]
 |[],_::_,h=>h.elim
 |(_,_,_)::_,[],h=>h.elim
theorem SpAt.ts{H H':Hp}(e:TS H H'):∀{ss:List (Int×Int×Int)} {vs:List V},SpAt H ss vs->SpAt H' ss vs
 |[],[],_=>trivial
 |(_,_,_)::_,_::_,⟨⟨p,h1,h2⟩,h⟩=>⟨⟨p,h1,e _ _ h2⟩,SpAt.ts e h⟩
 |[],_::_,h=>h.elim
 |(_,_,_)::_,[],h=>h.elim
theorem SpAt.app{H:Hp}:∀{ss:List (Int×Int×Int)} {vs:List V} {ss':List (Int×Int×Int)} {vs':List V},SpAt H ss vs->SpAt H ss' vs'->SpAt H (ss++ss') (vs++vs')
 |[],[],_,_,_,h'=>h'
 |(_,_,_)::_,_::_,_,_,h,h'=>⟨h.1,h.2.app h'⟩
 |[],_::_,_,_,h,_=>h.elim
 |(_,_,_)::_,[],_,_,h,_=>h.elim
theorem SpAt.one{x y z:Int}{p:Addr}(h:H p=some (.tup [.int x,.int y,.int z])):SpAt H [(x,y,z)] [.ref p]:=⟨⟨p,rfl,h⟩,trivial⟩
theorem SpAt.get{H:Hp}:∀{ss:List (Int×Int×Int)} {vs:List V} {i:Nat} {v:V},SpAt H ss vs->vs[i]?=some v->∃(x y z:Int) (p:Addr),ss[i]?=some (x,y,z)/\v=.ref p/\H p=some (.tup [.int x,.int y,.int z])
 |[],[],_,_,_,h=>by simp at h
 |(x,y,z)::_,u::_,0,v,h,e=>by
  have e':u=v:=by simpa using e
  subst e';obtain⟨⟨p,h1,h2⟩,_⟩:=h;exact⟨x,y,z,p,O,h1,h2⟩
 |(_,_,_)::ss,_::vs,i+1,v,h,e=>by obtain⟨x,y,z,p,h1,h2⟩:=SpAt.get (i:=i) h.2 (by simpa using e);exact⟨x,y,z,p,by simpa using h1,h2⟩
 |[],_::_,_,_,h,_=>h.elim
 |(_,_,_)::_,[],_,_,h,_=>h.elim
inductive qKn(vs:List V)(H:Hp)(Q:VK)(_:XK):Prop
|mk (z:Addr) (ms:List Im) (_:vs=[.ref z]) (_:Tr H z ms) (_:ms.length<=300) (_:∀(y:Addr) (us:List V) (H':Hp),Same H H'->H y=none->H' y=some (.lst us)->SpAt H' (qx 0 ms) us->Q (.ref y) H')
theorem qC3(T:Tx K mg a):FnOk P w K mg base CX0 2 a.A37 a.B37 ["track"] qKn:=by
 refine oL T.D37.F xZ λ_ _ _ _ H vs Q _ hr h _ Y=>?_;obtain⟨z,ms,rfl,⟨xs,hz,his⟩,hl,kk⟩:=h;apply Y;refine⟨_,(qD (qW 1 xZ.nd (qo qB))
  (qD (qW 2 xZ.nd qG)
  (qD (xj PassesOwn.never rfl (jl (pv 0)) (q8 (i:=3) xZ.nd rfl (Or.inl rfl)) (qD (qZ (qM jM (qJ (pv 3)) qR (qO _)) (qF (jR (qOd F.plainAttrs_list F.slot_list_append F.type_list_append kG (pv 1) (qA (qY (qA (qP jG (pv 2) (qI T.D35 (kW T) hr rfl (qA (qJ (pv 3)) qB))) (qA (pv 2) (qA (qP qk (pv 2) (qI T.D36 (wQ T) hr rfl (qA (qJ (pv 3)) qB))) qB)))) qB)))) qN)
  (qF (qW 2 xZ.nd (qP qk (pv 2) (qI T.D23 (jt T) hr rfl (qA (pv 3) qB)))))))
  (qF (qK (pv 1)))))),?_⟩
 try dsimp only[jD,qc]
 refine⟨sL0,λy hy=>?_⟩;refine⟨_,O,z,O,⟨_,SqL.of ((qE hy _) _ _ hz)⟩,j3 (K:=K) (a:=z) (xs:=xs) (λi σ H'=> ∃(b:Int) (as:List (Int×Int×Int)) (o:Option V) (us:List V),σ=[some (.ref z),some (.ref y),some (.int b),o]/\H' y=some (.lst us)/\SpAt H' as us/\as.length<=i/\as++qx b (ms.drop i)=qx 0 ms/\Same H H')
  ⟨0,[],none,[],rfl,qC,trivial,by simp,rfl,qE hy _⟩ ?_ ?_ ?_⟩
 . rintro i σ H' hi ⟨b,as,o,us,rfl,_,_,_,_,e⟩
   exact SqL.of (e _ _ hz)
 . rintro i x σ H' hx ⟨b,as,o,us,rfl,hv,hsp,hal,hap,e⟩
   refine qS λ_ Y=>?_;obtain⟨m,hm,hIx⟩:=his.get hx;have hI:=hIx.ts (qd e);have hi:i<ms.length:=(glt hm);rw[jy hm]at hap;obtain⟨zi,xi,rfl,hzi,h0,h1⟩:=hI.opn;apply Y;refine⟨_,O,zi,xi,_,_,O,O,SqT.of hzi,h0,O,_,O,ja (λc=>?_) (λc=>?_)⟩
   . obtain⟨l,rfl⟩:=xB (by simpa using c)
     refine qS λ_ Y=>?_;obtain⟨z2,e2,hz2⟩:=id hI;cases e2;apply Y;rw[qx]at hap;refine⟨_,O,.inl ⟨O,_,SqL.of hv⟩,_,O,ixO hz2 at1 ⟨_,O,_,_,O,O,_,O,_,O,ixO hz2 at1 ⟨_,O,_,_,O,O,sL3,λg hg=>?_⟩⟩⟩;have w1:=qE hg (.tup [.int (b-l.fdiv 2),.int b,.int (b+(l-l.fdiv 2))]);refine⟨y,_,_,O,O,w1 _ _ hv,qj (by rw[hsp.len];omega),?_⟩;have t2:TS (upd H' g (.tup [.int (b-l.fdiv 2),.int b,.int (b+(l-l.fdiv 2))])) (upd (upd H' g (.tup [.int (b-l.fdiv 2),.int b,.int (b+(l-l.fdiv 2))])) y (.lst (us++[.ref g]))):=z6 (w1 _ _ hv);refine⟨_,O,_,O,_,.mix l,O,(hI.ts (qd w1)).ts t2,_,_,O,O,b,as++[(b-l.fdiv 2,b,b+(l-l.fdiv 2))],some (.ref zi),us++[.ref g],?_,qC,((hsp.ts (qd w1)).app (.one qC)).ts t2,by simp;omega,?_,xG (e.trans w1) hy⟩
     . show [some (V.ref z),some (V.ref y),some (V.int (b+0)),some (V.ref zi)]=_
       rw[Yc]
     . rw[<-hap];simp
   . have hne:m.wd≠"mix":=by simpa using c
     rw[qt hne]at hap;exact⟨_,O,_,O,_,m,O,hI,_,_,O,O,_,as,_,us,O,hv,hsp,by omega,hap,e⟩
 . rintro σ H' ⟨b,as,o,us,rfl,hv,hsp,hal,hap,e⟩
   rw[his.len,ZH,qx,Ye]at hap;rw[hap]at hsp;exact⟨_,O,kk y us H' e hy hv hsp⟩
inductive qJs(vs:List V)(H:Hp)(Q:VK)(_:XK):Prop
|mk (i:Int) (_:vs=[.int i]) (_:1<=i) (_:Q (.bl true) H)
theorem qCz(T:Tx K mg a):FnOk P w K mg base CX0 2 a.A21 a.B21 ["thing"] qJs:=by
 refine oL T.D21.F qJz λ_ _ _ _ H vs Q _ hr h _ Y=>?_;obtain⟨i,rfl,hi,q⟩:=h;apply Y;refine⟨_,(qF (qK (xy (qI T.D0 (jA T) hr rfl (qA (pv 0) qB)) (kC (jH qMh (pv 0) qG (qO _)))))),?_⟩
 try dsimp only[jD,qc]
 rw[<-YX hi]at q;exact⟨_,O,i,O,true,O,jn ⟨_,O,_,_,O,O,q⟩⟩
noncomputable def qYu:Im->Bool
 |.nest .. =>true
 |_=>false
def NeO:Im->Prop
 |.nest n b l=>qJi n=true/\0<=b/\1<=l
 |_=>True
inductive qDd(K:W.Frag)(vs:List V)(H:Hp)(Q:VK)(_:XK):Prop
|mk (v:V) (m:Im) (_:vs=[v]) (_:IsI H m v) (_:NeO m) (_:∀H',Same H H'->Q (.bl (qYu m)) H')
theorem qC8(T:Tx K mg a):FnOk P w K mg base CX0 3 a.A22 a.B22 ["item"] (qDd K):=by
 refine oL T.D22.F qC5 λ_ _ _ s H _ _ _ hr h _ Y=>?_;obtain⟨v,m,rfl,hI,hm,kk⟩:=h;apply Y;refine⟨_,(qD (qZ (PW.pt (jv (jK (qr (qX jB rfl T.b_isinstance rfl (qA (pv 0) (qA (qDo rfl T.b_tuple rfl) qB))))) (jL (qM z7 (qX jV rfl T.b_len rfl (qA (pv 0) qB)) qG (qO _))))) (qF (qK zH)) qN)
  (qD (qZ (PW.pt (jv (qM z7 (qJ (pv 0)) qR (qO _)) (jL (jK (qr (qI T.D10 (qGv T) hr rfl (qA (qJ (pv 0)) qB))))))) (qF (qK zH)) qN)
  (qF (qK (xy (qI T.D0 (jA T) hr rfl (qA (qJ (pv 0)) qB)) (xy (jH qMh (qJ (pv 0)) qG (qO _)) (kC (qI T.D21 (qCz T) hr rfl (qA (qJ (pv 0)) qB))))))))),?_⟩
 try dsimp only[jD,qc]
 refine qS λ_ Y=>?_;obtain⟨z,xs,rfl,e,_⟩:=id hI.opn;apply Y;refine⟨_,O,_,_,_,true,O,.tup e,⟨_,.inl ⟨O,by kernel_rfl⟩⟩,true,O,qv ?_⟩;refine⟨_,O,_,_,O,.inr (SqT.of e),O,_,O,?_⟩;have k0:=kk H (Same.refl _);cases m with
 |nest n b l=>
  refine qS λ_ Y=>?_;obtain⟨h1,hb,hl⟩:=hm;obtain⟨z',e',hz⟩:=hI;cases e';rw[hz]at e;cases e;apply Y;refine qv (ixO hz qF8 ⟨O,_,O,qVl rfl ?_⟩);refine(ixO hz qHj ⟨n,O,h1,λH1 s1=>⟨true,O,qv ?_⟩⟩);have e1:=SqT.of (K:=K) (s1 _ _ hz);refine⟨_,O,_,_,_,_,O,O,e1,qCq,b,O,true,O,jn ⟨_,O,_,_,_,_,O,O,e1,qCq,_,_,O,O,_,O,wo (YX hb) ?_⟩⟩;exact⟨_,O,_,_,_,_,O,O,e1,qAs,l,O,hl,kk H1 s1⟩
 |clip n p q r s l=>
  refine qS λ_ Y=>?_;obtain⟨z',x,y,e',hz,_⟩:=hI;cases e';rw[hz]at e;cases e;apply Y;exact jn k0
 |gap l=>
  refine qS λ_ Y=>?_;obtain⟨z',e',hz⟩:=hI;cases e';rw[hz]at e;cases e;apply Y;exact jn k0
 |mix l=>
  refine qS λ_ Y=>?_;obtain⟨z',e',hz⟩:=hI;cases e';rw[hz]at e;cases e;apply Y;exact jn k0
def qY8(xs:List V)(w:Str)(t:Int):Prop:=atI xs 0=some (.str w)/\atI xs 2=some (.int t)/\(w="open"\/w="mix"->∃l:Int,atI xs 3=some (.int l)/\1<=l)/\(w="close"\/w="lift"->∃u:Int,atI xs 3=some (.int u)/\t<u)
theorem qZs{w y:Str}:inV (.str w) [.str x,.str y]=decide (w=x\/w=y):=by unfold inV;rw[Yu];simp[eqV];exact⟨λh=>h.imp Eq.symm Eq.symm,λh=>h.imp Eq.symm Eq.symm⟩
inductive qC7(vs:List V)(H:Hp)(Q:VK)(_:XK):Prop
|mk (dz:Addr) (xs:List V) (w:Str) (t:Int) (_:vs=[.ref dz]) (_:H dz=some (.tup xs)) (_:qY8 xs w t) (_:∀H',Same H H'->Q .non H')
theorem qDb(T:Tx K mg a):FnOk P w K mg base CX0 3 a.A64 a.B64 ["deed"] qC7:=by
 refine oL T.D64.F qDg λ_ _ _ s H vs Q _ hr h _ Y=>?_;obtain⟨dz,xs,w,t,rfl,hd,⟨a0,a2,h1,h2⟩,kg⟩:=h;apply Y;refine⟨_,(qD (kn (qZ (PW.pt (vO (qM xc (qJ (pv 0)) (qY (qA qR (qA qR qB))) rfl) (zK (jK (qr (qI T.D21 (qCz T) hr rfl (qA (qJ (pv 0)) qB))))))) jc qN))
  (qF (qZ (PW.pt (vO (qM xc (qJ (pv 0)) (qY (qA qR (qA qR qB))) rfl) (zK (PW.pt (jv (jK (qr (qI T.D0 (jA T) hr rfl (qA (qJ (pv 0)) qB)))) (jL (qM qMh (qJ (pv 0)) (qJ (pv 0)) (qO _)))))))) jc qN))),?_⟩
 try dsimp only[jD,qc]
 have two:(2:Nat)<=sizeLine:=by decide
 refine⟨λσ H1=>σ=[some (.ref dz)]/\Same H H1,?_,?_⟩
 . refine(ixO hd a0 ⟨two,λq hq=>⟨q,_,O,.inr (SqT.of qC),O,O,_,zj qZs,ja (λc=>?_) (λ_=>qv ⟨O,qE hq _⟩)⟩⟩)
   refine qS λ_ Y=>?_;obtain⟨l,a3,hl⟩:=h1 (ZK c);apply Y;have e1:=qE hq (.tup [.str "open",.str "mix"]);exact(ixO (e1 _ _ hd) a3 ⟨l,O,hl,true,O,qv ⟨O,e1⟩⟩)
 rintro σ H1 ⟨rfl,e1⟩;refine(ixO (e1 _ _ hd) a0 ⟨two,λq hq=>⟨q,_,O,.inr (SqT.of qC),O,O,_,zj qZs,ja (λc=>?_) (λ_=>qv (kg _ (e1.trans (qE hq _))))⟩⟩);refine qS λ_ Y=>?_;obtain⟨u,a3,hu⟩:=h2 (ZK c);apply Y;have e2:=e1.trans (qE hq (.tup [.str "close",.str "lift"]));have hd2:=e2 _ _ hd;exact(ixO hd2 a3 ⟨u,O,true,O,qv (ixO hd2 a2 (ixO hd2 a3 ⟨_,_,O,O,_,O,qBd (YW (by omega)) (kg _ e2)⟩))⟩)
noncomputable def qUj(lo hi:Int)(s:Int×Int×Int):Bool:=(decide (s.1<hi) && decide (lo<s.2.2)) || (decide (lo<=s.2.1) && decide (s.2.1<=hi))
noncomputable def ze(ms:List Im)(lo hi:Int):Bool:=(qx 0 ms).any (qUj lo hi)
inductive qF4(vs:List V)(H:Hp)(Q:VK)(_:XK):Prop
|mk (z:Addr) (ms:List Im) (lo hi:Int) (_:vs=[.ref z,.int lo,.int hi]) (_:Tr H z ms) (_:ms.length<=300) (_:∀H',Same H H'->Q (.bl (ze ms lo hi)) H')
theorem qGb(T:Tx K mg a):FnOk P w K mg base CX0 3 a.A65 a.B65 ["track","low","high"] qF4:=by
 refine oL T.D65.F wP λ_ _ _ _ H _ _ _ hr h _ Y=>?_;obtain⟨z,ms,lo,hi,rfl,tT,hml,kk⟩:=h;apply Y;refine⟨_,(qD (xj PassesOwn.never rfl (jl (qI T.D37 (qC3 T) hr rfl (qA (pv 0) qB))) (q8 (i:=3) wP.nd rfl (Or.inl rfl)) (qF (qZ (qW5 (PW.pt (jv (PW.pt (vO (qM zM (qJ (pv 3)) (pv 2) (qO _)) (zK (qM zM (pv 1) (qJ (pv 3)) (qO _))))) (jL (PW.pt (vO (qM qRa (pv 1) (qJ (pv 3)) (qO _)) (zK (qM qRa (qJ (pv 3)) (pv 2) (qO _))))))))) (qF (qK zH)) qN)))
  (qF (qK zH))),?_⟩
 try dsimp only[jD,qc]
 unfold ze at kk;refine⟨_,O,z,ms,O,tT,hml,λy us H1 e1 hy hy1 hsp=>?_⟩;generalize qx 0 ms=ss at hsp kk;refine⟨y,O,⟨_,SqL.of hy1⟩,j3 (K:=K) (a:=y) (xs:=us) (λi σ H'=> ∃o:Option V,σ=[some (.ref z),some (.int lo),some (.int hi),o]/\H'=H1/\(ss.take i).any (qUj lo hi)=false) ⟨none,O,O,O⟩ ?_ ?_ ?_⟩
 . rintro i σ H' hi ⟨o,rfl,rfl,_⟩
   exact SqL.of hy1
 . rintro i x σ H' hx ⟨o,rfl,rfl,hno⟩
   refine qS λ_ Y=>?_;obtain⟨x0,x1,x2,p,hs,rfl,hp⟩:=hsp.get hx;apply Y;have q:=SqT.of (K:=K) hp;have b0:atI [V.int x0,.int x1,.int x2] 0=some (.int x0):=rfl;have b1:atI [V.int x0,.int x1,.int x2] 1=some (.int x1):=rfl;have b2:atI [V.int x0,.int x1,.int x2] 2=some (.int x2):=rfl;refine⟨λt' H2=>H2=H'/\t'=qUj lo hi (x0,x1,x2),?_,?_⟩
   . unfold qUj
     dsimp only;refine⟨_,O,p,_,_,_,O,O,q,b0,_,O,_,_,O,O,_,O,?_⟩;by_cases h1:x0<hi
     . rw[YX h1,Bool.true_and]
       refine jn ⟨_,O,_,O,p,_,_,_,O,O,q,b2,_,_,O,O,_,O,?_⟩;by_cases h2:lo<x2
       . rw[YX h2,Bool.true_or]
         exact jn ⟨O,O⟩
       rw[YW h2,Bool.false_or];refine qv ⟨_,O,_,O,p,_,_,_,O,O,q,b1,_,_,O,O,_,O,?_⟩;by_cases h3:lo<=x1
       . rw[YX h3,Bool.true_and]
         exact jn ⟨_,O,p,_,_,_,O,O,q,b1,_,O,_,_,O,O,_,O,O,O⟩
       . rw[YW h3,Bool.false_and]
         exact qv ⟨O,O⟩
     . rw[YW h1,Bool.false_and,Bool.false_or]
       refine qv (qv ⟨_,O,_,O,p,_,_,_,O,O,q,b1,_,_,O,O,_,O,?_⟩);by_cases h3:lo<=x1
       . rw[YX h3,Bool.true_and]
         exact jn ⟨_,O,p,_,_,_,O,O,q,b1,_,O,_,_,O,O,_,O,O,O⟩
       . rw[YW h3,Bool.false_and]
         exact qv ⟨O,O⟩
   rintro t' H2 ⟨rfl,rfl⟩;cases ht:qUj lo hi (x0,x1,x2)with
   |true=>
    have:ss.any (qUj lo hi)=true:=List.any_eq_true.mpr ⟨_,YF hs,ht⟩;rw[this]at kk;exact jn (kk _ e1)
   |false=>
    refine qv ⟨_,O,O,?_⟩;rw[Ys,hs,List.any_append,hno];show (false || (qUj lo hi (x0,x1,x2) || false))=false;rw[ht];rfl
 . rintro σ H' ⟨o,rfl,rfl,hno⟩
   rw[hsp.len,Yw]at hno;rw[hno]at kk;exact kk _ e1
structure TabG(H:Hp)(tz:Addr)(ts:List (List Im))(tie:List Int)(n:Nat):Prop where
 tab:TabF H (.ref tz) ts tie
 ok:∀ms∈ts,MsB ms/\ms.length<=100
 nt:n<ts.length
 len:ts.length<=8
 tl:tie.length<=8
 tin:∀x∈tie,∃k:Nat,x=(k:Int)/\k<ts.length
theorem TabG.same{H H':Hp}{tz:Addr}{ts:List (List Im)}{tie:List Int}{n:Nat}(e:Same H H')(h:TabG H tz ts tie n):TabG H' tz ts tie n:=⟨h.tab.same e,h.ok,h.nt,h.len,h.tl,h.tin⟩
theorem TabG.ch{ts:List (List Im)}{n:Nat}(h:TabG H tz ts tie n)(push:Bool):(chF tie (n:Int) push).length<=10/\∀x∈chF tie (n:Int) push,∃k:Nat,x=(k:Int)/\k<ts.length:=by
 unfold chF;split
 . refine⟨?_,λx hx=>?_⟩
   . rw[YE]
     have:=List.length_filter_le (λx=>decide (x≠(n:Int))) tie;have:=h.tl;omega
   . rcases YU.mp hx with rfl|hx
     . exact⟨n,O,h.nt⟩
     . exact h.tin x (List.mem_filter.mp hx).1
 . refine⟨by show 1<=10;decide,λx hx=>?_⟩
   have:x=(n:Int):=by simpa using hx
   exact⟨n,this,h.nt⟩
noncomputable def xU(ts:List (List Im))(ns:List Int)(lo hi:Int):Bool:=ns.any λk=>ze (ts.getD k.toNat []) lo hi
inductive qD5(M:Addr)(vs:List V)(H:Hp)(Q:VK)(E:XK):Prop
|mk (tz dz:Addr) (ts:List (List Im)) (tie:List Int) (n:Nat) (d:Dk) (_:vs=[.ref tz,.ref dz]) (_:TabG H tz ts tie n) (_:DAt H dz (n:Int) d) (_:(xU ts (chF tie (n:Int) d.push) d.t d.hi=true->∀H',Same H H'->E (.ref M) none H')) (_:(xU ts (chF tie (n:Int) d.push) d.t d.hi=false->∀H',Same H H'->Q .non H'))
theorem vH(T:Tx K mg a):FnOk P w K mg base (CXR P w) 4 a.A66 a.B66 ["table","deed"] (qD5 a.k_Mixed):=by
 refine oX T.D66.F zg λ_ _ _ _ H vs Q _ hr h _ Y=>?_;obtain⟨tz,dz,ts,tie,n,d,rfl,hP,hD,kb,kg⟩:=h;apply Y;refine⟨_,(qD (qW 2 zg.nd (qI T.D60 (qBe T) hr rfl (qA (pv 1) qB)))
  (qF (xj (qYd rfl rfl rfl rfl) rfl (jl (qI T.D63 (kI T) hr rfl (qA (pv 0) (qA (pv 1) qB)))) (q8 (i:=3) zg.nd rfl (Or.inl rfl)) (qF (qZ (qr (qI T.D65 (qGb T) hr rfl (qA (jN qh (qJ (pv 0)) (pv 3) (λ_ _=>rfl)) (qA (qJ (pv 2)) (qA (qJ (pv 2)) qB))))) (qF (xV rfl rfl T.c_Mixed T.x_Mixed (qA qR qB))) qN))))),?_⟩
 try dsimp only[jD,qc]
 have one:(1:Nat)<=sizeLine:=by decide
 refine qS λ_ Y=>?_;obtain⟨tt,tl,ti,zs,e0,g2,g3,g4,g5⟩:=id hP.tab;cases e0;have hzl:=g4.len;obtain⟨hcl,hch⟩:=hP.ch d.push;apply Y;unfold xU at kb kg;refine⟨_,O,dz,_,d,O,hD,λp H1 e1 hp=>?_⟩;refine⟨_,rfl,_,rfl,tz,tl,ti,dz,tie,_,d,rfl,e1 _ _ g2,e1 _ _ g5,by have:=hP.tl;omega,hD.same e1,λy H2 e2 hy hy2=>?_⟩;generalize chF tie (n:Int) d.push=ns at hy2 hcl hch kb kg;refine⟨y,O,⟨_,SqL.of hy2⟩,j3 (K:=K) (a:=y) (xs:=ns.map V.int) (λi σ H'=> ∃o:Option V,σ=[some (.ref tz),some (.ref dz),some (.ref p),o]/\Same H2 H'/\(ns.take i).any (λk=>ze (ts.getD k.toNat []) d.t d.hi)=false) ⟨none,O,Same.refl _,O⟩ ?_ ?_ ?_⟩
 . rintro i σ H' hi ⟨o,rfl,e,_⟩
   exact SqL.of (e _ _ hy2)
 . rintro i x σ H' hx ⟨o,rfl,e,hno⟩
   refine qS λ_ Y=>?_;obtain⟨xi,hxi,rfl⟩:∃xi:Int,ns[i]?=some xi/\x=.int xi:=by
    rw[Yj]at hx;cases hq:ns[i]? with
    |none=>rw[hq]at hx;cases hx
    |some k=>rw[hq]at hx;cases hx;exact⟨k,rfl,rfl⟩
   obtain⟨k,rfl,hk⟩:=hch xi (YF hxi);have e02:=e1.trans (e2.trans e);have ez:zs[k]?=some zs[k]:=YD (by omega);obtain⟨ms,z,hms,ezz,tT⟩:=g4.get ez;apply Y;rw[ezz]at ez;have egd:ts.getD ((k:Int)).toNat []=ms:=by rw[YQ,List.getD_eq_getElem?_getD,hms];rfl
   have hml:=(hP.ok ms (YF hms)).2;refine(ixO (e02 _ _ g2) at0 ⟨_,O,tl,_,_,_,O,O,SqL.of (e02 _ _ g3),qz ez,zf rfl (SqT.of ((e2.trans e) _ _ hp)) at0 (zf rfl (SqT.of ((e2.trans e) _ _ hp)) at1 ⟨z,ms,_,_,O,tT.same e02,by omega,λH3 e3=>?_⟩)⟩);refine⟨_,O,?_⟩;cases ht:ze ms d.t d.hi with
   |true=>
    refine jn ⟨one,kb ?_ _ (e02.trans e3)⟩;exact List.any_eq_true.mpr ⟨_,YF hxi,by rw[egd];exact ht⟩
   |false=>
    refine qv ⟨_,O,e.trans e3,?_⟩;rw[Ys,hxi,List.any_append,hno];show (false || (ze (ts.getD ((k:Int)).toNat []) d.t d.hi || false))=false;rw[egd,ht];rfl
 . rintro σ H' ⟨o,rfl,e,hno⟩
   rw[YS,Yw]at hno;exact kg hno H' (e1.trans (e2.trans e))
noncomputable def jC(ms:List Im):Int:=(ms.map Im.mo).sum
noncomputable def qOi(ms:List Im)(lo hi:Int)(ls:List Im):List Im:=z8 0 (zU 0 lo 0 ms++[.gap (qBp (lo-jC ms) 0)]++ls++zU hi (jC ms) 0 ms)
inductive qQ3(vs:List V)(H:Hp)(Q:VK)(_:XK):Prop
|mk (z l:Addr) (ms ls:List Im) (lo hi:Int) (_:vs=[.ref z,.int lo,.int hi,.ref l]) (_:Tr H z ms) (_:Tr H l ls) (_:MsB ms) (_:ms.length<=100) (_:ls.length<=10) (_:0<=hi) (_:hi<=2 ^ 500) (_:∀(y:Addr) (H':Hp),Same H H'->H y=none->Tr H' y (qOi ms lo hi ls)->Q (.ref y) H')
theorem qP7(T:Tx K mg a):FnOk P w K mg base CX0 8 a.A73 a.B73 ["track","low","high","laid"] qQ3:=by
 refine oL T.D73.F qI9 λ_ _ _ s H _ _ _ hr h _ Y=>?_;obtain⟨z,l,ms,ls,lo,hi,rfl,tT,tL,hB,hl1,hl2,h0,h1,kk⟩:=h;apply Y;refine⟨_,(qD (qW 4 qI9.nd (qY (qA qR (qA (qX (qBm rfl) rfl T.b_max rfl (qA (qP jG (pv 1) (qI T.D25 (qCu T) hr rfl (qA (pv 0) qB))) (qA qG qB))) qB))))
  (qF (qK (qI T.D24 (qMd T) hr rfl (qA (qP qA3 (qP qA3 (qP qA3 (qI T.D34 (vD T) hr rfl (qA (pv 0) (qA qG (qA (pv 1) qB)))) (qo (qA (pv 4) qB))) (pv 3)) (qI T.D34 (vD T) hr rfl (qA (pv 0) (qA (pv 2) (qA (qI T.D25 (qCu T) hr rfl (qA (pv 0) qB)) qB))))) qB))))),?_⟩
 try dsimp only[jD,qc]
 have two:(2:Nat)<=sizeLine:=by decide
 have one:(1:Nat)<=sizeLine:=by decide
 have sm:∀j:Nat,j<=1000->j<=sizeLine:=λj h=>by have:=qj (n:=j) (by omega);omega
 refine⟨_,O,_,O,z,ms,O,tT,by omega,λH1 e1=>?_⟩;refine⟨_,_,O,O,_,_,O,two,λg hg=>?_⟩;have w2:=qE hg (.tup [.str "gap",.int (if (0:Int)>lo-(ms.map Im.mo).sum then 0 else lo-(ms.map Im.mo).sum)]);have kg:upd H1 g (.tup [.str "gap",.int (if (0:Int)>lo-(ms.map Im.mo).sum then 0 else lo-(ms.map Im.mo).sum)]) g=some (.tup [.str "gap",.int (qBp (lo-jC ms) 0)]):=qC;have e2:=e1.trans w2;change _;generalize upd H1 g (.tup [.str "gap",.int (if (0:Int)>lo-(ms.map Im.mo).sum then 0 else lo-(ms.map Im.mo).sum)])=H2 at w2 kg e2;refine⟨_,rfl,_,rfl,z,ms,0,lo,rfl,tT.same e2,hB,by decide,by decide,λy1 H3 e3 hy1 ⟨us1,k1,i1⟩=>?_⟩;have n1:=i1.len;have n1':=qEl 0 lo 0 ms;refine⟨_,O,one,λl2 hl2=>?_⟩;have w4:=qE hl2 (.lst [.ref g]);refine⟨y1,l2,_,_,O,O,w4 _ _ k1,qC,sm _ (by show us1.length+1<=1000;omega),λy2 hy2=>?_⟩;have w5:=qE hy2 (.lst (us1++[.ref g]));have w45:=w4.trans w5;have e5:=(e2.trans e3).trans w45;have k2:(upd (upd H3 l2 (.lst [.ref g])) y2 (.lst (us1++[.ref g]))) y2=some (.lst (us1++[.ref g])):=qC;have i2:IsIs (upd (upd H3 l2 (.lst [.ref g])) y2 (.lst (us1++[.ref g]))) (zU 0 lo 0 ms++[.gap (qBp (lo-jC ms) 0)]) (us1++[.ref g]):=(i1.ts (qd w45)).app (.one (isG ((e3.trans w45) _ _ kg)));change _;generalize upd (upd H3 l2 (.lst [.ref g])) y2 (.lst (us1++[.ref g]))=H5 at w45 e5 k2 i2;refine qS λ_ Y=>?_;obtain⟨ul,kl,il⟩:=tL.same e5;apply Y;have nl:=il.len;have n2:=i2.len;rw[YN,YN]at n2;refine⟨_,O,y2,l,_,_,O,O,k2,kl,sm _ (by rw[YN];show us1.length+1+ul.length<=1000;omega),λy3 hy3=>?_⟩;have w6:=qE hy3 (.lst (us1++[.ref g]++ul));have e6:=e5.trans w6;have k3:(upd H5 y3 (.lst (us1++[.ref g]++ul))) y3=some (.lst (us1++[.ref g]++ul)):=qC;have i3:IsIs (upd H5 y3 (.lst (us1++[.ref g]++ul))) (zU 0 lo 0 ms++[.gap (qBp (lo-jC ms) 0)]++ls) (us1++[.ref g]++ul):=(i2.app il).ts (qd w6);change _;generalize upd H5 y3 (.lst (us1++[.ref g]++ul))=H6 at w6 e6 k3 i3;refine⟨_,O,_,O,_,O,z,ms,O,tT.same e6,by omega,λH7 e7=>?_⟩;refine⟨z,ms,hi,jC ms,rfl,tT.same (e6.trans e7),hB,h0,h1,λy4 H8 e8 hy4 ⟨us4,k4,i4⟩=>?_⟩;have n4:=i4.len;have n4':=qEl hi (jC ms) 0 ms;have e78:=e7.trans e8;have hlen:(us1++[V.ref g]++ul).length=us1.length+1+ul.length:=by rw[YN,YN];rfl
 refine⟨y3,y4,_,_,O,O,e78 _ _ k3,k4,sm _ (by omega),λy5 hy5=>?_⟩;have w9:=qE hy5 (.lst (us1++[.ref g]++ul++us4));have e9:=(e6.trans e78).trans w9;refine⟨y5,_,O,⟨_,qC,((i3.ts (qd e78)).app i4).ts (qd w9)⟩,?_,λy H10 e10 hy tY=>kk y H10 (e9.trans e10) (e9.free hy) tY⟩;rw[YN,YN,YN];show (zU 0 lo 0 ms).length+1+ls.length+(zU hi (jC ms) 0 ms).length<=300;omega
def LayOk(H:Hp)(rd:Addr):Im->Prop
 |.clip n p q r s l=> ∃N,Reel H rd n N/\GF n p q r s l/\InR (Vk p q r s 0) (q*s) N/\InR (Vk p q r s (l-1)) (q*s) N
 |.nest n b l=>qJi n=true/\0<=b/\1<=l
 |_=>False
theorem LayOk.same{H H':Hp}{rd:Addr}{m:Im}(e:Same H H')(h:LayOk H rd m):LayOk H' rd m:=by
 cases m with
 |clip n p q r s l=>obtain⟨N,h1,h2⟩:=h;exact⟨N,h1.same e,h2⟩
 |nest n b l=>exact h
 |gap=>exact h
 |mix=>exact h
def DOk(H:Hp)(rd:Addr)(ms:List Im):Dk->Prop
 |.cut t=>0<=t/\t<=2 ^ 400/\v8 ms t=true
 |.hel _=>False
 |.opn t l=>0<=t/\t<=2 ^ 400/\1<=l
 |.cls t u=>0<=t/\t<u/\u<=2 ^ 400
 |.lft t u=>0<=t/\t<u/\u<=2 ^ 400
 |.lin t m=>0<=t/\t<=2 ^ 400/\LayOk H rd m
 |.lov t m=>0<=t/\t<=2 ^ 400/\LayOk H rd m/\0<=m.mo/\m.mo<=2 ^ 400
noncomputable def Dk.lay:Dk->Option Im
 |.lin _ m=>some m
 |.lov _ m=>some m
 |_=>none
theorem Dk.lay_in(d:Dk):inV (.str d.wd) [.str "lay_in",.str "lay_over"]=d.lay.isSome:=by
 cases d with
 |cut t=>show inV (.str "cut") _=false;decide+kernel
 |hel t=>show inV (.str "heal") _=false;decide+kernel
 |opn t l=>show inV (.str "open") _=false;decide+kernel
 |cls t u=>show inV (.str "close") _=false;decide+kernel
 |lft t u=>show inV (.str "lift") _=false;decide+kernel
 |lin t m=>show inV (.str "lay_in") _=true;decide+kernel
 |lov t m=>show inV (.str "lay_over") _=true;decide+kernel
theorem DAt.lay{H:Hp}{dz:Addr}{n:Int}{d:Dk}{m:Im}(h:DAt H dz n d)(hl:d.lay=some m):∃xs v,H dz=some (.tup xs)/\atI xs 3=some v/\IsI H m v:=by
 cases d with
 |lin t m'=>cases hl;obtain⟨v,h1,h2⟩:=h;exact⟨_,v,h1,rfl,h2⟩
 |lov t m'=>cases hl;obtain⟨v,h1,h2⟩:=h;exact⟨_,v,h1,rfl,h2⟩
 |_=>cases hl
theorem DOk.lay{H:Hp}{rd:Addr}{ms:List Im}{d:Dk}{m:Im}(h:DOk H rd ms d)(hl:d.lay=some m):LayOk H rd m:=by
 cases d with
 |lin t m'=>cases hl;exact h.2.2
 |lov t m'=>cases hl;exact h.2.2.1
 |_=>cases hl
theorem DOk.ch{d:Dk}(h:DOk H rd ms d):inV (.str d.wd) [.str "cut",.str "lay_in",.str "open",.str "close",.str "lift",.str "lay_over"]=true:=by
 cases d with
 |cut t=>show inV (.str "cut") _=true;decide+kernel
 |hel t=>exact h.elim
 |opn t l=>show inV (.str "open") _=true;decide+kernel
 |cls t u=>show inV (.str "close") _=true;decide+kernel
 |lft t u=>show inV (.str "lift") _=true;decide+kernel
 |lin t m=>show inV (.str "lay_in") _=true;decide+kernel
 |lov t m=>show inV (.str "lay_over") _=true;decide+kernel
theorem Dk.cut_wd{d:Dk}(h:d.wd="cut"):∃t,d=.cut t:=by
 cases d with
 |cut t=>exact⟨t,rfl⟩
 |hel t=>exact YC (show ("heal":Str)="cut" from h) (by decide+kernel)
 |opn t l=>exact YC (show ("open":Str)="cut" from h) (by decide+kernel)
 |cls t l=>exact YC (show ("close":Str)="cut" from h) (by decide+kernel)
 |lft t l=>exact YC (show ("lift":Str)="cut" from h) (by decide+kernel)
 |lin t l=>exact YC (show ("lay_in":Str)="cut" from h) (by decide+kernel)
 |lov t l=>exact YC (show ("lay_over":Str)="cut" from h) (by decide+kernel)
theorem DOk.same{H H':Hp}{rd:Addr}{ms:List Im}{d:Dk}(e:Same H H')(h:DOk H rd ms d):DOk H' rd ms d:=by
 cases d with
 |lin t m=>exact⟨h.1,h.2.1,h.2.2.same e⟩
 |lov t m=>exact⟨h.1,h.2.1,h.2.2.1.same e,h.2.2.2⟩
 |_=>exact h
inductive ChO(K:W.Frag)(H:Hp)(rd dz:Addr)(n:Nat)(ts:List (List Im))(tie:List Int)(ms:List Im):Nat->Prop where
 |cut0 {t:Int} (hd:H dz=some (.tup [.str "cut",.int (n:Int),.int t])) (h:v8 ms t=false):ChO K H rd dz n ts tie ms 0
 |ok {d:Dk} {c:Nat} (hD:DAt H dz (n:Int) d) (hO:DOk H rd ms d) (hc:c=if xU ts (chF tie (n:Int) d.push) d.t d.hi=true then 1 else 2):ChO K H rd dz n ts tie ms c
theorem ChO.same{H H':Hp}(e:Same H H'){rd dz:Addr}{n:Nat}{ts:List (List Im)}{tie:List Int}{ms:List Im}{c:Nat}(h:ChO K H rd dz n ts tie ms c):ChO K H' rd dz n ts tie ms c:=by
 cases h with
 |cut0 hd h=>exact .cut0 (e _ _ hd) h
 |ok hD hO hc=>exact .ok (hD.same e) (hO.same e) hc
inductive qDk(K:W.Frag)(N M:Addr)(vs:List V)(H:Hp)(Q:VK)(E:XK):Prop
|mk (tz dz rd:Addr) (ts:List (List Im)) (tie:List Int) (n:Nat) (ms:List Im) (c:Nat) (_:vs=[.ref tz,.ref dz,.ref rd]) (_:TabG H tz ts tie n) (_:ts[n]?=some ms) (_:ChO K H rd dz n ts tie ms c) (_:(c=0->∀H',Same H H'->E (.ref N) none H')) (_:(c=1->∀H',Same H H'->E (.ref M) none H')) (_:(c=2->∀H',Same H H'->Q .non H'))
theorem qC6(T:Tx K mg a):FnOk P w K mg base (CXR P w) 7 a.A67 a.B67 ["table","deed","reels"] (qDk K a.k_NoPlace a.k_Mixed):=by
 refine oX T.D67.F qEp λ_ _ _ s H vs Q _ hr h _ Y=>?_;obtain⟨tz,dz,rd,ts,tie,n,ms,c,rfl,hP,hms,hC,k0,k1,k2⟩:=h;apply Y;refine⟨_,(qD (qZ (qM vt (qJ (pv 1)) (jQ (v:=.ref a.n_CHANGES) rfl T.g_CHANGES rfl) rfl) (qF (xV rfl rfl T.c_NoPlace T.x_NoPlace (qA qR qB))) qN)
  (qD (kn (qZ (PW.pt (vO (qM jM (qJ (pv 1)) qR (qO _)) (zK (jK (qr (qI T.D32 (qF9 T) hr rfl (qA (jN qh (qJ (pv 0)) (qJ (pv 1)) (λ_ _=>rfl)) (qA (qJ (pv 1)) qB)))))))) (qF (xV rfl rfl T.c_NoPlace T.x_NoPlace (qA qR qB))) qN))
  (qD (kn (qZ (PW.pt (vO (qM xc (qJ (pv 1)) (jQ (v:=.ref a.n_LAYS) rfl T.g_LAYS rfl) rfl) (zK (jK (qr (qI T.D22 (qC8 T) hr rfl (qA (qJ (pv 1)) qB))))))) (qF (jR (qI T.D15 (qG3 T) hr rfl (qA (qJ (pv 1)) (qA (pv 2) qB))))) qN))
  (qF (jR (xn T.D66 (vH T) hr rfl (qA (pv 0) (qA (pv 1) qB)))))))),?_⟩
 try dsimp only[jD,qc]
 have one:(1:Nat)<=sizeLine:=by decide
 refine qS λ_ Y=>?_;obtain⟨tt,tl,ti,zs,e0,g2,g3,g4,g5⟩:=id hP.tab;cases e0;have hzl:=g4.len;have hnt:=hP.nt;have ez:zs[n]?=some (zs[n]'(by omega)):=YD (by omega);obtain⟨ms',z,hms',ezz,tT⟩:=g4.get ez;rw[hms]at hms';cases hms';apply Y;rw[ezz]at ez;cases hC with
 | @cut0 t hd h=>
  have a0:atI [V.str "cut",.int (n:Int),.int t] 0=some (.str "cut"):=rfl;have a1:atI [V.str "cut",.int (n:Int),.int t] 1=some (.int (n:Int)):=rfl;have a2:atI [V.str "cut",.int (n:Int),.int t] 2=some (.int t):=rfl;refine(ixO hd a0 ⟨a.n_CHANGES,_,O,.inr (T.sq_CHANGES _),O,O,false,qQ7 (b:=true) (by decide+kernel),qv ?_⟩);refine⟨λσ H1=>False,?_,λ_ _ h=>h.elim⟩;refine(ixO hd a0 ⟨O,_,O,wo (by decide+kernel) ?_⟩);refine(ixO g2 at0 (ixO hd a1 ⟨tl,_,_,_,O,O,SqL.of g3,qz ez,ixO hd a2 ⟨z,ms,t,O,tT,λH1 e1=>?_⟩⟩));rw[h];exact⟨false,O,jn ⟨one,k0 rfl H1 e1⟩⟩
 | @ok d c hD hO hc=>
  refine qS λ_ Y=>?_;obtain⟨xs,hd,a0,a1,a2⟩:=hD.opn;apply Y;refine(ixO hd a0 ⟨a.n_CHANGES,_,O,.inr (T.sq_CHANGES _),O,O,false,qQ7 hO.ch,qv ?_⟩);refine⟨λσ H1=>σ=[some (.ref tz),some (.ref dz),some (.ref rd)]/\Same H H1,?_,?_⟩
  . refine(ixO hd a0 ⟨O,_,O,ja (λc=>?_) (λc=>qv ⟨O,Same.refl _⟩)⟩)
    obtain⟨t,rfl⟩:=Dk.cut_wd (by simpa using c);refine(ixO g2 at0 (ixO hd a1 ⟨tl,_,_,_,O,O,SqL.of g3,qz ez,ixO hd a2 ⟨z,ms,t,O,tT,λH1 e1=>?_⟩⟩));rw[hO.2.2];exact⟨true,O,qv ⟨O,e1⟩⟩
  rintro σ H1 ⟨rfl,e1⟩;refine⟨λσ H2=>σ=[some (.ref tz),some (.ref dz),some (.ref rd)]/\Same H H2,?_,?_⟩
  . refine(ixO (e1 _ _ hd) a0 ⟨a.n_LAYS,_,O,.inr (T.sq_LAYS _),O,O,d.lay.isSome,zj d.lay_in,?_⟩)
    cases hl:d.lay with
    |none=>exact qv (qv ⟨rfl,e1⟩)
    |some m=>
     refine qS λ_ Y=>?_;obtain⟨xs',v,hd',a3,hI⟩:=(hD.same e1).lay hl;apply Y;have hL:=(hO.lay hl).same e1;cases m with
     |nest nn b l=>
      exact jn (ixO hd' a3 ⟨v,_,O,hI,hL,λH2 e2=>⟨true,O,qv ⟨O,e1.trans e2⟩⟩⟩)
     |gap l=>exact hL.elim
     |mix l=>exact hL.elim
     |clip nn p q r s1 l=>
      refine qS λ_ Y=>?_;obtain⟨N,hr1,hg,i0,i1⟩:=hL;apply Y;refine jn (ixO hd' a3 ⟨v,_,O,hI,trivial,λH2 e2=>⟨false,O,jn ?_⟩⟩);exact(ixO (e2 _ _ hd') a3 ⟨_,O,v,rd,_,_,_,_,_,_,N,O,hI.ts (qd e2),hg,hr1.same e2,i0,i1,λH3 e3=>⟨O,(e1.trans e2).trans e3⟩⟩)
  rintro σ H2 ⟨rfl,e2⟩;refine⟨_,O,_,O,tz,dz,ts,tie,n,d,O,hP.same e2,hD.same e2,λht H3 e3=>?_,λht H3 e3=>?_⟩
  . rw[ht,YB rfl]at hc
    exact k1 hc H3 (e2.trans e3)
  . rw[ht,YA (by decide)]at hc
    exact k2 hc H3 (e2.trans e3)
noncomputable def goB(n n':Str)(p q r s len p' q' r' s':Int):Bool:=decide (n=n') && ((r==r' && s==s') && (p'==plP p q r s len && q'==plQ p q r s len))
inductive qOg(K:W.Frag)(vs:List V)(H:Hp)(Q:VK)(_:XK):Prop
|mk (v u:V) (n n':Str) (p q r s len p' q' r' s' len':Int) (_:vs=[v,u]) (_:Cp K H v n p q r s len) (_:Cp K H u n' p' q' r' s' len') (_:Bn 700 p q r s) (_:len.natAbs<2 ^ 700) (_:∀H',Same H H'->Q (.bl (goB n n' p q r s len p' q' r' s')) H')
theorem qOe(T:Tx K mg a):FnOk P w K mg base CX0 5 a.A17 a.B17 ["one","other"] (qOg K):=by
 refine oL T.D17.F qOl λ_ _ _ s H _ _ _ hr h _ Y=>?_;obtain⟨v,u,n,n',p,q,r,s,len,p',q',r',s',len',rfl,hc,hd,⟨hq,hs,bp,bq,br,bs⟩,bl,kk⟩:=h;apply Y;have hu:=hr.units0;refine⟨_,(qD (qZ (PW.pt (jv (qM z7 (qJ (pv 0)) (qJ (pv 1)) (qO _)) (jL (qM (qW2 hu) (qJ (pv 0)) (qJ (pv 1)) (qO _))))) (qF (qK zH)) qN)
  (qF (qK (jH (qT8 hu) (qJ (pv 1)) (qI T.D12 (zI T) hr rfl (qA (pv 0) (qA (qJ (pv 0)) qB))) (qO _))))),?_⟩
 try dsimp only[jD,qc]
 have hc0:=hc;refine qS λ_ Y=>?_;obtain⟨z,z1,z2,e,h0,h1,h2⟩:=hc0.ex;subst e;obtain⟨y,y1,y2,e,d0,d1,d2⟩:=hd.ex;subst e;apply Y;refine(zf rfl h0 qEe ⟨_,O,y,_,_,_,O,O,d0,qEe,O,_,O,?_⟩);by_cases en:n=n'
 rotate_left
 . have e:(!decide (V.str n=V.str n'))=true:=by simp[en]
   rw[e];refine jn (jn ?_);have g:goB n n' p q r s len p' q' r' s'=false:=by simp[goB,en]
   have:=kk H (Same.refl _);rw[g]at this;exact this
 have e:(!decide (V.str n=V.str n'))=false:=by simp[en]
 rw[e];refine qv ?_;refine(zf rfl h0 qLp ⟨_,O,y,_,_,_,O,O,d0,qLp,_,_,_,_,O,O,h2,d2,O,O,_,O,?_⟩);rw[eq2];by_cases er:(r==r' && s==s')=true
 rotate_left
 . have er':(r==r' && s==s')=false:=by simpa using er
   rw[er'];refine jn ?_;have g:goB n n' p q r s len p' q' r' s'=false:=by unfold goB;rw[er'];simp
   have:=kk H (Same.refl _);rw[g]at this;exact this
 rw[er];refine qv ?_;refine⟨_,O,y,_,_,_,O,O,d0,qUn,_,O,zf rfl h0 qCs ⟨_,n,p,q,r,s,len,len,O,hc,hq,hs,bp,bq,br,bs,bl,λx H1 s1 e1=>?_⟩⟩;refine⟨_,_,_,_,O,O,L3.Same.tup s1 d1,SqT.of e1,O,O,?_⟩;have g:goB n n' p q r s len p' q' r' s'=(if false=true then !qK3 [.int p',.int q'] [.int (xX (p*s+len*r*q) (q*s)),.int (j6 (p*s+len*r*q) (q*s))]else qK3 [.int p',.int q'] [.int (xX (p*s+len*r*q) (q*s)),.int (j6 (p*s+len*r*q) (q*s))]):=by rw[YA (by decide),eq2];unfold goB;rw[er];simp[en,plP,plQ]
 rw[<-g];exact kk H1 s1
theorem qVj:atI [x0,x1,x2] 1=some x1:=rfl
theorem qWe:atI [x0,x1,x2] 2=some x2:=rfl
theorem qHz(vs:List V)(i:Nat):xl vs none (some (i:Int))=vs.take i:=by
 unfold xl;rw[HT.sIx_none,HT.sIx_nat,List.drop_zero,Nat.sub_zero];by_cases h:i<=vs.length
 . rw[Nat.min_eq_left h]
 . rw[Nat.min_eq_right (by omega),List.take_of_length_le (YI _),List.take_of_length_le (by omega)]
theorem qHg(vs:List V)(i:Nat):xl vs (some (i:Int)) none=vs.drop i:=by
 unfold xl;rw[HT.sIx_none,HT.sIx_nat];by_cases h:i<=vs.length
 . rw[Nat.min_eq_left h,List.take_of_length_le (by rw[ZR];omega)]
 . rw[Nat.min_eq_right (by omega),List.drop_of_length_le (by omega),List.drop_of_length_le (by omega)]
   simp
theorem IsIs.take{H:Hp}:∀{ms:List Im} {vs:List V} {i:Nat},IsIs H ms vs->IsIs H (ms.take i) (vs.take i)
 |[],[],_,_=>by simp[IsIs]
 |_::_,_::_,0,_=>trivial
 |_::_,_::_,_+1,h=>⟨h.1,h.2.take⟩
 |[],_::_,_,h=>h.elim
 |_::_,[],_,h=>h.elim
theorem IsIs.drop{H:Hp}:∀{ms:List Im} {vs:List V} {i:Nat},IsIs H ms vs->IsIs H (ms.drop i) (vs.drop i)
 |[],[],_,_=>by simp[IsIs]
 |_::_,_::_,0,h=>h
 |_::_,_::_,_+1,h=>h.2.drop (i:=_)
 |[],_::_,_,h=>h.elim
 |_::_,[],_,h=>h.elim
theorem DOk.hi{H:Hp}{rd:Addr}{ms:List Im}{d:Dk}(h:DOk H rd ms d):0<=d.t/\0<=d.hi/\d.hi<=2 ^ 500:=by
 have e:(2:Int) ^ 400+2 ^ 400<=2 ^ 500:=by decide
 have e2:(0:Int)<=2 ^ 400:=by decide
 generalize (2:Int) ^ 500=B at e⊢;cases d with
 |cut t=>obtain⟨h1,h2,_⟩:=h;exact⟨h1,h1,by show t<=B;omega⟩
 |hel t=>exact h.elim
 |opn t l=>obtain⟨h1,h2,_⟩:=h;exact⟨h1,h1,by show t<=B;omega⟩
 |cls t u=>obtain⟨h1,h2,h3⟩:=h;exact⟨h1,by show 0<=u;omega,by show u<=B;omega⟩
 |lft t u=>obtain⟨h1,h2,h3⟩:=h;exact⟨h1,by show 0<=u;omega,by show u<=B;omega⟩
 |lin t m=>obtain⟨h1,h2,_⟩:=h;exact⟨h1,h1,by show t<=B;omega⟩
 |lov t m=>obtain⟨h1,h2,h3,h4,h5⟩:=h;exact⟨h1,by show 0<=t+m.mo;omega,by show t+m.mo<=B;omega⟩
def qZl(ms:List Im)(t:Int):Prop:=cbF ms t=none\/∃i j:Int,cbF ms t=some (i,j)/\j≠i+1
structure TabD(H:Hp)(tz rd:Addr)(rl:Rls)(ts:List (List Im))(tie:List Int):Prop where
 tab:TabF H (.ref tz) ts tie
 ok:∀ms∈ts,MsB ms/\ms.length<=100/\∀m∈ms,ItR rl m
 len:ts.length<=8
 tl:tie.length<=8
 tin:∀x∈tie,∃k:Nat,x=(k:Int)/\k<ts.length
 re:ReelsAt H rd rl
theorem TabD.g{ts:List (List Im)}{n:Nat}(h:TabD H tz rd rl ts tie)(hn:n<ts.length):TabG H tz ts tie n:=⟨h.tab,λms hm=>⟨(h.ok ms hm).1,(h.ok ms hm).2.1⟩,hn,h.len,h.tl,h.tin⟩
instance (w:Str):Decidable (Wd3 w):=by unfold Wd3;infer_instance
theorem qM4{w:Str}:inV (.str w) [.str "roll",.str "slip",.str "slide"]=decide (Wd3 w):=by
 by_cases h1:w="roll"
 . subst h1;decide+kernel
 by_cases h2:w="slip"
 . subst h2;decide+kernel
 by_cases h3:w="slide"
 . subst h3;decide+kernel
 have:¬Wd3 w:=by rintro(h|h|h);exact h1 h;exact h2 h;exact h3 h
 rw[YW this];simp[inV,eqV,h1,h2,h3,ZF h1,ZF h2,ZF h3]
noncomputable def qCn(d:Dk)(n k:Int):List Im:=if k=n then d.laid else d.laid.map λm=>.gap m.mo
noncomputable def qOb(ts0:List (List Im))(d:Dk)(n:Int)(ns:List Int):List (List Im):=ns.foldl (λts k=>ts.set k.toNat (qOi (ts0.getD k.toNat []) d.t d.hi (qCn d n k))) ts0
theorem qLb(ts0:List (List Im))(d:Dk)(n:Int):∀ns:List Int,(qOb ts0 d n ns).length=ts0.length:=λns=>by
 unfold qOb;have:∀(ns:List Int) (ts:List (List Im)),(ns.foldl (λts k=>ts.set k.toNat (qOi (ts0.getD k.toNat []) d.t d.hi (qCn d n k))) ts).length=ts.length:=λns=>by
  induction ns with
  |nil=>intro ts;rfl
  |cons k ns ih=>intro ts;rw[List.foldl_cons,ih,ZL]
 exact this ns ts0
theorem qSn(ts0:List (List Im))(d:Dk)(n:Int)(ns:List Int)(k:Int):qOb ts0 d n (ns++[k])=(qOb ts0 d n ns).set k.toNat (qOi (ts0.getD k.toNat []) d.t d.hi (qCn d n k)):=by unfold qOb;rw[List.foldl_append];rfl
inductive qI4(vs:List V)(H:Hp)(Q:VK)(_:XK):Prop
|mk (tz dz rd:Addr) (ts:List (List Im)) (tie:List Int) (n:Nat) (d:Dk) (ms:List Im) (_:vs=[.ref tz,.ref dz]) (_:TabG H tz ts tie n) (_:DAt H dz (n:Int) d) (_:DOk H rd ms d) (_:∀(t:Addr) (H':Hp),Same H H'->TabF H' (.ref t) (qOb ts d (n:Int) (chF tie (n:Int) d.push)) tie->Q (.ref t) H')
theorem qI8(T:Tx K mg a):FnOk P w K mg base CX0 9 a.A74 a.B74 ["table","deed"] qI4:=by
 refine oL T.D74.F zC λ_ _ _ _ _ _ _ _ hr h _ Y=>?_;obtain⟨tz,dz,rd,ts,tie,n,d,ms,rfl,hP,hD,hO,kk⟩:=h;apply Y;refine⟨_,(qD (qW 2 zC.nd (qI T.D60 (qBe T) hr rfl (qA (pv 1) qB)))
  (qD (qW 3 zC.nd (pv 0))
  (qD (xj PassesOwn.never rfl (jl (qI T.D63 (kI T) hr rfl (qA (pv 0) (qA (pv 1) qB)))) (q8 (i:=4) zC.nd rfl (Or.inl rfl)) (qD (kn (qW 5 zC.nd (kc (qM jM (pv 4) (qJ (pv 1)) (qO _)) (qI T.D61 (qGq T) hr rfl (qA (pv 1) qB)) (qI T.D62 (qD1 T) hr rfl (qA (pv 1) qB)))))
  (qF (qW 3 zC.nd (qI T.D58 (jp T) hr rfl (qA (pv 3) (qA (pv 4) (qA (qI T.D73 (qP7 T) hr rfl (qA (jN qh (qJ (pv 0)) (pv 4) (λ_ _=>rfl)) (qA (qJ (pv 2)) (qA (qJ (pv 2)) (qA (pv 5) qB))))) qB))))))))
  (qF (qK (pv 3)))))),?_⟩
 try dsimp only[jD,qc]
 refine qS λ_ Y=>?_;obtain⟨tt,tl,ti,zs,e0,g2,g3,g4,g5⟩:=id hP.tab;cases e0;have hzl:=g4.len;obtain⟨hcl,hch⟩:=hP.ch d.push;obtain⟨xs,hd,a0,a1,a2⟩:=hD.opn;obtain⟨ht0,hh0,hh1⟩:=hO.hi;apply Y;refine⟨_,O,dz,_,d,O,hD,λp H1 e1 hp=>?_⟩;refine⟨_,rfl,_,rfl,_,rfl,tz,tl,ti,dz,tie,_,d,rfl,e1 _ _ g2,e1 _ _ g5,by have:=hP.tl;omega,hD.same e1,λy H2 e2 hy hy2=>?_⟩;generalize chF tie (n:Int) d.push=ns at hy2 hcl hch kk;refine⟨y,O,⟨_,SqL.of hy2⟩,j3 (K:=K) (a:=y) (xs:=ns.map V.int) (λi σ H'=> ∃(o1 o2:Option V) (tt':Addr),σ=[some (.ref tz),some (.ref dz),some (.ref p),some (.ref tt'),o1,o2]/\TabF H' (.ref tt') (qOb ts d (n:Int) (ns.take i)) tie/\Same H2 H') ⟨none,none,tz,O,(hP.tab.same e1).same e2,Same.refl _⟩ ?_ ?_ ?_⟩
 . rintro i σ H' hi ⟨o1,o2,tt',rfl,_,e⟩
   exact SqL.of (e _ _ hy2)
 . rintro i x σ H' hx ⟨o1,o2,tt',rfl,hT',e⟩
   refine qS λ_ Y=>?_;obtain⟨xi,hxi,rfl⟩:∃xi:Int,ns[i]?=some xi/\x=.int xi:=by
    rw[Yj]at hx;cases hq:ns[i]? with
    |none=>rw[hq]at hx;cases hx
    |some k=>rw[hq]at hx;cases hx;exact⟨k,rfl,rfl⟩
   obtain⟨k,rfl,hk⟩:=hch xi (YF hxi);have e02:=e1.trans (e2.trans e);have ez:zs[k]?=some (zs[k]'(by omega)):=YD (by omega);obtain⟨ms1,z,hms,ezz,tT⟩:=g4.get ez;rw[ezz]at ez;obtain⟨hMB,hM1⟩:=hP.ok ms1 (YF hms);apply Y;have dl:=d.laid_len;have egd:ts.getD ((k:Int)).toNat []=ms1:=by rw[YQ,List.getD_eq_getElem?_getD,hms];rfl
   refine⟨λσ H3=> ∃(l:Addr),σ=[some (.ref tz),some (.ref dz),some (.ref p),some (.ref tt'),some (.int (k:Int)),some (.ref l)]/\Same H' H3/\Tr H3 l (qCn d (n:Int) (k:Int)),?_,?_⟩
   . unfold qCn
     refine⟨_,O,ixO (e02 _ _ hd) a1 ⟨O,_,O,ja (λc=>?_) (λc=>?_)⟩⟩
     . have hc:(k:Int)=(n:Int):=by have:V.int (k:Int)=V.int (n:Int):=by simpa using c
                                   exact V.int.inj this
       rw[YB hc];exact⟨_,O,dz,_,d,O,hD.same e02,λl H3 e3 hl tL=>⟨l,O,e3,tL⟩⟩
     . have hc:¬(k:Int)=(n:Int):=λz=>by rw[z]at c;simp at c
       rw[YA hc];exact⟨_,O,dz,_,d,O,hD.same e02,λl H3 e3 hl tL=>⟨l,O,e3,tL⟩⟩
   rintro σ H3 ⟨l,rfl,e3,tL⟩;have hls:(qCn d (n:Int) (k:Int)).length<=10:=by
    unfold qCn;split
    . omega
    . rw[YS];omega
   have e03:=e02.trans e3;refine⟨_,O,_,O,ixO (e03 _ _ g2) at0 ⟨_,O,tl,_,_,_,O,O,SqL.of (e03 _ _ g3),qz ez,zf rfl (SqT.of ((e2.trans (e.trans e3)) _ _ hp)) at0 (zf rfl (SqT.of ((e2.trans (e.trans e3)) _ _ hp)) at1 ⟨_,O,z,l,ms1,_,_,_,O,tT.same e03,tL,hMB,hM1,hls,hh0,hh1,λyy H4 e4 hyy tY=>?_⟩)⟩⟩;refine⟨tt',yy,k,_,tie,_,rfl,(hT'.same e3).same e4,tY,by rw[qLb];omega,by rw[qLb];have:=hP.len;omega,λt H5 e5 hN=>?_⟩;have ets:qOb ts d (n:Int) (ns.take (i+1))=(qOb ts d (n:Int) (ns.take i)).set k (qOi ms1 d.t d.hi (qCn d (n:Int) (k:Int))):=by rw[Ys,hxi];show qOb ts d (n:Int) (ns.take i++[(k:Int)])=_;rw[qSn,egd,YQ]
   rw[ets];exact⟨_,_,t,O,hN,((e.trans e3).trans e4).trans e5⟩
 . rintro σ H' ⟨o1,o2,tt',rfl,hN,e⟩
   rw[YS,Yw]at hN;exact⟨_,O,kk _ H' (e1.trans (e2.trans e)) hN⟩
noncomputable def tbF(ms:List Im)(k:Nat):Int:=if k=0 then 0 else match ms[k-1]? with
 |some (.mix l)=>l-l.fdiv 2
 |_=>0
noncomputable def teF(ms:List Im)(k:Nat):Int:=match ms[k+1]? with
 |some (.mix l)=>l.fdiv 2
 |_=>0
theorem qIv{k:Int}(h:qy ms k="mix"):∃l,0<=k/\ms[k.toNat]?=some (.mix l):=by
 unfold qy at h;by_cases h0:k<0
 . rw[YB h0]at h
   exact YC h (by decide+kernel)
 . rw[YA h0]at h
   cases hm:ms[k.toNat]? with
   |none=>rw[hm]at h;exact YC h (by decide+kernel)
   |some m=>
    rw[hm]at h;obtain⟨l,rfl⟩:=xB h;exact⟨l,by omega,O⟩
inductive qCo(vs:List V)(H:Hp)(Q:VK)(_:XK):Prop
|mk (z:Addr) (ms:List Im) (k:Nat) (_:vs=[.ref z,.int (k:Int)]) (_:Tr H z ms) (_:Q (.int (tbF ms k)) H)
theorem qCf(T:Tx K mg a):FnOk P w K mg base CX0 2 a.A41 a.B41 ["track","place"] qCo:=by
 refine oL T.D41.F qCi λ_ _ _ _ H vs Q _ hr h _ Y=>?_;obtain⟨z,ms,k,rfl,tT,q⟩:=h;apply Y;refine⟨_,(qD (qZ (qM z7 (qI T.D27 (jO T) hr rfl (qA (pv 0) (qA (qP jG (pv 1) qG) qB))) qR (qO _)) (qF (qK qG)) qN)
  (qF (qK (qI T.D36 (wQ T) hr rfl (qA (qJ (jN qh (pv 0) (qP jG (pv 1) qG) (λ_ _=>rfl))) qB))))),?_⟩
 try dsimp only[jD,qc]
 refine⟨_,O,_,O,_,_,O,O,z,ms,_,O,tT,O,_,O,ja (λc=>?_) (λc=>?_)⟩
 . have hn:qy ms ((k:Int)-1)≠"mix":=by simpa using c
   have e:tbF ms k=0:=by
    unfold tbF;by_cases k0:k=0
    . rw[YB k0]
    . rw[YA k0]
      split
      . next l hl=>exact YC (vQ hl (by omega)) hn
      . rfl
   rw[e]at q;exact q
 . have hk:qy ms ((k:Int)-1)="mix":=by simpa using c
   refine qS λ_ Y=>?_;obtain⟨l,k1,hl⟩:=qIv hk;have ek:((k:Int)-1).toNat=k-1:=by omega
   rw[ek]at hl;have e:tbF ms k=l-l.fdiv 2:=by unfold tbF;rw[YA (by omega),hl]
   rw[e]at q;obtain⟨vs,hz,his⟩:=tT;obtain⟨v,hv,hI⟩:=his.get' hl;obtain⟨zi,rfl,hzi⟩:=hI;apply Y;have hat:atI vs ((k:Int)-1)=some (.ref zi):=by
    have e:(k:Int)-1=((k-1:Nat):Int):=by omega
    rw[e];exact qz hv
   exact⟨_,O,_,O,_,_,O,O,z,_,_,_,O,O,SqL.of hz,hat,ixT (SqT.of hzi) at1 ⟨l,O,q⟩⟩
inductive qEx(vs:List V)(H:Hp)(Q:VK)(_:XK):Prop
|mk (z:Addr) (ms:List Im) (k:Nat) (_:vs=[.ref z,.int (k:Int)]) (_:Tr H z ms) (_:Q (.int (teF ms k)) H)
theorem qEs(T:Tx K mg a):FnOk P w K mg base CX0 2 a.A42 a.B42 ["track","place"] qEx:=by
 refine oL T.D42.F qE8 λ_ A _ s H vs Q E hr h _ Y=>?_;obtain⟨z,ms,k,rfl,tT,q⟩:=h;apply Y;refine⟨_,(qD (qZ (qM z7 (qI T.D27 (jO T) hr rfl (qA (pv 0) (qA (qP qk (pv 1) qG) qB))) qR (qO _)) (qF (qK qG)) qN)
  (qF (qK (qI T.D35 (kW T) hr rfl (qA (qJ (jN qh (pv 0) (qP qk (pv 1) qG) (λ_ _=>rfl))) qB))))),?_⟩
 try dsimp only[jD,qc]
 refine⟨_,O,_,O,_,_,O,O,z,ms,_,O,tT,O,_,O,ja (λc=>?_) (λc=>?_)⟩
 . have hn:qy ms ((k:Int)+1)≠"mix":=by simpa using c
   have e:teF ms k=0:=by
    unfold teF;split
    . next l hl=>exact YC (vQ hl (by omega)) hn
    . rfl
   rw[e]at q;exact q
 . have hk:qy ms ((k:Int)+1)="mix":=by simpa using c
   refine qS λ_ Y=>?_;obtain⟨l,k1,hl⟩:=qIv hk;have ek:((k:Int)+1).toNat=k+1:=by omega
   rw[ek]at hl;have e:teF ms k=l.fdiv 2:=by unfold teF;rw[hl]
   rw[e]at q;obtain⟨vs,hz,his⟩:=tT;obtain⟨v,hv,hI⟩:=his.get' hl;obtain⟨zi,rfl,hzi⟩:=hI;apply Y;have hat:atI vs ((k:Int)+1)=some (.ref zi):=by
    have e:(k:Int)+1=((k+1:Nat):Int):=by omega
    rw[e];exact qz hv
   exact⟨_,O,_,O,_,_,O,O,z,_,_,_,O,O,SqL.of hz,hat,ixT (SqT.of hzi) at1 ⟨l,O,q⟩⟩
noncomputable def qY4(x y:Int):Int:=if y<x then y else x
noncomputable def qZy(x y:Int):Int:=if y>x then y else x
noncomputable def mmV(A B:Int):Int:=if B>A then qZy (2*A+1) 0 else qZy (2*B) 0
noncomputable def mmF(rl:Rls)(ms:List Im)(t:Int):Option Int:=match cbF ms t with
 |none=>none
 |some (i,j)=>match j9 ms i,j9 ms j with
  |.clip n p q r s l,.clip n' p' q' r' s' l'=>(match rl n,rl n' with
   |some N,some N'=>some (mmV (qY4 (l-tbF ms i.toNat) (kP p' q' r' s' N')) (qY4 (l'-teF ms j.toNat) (kZ p q r s l N)))
   |_,_=>none)
  |_,_=>none
inductive qI0(N:Addr)(vs:List V)(H:Hp)(Q:VK)(E:XK):Prop
|mk (z rd:Addr) (ms:List Im) (t:Int) (rl:Rls) (_:vs=[.ref z,.int t,.ref rd]) (_:Tr H z ms) (_:(∀m∈ms,ItR rl m)) (_:ReelsAt H rd rl) (_:(mmF rl ms t=none->∀H',Same H H'->E (.ref N) none H')) (_:∀M,mmF rl ms t=some M->∀H',Same H H'->Q (.int M) H')
theorem qJj(T:Tx K mg a):FnOk P w K mg base (CXR P w) 6 a.A43 a.B43 ["track","moment","reels"] (qI0 a.k_NoPlace):=by
 refine oX T.D43.F xQ λ_ _ _ _ H vs Q E hr h _ Y=>?_;obtain⟨z,rd,ms,t,rl,rfl,tT,hit,hrl,kb,kg⟩:=h;apply Y;refine⟨_,(qD (qW 3 xQ.nd (kc (qr (qI T.D0 (jA T) hr rfl (qA (pv 1) qB))) (qI T.D31 (je T) hr rfl (qA (pv 0) (qA (pv 1) qB))) vM))
  (qD (qZ (zV (wO (pv 3))) (qF (xV rfl rfl T.c_NoPlace T.x_NoPlace (qA qR qB))) qN)
  (qD (qW 4 xQ.nd (jN qh (pv 0) (qJ (pv 3)) (λ_ _=>rfl)))
  (qD (qW 5 xQ.nd (jN qh (pv 0) (qJ (pv 3)) (λ_ _=>rfl)))
  (qD (qW 6 xQ.nd (qX (zO rfl) rfl T.b_min rfl (qA (qP jG (qJ (pv 4)) (qI T.D41 (qCf T) hr rfl (qA (pv 0) (qA (qJ (pv 3)) qB)))) (qA (qI T.D19 (vy T) hr rfl (qA (pv 5) (qA (pv 2) qB))) qB))))
  (qD (qW 7 xQ.nd (qX (zO rfl) rfl T.b_min rfl (qA (qP jG (qJ (pv 5)) (qI T.D42 (qEs T) hr rfl (qA (pv 0) (qA (qJ (pv 3)) qB)))) (qA (qI T.D20 (vJ T) hr rfl (qA (pv 4) (qA (pv 2) qB))) qB))))
  (qD (qZ (qM qGh (pv 7) (pv 6) (qO _)) (qF (qK (qX (qBm rfl) rfl T.b_max rfl (qA (qP qk (qP jd qG (pv 6)) qG) (qA qG qB))))) qN)
  (qF (qK (qX (qBm rfl) rfl T.b_max rfl (qA (qP jd qG (pv 7)) (qA qG qB)))))))))))),?_⟩
 try dsimp only[jD,qc]
 have one:(1:Nat)<=sizeLine:=by decide
 refine⟨_,O,t,O,true,O,jn ?_⟩;refine⟨_,O,_,O,z,ms,_,O,tT,?_⟩;unfold mmF at kb kg;cases hcb:cbF ms t with
 |none=>
  rw[hcb]at kb;intro H1 e1;exact⟨_,O,_,O,wo (by decide) ⟨one,kb rfl H1 e1⟩⟩
 |some r=>
 refine qS λ_ Y=>?_;obtain⟨ii,jj⟩:=r;rw[hcb]at kg;obtain⟨hk1,hk2⟩:=kY hcb;obtain⟨i,n,p,q,r,s1,l,rfl,hi⟩:=j2 hk1;obtain⟨j,n',p',q',r',s2,l',rfl,hj⟩:=j2 hk2;obtain⟨N,c1⟩:=hit _ (YF hi) _ _ _ _ _ _ rfl;obtain⟨N',c2⟩:=hit _ (YF hj) _ _ _ _ _ _ rfl;apply Y;have ei:j9 ms (i:Int)=.clip n p q r s1 l:=by unfold j9;rw[YQ,hi];rfl
 have ej:j9 ms (j:Int)=.clip n' p' q' r' s2 l':=by unfold j9;rw[YQ,hj];rfl
 dsimp only at kg;rw[ei,ej]at kg;dsimp only at kg;rw[c1.rn,c2.rn,YQ,YQ]at kg;have kg:=kg _ rfl;intro pp H1 e1 hpp;refine⟨_,O,_,O,ja (λc=>YC c (by simp)) (λ_=>?_)⟩;refine qS λ_ Y=>?_;obtain⟨vs,hz,his⟩:=tT.same e1;obtain⟨va,hva,Ia⟩:=his.get' hi;obtain⟨vb,hvb,Ib⟩:=his.get' hj;apply Y;refine⟨_,O,ixO hpp at0 ⟨z,_,_,_,O,O,SqL.of hz,qz hva,?_⟩⟩;refine⟨_,O,ixO hpp at1 ⟨z,_,_,_,O,O,SqL.of hz,qz hvb,?_⟩⟩;refine qS λ_ Y=>?_;obtain⟨za,xa,ya,rfl,hza,hxa,hya⟩:=id Ia;obtain⟨zb,xb,yb,rfl,hzb,hxb,hyb⟩:=id Ib;apply Y;have tT1:Tr H1 z ms:=⟨vs,hz,his⟩;refine(ixO hza qCs ⟨_,O,ixO hpp at0 ⟨z,ms,i,O,tT1,_,_,O,O,?_⟩⟩);refine⟨_,O,_,O,_,n',p',q',r',s2,l',N',rd,O,qDp Ib,c2.g1,c2.g2,(hrl _ _ c2.rn).same e1,c2.bN,λH2 e2=>?_⟩;refine⟨_,_,O,?_⟩;refine(ixO (e2 _ _ hzb) qCs ⟨_,O,ixO (e2 _ _ hpp) at1 ⟨z,ms,j,O,tT1.same e2,_,_,O,O,?_⟩⟩);refine⟨_,O,_,O,_,n,p,q,r,s1,l,N,rd,O,qDp (Ia.ts (qd e2)),c1.g1,c1.g2,c1.bl,(hrl _ _ c1.rn).same (e1.trans e2),c1.bN,λH3 e3=>?_⟩;refine⟨_,_,O,?_⟩;have kk':=kg H3 ((e1.trans e2).trans e3);unfold mmV qY4 at kk';unfold kP kZ at kk';dsimp only;generalize (if z9 (plP p' q' r' s2 (-1)*s2) (-1*r'*plQ p' q' r' s2 (-1)) (plQ p' q' r' s2 (-1)*s2) N'<l-tbF ms i then z9 (plP p' q' r' s2 (-1)*s2) (-1*r'*plQ p' q' r' s2 (-1)) (plQ p' q' r' s2 (-1)*s2) N' else l-tbF ms i)=MA at kk'⊢;generalize (if z9 (plP p q r s1 l*s1) (1*r*plQ p q r s1 l) (plQ p q r s1 l*s1) N<l'-teF ms j then z9 (plP p q r s1 l*s1) (1*r*plQ p q r s1 l) (plQ p q r s1 l*s1) N else l'-teF ms j)=MB at kk'⊢;refine⟨_,O,_,O,_,_,O,O,_,O,ja (λc=>?_) (λc=>?_)⟩
 . have c':MB>MA:=by simpa using c
   rw[YB c']at kk';exact⟨_,O,_,_,O,O,cmL (by decide) (by decide),_,_,O,O,_,_,O,kk'⟩
 . have c':¬MB>MA:=by simpa using c
   rw[YA c']at kk';exact⟨_,O,_,_,O,O,cmL (by decide) (by decide),_,_,O,kk'⟩
inductive qMk(N S:Addr)(vs:List V)(H:Hp)(Q:VK)(E:XK):Prop
|mk (tz dz rd:Addr) (ts:List (List Im)) (tie:List Int) (n0:Nat) (ms:List Im) (t l:Int) (rl:Rls) (_:vs=[.ref tz,.ref dz,.ref rd]) (_:TabG H tz ts tie n0) (_:ts[n0]?=some ms) (_:H dz=some (.tup [.str "mix",.int (n0:Int),.int t,.int l])) (_:(∀m∈ms,ItR rl m)) (_:ReelsAt H rd rl) (_:(qZl ms t->∀H',Same H H'->E (.ref N) none H')) (_:(∀(i:Nat) (M:Int),cbF ms t=some ((i:Int),((i+1:Nat):Int))->mmF rl ms t=some M->(M<l->∀(dx:Addr) (H':Hp),Same H H'->H' dx=some (.xd [("most",.int M)])->E (.ref S) (some dx) H')/\(l<=M->∀(t':Addr) (H':Hp),Same H H'->TabF H' (.ref t') (ts.set n0 (ms.take (i+1)++[.mix l]++ms.drop (i+1))) tie->Q (.ref t') H')))
theorem qVr{t:Int}(hit:∀m∈ms,ItR rl m)(h:cbF ms t=some (i,j)):∃M,mmF rl ms t=some M:=by
 obtain⟨hk1,hk2⟩:=kY h;obtain⟨i,n,p,q,r,s1,l,rfl,hi⟩:=j2 hk1;obtain⟨j,n',p',q',r',s2,l',rfl,hj⟩:=j2 hk2;obtain⟨N,c1⟩:=hit _ (YF hi) _ _ _ _ _ _ rfl;obtain⟨N',c2⟩:=hit _ (YF hj) _ _ _ _ _ _ rfl;have ei:j9 ms (i:Int)=.clip n p q r s1 l:=by unfold j9;rw[YQ,hi];rfl
 have ej:j9 ms (j:Int)=.clip n' p' q' r' s2 l':=by unfold j9;rw[YQ,hj];rfl
 unfold mmF;rw[h];dsimp only;rw[ei,ej];dsimp only;rw[c1.rn,c2.rn];exact⟨_,O⟩
theorem qLc(T:Tx K mg a):FnOk P w K mg base (CXR P w) 7 a.A71 a.B71 ["table","deed","reels"] (qMk a.k_NoPlace a.k_Short):=by
 refine oX T.D71.F qDt λ_ _ _ _ H vs Q E hr h _ Y=>?_;obtain⟨tz,dz,rd,ts,tie,n0,ms,t,l,rl,rfl,hP,hms,hd,hit,hrl,kb,kk⟩:=h;apply Y;refine⟨_,(qD (qW 3 qDt.nd (jN qh (qJ (pv 0)) (qJ (pv 1)) (λ_ _=>rfl)))
  (qD (qW 4 qDt.nd (qI T.D31 (je T) hr rfl (qA (pv 3) (qA (qJ (pv 1)) qB))))
  (qD (qZ (PW.pt (jv (zV (wO (pv 4))) (jL (qM z7 (qJ (pv 4)) (qP qk (qJ (pv 4)) qG) (qO _))))) (qF (xV rfl rfl T.c_NoPlace T.x_NoPlace (qA qR qB))) qN)
  (qD (qW 5 qDt.nd (xn T.D43 (qJj T) hr rfl (qA (pv 3) (qA (qJ (pv 1)) (qA (pv 2) qB)))))
  (qD (qZ (qM qGh (qJ (pv 1)) (pv 5) (qO _)) (qF (qIs T.m_Short (qBg T) T.ib_Short (hr.mono (by decide)) rfl rfl T.c_Short (qA (pv 5) qB))) qN)
  (qF (qK (qI T.D58 (jp T) hr rfl (qA (pv 0) (qA (qJ (pv 1)) (qA (qP qA3 (qP qA3 (x5 vV (pv 3) vv (zw (qJ (pv 4)))) (qo (qA (qY (qA qR (qA (qJ (pv 1)) qB))) qB))) (x5 vV (pv 3) (zw (qJ (pv 4))) vv)) qB))))))))))),?_⟩
 try dsimp only[jD,qc]
 have one:(1:Nat)<=sizeLine:=by decide
 refine qS λ_ Y=>?_;obtain⟨tt,tl,ti,zs,e0,g2,g3,g4,g5⟩:=id hP.tab;cases e0;have hzl:=g4.len;have hnt:=hP.nt;have ez:zs[n0]?=some (zs[n0]'(by omega)):=YD (by omega);obtain⟨ms',z,hms',ezz,tT⟩:=g4.get ez;rw[hms]at hms';cases hms';rw[ezz]at ez;obtain⟨hMB,hM1⟩:=hP.ok ms (YF hms);apply Y;have sm:∀j:Nat,j<=1000->j<=sizeLine:=λj h=>by have:=qj (n:=j) (by omega);omega
 refine(ixO g2 at0 (ixO hd qHj ⟨tl,_,_,_,O,O,SqL.of g3,qz ez,?_⟩));refine⟨_,O,ixO hd qCq ⟨z,ms,_,O,tT,?_⟩⟩;cases hcb:cbF ms t with
 |none=>
  intro H1 e1;exact⟨_,O,_,O,wo (by decide) (jn ⟨one,kb (.inl hcb) H1 e1⟩)⟩
 |some rr=>
 obtain⟨ii,jj⟩:=rr;intro pz H1 e1 hpz;refine⟨_,O,_,O,ja (λc=>YC c (by simp)) (λ_=>?_)⟩;refine(ixO hpz at1 (ixO hpz at0 ⟨_,_,O,O,O,_,O,?_⟩));by_cases hij:jj=ii+1
 case neg=>
  have hne:(!decide (V.int jj=V.int (ii+1)))=true:=by rw[YW (λz=>hij (V.int.inj z))];rfl
  exact wo hne ⟨one,kb (.inr ⟨ii,jj,hcb,hij⟩) H1 e1⟩
 have hne:(!decide (V.int jj=V.int (ii+1)))=false:=by rw[hij];simp
 refine qBd hne ?_;refine qS λ_ Y=>?_;obtain⟨hk1,_⟩:=kY hcb;obtain⟨i,n,p,q,r,s1,l1,rfl,hi⟩:=j2 hk1;apply Y;obtain rfl:jj=((i+1:Nat):Int):=by omega
 refine qS λ_ Y=>?_;obtain⟨M,hM⟩:=qVr hit hcb;obtain⟨kS,kQ⟩:=kk i M hcb hM;apply Y;refine⟨_,rfl,ixO (e1 _ _ hd) qCq ⟨_,rfl,z,rd,ms,t,rl,rfl,tT.same e1,hit,hrl.same e1,λh=>(by have h':mmF rl ms t=none:=h;rw[hM]at h';cases h'),λM' h H2 e2=>?_⟩⟩;obtain rfl:M'=M:=by have h':mmF rl ms t=some M':=h;rw[hM]at h';exact(Yb h').symm
 have e12:=e1.trans e2;refine(ixO (e12 _ _ hd) qAs ⟨_,O,_,_,O,O,_,O,ja (λc=>?_) (λc=>?_)⟩)
 . have hc:M'<l:=by simpa using c
   exact⟨_,O,_,O,λdx hdx=>kS hc dx _ (e12.trans (qE hdx _)) qC⟩
 have hc:l<=M':=by have:¬M'<l:=by simpa using c
                   omega
 refine⟨_,O,ixO (e12 _ _ hd) qHj ?_⟩;refine qS λ_ Y=>?_;obtain⟨vs,hz,his⟩:=tT.same e12;apply Y;have hvl:=his.len;have hpz2:=e2 _ _ hpz;refine⟨_,O,ixO hpz2 at1 ⟨_,O,z,_,O,SqL.of hz,λa1' ha1=>?_⟩⟩;rw[qHz];have v1:=qE ha1 (.lst (vs.take (i+1)));refine(zf rfl (SqT.of ((e12.trans v1) _ _ hd)) qAs ⟨sL2,λg hg=>⟨sL1,λa2' ha2=>?_⟩⟩);have vg:=qE hg (.tup [.str "mix",.int l]);have v2:=qE ha2 (.lst [.ref g]);refine⟨a1',a2',_,_,O,O,v2 _ _ (vg _ _ qC),qC,sm _ (by rw[Yk];show min (i+1) _+1<=1000;omega),λa3 ha3=>?_⟩;have v3:=qE ha3 (.lst (vs.take (i+1)++[.ref g]));have v13:=((v1.trans vg).trans v2).trans v3;have kg:(upd (upd (upd (upd H2 a1' (.lst (vs.take (i+1)))) g (.tup [.str "mix",.int l])) a2' (.lst [.ref g])) a3 (.lst (vs.take (i+1)++[.ref g]))) g=some (.tup [.str "mix",.int l]):=(v2.trans v3) _ _ qC;have k3:(upd (upd (upd (upd H2 a1' (.lst (vs.take (i+1)))) g (.tup [.str "mix",.int l])) a2' (.lst [.ref g])) a3 (.lst (vs.take (i+1)++[.ref g]))) a3=some (.lst (vs.take (i+1)++[.ref g])):=qC;change _;generalize upd (upd (upd (upd H2 a1' (.lst (vs.take (i+1)))) g (.tup [.str "mix",.int l])) a2' (.lst [.ref g])) a3 (.lst (vs.take (i+1)++[.ref g]))=H3 at v13 kg k3;refine⟨_,O,ixO (v13 _ _ hpz2) at1 ⟨_,O,z,_,O,SqL.of (v13 _ _ hz),λa4 ha4=>?_⟩⟩;rw[qHg];have v4:=qE ha4 (.lst (vs.drop (i+1)));refine⟨a3,a4,_,_,O,O,v4 _ _ k3,qC,sm _ (by rw[YN,Yk,ZR];show min (i+1) _+1+_<=1000;omega),λa5 ha5=>?_⟩;have v5:=qE ha5 (.lst (vs.take (i+1)++[.ref g]++vs.drop (i+1)));have v45:=v4.trans v5;have e5:=(e12.trans v13).trans v45;have hisE:=(his.ts (qd v13)).ts (qd v45);exact⟨tz,a5,n0,ts,tie,ms.take (i+1)++[.mix l]++ms.drop (i+1),rfl,hP.tab.same e5,⟨_,qC,(hisE.take.app (.one (isM (v45 _ _ kg)))).app hisE.drop⟩,hnt,by have:=hP.len;omega,λt' H6 e6 hN=>kQ hc t' H6 (e5.trans e6) hN⟩
inductive qG7(N:Addr)(vs:List V)(H:Hp)(Q:VK)(E:XK):Prop
|mk (tz dz:Addr) (ts:List (List Im)) (tie:List Int) (n0:Nat) (ms:List Im) (t:Int) (_:vs=[.ref tz,.ref dz]) (_:TabG H tz ts tie n0) (_:ts[n0]?=some ms) (_:H dz=some (.tup [.str "unmix",.int (n0:Int),.int t])) (_:((cbF ms t=none\/∃i:Int,cbF ms t=some (i,i+1))->∀H',Same H H'->E (.ref N) none H')) (_:∀i:Nat,cbF ms t=some ((i:Int),((i+2:Nat):Int))->∀(t':Addr) (H':Hp),Same H H'->TabF H' (.ref t') (ts.set n0 (ms.take (i+1)++ms.drop (i+2))) tie->Q (.ref t') H')
theorem qQa{t:Int}(h:cbF ms t=some (i,j)):j=i+1\/j=i+2:=by
 unfold cbF at h;cases hn:nbF ms t with
 |none=>rw[hn]at h;cases h
 |some r=>
  obtain⟨x,y⟩:=r;rw[hn]at h;dsimp only at h;split at h
  . cases h
    unfold nbF at hn;split at hn
    . split at hn
      . cases hn
      . cases hn
        split <;> omega
    . cases hn
  . cases h
theorem qH1(T:Tx K mg a):FnOk P w K mg base (CXR P w) 6 a.A72 a.B72 ["table","deed"] (qG7 a.k_NoPlace):=by
 refine oX T.D72.F qB5 λ_ _ _ _ H vs Q _ hr h _ Y=>?_;obtain⟨tz,dz,ts,tie,n0,ms,t,rfl,hP,hms,hd,kb,kk⟩:=h;apply Y;refine⟨_,(qD (qW 2 qB5.nd (jN qh (qJ (pv 0)) (qJ (pv 1)) (λ_ _=>rfl)))
  (qD (qW 3 qB5.nd (qI T.D31 (je T) hr rfl (qA (pv 2) (qA (qJ (pv 1)) qB))))
  (qD (qZ (PW.pt (jv (zV (wO (pv 3))) (jL (qM jM (qJ (pv 3)) (qP qk (qJ (pv 3)) qG) (qO _))))) (qF (xV rfl rfl T.c_NoPlace T.x_NoPlace (qA qR qB))) qN)
  (qF (qK (qI T.D58 (jp T) hr rfl (qA (pv 0) (qA (qJ (pv 1)) (qA (qP qA3 (x5 vV (pv 2) vv (zw (qP qk (qJ (pv 3)) qG))) (x5 vV (pv 2) (zw (qJ (pv 3))) vv)) qB))))))))),?_⟩
 try dsimp only[jD,qc]
 have one:(1:Nat)<=sizeLine:=by decide
 have hT:=hP.tab;refine qS λ_ Y=>?_;obtain⟨tt,tl,ti,zs,e0,g2,g3,g4,g5⟩:=id hT;cases e0;have hzl:=g4.len;have hl8:=hP.len;have hml:=(hP.ok ms (YF hms)).2;have hnt:n0<ts.length:=(glt hms);have ez:zs[n0]?=some (zs[n0]'(by omega)):=YD (by omega);obtain⟨ms',z,hms',ezz,tT⟩:=g4.get ez;rw[hms]at hms';cases hms';apply Y;rw[ezz]at ez;have sm:∀j:Nat,j<=1000->j<=sizeLine:=λj h=>by have:=qj (n:=j) (by omega);omega
 refine(ixO g2 at0 (ixO hd qVj ⟨tl,_,_,_,O,O,SqL.of g3,qz ez,?_⟩));refine⟨_,O,ixO hd qWe ⟨z,ms,_,O,tT,?_⟩⟩;cases hcb:cbF ms t with
 |none=>
  intro H1 e1;exact⟨_,O,_,O,wo (by decide) (jn ⟨one,kb (.inl hcb) H1 e1⟩)⟩
 |some rr=>
 obtain⟨ii,jj⟩:=rr;intro pz H1 e1 hpz;refine⟨_,O,_,O,ja (λc=>YC c (by simp)) (λ_=>?_)⟩;rcases qQa hcb with hj|hj
 . refine(ixO hpz at1 (ixO hpz at0 ⟨_,_,O,O,O,_,O,wo ?_ ⟨one,kb (.inr ⟨ii,by rw[hcb,hj]⟩) H1 e1⟩⟩))
   show decide (V.int jj=V.int (ii+1))=true;rw[hj];simp
 refine qS λ_ Y=>?_;obtain⟨hk1,_⟩:=kY hcb;obtain⟨i,n,p,q,r,s1,l1,rfl,hi⟩:=j2 hk1;apply Y;obtain rfl:jj=((i+2:Nat):Int):=by omega
 have kk:=kk i hcb;refine(ixO hpz at1 (ixO hpz at0 ⟨_,_,O,O,O,_,O,?_⟩));rw[show decide (V.int ((i+2:Nat):Int)=(λi j=>V.int (i+j)) (i:Int) 1)=false from YW (by intro z;have:((i+2:Nat):Int)=(i:Int)+1:=V.int.inj z;omega)]
 refine qv ⟨_,O,ixO (e1 _ _ hd) qVj ?_⟩;refine qS λ_ Y=>?_;obtain⟨vs,hz,his⟩:=tT.same e1;apply Y;have hvl:=his.len;refine⟨_,O,ixO hpz at0 ⟨_,_,O,O,_,O,z,_,O,SqL.of hz,λa1' ha1=>?_⟩⟩;have ed:xl vs none (some ((i:Int)+1))=vs.take (i+1):=by rw[show (i:Int)+1=((i+1:Nat):Int) by omega];exact qHz vs (i+1)
 rw[ed];have v1:=qE ha1 (.lst (vs.take (i+1)));refine⟨_,O,ixO (v1 _ _ hpz) at1 ⟨_,O,z,_,O,SqL.of (v1 _ _ hz),λa4 ha4=>?_⟩⟩;rw[qHg];have v4:=qE ha4 (.lst (vs.drop (i+2)));refine⟨a1',a4,_,_,O,O,v4 _ _ qC,qC,sm _ (by rw[Yk,ZR];omega),λa5 ha5=>?_⟩;have v5:=qE ha5 (.lst (vs.take (i+1)++vs.drop (i+2)));have v15:=(v1.trans v4).trans v5;have e5:=e1.trans v15;have hisE:=his.ts (qd v15);exact⟨tz,a5,n0,ts,tie,ms.take (i+1)++ms.drop (i+2),O,hT.same e5,⟨_,qC,hisE.take.app hisE.drop⟩,hnt,by omega,λt' H6 e6 hN=>kk t' H6 (e5.trans e6) hN⟩
inductive qFu(vs:List V)(H:Hp)(Q:VK)(_:XK):Prop
|mk (v u:V) (n n':Str) (b l b' l':Int) (_:vs=[v,u]) (_:IsI H (.nest n b l) v) (_:IsI H (.nest n' b' l') u) (_:Q (.bl (decide (n=n') && decide (b'=b+l))) H)
theorem qFv(T:Tx K mg a):FnOk P w K mg base CX0 1 a.A68 a.B68 ["one","other"] qFu:=by
 refine oL T.D68.F qDz λ_ _ _ _ H _ Q _ hr h _ Y=>?_;obtain⟨v,u,n,n',b,l,b',l',rfl,⟨z,rfl,hz⟩,⟨y,rfl,hy⟩,kk⟩:=h;apply Y;refine⟨_,(qF (qK (xy (jH jM (qJ (pv 0)) (qJ (pv 1)) (qO _)) (kC (jH jM (qJ (pv 1)) (qP qk (qJ (pv 0)) (qJ (pv 0))) (qO _)))))),?_⟩
 try dsimp only[jD,qc]
 refine(ixO hz qHj (ixO hy qHj ⟨O,_,O,?_⟩));rw[qPf];by_cases hn:n=n'
 . rw[YX hn]at kk⊢
   refine jn (ixO hy qCq (ixO hz qCq (ixO hz qAs ⟨_,_,O,O,O,?_⟩)));have e:decide (V.int b'=V.int (b+l))=decide (b'=b+l):=by rw[Yu];simp
   show Q (.bl (decide (V.int b'=V.int (b+l)))) H;rw[e];exact kk
 . rw[YW hn]at kk⊢
   exact qv kk
theorem qPc(h:m.wd="clip"):∃n p q r s l,m=.clip n p q r s l:=by
 cases m with
 |clip n p q r s l=>exact⟨n,p,q,r,s,l,rfl⟩
 |gap=>exact YC (show ("gap":Str)="clip" from h) (by decide+kernel)
 |nest=>exact YC (show ("nest":Str)="clip" from h) (by decide+kernel)
 |mix=>exact YC (show ("mix":Str)="clip" from h) (by decide+kernel)
theorem qR2(h:m.wd="nest"):∃n b l,m=.nest n b l:=by
 cases m with
 |nest n b l=>exact⟨n,b,l,rfl⟩
 |gap=>exact YC (show ("gap":Str)="nest" from h) (by decide+kernel)
 |clip=>exact YC (show ("clip":Str)="nest" from h) (by decide+kernel)
 |mix=>exact YC (show ("mix":Str)="nest" from h) (by decide+kernel)
noncomputable def qK4:Im->Im->Bool
 |.clip n p q r s l,.clip n' p' q' r' s' _=>goB n n' p q r s l p' q' r' s'
 |.nest n b l,.nest n' b' _=>decide (n=n') && decide (b'=b+l)
 |_,_=>false
theorem vY(h:qK4 m m'=true):(∃n p q r s l n' p' q' r' s' l',m=.clip n p q r s l/\m'=.clip n' p' q' r' s' l')\/∃n b l n' b' l',m=.nest n b l/\m'=.nest n' b' l':=by cases m <;> cases m' <;> first|cases h|exact .inl ⟨_,_,_,_,_,_,_,_,_,_,_,_,rfl,rfl⟩|exact .inr ⟨_,_,_,_,_,_,rfl,rfl⟩
def ImH:Im->Prop
 |.clip _ p q r s l=>Bn 700 p q r s/\l.natAbs<2 ^ 700
 |_=>True
inductive qG9(vs:List V)(H:Hp)(Q:VK)(_:XK):Prop
|mk (z:Addr) (v:V) (ms:List Im) (b:Bool) (_:vs=[.ref z,v]) (_:Tr H z ms) (_:((v=.non/\b=false)\/∃(pz:Addr) (i j:Nat) (m m':Im),v=.ref pz/\H pz=some (.tup [.int (i:Int),.int (j:Int)])/\ms[i]?=some m/\ms[j]?=some m'/\ImH m/\b=qK4 m m')) (_:∀H',Same H H'->Q (.bl b) H')
theorem qIe(T:Tx K mg a):FnOk P w K mg base CX0 6 a.A69 a.B69 ["track","places"] qG9:=by
 refine oL T.D69.F qAa λ_ _ _ s H vs _ _ hr h _ Y=>?_;obtain⟨z,v,ms,b,rfl,⟨vs,hz,his⟩,hv,kk⟩:=h;apply Y;refine⟨_,(qD (qZ (zV (wO (pv 1))) (qF (qK zH)) qN)
  (qD (qW 2 qAa.nd (jN qh (pv 0) (qJ (pv 1)) (λ_ _=>rfl)))
  (qD (qW 3 qAa.nd (jN qh (pv 0) (qJ (pv 1)) (λ_ _=>rfl)))
  (qD (qZ (PW.pt (vO (qM jM (qJ (pv 2)) qR (qO _)) (zK (qM jM (qJ (pv 3)) qR (qO _))))) (qF (qK (qI T.D17 (qOe T) hr rfl (qA (pv 2) (qA (pv 3) qB))))) qN)
  (qF (qK (xy (jH jM (qJ (pv 2)) qR (qO _)) (xy (jH jM (qJ (pv 3)) qR (qO _)) (kC (qI T.D68 (qFv T) hr rfl (qA (pv 2) (qA (pv 3) qB)))))))))))),?_⟩
 try dsimp only[jD,qc]
 rcases hv with ⟨rfl,rfl⟩|⟨pz,i,j,m,m',rfl,hp,hi,hj,hb,rfl⟩
 . exact⟨_,O,_,O,wo (by decide) (kk _ (Same.refl _))⟩
 refine qS λ_ Y=>?_;obtain⟨va,hva,Ia⟩:=his.get' hi;obtain⟨vb,hvb,Ib⟩:=his.get' hj;obtain⟨za,xa,rfl,hza,a0,_⟩:=Ia.opn;obtain⟨zb,xb,rfl,hzb,b0,_⟩:=Ib.opn;apply Y;have k0:=kk H (Same.refl _);refine⟨_,O,_,O,ja (λc=>YC c (by simp)) (λ_=>?_)⟩;refine⟨_,O,ixO hp at0 ⟨z,_,_,_,O,O,SqL.of hz,qz hva,?_⟩⟩;refine⟨_,O,ixO hp at1 ⟨z,_,_,_,O,O,SqL.of hz,qz hvb,?_⟩⟩;have dw:∀{x:Im} {w:Str},x.wd=w->decide (V.str x.wd=V.str w)=true:=λh=>by rw[h];simp
 have dn:∀{x:Im} {w:Str},x.wd≠w->decide (V.str x.wd=V.str w)=false:=λh=>by rw[qPf];exact YW h
 have cn:("clip":Str)≠"nest":=by decide+kernel
 have nc:("nest":Str)≠"clip":=by decide+kernel
 have fin:¬(m.wd="clip"/\m'.wd="clip")->¬(m.wd="nest"/\m'.wd="nest")->qK4 m m'=false:=λh1 h2=>by cases m <;> cases m' <;> first|rfl|exact YC ⟨rfl,rfl⟩ h1|exact YC ⟨rfl,rfl⟩ h2
 have last:¬(m.wd="clip"/\m'.wd="clip")->m.wd≠"nest"->qK4 m m'=false:=λh1 h2=>fin h1 λz=>h2 z.1;by_cases h1:m.wd="clip"
 . refine(ixO hza a0 ⟨O,_,O,wo (dw h1) ?_⟩)
   by_cases h2:m'.wd="clip"
   . refine(ixO hzb b0 ⟨O,_,O,wo (dw h2) ?_⟩)
     refine qS λ_ Y=>?_;obtain⟨n,p,q,r,s1,l,rfl⟩:=qPc h1;obtain⟨n',p',q',r',s2,l',rfl⟩:=qPc h2;apply Y;exact⟨_,O,_,O,_,_,n,n',p,q,r,s1,l,p',q',r',s2,l',O,qDp Ia,qDp Ib,hb.1,hb.2,λH1 e1=>kk H1 e1⟩
   . refine(ixO hzb b0 ⟨O,_,O,qBd (dn h2) ?_⟩)
     rw[last (λz=>h2 z.2) (by rw[h1];exact cn)]at k0;exact(ixO hza a0 ⟨O,_,O,qBd (dn (by rw[h1];exact cn)) k0⟩)
 . refine(ixO hza a0 ⟨O,_,O,qBd (dn h1) (qv ?_)⟩)
   by_cases h3:m.wd="nest"
   . refine(ixO hza a0 ⟨O,_,O,wo (dw h3) ?_⟩)
     by_cases h4:m'.wd="nest"
     . refine(ixO hzb b0 ⟨O,_,O,wo (dw h4) ?_⟩)
       refine qS λ_ Y=>?_;obtain⟨n,b,l,rfl⟩:=qR2 h3;obtain⟨n',b',l',rfl⟩:=qR2 h4;apply Y;exact⟨_,O,_,O,_,_,n,n',b,l,b',l',O,Ia,Ib,k0⟩
     . rw[fin (λz=>h1 z.1) (λz=>h4 z.2)]at k0
       exact(ixO hzb b0 ⟨O,_,O,qBd (dn h4) k0⟩)
   . rw[last (λz=>h1 z.1) h3]at k0
     exact(ixO hza a0 ⟨O,_,O,qBd (dn h3) k0⟩)
noncomputable def glue:Im->Im->Im
 |.clip n p q r s l,m'=>.clip n p q r s (l+m'.l)
 |.nest n b l,m'=>.nest n b (l+m'.l)
 |m,_=>m
noncomputable def qHi(ms:List Im)(t:Int):Option (List Im):=match nbF ms t with
 |none=>none
 |some (i,j)=>match ms[i.toNat]?,ms[j.toNat]? with
  |some m,some m'=>if qK4 m m'=true then some (ms.take i.toNat++[glue m m']++ms.drop (j.toNat+1))else none
  |_,_=>none
theorem qMz:∀(ms:List Im) (b:Int) (i:Nat) (t:Int) (j:Nat) (d:Int),xf b i ms t=some (j,d)->j<i+ms.length
 |[],_,_,_,_,_,h=>by cases h
 |m::ms,b,i,t,j,d,h=>by
  rw[xf]at h;rw[YE];split at h
  . cases h;omega
  . have:=qMz ms _ _ _ _ _ h;omega
theorem qWq{t:Int}(h:nbF ms t=some (i,j)):∃k:Nat,j=(k:Int)/\k<ms.length/\i<j:=by
 unfold nbF at h;split at h
 . rename_i k d hi
   split at h
   . cases h
   . cases h
     have:=qMz _ _ _ _ _ _ hi;exact⟨k,O,by omega,by split <;> omega⟩
 . cases h
inductive qKw(N M:Addr)(vs:List V)(H:Hp)(Q:VK)(E:XK):Prop
|mk (tz dz:Addr) (ts:List (List Im)) (tie:List Int) (n0:Nat) (ms:List Im) (t:Int) (_:vs=[.ref tz,.ref dz]) (_:TabG H tz ts tie n0) (_:ts[n0]?=some ms) (_:H dz=some (.tup [.str "heal",.int (n0:Int),.int t])) (_:(∀m∈ms,ImH m)) (_:(∀i j,nbF ms t=some (i,j)->0<=i)) (_:(qHi ms t=none->∀H',Same H H'->E (.ref N) none H')) (_:∀r,qHi ms t=some r->(xU ts (chF tie (n0:Int) false) t t=true->∀H',Same H H'->E (.ref M) none H')/\(xU ts (chF tie (n0:Int) false) t t=false->∀(t':Addr) (H':Hp),Same H H'->TabF H' (.ref t') (ts.set n0 r) tie->Q (.ref t') H'))
theorem qSe{v':V}(hc:qK4 m m'=true)(h:IsI H m v)(h':IsI H m' v'):∃(za zb:Addr) (xa xb:List V) (l l':Int),v=.ref za/\v'=.ref zb/\H za=some (.tup xa)/\H zb=some (.tup xb)/\atI xa (-1)=some (.int l)/\atI xb (-1)=some (.int l')/\¬(HT.sIx xa.length 0 none=0/\HT.sIx xa.length xa.length (some (-1))=xa.length)/\(xl xa none (some (-1))).length<=4/\xl xa none (some (-1))≠[]/\∀(H':Hp) (t:Addr),Same H H'->H' t=some (.tup (xl xa none (some (-1))++[.int (l+l')]))->IsI H' (glue m m') (.ref t):=by
 rcases vY hc with ⟨n,p,q,r,s,l,n',p',q',r',s',l',rfl,rfl⟩|⟨n,b,l,n',b',l',rfl,rfl⟩
 . obtain⟨za,x,y,rfl,hz,hx,hy⟩:=h
   obtain⟨zb,x',y',rfl,hz',_⟩:=h';exact⟨za,zb,_,_,l,l',O,O,hz,hz',O,O,by show ¬(HT.sIx 5 0 none=0/\HT.sIx 5 5 (some (-1))=5);decide,by show 4<=4;decide,List.cons_ne_nil _ _,λH' t e ht=>⟨t,x,y,O,ht,e _ _ hx,e _ _ hy⟩⟩
 . obtain⟨za,rfl,hz⟩:=h
   obtain⟨zb,rfl,hz'⟩:=h';exact⟨za,zb,_,_,l,l',O,O,hz,hz',O,O,by show ¬(HT.sIx 4 0 none=0/\HT.sIx 4 4 (some (-1))=4);decide,by show 3<=4;decide,List.cons_ne_nil _ _,λH' t e ht=>⟨t,O,ht⟩⟩
theorem qI1(T:Tx K mg a):FnOk P w K mg base (CXR P w) 7 a.A70 a.B70 ["table","deed"] (qKw a.k_NoPlace a.k_Mixed):=by
 refine oX T.D70.F vZ λ_ _ _ _ H vs _ _ hr h _ Y=>?_;obtain⟨tz,dz,ts,tie,n0,ms,t,rfl,hP,hms,hd,hIm,hpo,kb,kg⟩:=h;apply Y;refine⟨_,(qD (qW 2 vZ.nd (jN qh (qJ (pv 0)) (qJ (pv 1)) (λ_ _=>rfl)))
  (qD (qW 3 vZ.nd (qI T.D30 (vE T) hr rfl (qA (pv 2) (qA (qJ (pv 1)) qB))))
  (qD (qZ (jK (qr (qI T.D69 (qIe T) hr rfl (qA (pv 2) (qA (pv 3) qB))))) (qF (xV rfl rfl T.c_NoPlace T.x_NoPlace (qA qR qB))) qN)
  (qD (jR (xn T.D66 (vH T) hr rfl (qA (pv 0) (qA (pv 1) qB))))
  (qD (qW 4 vZ.nd (jN qh (pv 2) (qJ (pv 3)) (λ_ _=>rfl)))
  (qD (qW 5 vZ.nd (qP qUt (x5 qXx (pv 4) vv (zw (qE7 vW qG))) (qY (qA (qP qk (jN qGp (pv 4) (qE7 vW qG) (λ_ _=>rfl)) (jN qGp (jN qh (pv 2) (qJ (pv 3)) (λ_ _=>rfl)) (qE7 vW qG) (λ_ _=>rfl))) qB))))
  (qF (qK (qI T.D58 (jp T) hr rfl (qA (pv 0) (qA (qJ (pv 1)) (qA (qP qA3 (qP qA3 (x5 vV (pv 2) vv (zw (qJ (pv 3)))) (qo (qA (pv 5) qB))) (x5 vV (pv 2) (zw (qP qk (qJ (pv 3)) qG)) vv)) qB)))))))))))),?_⟩
 try dsimp only[jD,qc]
 have one:(1:Nat)<=sizeLine:=by decide
 have a1:atI [V.str "heal",.int (n0:Int),.int t] 1=some (.int (n0:Int)):=rfl;have sm:∀j:Nat,j<=1000->j<=sizeLine:=λj h=>by have:=qj (n:=j) (by omega);omega
 refine qS λ_ Y=>?_;obtain⟨tt,tl,ti,zs,e0,g2,g3,g4,g5⟩:=id hP.tab;cases e0;have hzl:=g4.len;have hnt:=hP.nt;have ez:zs[n0]?=some (zs[n0]'(by omega)):=YD (by omega);obtain⟨ms',z,hms',ezz,tT⟩:=g4.get ez;rw[hms]at hms';cases hms';rw[ezz]at ez;obtain⟨hMB,hM1⟩:=hP.ok ms (YF hms);apply Y;refine(ixO g2 at0 (ixO hd qVj ⟨tl,_,_,_,O,O,SqL.of g3,qz ez,?_⟩));refine⟨_,O,ixO hd qWe ⟨z,ms,_,O,tT,?_⟩⟩;unfold qHi at kb kg;cases hnb:nbF ms t with
 |none=>
  rw[hnb]at kb;intro H1 e1;exact⟨_,O,_,O,z,_,ms,false,O,tT.same e1,.inl ⟨O,O⟩,λH2 e2=>⟨false,O,jn ⟨one,kb rfl H2 (e1.trans e2)⟩⟩⟩
 |some rr=>
 refine qS λ_ Y=>?_;obtain⟨ii,jj⟩:=rr;obtain⟨k,rfl,hk,hij⟩:=qWq hnb;have hi0:=hpo _ _ hnb;obtain⟨i,rfl⟩:∃i:Nat,ii=(i:Int):=⟨ii.toNat,by omega⟩;obtain⟨m,hi⟩:∃m,ms[i]?=some m:=⟨_,YD (by omega)⟩;obtain⟨m',hj⟩:∃m,ms[k]?=some m:=⟨_,YD hk⟩;apply Y;rw[hnb]at kb kg;dsimp only at kb kg;rw[YQ,YQ,hi,hj]at kb kg;dsimp only at kb kg;intro pz H1 e1 hpz;refine⟨_,O,_,O,z,_,ms,qK4 m m',O,tT.same e1,.inr ⟨pz,i,k,m,m',O,hpz,hi,hj,hIm m (YF hi),O⟩,λH2 e2=>⟨_,O,?_⟩⟩;have e12:=e1.trans e2;cases hcan:qK4 m m' with
 |false=>
  rw[hcan]at kb;exact jn ⟨one,kb rfl H2 e12⟩
 |true=>
 rw[hcan]at kg;obtain⟨kM,kQ⟩:=kg _ rfl;refine qv ⟨_,O,_,O,tz,dz,ts,tie,n0,.hel t,O,hP.same e12,e12 _ _ hd,λht H3 e3=>kM ht H3 (e12.trans e3),λht H3 e3=>?_⟩;have kQ:=kQ ht;have e13:=e12.trans e3;have hpz3:=(e2.trans e3) _ _ hpz;refine qS λ_ Y=>?_;obtain⟨vs,hz,his⟩:=tT.same e13;have hvl:=his.len;obtain⟨va,hva,Ia⟩:=his.get' hi;obtain⟨vb,hvb,Ib⟩:=his.get' hj;obtain⟨za,zb,xa,xb,l,l',rfl,rfl,hza,hzb,am1,bm1,num1,hcl,hne,hgl⟩:=qSe hcan Ia Ib;apply Y;refine⟨_,O,ixO hpz3 at0 ⟨z,_,_,_,O,O,SqL.of hz,qz hva,?_⟩⟩;refine⟨_,O,1,O,_,O,za,_,O,SqT.of hza,num1,λt ht=>?_⟩;have y1:=qE ht (.tup (xl xa none (some (-1))));refine⟨_,O,1,O,za,_,_,_,O,O,SqT.of (y1 _ _ hza),am1,_,O,ixO (y1 _ _ hpz3) at1 ⟨z,_,_,_,O,O,SqL.of (y1 _ _ hz),qz hvb,1,O,zb,_,_,_,O,O,SqT.of (y1 _ _ hzb),bm1,_,_,O,O,one,λt2 ht2=>?_⟩⟩;have y2:=qE ht2 (.tup [.int (l+l')]);refine⟨t,t2,_,_,O,O,SqT.of (y2 _ _ qC),SqT.of qC,hne,sm _ (by show (xl xa none (some (-1))).length+1<=1000;omega),λz=>YC z (by simp),λ_ t3 ht3=>?_⟩;have y3:=qE ht3 (.tup (xl xa none (some (-1))++[.int (l+l')]));have y13:=(y1.trans y2).trans y3;have IW:=hgl _ t3 y13 qC;change _;generalize upd (upd (upd H3 t (.tup (xl xa none (some (-1))))) t2 (.tup [.int (l+l')])) t3 (.tup (xl xa none (some (-1))++[.int (l+l')]))=H4 at y13 IW;have e4:=e13.trans y13;refine⟨_,O,ixO (e4 _ _ hd) a1 ?_⟩;refine⟨_,O,ixO (y13 _ _ hpz3) at0 ⟨_,O,z,_,O,SqL.of (y13 _ _ hz),λa1' ha1=>?_⟩⟩;have v1:=qE ha1 (.lst (xl vs none (some (i:Int))));refine⟨_,O,one,λa2' ha2=>?_⟩;have v2:=qE ha2 (.lst [.ref t3]);have c1:=ku vs none (some (i:Int));have c2:=ku vs (some ((k:Int)+1)) none;refine⟨a1',a2',_,_,O,O,v2 _ _ qC,qC,sm _ (by show (xl vs none (some (i:Int))).length+1<=1000;omega),λa3 ha3=>?_⟩;have v3:=qE ha3 (.lst (xl vs none (some (i:Int))++[.ref t3]));have v13:=(v1.trans v2).trans v3;refine⟨_,O,zf rfl (SqT.of ((y13.trans v13) _ _ hpz3)) at1 ⟨_,_,O,O,_,O,z,_,O,SqL.of ((y13.trans v13) _ _ hz),λa4 ha4=>?_⟩⟩;have v4:=qE ha4 (.lst (xl vs (some ((k:Int)+1)) none));refine⟨a3,a4,_,_,O,O,v4 _ _ qC,qC,sm _ (by rw[YN];show (xl vs none (some (i:Int))).length+1+_<=1000;omega),λa5 ha5=>?_⟩;have v5:=qE ha5 (.lst (xl vs none (some (i:Int))++[.ref t3]++xl vs (some ((k:Int)+1)) none));have v15:=(v13.trans v4).trans v5;have e5:=e4.trans v15;have ed:xl vs (some ((k:Int)+1)) none=vs.drop (k+1):=by rw[show (k:Int)+1=((k+1:Nat):Int) by omega];exact qHg vs (k+1)
 have hisE:=(his.ts (qd y13)).ts (qd v15);have IWE:=IW.ts (qd v15);have kE:(upd (upd (upd (upd (upd H4 a1' (.lst (xl vs none (some (i:Int))))) a2' (.lst [.ref t3])) a3 (.lst (xl vs none (some (i:Int))++[.ref t3]))) a4 (.lst (xl vs (some ((k:Int)+1)) none))) a5 (.lst (xl vs none (some (i:Int))++[.ref t3]++xl vs (some ((k:Int)+1)) none))) a5=some (.lst (xl vs none (some (i:Int))++[.ref t3]++xl vs (some ((k:Int)+1)) none)):=qC;change _;generalize (upd (upd (upd (upd (upd H4 a1' (.lst (xl vs none (some (i:Int))))) a2' (.lst [.ref t3])) a3 (.lst (xl vs none (some (i:Int))++[.ref t3]))) a4 (.lst (xl vs (some ((k:Int)+1)) none))) a5 (.lst (xl vs none (some (i:Int))++[.ref t3]++xl vs (some ((k:Int)+1)) none)))=HB at e5 hisE IWE kE;rw[qHz,ed]at kE;exact⟨tz,a5,n0,ts,tie,ms.take i++[glue m m']++ms.drop (k+1),rfl,hP.tab.same e5,⟨_,kE,(hisE.take.app (.one IWE)).app hisE.drop⟩,hnt,by have:=hP.len;omega,λt' H6 e6 hN=>kQ t' H6 (e5.trans e6) hN⟩
inductive Res where
 |place
 |mixed
 |short (M:Int)
 |good (ts:List (List Im))
inductive De where
 |hel (t:Int)
 |mix (t l:Int)
 |unm (t:Int)
 |rol (w:Str) (t b:Int)
 |chg (d:Dk)
def DeAt(H:Hp)(dz:Addr)(n:Nat):De->Prop
 |.hel t=>H dz=some (.tup [.str "heal",.int (n:Int),.int t])
 |.mix t l=>H dz=some (.tup [.str "mix",.int (n:Int),.int t,.int l])
 |.unm t=>H dz=some (.tup [.str "unmix",.int (n:Int),.int t])
 |.rol w t b=>Wd3 w/\H dz=some (.tup [.str w,.int (n:Int),.int t,.int b])
 |.chg d=>DAt H dz (n:Int) d/\∀t,d≠ .hel t
theorem DeAt.same{H H':Hp}{dz:Addr}{n:Nat}{d:De}(e:Same H H')(h:DeAt H dz n d):DeAt H' dz n d:=by
 cases d with
 |rol w t b=>exact⟨h.1,e _ _ h.2⟩
 |chg d=>exact⟨h.1.same e,h.2⟩
 |_=>exact e _ _ h
def qYq(H:Hp)(rd:Addr)(ms:List Im):De->Prop
 |.hel t=>0<=t/\(∀m∈ms,ImH m)/\∀i j,nbF ms t=some (i,j)->0<=i
 |.mix t l=>0<=t/\1<=l
 |.unm t=>0<=t
 |.rol _ t b=>0<=t/\b.natAbs<=1000000
 |.chg d=>(∃t,d=.cut t/\0<=t/\v8 ms t=false)\/DOk H rd ms d
noncomputable def wiB(ms:List Im):Dk->Bool
 |.cut t=>v8 ms t
 |_=>true
noncomputable def qFy(rl:Rls)(ts:List (List Im))(tie:List Int)(n:Nat)(ms:List Im):De->Res
 |.hel t=>match qHi ms t with
  |none=>.place
  |some ms'=>if xU ts (chF tie (n:Int) false) t t=true then .mixed else .good (ts.set n ms')
 |.mix t l=>match cbF ms t with
  |none=>.place
  |some (i,j)=>if j=i+1 then (match mmF rl ms t with
   |none=>.place
   |some M=>if M<l then .short M else .good (ts.set n (ms.take (i.toNat+1)++[.mix l]++ms.drop (i.toNat+1))))else .place
 |.unm t=>match cbF ms t with
  |none=>.place
  |some (i,j)=>if j=i+1 then .place else .good (ts.set n (ms.take (i.toNat+1)++ms.drop (i.toNat+2)))
 |.rol w t b=>match plF w ms t with
  |none=>.place
  |some is=>if is.any (hmB ms)=true then .mixed else if qHp b<=qR4 rl ms w is b then .good (ts.set n (qUo ms w is b))else .short (sgM b (qR4 rl ms w is b))
 |.chg d=>if wiB ms d=true then (if xU ts (chF tie (n:Int) d.push) d.t d.hi=true then .mixed else .good (qOb ts d (n:Int) (chF tie (n:Int) d.push)))else .place
noncomputable def De.t:De->Int
 |.hel t=>t
 |.mix t _=>t
 |.unm t=>t
 |.rol _ t _=>t
 |.chg d=>d.t
def DdX(_:W.Frag)(H:Hp)(rd dz:Addr)(rl:Rls)(ts:List (List Im))(tie:List Int)(r:Res):Prop:= ∃(n:Nat) (ms:List Im) (d:De),ts[n]?=some ms/\DeAt H dz n d/\qYq H rd ms d/\r=qFy rl ts tie n ms d
inductive qFz(K:W.Frag)(N M S:Addr)(vs:List V)(H:Hp)(Q:VK)(E:XK):Prop
|mk (tz dz rd:Addr) (rl:Rls) (ts:List (List Im)) (tie:List Int) (r:Res) (_:vs=[.ref tz,.ref dz,.ref rd]) (_:TabD H tz rd rl ts tie) (_:DdX K H rd dz rl ts tie r) (_:(r=.place->∀H',Same H H'->E (.ref N) none H')) (_:(r=.mixed->∀H',Same H H'->E (.ref M) none H')) (_:(∀m,r=.short m->∀(dx:Addr) (H':Hp),Same H H'->H' dx=some (.xd [("most",.int m)])->E (.ref S) (some dx) H')) (_:(∀ts',r=.good ts'->∀(t':Addr) (H':Hp),Same H H'->TabF H' (.ref t') ts' tie->Q (.ref t') H'))
theorem qT0{t:Int}(h:cbF ms t=some (i,j)):∃k:Nat,i=(k:Int)/\(j=((k+1:Nat):Int)\/j=((k+2:Nat):Int)):=by obtain⟨k,_,_,_,_,_,_,rfl,_⟩:=j2 (kY h).1;exact⟨k,rfl,by have:=qQa h;omega⟩
structure DeW(H:Hp)(dz:Addr)(n:Nat)(d:De)(xs:List V)(w:Str):Prop where
 hd:H dz=some (.tup xs)
 a1:atI xs 1=some (.int (n:Int))
 nc:qY8 xs w d.t
 nw:¬Wd3 w
 t0:0<=d.t
noncomputable def De.k:De->Nat
 |.hel _=>0
 |.mix .. =>1
 |.unm _=>2
 |.chg _=>3
 |.rol .. =>4
def KW(w:Str)(k:Nat):Prop:=(w="heal"↔k=0)/\(w="mix"↔k=1)/\(w="unmix"↔k=2)
instance (w:Str) (k:Nat):Decidable (KW w k):=by unfold KW;infer_instance
theorem qSm{n:Nat}{d:De}(h:DeAt H dz n d)(ho:qYq H rd ms d)(hr:d.k≠4):∃xs w,DeW H dz n d xs w/\KW w d.k:=by
 have no:∀{w x y:Str} {p:Prop},w≠x/\w≠y->w=x\/w=y->p:=λh1 h2=>h2.elim (λe=>YC e h1.1) (λe=>YC e h1.2);have fin:∀{xs:List V} {w:Str},(¬Wd3 w/\KW w d.k)->H dz=some (.tup xs)->atI xs 1=some (.int (n:Int))->0<=d.t->qY8 xs w d.t->∃xs w,DeW H dz n d xs w/\KW w d.k:=λ{xs w} h1 h2 h3 h4 h5=>⟨xs,w,⟨h2,h3,h5,h1.1,h4⟩,h1.2⟩;have kw:((¬Wd3 "heal"/\KW "heal" 0)/\(¬Wd3 "mix"/\KW "mix" 1)/\(¬Wd3 "unmix"/\KW "unmix" 2))/\(¬Wd3 "cut"/\KW "cut" 3)/\(¬Wd3 "open"/\KW "open" 3)/\(¬Wd3 "close"/\KW "close" 3)/\(¬Wd3 "lift"/\KW "lift" 3)/\(¬Wd3 "lay_in"/\KW "lay_in" 3)/\(¬Wd3 "lay_over"/\KW "lay_over" 3):=by decide+kernel
 cases d with
 |rol w t b=>exact YC rfl hr
 |hel t=>exact fin kw.1.1 h rfl ho.1 ⟨rfl,rfl,no (by decide+kernel),no (by decide+kernel)⟩
 |mix t l=>exact fin kw.1.2.1 h rfl ho.1 ⟨rfl,rfl,λ_=>⟨l,rfl,ho.2⟩,no (by decide+kernel)⟩
 |unm t=>exact fin kw.1.2.2 h rfl ho ⟨rfl,rfl,no (by decide+kernel),no (by decide+kernel)⟩
 |chg d=>
  obtain⟨h,hne⟩:=h;cases d with
  |hel t=>exact YC rfl (hne t)
  |cut t=>exact fin kw.2.1 h rfl (ho.elim (λ⟨_,e,q,_⟩=>by cases e;exact q) (λq=>q.1)) ⟨rfl,rfl,no (by decide+kernel),no (by decide+kernel)⟩
  |opn t l=>
   have ho:=ho.elim (λ⟨_,e,_⟩=>by cases e) id;exact fin kw.2.2.1 h rfl ho.1 ⟨O,O,λ_=>⟨l,O,ho.2.2⟩,no (by decide+kernel)⟩
  |cls t u=>
   have ho:=ho.elim (λ⟨_,e,_⟩=>by cases e) id;exact fin kw.2.2.2.1 h rfl ho.1 ⟨O,O,no (by decide+kernel),λ_=>⟨u,O,ho.2.1⟩⟩
  |lft t u=>
   have ho:=ho.elim (λ⟨_,e,_⟩=>by cases e) id;exact fin kw.2.2.2.2.1 h rfl ho.1 ⟨O,O,no (by decide+kernel),λ_=>⟨u,O,ho.2.1⟩⟩
  |lin t m=>
   have ho:=ho.elim (λ⟨_,e,_⟩=>by cases e) id;obtain⟨v,h,_⟩:=h;exact fin kw.2.2.2.2.2.1 h rfl ho.1 ⟨O,O,no (by decide+kernel),no (by decide+kernel)⟩
  |lov t m=>
   have ho:=ho.elim (λ⟨_,e,_⟩=>by cases e) id;obtain⟨v,h,_⟩:=h;exact fin kw.2.2.2.2.2.2 h rfl ho.1 ⟨O,O,no (by decide+kernel),no (by decide+kernel)⟩
theorem qEj(T:Tx K mg a):FnOk P w K mg base (CXR P w) 10 a.A75 a.B75 ["table","deed","reels"] (qFz K a.k_NoPlace a.k_Mixed a.k_Short):=by
 refine oX T.D75.F qJu λ_ _ _ _ _ _ _ _ hr h _ Y=>?_;obtain⟨tz,dz,rd,rl,ts,tie,r,rfl,hP,⟨n,ms,d,hm,hA,hO,hR⟩,k0,k1,k4,k2⟩:=h;apply Y;refine⟨_,(qD (qZ (qM xc (qJ (pv 1)) (jQ (v:=.ref a.n_ROLLS) rfl T.g_ROLLS rfl) rfl) (qF (qK (xn T.D59 (qO2 T) hr rfl (qA (pv 0) (qA (pv 1) (qA (pv 2) qB)))))) qN)
  (qD (jR (qI T.D47 (wR T) hr rfl (qA (pv 0) (qA (qJ (pv 1)) (qA (qJ (pv 1)) qB)))))
  (qD (jR (qI T.D64 (qDb T) hr rfl (qA (pv 1) qB)))
  (qD (qZ (qM jM (qJ (pv 1)) qR (qO _)) (qF (qK (xn T.D70 (qI1 T) hr rfl (qA (pv 0) (qA (pv 1) qB))))) qN)
  (qD (qZ (qM jM (qJ (pv 1)) qR (qO _)) (qF (qK (xn T.D71 (qLc T) hr rfl (qA (pv 0) (qA (pv 1) (qA (pv 2) qB)))))) qN)
  (qD (qZ (qM jM (qJ (pv 1)) qR (qO _)) (qF (qK (xn T.D72 (qH1 T) hr rfl (qA (pv 0) (qA (pv 1) qB))))) qN)
  (qD (jR (xn T.D67 (qC6 T) hr rfl (qA (pv 0) (qA (pv 1) (qA (pv 2) qB)))))
  (qF (qK (qI T.D74 (qI8 T) hr rfl (qA (pv 0) (qA (pv 1) qB)))))))))))),?_⟩
 try dsimp only[jD,qc]
 refine qS λ_ Y=>?_;obtain⟨tt,tl,ti,zs,e0,g2,g3,g4,g5⟩:=id hP.tab;cases e0;apply Y;have hzl:=g4.len;have hn:=(glt hm);by_cases hk:d.k=4
 . cases d with
   |rol wd t b=>
    refine qS λ_ Y=>?_;obtain⟨hw,hd⟩:=hA;obtain⟨_,hml,hit⟩:=hP.ok ms (YF hm);apply Y;rw[qFy]at hR;refine(ixO hd qF8 ⟨a.n_ROLLS,_,O,.inr (T.sq_ROLLS _),O,O,true,zj (by rw[qM4];exact YX hw),jn ?_⟩);refine⟨_,rfl,_,rfl,_,rfl,tz,dz,rd,ts,tie,wd,n,t,b,ms,rl,rfl,hP.tab,hd,hw,hm,hO.1,hO.2,by have:=hP.len;omega,by omega,hit,hP.re,λhp=>?_,λis hp=>⟨λhx=>?_,λhx=>⟨λhc=>?_,λhc=>?_⟩⟩⟩
    . rw[hp]at hR
      exact k0 hR
    . rw[hp]at hR
      dsimp only at hR;rw[YB hx]at hR;exact k1 hR
    . rw[hp]at hR
      dsimp only at hR;rw[YA (by rw[hx];decide),YB hc]at hR;exact k2 _ hR
    . rw[hp]at hR
      dsimp only at hR;rw[YA (by rw[hx];decide),YA hc]at hR;exact k4 _ hR
   |_=>cases hk
 refine qS λ_ Y=>?_;obtain⟨xs,w,hW,hKW⟩:=qSm hA hO hk;obtain⟨hd,a1,hN,hw,t0⟩:=id hW;apply Y;have a0:=hN.1;have a2:=hN.2.1;have hG:=hP.g hn;have dT:∀{x:Str},w=x->decide (V.str w=V.str x)=true:=λh=>by rw[h];simp
 have dF:∀{x:Str},w≠x->decide (V.str w=V.str x)=false:=λh=>by rw[qPf];exact YW h
 refine(ixO hd a0 ⟨a.n_ROLLS,_,O,.inr (T.sq_ROLLS _),O,O,false,zj (by rw[qM4];exact YW hw),qv ?_⟩);refine⟨_,O,ixO hd a1 (ixO hd a2 ⟨tz,tl,ti,zs,_,_,O,g2,g3,by omega,by omega,t0,?_⟩)⟩;refine⟨_,O,dz,xs,w,d.t,O,hd,hN,λH1 e1=>?_⟩;have hG1:=hG.same e1;have hA1:=hA.same e1;refine(ixO (e1 _ _ hd) a0 ⟨O,_,O,ja (λc=>?_) (λc=>?_)⟩)
 . obtain⟨t,rfl⟩:∃t,d=.hel t:=by
    have:=hKW.1.mp (by simpa using c);cases d with
    |hel t=>exact⟨t,rfl⟩
    |_=>cases this
   refine qS λ_ Y=>?_;obtain⟨_,hIm,hpo⟩:=hO;apply Y;refine⟨_,O,_,O,tz,dz,ts,tie,n,ms,t,O,hG1,hm,hA1,hIm,hpo,λh H2 e2=>?_,λms' h=>⟨λht H2 e2=>?_,λht t' H2 e2 hN=>?_⟩⟩
   . rw[qFy]at hR
     rw[h]at hR;exact k0 hR H2 (e1.trans e2)
   . rw[qFy]at hR
     rw[h]at hR;dsimp only at hR;rw[ht,YB rfl]at hR;exact k1 hR H2 (e1.trans e2)
   . rw[qFy]at hR
     rw[h]at hR;dsimp only at hR;rw[ht,YA (by decide)]at hR;exact k2 _ hR t' H2 (e1.trans e2) hN
 have n0:d.k≠0:=λz=>c (dT (hKW.1.mpr z));refine(ixO (e1 _ _ hd) a0 ⟨O,_,O,ja (λc=>?_) (λc=>?_)⟩)
 . obtain⟨t,l,rfl⟩:∃t l,d=.mix t l:=by
    have:=hKW.2.1.mp (by simpa using c);cases d with
    |mix t l=>exact⟨t,l,rfl⟩
    |_=>cases this
   have hit:=(hP.ok ms (YF hm)).2.2;refine⟨_,O,_,O,_,O,tz,dz,rd,ts,tie,n,ms,t,l,rl,O,hG1,hm,hA1,hit,hP.re.same e1,λh H2 e2=>?_,λi M hc hM=>⟨λhlt dx H2 e2 hx=>?_,λhle t' H2 e2 hN=>?_⟩⟩
   . refine k0 ?_ H2 (e1.trans e2)
     rw[hR];rw[qFy];rcases h with h|⟨x,y,h,hxy⟩
     . rw[h]
     . rw[h]
       dsimp only;rw[YA hxy]
   . refine k4 M ?_ dx H2 (e1.trans e2) hx
     rw[hR];rw[qFy];rw[hc];dsimp only;rw[YB (by omega),hM];dsimp only;rw[YB hlt]
   . refine k2 _ ?_ t' H2 (e1.trans e2) hN
     rw[hR];rw[qFy];rw[hc];dsimp only;rw[YB (by omega),hM];dsimp only;rw[YA (by omega),YQ]
 have n1:d.k≠1:=λz=>c (dT (hKW.2.1.mpr z));refine(ixO (e1 _ _ hd) a0 ⟨O,_,O,ja (λc=>?_) (λc=>?_)⟩)
 . obtain⟨t,rfl⟩:∃t,d=.unm t:=by
    have:=hKW.2.2.mp (by simpa using c);cases d with
    |unm t=>exact⟨t,rfl⟩
    |_=>cases this
   refine⟨_,O,_,O,tz,dz,ts,tie,n,ms,t,O,hG1,hm,hA1,λh H2 e2=>?_,λi hc t' H2 e2 hN=>?_⟩
   . refine k0 ?_ H2 (e1.trans e2)
     rw[hR];rw[qFy];rcases h with h|⟨x,h⟩
     . rw[h]
     . rw[h]
       dsimp only;rw[YB rfl]
   . refine k2 _ ?_ t' H2 (e1.trans e2) hN
     rw[hR];rw[qFy];rw[hc];dsimp only;rw[YA (by omega),YQ]
 have n2:d.k≠2:=λz=>c (dT (hKW.2.2.mpr z));obtain⟨d',rfl⟩:∃d',d=.chg d':=by
  cases d with
  |chg d=>exact⟨d,rfl⟩
  |hel=>exact YC rfl n0
  |mix=>exact YC rfl n1
  |unm=>exact YC rfl n2
  |rol=>exact YC rfl hk
 rw[qFy]at hR;rcases id hO with ⟨t,rfl,h0,hwi⟩|hO'
 . rw[YA (by show ¬v8 ms t=true;rw[hwi];decide)]at hR
   exact⟨_,rfl,_,rfl,_,rfl,tz,dz,rd,ts,tie,n,ms,0,rfl,hG1,hm,.cut0 hA1.1 hwi,λ_ H2 e2=>k0 hR H2 (e1.trans e2),(λhc=>by cases hc),λhc=>by cases hc⟩
 have hwi:wiB ms d'=true:=by
  cases d' with
  |cut t=>exact hO'.2.2
  |_=>rfl
 rw[YB hwi]at hR;refine⟨_,O,_,O,_,O,tz,dz,rd,ts,tie,n,ms,_,O,hG1,hm,(ChO.ok hA.1 hO' rfl).same e1,λhc=>?_,λhc H2 e2=>?_,λhc H2 e2=>?_⟩
 . split at hc <;> cases hc
 . split at hc
   . rename_i ht
     rw[YB ht]at hR;exact k1 hR H2 (e1.trans e2)
   . cases hc
 . split at hc
   . cases hc
   . rename_i ht
     rw[YA ht]at hR;have e12:=e1.trans e2;exact⟨_,O,_,O,tz,dz,rd,ts,tie,n,d',ms,O,hG.same e12,hA.1.same e12,hO'.same e12,λt' H3 e3 hN=>k2 _ hR t' H3 (e12.trans e3) hN⟩
inductive qQd(vs:List V)(H:Hp)(Q:VK)(_:XK):Prop
|mk (z:Addr) (ms:List Im) (t:Int) (_:vs=[.ref z,.int t]) (_:Tr H z ms) (_:ms.length<=300) (_:AtR H Q (qL4 0 0 ms t))
theorem qAl:∀(i:Nat) (ms:List Im) (m:Im),jb i (ms++[m])=jb i ms++(if m.wd="mix" then [i+ms.length]else [])
 |i,[],m=>by
  by_cases h:m.wd="mix"
  . obtain⟨l,rfl⟩:=xB h
    rw[YB h];rfl
  . rw[YA h,Yg,xY h];rfl
 |i,m'::ms,m=>by
  have ih:=qAl (i+1) ms m;have e:i+1+ms.length=i+(m'::ms).length:=by rw[YE];omega
  rw[e]at ih;by_cases h:m'.wd="mix"
  . obtain⟨l,rfl⟩:=xB h
    rw[YT,jb,jb,ih];rfl
  . rw[YT,xY h,xY h,ih]
theorem qP4(T:Tx K mg a):FnOk P w K mg base CX0 4 a.A39 a.B39 ["track","moment"] qQd:=by
 refine oL T.D39.F qA9 λ_ _ _ s H vs _ _ hr h _ Y=>?_;obtain⟨z,ms,t,rfl,⟨xs,hz,his⟩,hl,kk⟩:=h;apply Y;have hxl:=his.len;refine⟨_,(qD (qSb (i:=2) [] [] qA9.nd rfl rfl rfl (qPq rfl T.b_enumerate (qA (pv 0) qB)) (λ_ _ _ _=>(qM jM (jN (qQ6 (K:=K) rfl) (pv 1) qG (λ_ _=>rfl)) qR (qO _))) (λ_ _ _ _=>(pv 0)))
  (qD (xj PassesOwn.never rfl (qW0 rfl T.b_zip (qA (pv 2) (qA (qI T.D37 (qC3 T) hr rfl (qA (pv 0) qB)) qB))) (qNh rfl (zZ (q8 (i:=3) qA9.nd rfl (Or.inl rfl)) (zZ (q8 (i:=4) qA9.nd rfl (Or.inl rfl)) qH5))) (qF (qZ (PW.pt (vO (qM qRa (qJ (pv 4)) (pv 1) (qO _)) (zK (qM zM (pv 1) (qJ (pv 4)) (qO _))))) (qF (qK (qY (qA (pv 3) (qA (qP jG (pv 1) (qJ (pv 4))) qB))))) qN)))
  (qF (qK vM)))),?_⟩
 try dsimp only[jD,qc]
 refine⟨_,O,z,O,⟨_,SqL.of hz⟩,qOz (K:=K) (a:=z) (xs:=xs) (λi acc H'=>Same H H'/\acc=(jb 0 (ms.take i)).map (λ(n:Nat)=>V.int (n:Int))/\acc.length<=i) ⟨Same.refl _,O,by simp⟩ ?_ ?_ ?_⟩
 . rintro i acc H' hi ⟨e,rfl,hal⟩
   exact⟨SqL.of (e _ _ hz),qj (by omega)⟩
 . rintro i x acc H' p hi hx ⟨e,rfl,hal⟩ hp
   refine qS λ_ Y=>?_;obtain⟨m,hm,hIx⟩:=his.get hx;have w1:=qE hp (.tup [.int (i:Int),x]);have hI:=hIx.ts (qd (e.trans w1));obtain⟨zi,xi,rfl,hzi,h0,h1⟩:=hI.opn;apply Y;have htk:ms.take (i+1)=ms.take i++[m]:=by rw[Ys,hm];rfl
   have hlt:(ms.take i).length=i:=by rw[Yk];omega
   refine⟨_,O,zi,xi,_,_,O,O,SqT.of hzi,h0,O,_,O,ja (λc=>?_) (λc=>?_)⟩
   . have hw:m.wd="mix":=by simpa using c
     refine⟨_,O,Nxt.mk hi ⟨e.trans w1,?_,by simp at hal⊢;omega⟩⟩;rw[htk,qAl,YB hw,hlt,Yr,Nat.zero_add];rfl
   . have hw:¬m.wd="mix":=by simpa using c
     refine Nxt.mk hi ⟨e.trans w1,?_,by omega⟩;rw[htk,qAl,YA hw,Ye]
 rintro acc H1 ⟨e1,rfl,hal⟩ pl hpl;rw[hxl,Yw]at*;have w2:=qE hpl (.lst ((jb 0 ms).map λ(n:Nat)=>V.int (n:Int)));have hP:(upd H1 pl (.lst ((jb 0 ms).map λ(n:Nat)=>V.int (n:Int)))) pl=some (.lst ((jb 0 ms).map λ(n:Nat)=>V.int (n:Int))):=qC;have e2:=e1.trans w2;generalize upd H1 pl (.lst ((jb 0 ms).map λ(n:Nat)=>V.int (n:Int)))=H2 at hP e2⊢;have tr2:Tr H2 z ms:=⟨xs,e2 _ _ hz,his.ts (qd e2)⟩;refine⟨_,O,_,O,z,ms,O,tr2,hl,λsp us H3 e3 _ hsp hus=>?_⟩;have hP3:=e3 _ _ hP;have hul:=hus.len;refine⟨pl,sp,O,⟨_,SqL.of hP3⟩,⟨_,SqL.of hsp⟩,qVt (K:=K) (a:=pl) (b:=sp) (xs:=(jb 0 ms).map λ(n:Nat)=>V.int (n:Int)) (ys:=us) (λi σ H'=> ∃(o1 o2:Option V),σ=[some (.ref z),some (.int t),some (.ref pl),o1,o2]/\qOa ((jb 0 ms).drop i) ((qx 0 ms).drop i) t=qL4 0 0 ms t/\Same H3 H') ?_ ⟨none,none,O,qIk 0 0 ms t,Same.refl _⟩ ?_ ?_ ?_⟩
 . rw[YS,hul,qCd 0 0 ms]
 . rintro i σ H' hi ⟨o1,o2,rfl,_,e⟩
   exact⟨SqL.of (e _ _ hP3),SqL.of (e _ _ hsp)⟩
 . rintro i x y σ H' p hx hy ⟨o1,o2,rfl,hap,e⟩ hp
   refine qS λ_ Y=>?_;obtain⟨n,hn,rfl⟩:∃n:Nat,(jb 0 ms)[i]?=some n/\x=.int (n:Int):=by
    rw[Yj]at hx;cases e:(jb 0 ms)[i]? with
    |none=>rw[e]at hx;cases hx
    |some m=>rw[e]at hx;exact⟨m,rfl,(Yb hx).symm⟩
   obtain⟨x0,y0,z0,q,hs,rfl,hq⟩:=hus.get hy;apply Y;have w4:=qE hp (.tup [.int (n:Int),.ref q]);have e4:=e.trans w4;have hq4:=e4 _ _ hq;rw[jy hn,jy hs,qOa]at hap;refine⟨p,_,O,SqT.of qC,O,_,_,O,_,_,O,O,?_⟩;generalize upd H' p (.tup [.int (n:Int),.ref q])=H5 at e4 hq4⊢;have a0:atI [V.int x0,.int y0,.int z0] 0=some (.int x0):=rfl;have a2:atI [V.int x0,.int y0,.int z0] 2=some (.int z0):=rfl;refine(ixO hq4 a0 ⟨_,O,_,_,O,O,_,O,?_⟩);refine ja (λc1=>?_) (λc1=>?_)
   . refine⟨_,O,ixO hq4 a2 ⟨_,_,O,O,_,O,?_⟩⟩
     refine ja (λc2=>?_) (λc2=>?_)
     . rw[YB ⟨by simpa using c1,by simpa using c2⟩]at hap
       rw[<-hap]at kk;refine⟨_,O,_,O,ixO hq4 a0 ⟨_,_,O,O,sL2,λf hf=>?_⟩⟩;exact kk f _ (((e2.trans e3).trans e4).trans (qE hf _)) qC
     . rw[YA (λc=>c2 (by simpa using c.2))]at hap
       exact⟨_,_,O,hap,e4⟩
   . rw[YA (λc=>c1 (by simpa using c.1))]at hap
     exact qv ⟨_,_,O,hap,e4⟩
 . rintro σ H' ⟨o1,o2,rfl,hap,e⟩
   rw[YS,ZH]at hap;have hn:qOa [] ((qx 0 ms).drop (jb 0 ms).length) t=none:=by generalize (qx 0 ms).drop (jb 0 ms).length=ss;cases ss <;> rfl
   rw[hn]at hap;rw[<-hap]at kk;exact kk H' ((e2.trans e3).trans e)
set_option genInjectivity true in
structure Te where
 n:Str
 pic:Int
 p:Int
 q:Int
noncomputable def Te.d(t:Te):D:=.tup [.leaf (.str t.n),.leaf (.int t.pic),.tup [.leaf (.int t.p),.leaf (.int t.q)]]
def IsTe(K:W.Frag)(H:Hp)(t:Te)(v:V):Prop:= ∃z s:Addr,v=.ref z/\H z=some (.tup [.str t.n,.int t.pic,.ref s])/\SqT K H s [.int t.p,.int t.q]
def IsTes(K:W.Frag)(H:Hp):List Te->List V->Prop
 |[],[]=>True
 |t::ts,v::vs=>IsTe K H t v/\IsTes K H ts vs
 |_,_=>False
theorem IsTe.same(e:Same H H'){t:Te}(h:IsTe K H t v):IsTe K H' t v:=
 let ⟨z,s,h1,h2,h3⟩:=h;⟨z,s,h1,e _ _ h2,L3.Same.tup e h3⟩
theorem IsTes.same{H H':Hp}(e:Same H H'):∀{ts:List Te} {vs:List V},IsTes K H ts vs->IsTes K H' ts vs
 |[],[],_=>trivial
 |_::_,_::_,h=>⟨h.1.same e,IsTes.same e h.2⟩
 |[],_::_,h=>h.elim
 |_::_,[],h=>h.elim
theorem IsTe.rep{t:Te}(h:IsTe K H t v):Rep K H t.d v:=by
 obtain⟨z,s,rfl,h2,h3⟩:=h;unfold Te.d Rep;refine⟨z,_,O,SqT.of h2,?_⟩;unfold Reps Reps Reps Reps;refine⟨?_,?_,?_,trivial⟩
 . unfold Rep;exact⟨rfl,rfl⟩
 . unfold Rep;exact⟨rfl,rfl⟩
 . unfold Rep;exact⟨s,_,rfl,h3,qM8 (xs:=[.int t.p,.int t.q]) rfl⟩
theorem IsTes.rep{H:Hp}:∀{ts:List Te} {vs:List V},IsTes K H ts vs->Reps K H (ts.map Te.d) vs
 |[],[],_=>by unfold List.map Reps;trivial
 |_::_,_::_,h=>by unfold List.map Reps;exact⟨h.1.rep,h.2.rep⟩
 |[],_::_,h=>h.elim
 |_::_,[],h=>h.elim
theorem qO5(t:Te):eqD t.d t.d=true:=by simp[Te.d,eqD,qAm,eqV]
theorem wC:∀ts:List Te,qAm (ts.map Te.d) (ts.map Te.d)=true
 |[]=>by simp[qAm]
 |m::ms=>by unfold List.map qAm;rw[qO5,wC ms];rfl
theorem qEu:∀ts:List Te,qIo (ts.map Te.d)<=2
 |[]=>by simp[qIo]
 |m::ms=>by
  have h2:=qEu ms;have h1:dep m.d<=2:=by simp[Te.d,dep,qIo]
  unfold List.map qIo;omega
def TL(K:W.Frag)(H:Hp)(z:Addr)(ts:List Te):Prop:= ∃vs,H z=some (.lst vs)/\IsTes K H ts vs
theorem TL.same{H H':Hp}{z:Addr}{ts:List Te}(e:Same H H')(h:TL K H z ts):TL K H' z ts:=let ⟨vs,h1,h2⟩:=h;⟨vs,e _ _ h1,h2.same e⟩
theorem TL.rep{H:Hp}{z:Addr}{ts:List Te}(h:TL K H z ts):Rep K H (.lst (ts.map Te.d)) (.ref z):=by obtain⟨vs,h1,h2⟩:=h;unfold Rep;exact⟨z,vs,O,SqL.of h1,h2.rep⟩
theorem neTL{x y:Addr}{ts:List Te}(h1:TL K H x ts)(h2:TL K H y ts)(q:Q (.bl false) H):qT3 K true (.ref x) (.ref y) H Q:=by
 refine⟨_,_,h1.rep,h2.rep,rfl,by have:=qEu ts;unfold dep;omega,?_⟩;have e:eqD (.lst (ts.map Te.d)) (.lst (ts.map Te.d))=true:=by unfold eqD;exact wC ts
 rw[e];exact q
theorem qU3{y:Addr}(h2:H y=some (.lst [])):Rep K H (.lst []) (.ref y):=by unfold Rep;exact⟨y,[],rfl,SqL.of h2,by unfold Reps;trivial⟩
theorem jAj{x y:Addr}{ts:List Te}(h1:TL K H x ts)(h2:H y=some (.lst []))(q:Q (.bl (!ts.isEmpty)) H):qT3 K true (.ref x) (.ref y) H Q:=by
 refine⟨_,.lst [],h1.rep,qU3 h2,rfl,by have:=qEu ts;unfold dep;omega,?_⟩;have e:eqD (.lst (ts.map Te.d)) (.lst [])=ts.isEmpty:=by cases ts <;> simp[eqD,qAm]
 rw[e];exact q
def Im.g:Im->Prop
 |.clip _ p q r s l=>0<q/\0<s/\p.natAbs<2 ^ 400/\q.natAbs<2 ^ 400/\r.natAbs<2 ^ 400/\s.natAbs<2 ^ 400/\1<=l/\l<2 ^ 400
 |.nest _ b l=>0<=b/\b<2 ^ 60/\1<=l
 |.gap l=>1<=l
 |.mix l=>1<=l/\l<2 ^ 60
theorem Im.g_mo(h:m.g):0<=m.mo:=by
 cases m with
 |clip n p q r s l=>have:=h.2.2.2.2.2.2.1;show 0<=l;omega
 |nest n b l=>have:=h.2.2;show 0<=l;omega
 |gap l=>have h:1<=l:=h;show 0<=l;omega
 |mix l=>exact YH _
def qRz(ms:List Im):Prop:= ∀(i:Nat) (l:Int),ms[i]?=some (.mix l)->1<=i/\(∃n p q r s k,ms[i-1]?=some (.clip n p q r s k))/\∃n p q r s k,ms[i+1]?=some (.clip n p q r s k)
noncomputable def qWc(p q r s k:Int):Int:=(p*s+k*r*q).fdiv (q*s)
noncomputable def qD8(ms:List Im)(i:Nat)(j:Int):List Te:=
 match ms[i]?,ms[i-1]?,ms[i+1]? with
 |some (.mix l),some (.clip n p q r s k),some (.clip n' p' q' r' s' _)=>[⟨n,qWc p q r s (k+(j-l.fdiv 2)),xX (l-j) (l+1),j6 (l-j) (l+1)⟩,⟨n',qWc p' q' r' s' (j-l.fdiv 2),xX (j+1) (l+1),j6 (j+1) (l+1)⟩]
 |_,_,_=>[]
noncomputable def jz(f:Str->Int->List Te)(ms:List Im)(t:Int):List Te:=
 match qL4 0 0 ms t with
 |some (i,j)=>qD8 ms i j
 |none=>match xf 0 0 ms t with
  |none=>[]
  |some (i,d)=>match ms[i]? with
   |some (.clip n p q r s _)=>[⟨n,qWc p q r s d,1,1⟩]
   |some (.nest nm b _)=>f nm (b+d)
   |_=>[]
noncomputable def zl:List (List Te)->List Te
 |[]=>[]
 |x::r=>if x.isEmpty then zl r else x
abbrev Rms:=Str->Option (List (List Im))
noncomputable def qq(rm:Rms):Nat->Str->Int->List Te
 |0,_,_=>[]
 |n+1,nm,t=>zl (((rm nm).getD []).map λms=>jz (qq rm n) ms t)
def RoomAt(H:Hp)(rz:Addr)(rm:Rms):Prop:= ∃(re td:Addr) (kvs:List (Key×V)),H rz=some (.tup [.ref re,.ref td])/\Rd H td (.dK kvs)/\∀nm ts,rm nm=some ts->∃v,x6 kvs (Sum.inr nm)=some v/\TabAt H v ts
theorem RoomAt.same{H H':Hp}(e:Same H H'){rz:Addr}{rm:Rms}(h:RoomAt H rz rm):RoomAt H' rz rm:=
 let ⟨re,td,kvs,h1,h2,h3⟩:=h;⟨re,td,kvs,e _ _ h1,qHu e h2,λnm ts q=>let ⟨v,a,b⟩:=h3 nm ts q;⟨v,a,b.same e⟩⟩
def Lv(rm:Rms):Nat->Str->Prop
 |0,_=>False
 |n+1,nm=> ∃ts,rm nm=some ts/\ts.length<=300/\∀ms∈ts,ms.length<=300/\qRz ms/\∀m∈ms,m.g/\∀nm' b l,m=.nest nm' b l->Lv rm n nm'
def LvT(rm:Rms)(n:Nat)(ms:List Im):Prop:=ms.length<=300/\qRz ms/\∀m∈ms,m.g/\∀nm' b l,m=.nest nm' b l->Lv rm n nm'
theorem qMt:∀{b:Int} {i:Nat} {ms:List Im} {t:Int} {k:Nat} {d:Int},xf b i ms t=some (k,d)->(∀m∈ms,m.g)->0<=b->0<=d/\d<=t
 |_,_,[],_,_,_,h,_,_=>by simp[xf]at h
 |b,i,m::ms,t,k,d,h,hg,hb=>by
  rw[xf]at h;by_cases hc:b<=t/\t<b+m.mo
  . rw[YB hc]at h
    cases h;omega
  . rw[YA hc]at h
    have:=Im.g_mo (hg m (by simp));exact qMt h (λx hx=>hg x (by simp[hx])) (by omega)
theorem qEn:∀{b:Int} {i:Nat} {ms:List Im} {t:Int} {k:Nat} {d:Int},xf b i ms t=some (k,d)->i<=k/\∃m,ms[k-i]?=some m
 |_,_,[],_,_,_,h=>by simp[xf]at h
 |b,i,m::ms,t,k,d,h=>by
  rw[xf]at h;by_cases hc:b<=t/\t<b+m.mo
  . rw[YB hc]at h
    cases h;exact⟨YI _,m,by simp⟩
  . rw[YA hc]at h
    obtain⟨h1,m',h2⟩:=qEn h;have e:k-i=(k-(i+1))+1:=by omega
    exact⟨by omega,m',by rw[e,List.getElem?_cons_succ];exact h2⟩
theorem qBt(h:i.natAbs<2 ^ 400):Sm2 i:=YR h (Yh (by decide) (by decide))
inductive qGd(K:W.Frag)(vs:List V)(H:Hp)(Q:VK)(_:XK):Prop
|mk (z:Addr) (ms:List Im) (i:Nat) (j l:Int) (_:vs=[.ref z,.int (i:Int),.int j]) (_:Tr H z ms) (_:qRz ms) (_:(∀m∈ms,m.g)) (_:ms[i]?=some (.mix l)) (_:0<=j) (_:j<l) (_:∀(y:Addr) (H':Hp),Same H H'->H y=none->TL K H' y (qD8 ms i j)->Q (.ref y) H')
theorem qGe(T:Tx K mg a):FnOk P w K mg base CX0 6 a.A40 a.B40 ["track","place","j"] (qGd K):=by
 refine oL T.D40.F jE λ_ _ _ _ H vs Q _ hr h _ Y=>?_;obtain⟨z,ms,i,j,l,rfl,⟨xs,hz,his⟩,hok,hg,hm,j0,j1,kk⟩:=h;apply Y;refine⟨_,(qD (qW 3 jE.nd (qJ (jN qh (pv 0) (pv 1) (λ_ _=>rfl))))
  (qD (qW 4 jE.nd (jN qh (pv 0) (qP jG (pv 1) qG) (λ_ _=>rfl)))
  (qD (qW 5 jE.nd (jN qh (pv 0) (qP qk (pv 1) qG) (λ_ _=>rfl)))
  (qD (qW 6 jE.nd (qI T.D38 (qG6 T) hr rfl (qA (pv 3) (qA (pv 2) qB))))
  (qD (qW 7 jE.nd (qP jG (pv 2) (qI T.D35 (kW T) hr rfl (qA (pv 3) qB))))
  (qD (qW 8 jE.nd (qY (qA (qJ (pv 4)) (qA (qI T.D13 (xJ T) hr rfl (qA (pv 4) (qA (qP qk (qJ (pv 4)) (pv 7)) qB))) (qA (qJ (pv 6)) qB)))))
  (qD (qW 9 jE.nd (qY (qA (qJ (pv 5)) (qA (qI T.D13 (xJ T) hr rfl (qA (pv 5) (qA (pv 7) qB))) (qA (qJ (pv 6)) qB)))))
  (qF (qK (qo (qA (pv 8) (qA (pv 9) qB)))))))))))),?_⟩
 try dsimp only[jD,qc]
 refine qS λ_ Y=>?_;obtain⟨i1,⟨n,p,q,r,s1,k,ha⟩,n',p',q',r',s2,k',hb⟩:=hok i l hm;have gm:=hg _ (YF hm);have ga:=hg _ (YF ha);have gb:=hg _ (YF hb);have el:qD8 ms i j=[⟨n,qWc p q r s1 (k+(j-l.fdiv 2)),xX (l-j) (l+1),j6 (l-j) (l+1)⟩,⟨n',qWc p' q' r' s2 (j-l.fdiv 2),xX (j+1) (l+1),j6 (j+1) (l+1)⟩]:=by unfold qD8;rw[hm,ha,hb]
 rw[el]at kk;have l60:l<2 ^ 60:=gm.2;obtain⟨vm,hvm,Im⟩:=his.get' hm;obtain⟨va,hva,Ia⟩:=his.get' ha;obtain⟨vb,hvb,Ib⟩:=his.get' hb;obtain⟨zm,rfl,hzm⟩:=id Im;apply Y;have am:atI xs (i:Int)=some (.ref zm):=qz hvm;have aa:atI xs ((i:Int)-1)=some va:=by
  have e:(i:Int)-1=((i-1:Nat):Int):=by omega
  rw[e];exact qz hva
 have ab:atI xs ((i:Int)+1)=some vb:=by
  have e:(i:Int)+1=((i+1:Nat):Int):=by omega
  rw[e];exact qz hvb
 have hS:=SqL.of (K:=K) hz;refine⟨_,O,_,O,z,_,_,_,O,O,hS,am,ixT (SqT.of hzm) at1 ?_⟩;refine⟨_,O,_,O,_,_,O,O,z,_,_,_,O,O,hS,aa,?_⟩;refine⟨_,O,_,O,_,_,O,O,z,_,_,_,O,O,hS,ab,?_⟩;refine⟨_,rfl,_,rfl,l,j,rfl,j0,j1,l60,λsh H1 w1 ⟨sx,sy,hsh,hsx,hsy⟩=>?_⟩;refine⟨_,O,_,O,l,O,_,_,O,O,?_⟩;have Ia1:=Ia.ts (qd w1);have Ib1:=Ib.ts (qd w1);refine qS λ_ Y=>?_;obtain⟨za,xa,ya,rfl,hza,hxa,hya⟩:=id Ia1;obtain⟨zb,xb,yb,rfl,hzb,hxb,hyb⟩:=id Ib1;obtain⟨q0,s0,bp,bq,br,bs,k0,k1⟩:=id ga;obtain⟨q0',s0',bp',bq',br',bs',_,_⟩:=id gb;apply Y;have hf:l.fdiv 2<=l/\0<=l.fdiv 2:=by have:=jW (p:=l) (q:=2) (by decide);omega
 have bk1:Sm2 (k+(j-l.fdiv 2)):=by
  have e:(2:Int) ^ 400+2 ^ 61<2 ^ 401:=by decide
  have:(k+(j-l.fdiv 2)).natAbs<2 ^ 401:=by omega
  exact YR this (Yh (by decide) (by decide))
 have bk2:Sm2 (j-l.fdiv 2):=by
  have:(j-l.fdiv 2).natAbs<2 ^ 61:=by omega
  exact YR this (Yh (by decide) (by decide))
 refine(ixO hza qEe ⟨_,O,ixO hza qCs ⟨_,O,_,_,O,O,?_⟩⟩);refine⟨_,n,p,q,r,s1,k,_,O,qDp Ia1,q0,s0,qBt bp,qBt bq,qBt br,qBt bs,bk1,λH2 w2=>?_⟩;refine(ixO (w2 _ _ hsh) at0 ⟨sL3,λf1 hf1=>?_⟩);have w3:=qE hf1 (.tup [.str n,.int ((p*s1+(k+(j-l.fdiv 2))*r*q).fdiv (q*s1)),.ref sx]);have w23:=w2.trans w3;refine(ixO (w23 _ _ hzb) qEe ⟨_,O,_,O,?_⟩);refine⟨_,n',p',q',r',s2,k',_,O,qDp (Ib1.ts (qd w23)),q0',s0',qBt bp',qBt bq',qBt br',qBt bs',bk2,λH4 w4=>?_⟩;have w24:=w23.trans w4;refine(ixO (w24 _ _ hsh) at1 ⟨sL3,λf2 hf2=>?_⟩);have w5:=qE hf2 (.tup [.str n',.int ((p'*s2+(j-l.fdiv 2)*r'*q').fdiv (q'*s2)),.ref sy]);refine⟨_,O,_,O,sL2,λy hy=>?_⟩;have w6:=qE hy (.lst [.ref f1,.ref f2]);have w25:=(w24.trans w5).trans w6;refine kk y _ (w1.trans w25) ((w1.trans (w24.trans w5)).free hy) ⟨_,qC,⟨f1,sx,O,w6 _ _ (w5 _ _ (w4 _ _ qC)),SqT.of (w25 _ _ hsx)⟩,⟨f2,sy,O,w6 _ _ qC,SqT.of (w25 _ _ hsy)⟩,trivial⟩
inductive zB(K:W.Frag)(n:Nat)(vs:List V)(H:Hp)(Q:VK)(_:XK):Prop
|mk (rz:Addr) (nm:Str) (t:Int) (rm:Rms) (_:vs=[.ref rz,.str nm,.int t]) (_:RoomAt H rz rm) (_:Lv rm n nm) (_:0<=t) (_:t+n*2 ^ 61<2 ^ 400) (_:∀(y:Addr) (H':Hp),Same H H'->H y=none->TL K H' y (qq rm n nm t)->Q (.ref y) H')
inductive qBx(K:W.Frag)(n:Nat)(vs:List V)(H:Hp)(Q:VK)(_:XK):Prop
|mk (z rz:Addr) (ms:List Im) (t:Int) (rm:Rms) (_:vs=[.ref z,.int t,.ref rz]) (_:Tr H z ms) (_:LvT rm n ms) (_:(n≠0->RoomAt H rz rm)) (_:0<=t) (_:t+n*2 ^ 61+2 ^ 60<2 ^ 400) (_:∀(y:Addr) (H':Hp),Same H H'->H y=none->TL K H' y (jz (qq rm n) ms t)->Q (.ref y) H')
theorem qC1(T:Tx K mg a)(n:Nat)(IH:∀{base:Heap},FnOk P w K mg base CX0 (2*n+7) a.A45 a.B45 ["room","name","moment"] (zB K n)):
 FnOk P w K mg base CX0 (2*n+8) a.A44 a.B44 ["track","moment","room"] (qBx K n):=by
 refine T.D44.F.ok wB (λvs H Q E h=>?_) (λcdv A outer s H vs Q E hrn h=>?_)
 . obtain⟨z,rz,ms,t,rm,rfl,_⟩:=h
   rfl
 refine qS λ_ Y=>?_;obtain⟨z,rz,ms,t,rm,rfl,tT,⟨hml,hmx,hgs⟩,hrm,t0,t1,kk⟩:=h;apply Y;have hr:=hrn.mono (show 7<=2*n+7 by omega);refine⟨_,(qD (qW 3 wB.nd (qI T.D39 (qP4 T) hr rfl (qA (pv 0) (qA (pv 1) qB))))
  (qD (qZ (zV (qQi (pv 3))) (qF (qK (qI T.D40 (qGe T) hr rfl (qA (pv 0) (qA (qJ (pv 3)) (qA (qJ (pv 3)) qB)))))) qN)
  (qD (qW 4 wB.nd (qI T.D26 (v9 T) hr rfl (qA (pv 0) (qA (pv 1) qB))))
  (qD (qZ (zV (wO (pv 4))) (qF (qK (qo qB))) qN)
  (qD (qW 5 wB.nd (jN qh (pv 0) (qJ (pv 4)) (λ_ _=>rfl)))
  (qD (qZ (qM jM (qJ (pv 5)) qR (qO _)) (qF (qK (qo (qA (qY (qA (qJ (pv 5)) (qA (qI T.D13 (xJ T) hr rfl (qA (pv 5) (qA (qJ (pv 4)) qB))) (qA (jQ (v:=.ref a.n_WHOLE_SHARE) rfl T.g_WHOLE_SHARE rfl) qB)))) qB)))) qN)
  (qD (qZ (qM jM (qJ (pv 5)) qR (qO _)) (qF (qK (qI T.D45 IH hrn rfl (qA (pv 2) (qA (qJ (pv 5)) (qA (qP qk (qJ (pv 5)) (qJ (pv 4))) qB))) (YI _)))) qN)
  (qF (qK (qo qB)))))))))),?_⟩
 try dsimp only[jD,qc]
 have hg:∀m∈ms,m.g:=λm hm=>(hgs m hm).1;refine qS λ_ Y=>?_;obtain⟨xs,hz,his⟩:=id tT;apply Y;refine⟨_,O,_,O,z,ms,t,O,tT,hml,?_⟩;cases hmf:qL4 0 0 ms t with
 |some c=>
  obtain⟨i,j⟩:=c;intro p H1 e1 hp;have et:jz (qq rm n) ms t=qD8 ms i j:=by unfold jz;rw[hmf]
  rw[et]at kk;refine qS λ_ Y=>?_;obtain⟨l,_,hm,j0,j1⟩:=qMg hmf;apply Y;rw[Nat.sub_zero]at hm;refine⟨_,rfl,_,rfl,qZa (by intro z;cases z) ?_⟩;refine⟨_,O,ixO hp at0 (ixO hp at1 ?_)⟩;exact⟨z,ms,i,j,l,O,tT.same e1,hmx,hg,hm,j0,j1,λy H2 e2 hy ht=>kk y H2 (e1.trans e2) (e1.free hy) ht⟩
 |none=>
  intro H1 e1;refine⟨_,O,_,O,qVl rfl ?_⟩;refine⟨_,O,_,O,z,ms,t,O,tT.same e1,?_⟩;cases hit:xf 0 0 ms t with
  |none=>
   intro H2 e2;have et:jz (qq rm n) ms t=[]:=by unfold jz;rw[hmf,hit]
   rw[et]at kk;refine⟨_,O,_,O,ja (λ_=>?_) (λc=>YC (by simp) c)⟩;refine⟨sL0,λy hy=>?_⟩;exact kk y _ ((e1.trans e2).trans (qE hy _)) ((e1.trans e2).free hy) ⟨[],qC,trivial⟩
  |some c=>
   obtain⟨i,d⟩:=c;intro p H2 e2 hp;refine qS λ_ Y=>?_;obtain⟨d0,d1⟩:=qMt hit hg (by decide);obtain⟨_,m,hm⟩:=qEn hit;rw[Nat.sub_zero]at hm;obtain⟨v,hv,hI⟩:=his.get' hm;apply Y;have e12:=e1.trans e2;have hI2:=hI.ts (qd e12);refine⟨_,O,_,O,ja (λc=>YC c (by simp)) (λ_=>?_)⟩;refine⟨_,O,ixO hp at0 ⟨z,_,_,_,O,O,SqL.of (e12 _ _ hz),qz hv,?_⟩⟩;refine qS λ_ Y=>?_;obtain⟨gm,hnest⟩:=hgs m (YF hm);obtain⟨zi,xi,rfl,hzi,h0,h1⟩:=hI2.opn;apply Y;refine⟨_,O,zi,xi,_,_,O,O,SqT.of hzi,h0,O,_,O,?_⟩;cases m with
   |clip nm p' q r s1 l=>
    have et:jz (qq rm n) ms t=[⟨nm,qWc p' q r s1 d,1,1⟩]:=by unfold jz;rw[hmf,hit];simp only[hm]
    rw[et]at kk;refine ja (λ_=>?_) (λc=>YC (by show decide (V.str "clip"=V.str "clip")=true;simp) c);refine qS λ_ Y=>?_;obtain⟨q0,s0,bp,bq,br,bs,_,_⟩:=gm;obtain⟨z2,x2,y2,e3,hz2,hx2,hy2⟩:=id hI2;cases e3;apply Y;refine(ixO hz2 qEe ⟨_,O,ixO hp at1 ?_⟩);refine⟨_,nm,p',q,r,s1,l,d,rfl,qDp hI2,q0,s0,qBt bp,qBt bq,qBt br,qBt bs,qBt (by have:(0:Int)<=n*2 ^ 61:=Int.mul_nonneg (by omega) (by decide);omega),λH3 w3=>?_⟩;refine⟨sL3,λf hf=>⟨sL1,λy hy=>?_⟩⟩;have w4:=qE hf (.tup [.str nm,.int ((p'*s1+d*r*q).fdiv (q*s1)),.ref a.n_WHOLE_SHARE]);have w5:=qE hy (.lst [.ref f]);exact kk y _ (((e12.trans w3).trans w4).trans w5) (((e12.trans w3).trans w4).free hy) ⟨_,qC,⟨f,_,O,w5 _ _ qC,T.sq_WHOLE_SHARE _⟩,trivial⟩
   |nest nm b l=>
    have et:jz (qq rm n) ms t=qq rm n nm (b+d):=by unfold jz;rw[hmf,hit];simp only[hm]
    rw[et]at kk;refine ja (λc=>YC (show decide (V.str "nest"=V.str "clip")=true from c) (by rw[qPf];decide+kernel)) (λ_=>?_);refine⟨_,O,zi,xi,_,_,O,O,SqT.of hzi,h0,O,_,O,?_⟩;refine ja (λ_=>?_) (λc=>YC (by show decide (V.str "nest"=V.str "nest")=true;simp) c);have lv:=hnest nm b l rfl;have n0:n≠0:=by intro q;subst q;exact lv
    refine qS λ_ Y=>?_;obtain⟨b0,b1,l1⟩:=gm;obtain⟨z2,e3,hz2⟩:=id hI2;cases e3;apply Y;have a1:atI [V.str "nest",.str nm,.int b,.int l] 1=some (.str nm):=rfl;have a2:atI [V.str "nest",.str nm,.int b,.int l] 2=some (.int b):=rfl;refine⟨_,O,ixO hz2 a1 (ixO hz2 a2 (ixO hp at1 ⟨_,_,O,O,?_⟩))⟩;refine⟨rz,nm,b+d,rm,O,(hrm n0).same e12,lv,by omega,by omega,λy H3 e3 hy ht=>kk y H3 (e12.trans e3) (e12.free hy) ht⟩
   |gap l=>
    have et:jz (qq rm n) ms t=[]:=by unfold jz;rw[hmf,hit];simp only[hm]
    rw[et]at kk;refine ja (λc=>YC (show decide (V.str "gap"=V.str "clip")=true from c) (by rw[qPf];decide+kernel)) (λ_=>?_);refine⟨_,O,zi,xi,_,_,O,O,SqT.of hzi,h0,O,_,O,?_⟩;refine ja (λc=>YC (show decide (V.str "gap"=V.str "nest")=true from c) (by rw[qPf];decide+kernel)) (λ_=>?_);refine⟨sL0,λy hy=>?_⟩;exact kk y _ (e12.trans (qE hy _)) (e12.free hy) ⟨[],qC,trivial⟩
   |mix l=>
    have et:jz (qq rm n) ms t=[]:=by unfold jz;rw[hmf,hit];simp only[hm]
    rw[et]at kk;refine ja (λc=>YC (show decide (V.str "mix"=V.str "clip")=true from c) (by rw[qPf];decide+kernel)) (λ_=>?_);refine⟨_,O,zi,xi,_,_,O,O,SqT.of hzi,h0,O,_,O,?_⟩;refine ja (λc=>YC (show decide (V.str "mix"=V.str "nest")=true from c) (by rw[qPf];decide+kernel)) (λ_=>?_);refine⟨sL0,λy hy=>?_⟩;exact kk y _ (e12.trans (qE hy _)) (e12.free hy) ⟨[],qC,trivial⟩
theorem qCw(T:Tx K mg a):FnOk P w K mg base CX0 7 a.A45 a.B45 ["room","name","moment"] (zB K 0):=by
 refine T.D45.F.ok kD (λvs H Q E h=>?_) (λcdv A outer s H vs Q E hrn h=>?_)
 . obtain⟨_,_,_,_,_,_,h,_⟩:=h
   exact h.elim
 . obtain⟨_,_,_,_,_,_,h,_⟩:=h
   exact h.elim
theorem qKb(T:Tx K mg a)(n:Nat)(IH:∀{base:Heap},FnOk P w K mg base CX0 (2*n+8) a.A44 a.B44 ["track","moment","room"] (qBx K n)):
 FnOk P w K mg base CX0 (2*n+9) a.A45 a.B45 ["room","name","moment"] (zB K (n+1)):=by
 refine T.D45.F.ok kD (λvs H Q E h=>?_) (λcdv A outer s H vs Q E hrn h=>?_)
 . obtain⟨rz,nm,t,rm,rfl,_⟩:=h
   rfl
 refine qS λ_ Y=>?_;obtain⟨rz,nm,t,rm,rfl,hR,⟨ts,hts,htl,hlv⟩,t0,t1,kk⟩:=h;apply Y;have hu:=hrn.units;have hu1:(A.deeper (PyProof.Rows.envOfC (Str.ofString "told_at") (qH qA1) s.heap.objs.size a.A45 cdv)).units+1<cLine:=by omega
 refine⟨_,(qD (qW 3 kD.nd (qJ (kh hu1 (qJ (pv 0)) (pv 1) (λ_ _=>rfl))))
  (qD (xj PassesOwn.never rfl (jl (pv 3)) (q8 (i:=4) kD.nd rfl (Or.inl rfl)) (qD (qW 5 kD.nd (qI T.D44 IH hrn rfl (qA (pv 4) (qA (pv 2) (qA (pv 0) qB))) (YI _)))
  (qF (qZ (qM (qMx hu) (pv 5) (qo qB) (qO _)) (qF (qK (pv 5))) qN))))
  (qF (qK (qo qB))))),?_⟩
 try dsimp only[jD,qc]
 have et:qq rm (n+1) nm t=zl (ts.map λms=>jz (qq rm n) ms t):=by rw[qq,hts];rfl
 rw[et]at kk;refine qS λ_ Y=>?_;obtain⟨re,td,kvs,h1,h2,h3⟩:=id hR;obtain⟨v,hv,tt,tl,ti,zs,rfl,h4,h5,h6⟩:=h3 nm ts hts;apply Y;refine(ixO h1 at1 ⟨_,O,td,_,O,.inl ⟨kvs,Sum.inr nm,h2,O,hv.symm⟩,ixT (SqT.of h4) at0 ?_⟩);refine⟨_,O,tl,O,⟨_,SqL.of h5⟩,j3 (K:=K) (a:=tl) (xs:=zs) (λi σ H'=> ∃(o1 o2:Option V),σ=[some (.ref rz),some (.str nm),some (.int t),some (.ref tl),o1,o2]/\zl ((ts.drop i).map λms=>jz (qq rm n) ms t)=zl (ts.map λms=>jz (qq rm n) ms t)/\Same H H') ⟨none,none,O,O,Same.refl _⟩ ?_ ?_ ?_⟩
 . rintro i σ H' hi ⟨o1,o2,rfl,_,e⟩
   exact SqL.of (e _ _ h5)
 . rintro i x σ H' hx ⟨o1,o2,rfl,hap,e⟩
   refine qS λ_ Y=>?_;obtain⟨ms,z,hms,rfl,hT⟩:=h6.get hx;apply Y;rw[jy hms,ZG,zl]at hap;refine⟨_,O,_,O,_,O,z,rz,ms,t,rm,O,hT.same e,hlv ms (YF hms),λ_=>hR.same e,t0,?_,λy H1 e1 hy ht=>?_⟩
   . have e1:((n+1:Nat):Int)=(n:Int)+1:=by omega
     rw[e1,Int.add_mul]at t1;omega
   refine⟨_,O,sL0,λen hen=>jAj (ht.same (qE hen _)) qC ⟨_,O,?_⟩⟩;have w2:=qE hen (.lst []);cases hq:(jz (qq rm n) ms t).isEmpty with
   |true=>
    rw[hq,YB rfl]at hap;exact qv ⟨_,_,O,hap,(e.trans e1).trans w2⟩
   |false=>
    rw[hq,YA (by decide)]at hap;rw[<-hap]at kk;exact jn ⟨_,O,kk y _ ((e.trans e1).trans w2) (e.free hy) (ht.same w2)⟩
 . rintro σ H' ⟨o1,o2,rfl,hap,e⟩
   rw[h6.len,ZH]at hap;have hn:zl ([].map λms=>jz (qq rm n) ms t)=[]:=rfl;rw[hn]at hap;rw[<-hap]at kk;refine⟨sL0,λy hy=>?_⟩;exact kk y _ (e.trans (qE hy _)) (e.free hy) ⟨[],qC,trivial⟩
theorem qQz(T:Tx K mg a):∀(n:Nat),(∀{base:Heap},FnOk P w K mg base CX0 (2*n+7) a.A45 a.B45 ["room","name","moment"] (zB K n))/\(∀{base:Heap},FnOk P w K mg base CX0 (2*n+8) a.A44 a.B44 ["track","moment","room"] (qBx K n))
 |0=>⟨qCw T,qC1 T 0 (qCw T)⟩
 |n+1=>by have ih:=qQz T n;have h1:∀{base:Heap},FnOk P w K mg base CX0 (2*(n+1)+7) a.A45 a.B45 ["room","name","moment"] (zB K (n+1)):=qKb T n ih.2;exact⟨h1,qC1 T (n+1) h1⟩
theorem qPh(ms:List Im)(i:Nat)(j:Int):(qD8 ms i j).length<=2:=by unfold qD8;split <;> simp
theorem qO0{f:Str->Int->List Te}(hf:∀nm t,(f nm t).length<=2)(ms:List Im)(t:Int):(jz f ms t).length<=2:=by
 unfold jz;split
 . exact qPh _ _ _
 . split
   . simp
   . split
     . simp
     . exact hf _ _
     . simp
theorem qKo:∀{xs:List (List Te)},(∀x∈xs,x.length<=2)->(zl xs).length<=2
 |[],_=>by simp[zl]
 |x::xs,h=>by
  rw[zl];split
  . exact qKo λy hy=>h y (by simp[hy])
  . exact h x (by simp)
theorem kA(rm:Rms):∀(n:Nat) (nm:Str) (t:Int),(qq rm n nm t).length<=2
 |0,_,_=>by simp[qq]
 |n+1,nm,t=>by rw[qq];refine qKo λx hx=>?_;obtain⟨ms,_,rfl⟩:=List.mem_map.mp hx;exact qO0 (kA rm n) ms t
theorem qVs:∀(zs:List Im),(∀z∈zs,0<=z.mo)->0<=(zs.map Im.mo).sum:=λzs=>by
 induction zs with
 |nil=>intro _;simp
 |cons z zs ih=>intro h;have:=ih λy hy=>h y (by simp[hy]);have:=h z (by simp);rw[ZG,List.sum_cons];omega
def NLM(A:List Im):Prop:= ∀l,A.getLast?≠some (.mix l)
def NHM(A:List Im):Prop:= ∀l,A.head?≠some (.mix l)
theorem qU(m:Im)(ms:List Im):jC (m::ms)=m.mo+jC ms:=by simp[jC]
theorem jI(A B:List Im):jC (A++B)=jC A+jC B:=by simp[jC]
theorem jf:jC []=0:=rfl
theorem qA7(m:Im)(A:List Im):(m::A).getLast?=A.getLast?.or (some m):=by
 cases A with
 |nil=>rfl
 |cons a A=>rw[List.getLast?_cons_cons];cases h:(a::A).getLast? with
  |none=>simp at h
  |some x=>rfl
def Nn(ms:List Im):Prop:= ∀m∈ms,0<=m.mo
theorem Nn.tail(h:Nn (m::ms)):Nn ms:=λx hx=>h x (by simp[hx])
theorem Nn.len(h:Nn ms):0<=jC ms:=qVs ms h
def Wf(m:Im):Prop:=match m with
 |.clip _ p q r s l=>0<q/\0<s/\Int.gcd p q=1/\1<=l
 |.nest _ _ l=>1<=l
 |.gap l=>1<=l
 |.mix l=>1<=l
theorem Wf.mo{m:Im}(h:Wf m):0<=m.mo:=by
 cases m with
 |clip n p q r s l=>have:1<=l:=h.2.2.2;show 0<=l;omega
 |nest n b l=>have h:1<=l:=h;show 0<=l;omega
 |gap l=>have h:1<=l:=h;show 0<=l;omega
 |mix l=>exact YH _
theorem qHw(lo hi:Int):(kF m lo hi).mo=hi-lo:=by cases m <;> rfl
theorem qA0(m:Im)(lo hi:Int):(kF m lo hi).wd≠"mix":=by
 cases m
 . show ("clip":Str)≠"mix";decide+kernel
 . show ("nest":Str)≠"mix";decide+kernel
 . show ("gap":Str)≠"mix";decide+kernel
 . show ("gap":Str)≠"mix";decide+kernel
noncomputable def xA:Int->List Im->List Im×List Im
 |_,[]=>([],[])
 |t,m::ms=>if m.mo<=t then (m::(xA (t-m.mo) ms).1,(xA (t-m.mo) ms).2)else if 0<t then ([kF m 0 t],kF m t m.mo::ms)else ([],m::ms)
theorem zL:∀(ms:List Im) (c:Int),0<=c->((xA c ms).1++(xA c ms).2=ms/\(jC (xA c ms).1=c\/(jC (xA c ms).1=jC ms/\jC ms<=c/\(xA c ms).2=[])))\/∃(A B:List Im) (m:Im) (d:Int),ms=A++m::B/\(xA c ms).1=A++[kF m 0 d]/\(xA c ms).2=kF m d m.mo::B/\0<d/\d<m.mo/\m.wd≠"mix"/\c=jC A+d
 |[],c,hc=>.inl ⟨rfl,.inr ⟨rfl,by rw[jf];exact hc,rfl⟩⟩
 |m::ms,c,hc=>by
  rw[xA];by_cases h:m.mo<=c
  . rw[YB h]
    dsimp only;rcases zL ms (c-m.mo) (by omega)with ⟨h1,h2⟩|⟨A,B,x,d,h1,h2,h3,h4,h5,h6,h7⟩
    . refine .inl ⟨by rw[YT,h1],?_⟩
      rw[qU,qU];rcases h2 with h2|⟨h2,h3,h4⟩
      . exact .inl (by omega)
      . exact .inr ⟨by omega,by omega,h4⟩
    . exact .inr ⟨m::A,B,x,d,by rw[h1];rfl,by rw[h2];rfl,h3,h4,h5,h6,by rw[qU];omega⟩
  . rw[YA h]
    by_cases h0:0<c
    . rw[YB h0]
      refine .inr ⟨[],ms,m,c,O,O,O,h0,by omega,λe=>?_,by rw[jf];omega⟩;obtain⟨l,rfl⟩:=xB e;exact h (by show (0:Int)<=c;omega)
    . rw[YA h0]
      exact .inl ⟨O,.inl (by show jC []=c;rw[jf];omega)⟩
theorem wW(hm:m.wd≠"mix")(hw:Wf m):kF m 0 m.mo=m:=by
 cases m with
 |mix l=>exact YC rfl hm
 |clip n p q r s l=>
  obtain⟨h1,h2⟩:=qHk (r:=r) (s:=s) hw.1 hw.2.1 hw.2.2.1;show Im.clip n (plP p q r s 0) (plQ p q r s 0) r s (l-0)=_;rw[h1,h2,ZQ]
 |nest n b l=>show Im.nest n (b+0) (l-0)=_;rw[Yc,ZQ]
 |gap l=>show Im.gap (l-0)=_;rw[ZQ]
def NMA(b c:Int)(ms:List Im):Prop:= ∀x∈qx b ms,x.2.1≠c
theorem NMA.tail{c:Int}(h:NMA b c (m::ms)):NMA (b+m.mo) c ms:=λx hx=>by
 by_cases hm:m.wd="mix"
 . obtain⟨l,rfl⟩:=xB hm
   refine h x ?_;rw[qx];have e:b+(Im.mix l).mo=b:=by simp[Im.mo]
   rw[e]at hx;simp[hx]
 . refine h x ?_
   rw[qt hm];exact hx
theorem NMA.head{c:Int}{l:Int}(h:NMA b c (.mix l::ms)):b≠c:=h (b-l.fdiv 2,b,b+(l-l.fdiv 2)) (by rw[qx];simp)
theorem Wf.pos(h:Wf m)(hm:m.wd≠"mix"):1<=m.mo:=by
 cases m with
 |clip n p q r s l=>exact h.2.2.2
 |nest n b l=>exact h
 |gap l=>exact h
 |mix l=>exact YC rfl hm
theorem qKh:∀(ms:List Im) (b c:Int),(∀m∈ms,Wf m)->0<=b->c<=b->zU 0 c b ms=[]
 |[],_,_,_,_,_=>rfl
 |m::ms,b,c,hw,h0,hc=>by
  have hm0:=(hw m (by simp)).mo;rw[zU,qKh ms (b+m.mo) c (λx hx=>hw x (by simp[hx])) (by omega) (by omega),Ye];by_cases hm:m.wd="mix"
  . rw[YB hm,YA (by omega)]
  . rw[YA hm,YA]
    unfold qBp qLr;split <;> split <;> omega
theorem qV0:∀(ms:List Im) (b c:Int),(∀m∈ms,Wf m)->NMA b c ms->0<=b->b<=c->(b=0->NHM ms)->zU 0 c b ms=(xA (c-b) ms).1
 |[],_,_,_,_,_,_,_=>rfl
 |m::ms,b,c,hw,hn,h0,hc,hh=>by
  have hwm:=hw m (by simp);have hm0:=hwm.mo;rw[zU,xA];by_cases hm:m.wd="mix"
  . obtain⟨l,rfl⟩:=xB hm
    have e0:(Im.mix l).mo=0:=rfl;have hbc:=hn.head;have hb0:b≠0:=λe=>hh e l rfl;rw[YB hm,YB ⟨by omega,by omega⟩,YB (by omega),e0,qV0 ms (b+0) c (λx hx=>hw x (by simp[hx])) hn.tail (by omega) (by omega) (λe=>YC e (by omega))];rw[show c-(b+0)=c-b-0 by omega];rfl
  . have hp:=hwm.pos hm
    have e1:qBp 0 b=b:=by unfold qBp;split <;> omega
    rw[YA hm,e1];by_cases h:m.mo<=c-b
    . have e2:qLr c (b+m.mo)=b+m.mo:=by unfold qLr;split <;> omega
      rw[e2,YB (by omega),YB h,qV0 ms (b+m.mo) c (λx hx=>hw x (by simp[hx])) hn.tail (by omega) (by omega) (λe=>YC e (by omega)),show b-b=0 by omega,show b+m.mo-b=m.mo by omega,wW hm hwm,show c-(b+m.mo)=c-b-m.mo by omega];rfl
    . have e2:qLr c (b+m.mo)=c:=by unfold qLr;split <;> omega
      rw[e2,YA h,qKh ms (b+m.mo) c (λx hx=>hw x (by simp[hx])) (by omega) (by omega),Ye];by_cases hlt:0<c-b
      . rw[YB (by omega),YB hlt,show b-b=0 by omega]
      . rw[YA (by omega),YA hlt]
theorem qFk:∀(ms:List Im) (b c E:Int),(∀m∈ms,Wf m)->c<=b->(b=c->NHM ms)->E=b+jC ms->(∀x∈qx b ms,x.2.1<E)->zU c E b ms=ms
 |[],_,_,_,_,_,_,_,_=>rfl
 |m::ms,b,c,E,hw,hc,hh,hE,hx=>by
  have hwm:=hw m (by simp);have hm0:=hwm.mo;have hl:=Nn.len (ms:=ms) λx hx=>(hw x (by simp[hx])).mo;rw[qU]at hE;rw[zU];by_cases hm:m.wd="mix"
  . obtain⟨l,rfl⟩:=xB hm
    have hb:b≠c:=λe=>hh e l rfl;rw[qx]at hx;have hbE:b<E:=hx (b-l.fdiv 2,b,b+(l-l.fdiv 2)) (by simp);have e0:b+(Im.mix l).mo=b:=by simp[Im.mo]
    rw[YB hm,YB ⟨by omega,hbE⟩,e0,qFk ms b c E (λx hx=>hw x (by simp[hx])) hc (λe=>YC e hb) (by simp[Im.mo]at hE;omega) (λx h=>hx x (by simp[h]))];rfl
  . have hp:=hwm.pos hm
    rw[qt hm]at hx;have e1:qBp c b=b:=by unfold qBp;split <;> omega
    have e2:qLr E (b+m.mo)=b+m.mo:=by unfold qLr;split <;> omega
    rw[YA hm,e1,e2,YB (by omega),show b-b=0 by omega,show b+m.mo-b=m.mo by omega,wW hm hwm,qFk ms (b+m.mo) c E (λx hx=>hw x (by simp[hx])) (by omega) (λe=>YC e (by omega)) (by omega) hx];rfl
theorem qU6:∀(ms:List Im) (b c E:Int),(∀m∈ms,Wf m)->NMA b c ms->b<=c->E=b+jC ms->(∀x∈qx b ms,x.2.1<E)->zU c E b ms=(xA (c-b) ms).2
 |[],_,_,_,_,_,_,_,_=>rfl
 |m::ms,b,c,E,hw,hn,hc,hE,hx=>by
  have hwm:=hw m (by simp);have hm0:=hwm.mo;have hl:=Nn.len (ms:=ms) λx hx=>(hw x (by simp[hx])).mo;rw[qU]at hE;rw[zU,xA];by_cases hm:m.wd="mix"
  . obtain⟨l,rfl⟩:=xB hm
    have hbc:=hn.head;have e0:(Im.mix l).mo=0:=rfl;rw[YB hm,YA (by omega),YB (by omega),Yg];dsimp only;have hn':=hn.tail;rw[e0]at hn'⊢;rw[qx]at hx;rw[qU6 ms (b+0) c E (λx hx=>hw x (by simp[hx])) hn' (by omega) (by omega) (λx h=>hx x (by rw[Yc]at h;simp[h])),show c-(b+0)=c-b-0 by omega]
  . have hp:=hwm.pos hm
    rw[qt hm]at hx;rw[YA hm];have e1:qBp c b=c:=by unfold qBp;split <;> omega
    have e2:qLr E (b+m.mo)=b+m.mo:=by unfold qLr;split <;> omega
    rw[e1,e2];by_cases h:m.mo<=c-b
    . rw[YA (by omega),YB h,Yg]
      dsimp only;rw[qU6 ms (b+m.mo) c E (λx hx=>hw x (by simp[hx])) hn.tail (by omega) (by omega) hx,show c-(b+m.mo)=c-b-m.mo by omega]
    . rw[YB (by omega),YA h,show b+m.mo-b=m.mo by omega]
      have hh:b+m.mo=c->NHM ms:=λe=>YC e (by omega);rw[qFk ms (b+m.mo) c E (λx hx=>hw x (by simp[hx])) (by omega) hh (by omega) hx];by_cases hlt:0<c-b
      . rw[YB hlt];rfl
      . rw[YA hlt,show c-b=0 by omega,wW hm hwm];rfl
def qK7(o:Option Im):Prop:= ∃n p q r s l,o=some (.clip n p q r s l)
def MO:Option Im->List Im->Prop
 |_,[]=>True
 |p,.mix l::ms=>(qK7 p/\qK7 ms.head?)/\MO (some (.mix l)) ms
 |_,.clip n p q r s l::ms=>MO (some (.clip n p q r s l)) ms
 |_,.nest n b l::ms=>MO (some (.nest n b l)) ms
 |_,.gap l::ms=>MO (some (.gap l)) ms
theorem qm(h:m.wd≠"mix")(p:Option Im)(ms:List Im):MO p (m::ms)=MO (some m) ms:=by
 cases m with
 |mix l=>exact YC rfl h
 |_=>rfl
theorem MO.nh{p:Option Im}(h:MO p ms)(hp:¬qK7 p):NHM ms:=by
 cases ms with
 |nil=>intro l e;cases e
 |cons m ms=>
  intro l e;cases e;exact hp h.1.1
theorem kt:∀(A B:List Im) (b:Int),qx b (A++B)=qx b A++qx (b+jC A) B
 |[],B,b=>by rw[jf,Yc];rfl
 |m::A,B,b=>by
  by_cases hm:m.wd="mix"
  . obtain⟨l,rfl⟩:=xB hm
    rw[YT,qx,qx,kt A B b,qU,show b+((Im.mix l).mo+jC A)=b+jC A by simp[Im.mo]];rfl
  . rw[YT,qt hm,qt hm,kt A B,qU,show b+(m.mo+jC A)=b+m.mo+jC A by omega]
theorem zX:∀(ms:List Im) (b:Int),(∀m∈ms,Wf m)->∀x∈qx b ms,x.1<=x.2.1/\x.2.1<x.2.2/\b<=x.2.1/\x.2.1<=b+jC ms
 |[],b,_,x,h=>by cases h
 |m::ms,b,hw,x,h=>by
  have hwm:=hw m (by simp);have hl:=Nn.len (ms:=ms) λx hx=>(hw x (by simp[hx])).mo;have h0:=hwm.mo;rw[qU];by_cases hm:m.wd="mix"
  . obtain⟨l,rfl⟩:=xB hm
    have l1:1<=l:=hwm;have e0:(Im.mix l).mo=0:=rfl;rw[qx]at h;rcases YU.mp h with rfl|h
    . dsimp only
      have:=jW (p:=l) (q:=2) (by decide);refine⟨by omega,by omega,by omega,by omega⟩
    . have:=zX ms b (λx hx=>hw x (by simp[hx])) x h
      omega
  . rw[qt hm]at h
    have:=zX ms (b+m.mo) (λx hx=>hw x (by simp[hx])) x h;omega
theorem qIb:∀(ms:List Im) (b:Int) (p:Option Im),(∀m∈ms,Wf m)->MO p ms->∀x∈qx b ms,x.2.1<b+jC ms
 |[],b,_,_,_,x,h=>by cases h
 |m::ms,b,p,hw,hM,x,h=>by
  have hwm:=hw m (by simp);have hw':∀m∈ms,Wf m:=λx hx=>hw x (by simp[hx]);have h0:=hwm.mo;rw[qU];by_cases hm:m.wd="mix"
  . obtain⟨l,rfl⟩:=xB hm
    have e0:(Im.mix l).mo=0:=rfl;obtain⟨⟨h1,h2⟩,h3⟩:=hM;rw[qx]at h;rcases YU.mp h with rfl|h
    . dsimp only
      obtain⟨n,p,q,r,s,k,h2⟩:=h2;cases ms with
      |nil=>cases h2
      |cons y ms=>
       cases h2;have hk:1<=k:=(hw' _ (List.mem_cons_self ..)).2.2.2;have hl:=Nn.len (ms:=ms) λx hx=>(hw x (by simp[hx])).mo;rw[qU];show b<b+(0+(k+jC ms));omega
    . have:=qIb ms b _ hw' h3 x h
      omega
  . rw[qm hm]at hM
    rw[qt hm]at h;have:=qIb ms (b+m.mo) _ hw' hM x h;omega
theorem MO.nl:∀{ms:List Im} {p:Option Im},MO p ms->NLM ms
 |[],_,_=>λl e=>by cases e
 |m::ms,p,h=>λl e=>by
  rw[qA7]at e;by_cases hm:m.wd="mix"
  . obtain⟨k,rfl⟩:=xB hm
    cases ms with
    |nil=>obtain⟨_,_,_,_,_,_,e⟩:=h.1.2;cases e
    |cons x ms=>
     refine h.2.nl l ?_;cases h':(x::ms).getLast? with
     |none=>simp at h'
     |some y=>rw[h']at e;exact e
  . rw[qm hm]at h
    cases ms with
    |nil=>cases e;exact hm rfl
    |cons x ms=>
     refine h.nl l ?_;cases h':(x::ms).getLast? with
     |none=>simp at h'
     |some y=>rw[h']at e;exact e
theorem qFn(m:Im)(lo hi:Int):jC [kF m lo hi]=hi-lo:=by rw[qU,qHw,jf,Yc]
theorem qMn(hw:∀m∈ms,Wf m){c:Int}(hc:0<=c)(hn:NMA 0 c ms):(∀x∈qx 0 (xA c ms).1,x∈qx 0 ms/\x.2.1<c)/\(∀x∈qx c (xA c ms).2,x∈qx 0 ms/\c<x.2.1)/\((xA c ms).2=[]\/jC (xA c ms).1=c)/\jC (xA c ms).1<=c:=by
 have ord:=zX ms 0 hw;rcases zL ms c hc with ⟨h1,h2⟩|⟨A,B,m,d,h1,h2,h3,h4,h5,h6,h7⟩
 . have hwL:∀m∈(xA c ms).1,Wf m:=λm hm=>hw m (by rw[<-h1];exact Yp _ hm)
   have hwR:∀m∈(xA c ms).2,Wf m:=λm hm=>hw m (by rw[<-h1];exact Yf _ hm);have hs:qx 0 ms=qx 0 (xA c ms).1++qx (0+jC (xA c ms).1) (xA c ms).2:=by rw[<-kt,h1]
   refine⟨λx hx=>?_,λx hx=>?_,?_,?_⟩
   . have hx':x∈qx 0 ms:=by rw[hs];exact Yp _ hx
     have h4:=zX _ 0 hwL x hx;have h5:=hn x hx';refine⟨hx',?_⟩;rcases h2 with h2|⟨h2,h3,_⟩ <;> omega
   . rcases h2 with h2|⟨h2,h3,h4⟩
     . rw[h2,Int.zero_add]at hs
       have hx':x∈qx 0 ms:=by rw[hs];exact Yf _ hx
       have h4:=zX _ c hwR x hx;have h5:=hn x hx';exact⟨hx',by omega⟩
     . rw[h4]at hx;cases hx
   . rcases h2 with h2|⟨h2,h3,h4⟩
     . exact .inr h2
     . exact .inl h4
   . rcases h2 with h2|⟨h2,h3,h4⟩ <;> omega
 . have hwA:∀m∈A,Wf m:=λx hx=>hw x (by rw[h1];simp[hx])
   have hwB:∀m∈B,Wf m:=λx hx=>hw x (by rw[h1];simp[hx]);have hs:qx 0 ms=qx 0 A++qx (0+jC A+m.mo) B:=by rw[h1,kt,qt h6]
   rw[h2,h3];refine⟨λx hx=>?_,λx hx=>?_,.inr ?_,?_⟩
   . rw[kt,qt (qA0 m 0 d)]at hx
     rcases YO.mp hx with hx|hx
     . have h8:=zX _ 0 hwA x hx
       exact⟨by rw[hs];exact Yp _ hx,by omega⟩
     . cases hx
   . rw[qt (qA0 m d m.mo),qHw,show c+(m.mo-d)=0+jC A+m.mo by omega]at hx
     have h8:=zX _ _ hwB x hx;exact⟨by rw[hs];exact Yf _ hx,by omega⟩
   . rw[jI,qFn];omega
   . rw[jI,qFn];omega
theorem qWx(hw:∀m∈ms,Wf m){c:Int}(hc:0<=c)(hn:NMA 0 c ms)(hM:MO none ms):NLM (xA c ms).1:=by
 obtain⟨s1,_,s3,_⟩:=qMn hw hc hn;rcases zL ms c hc with ⟨h1,h2⟩|⟨A,B,m,d,h1,h2,h3,h4,h5,h6,h7⟩
 . intro l e
   rcases s3 with h|h
   . rw[h,Ye]at h1
     rw[h1]at e;exact hM.nl l e
   . obtain⟨A,eA⟩:=List.getLast?_eq_some_iff.mp e
     have hx:(0+jC A-l.fdiv 2,0+jC A,0+jC A+(l-l.fdiv 2))∈qx 0 (xA c ms).1:=by rw[eA,kt];exact Yf _ (by rw[qx];simp)
     have:=(s1 _ hx).2;rw[eA,jI,qU,jf]at h;have e0:(Im.mix l).mo=0:=rfl;dsimp only at this;omega
 . rw[h2]
   intro l e;rw[List.getLast?_append]at e;have e:kF m 0 d=.mix l:=by simpa using e
   exact qA0 m 0 d (by rw[e];rfl)
theorem qXq(hw:∀m∈ms,Wf m){c:Int}(hc:0<=c)(hn:NMA 0 c ms):NHM (xA c ms).2:=by
 obtain⟨_,s2,_,_⟩:=qMn hw hc hn;intro l e;cases h:(xA c ms).2 with
 |nil=>rw[h]at e;cases e
 |cons x R=>
  rw[h]at e s2;cases e;have:=(s2 (c-l.fdiv 2,c,c+(l-l.fdiv 2)) (by rw[qx];simp)).2;dsimp only at this;omega
theorem qLj(p p':Option Im)(A B:List Im)(hA:MO p A)(hB:MO (A.getLast?.or p) B):MO p (A++B):=by
 induction A generalizing p with
 |nil=>exact hB
 |cons m A ih=>
  have el:(m::A).getLast?.or p=A.getLast?.or (some m):=by rw[qA7];cases A.getLast? <;> rfl
  rw[el]at hB;by_cases hm:m.wd="mix"
  . obtain⟨l,rfl⟩:=xB hm
    obtain⟨⟨h1,h2⟩,h3⟩:=hA;refine⟨⟨h1,?_⟩,ih _ h3 hB⟩;cases A with
    |nil=>obtain⟨_,_,_,_,_,_,e⟩:=h2;cases e
    |cons a A=>exact h2
  . rw[YT,qm hm]at*
    exact ih _ hA hB
theorem qXr{A:List Im}(h:∀m∈A,m.wd≠"mix")(p:Option Im):MO p A:=by
 induction A generalizing p with
 |nil=>exact trivial
 |cons m A ih=>rw[qm (h m (by simp))];exact ih (λx hx=>h x (by simp[hx])) _
theorem qQ0(h:NHM B){p p':Option Im}(hB:MO p B):MO p' B:=by
 cases B with
 |nil=>exact trivial
 |cons m B=>
  by_cases hm:m.wd="mix"
  . obtain⟨l,rfl⟩:=xB hm
    exact YC rfl (h l)
  . rw[qm hm]at*;exact hB
theorem qP9:∀{A B:List Im} {p:Option Im},MO p (A++B)->NLM A->MO p A
 |[],_,_,_,_=>trivial
 |m::A,B,p,h,hl=>by
  have hA:NLM A:=λl e=>hl l (by rw[qA7,e];rfl);by_cases hm:m.wd="mix"
  . obtain⟨l,rfl⟩:=xB hm
    have ne:A≠[]:=λe=>hl l (by rw[e];rfl);obtain⟨⟨h1,h2⟩,h3⟩:=h;refine⟨⟨h1,?_⟩,qP9 (B:=B) h3 hA⟩;cases A with
    |nil=>exact YC rfl ne
    |cons a A=>exact h2
  . rw[YT,qm hm]at h
    rw[qm hm];exact qP9 h hA
theorem qGw:∀{A B:List Im} {p:Option Im},MO p (A++B)->MO (A.getLast?.or p) B
 |[],_,_,h=>h
 |m::A,B,p,h=>by
  have el:(m::A).getLast?.or p=A.getLast?.or (some m):=by rw[qA7];cases A.getLast? <;> rfl
  rw[el];by_cases hm:m.wd="mix"
  . obtain⟨l,rfl⟩:=xB hm
    exact qGw h.2
  . rw[YT,qm hm]at h
    exact qGw h
theorem qKv(lo hi:Int):qK7 (some m)->qK7 (some (kF m lo hi)):=by rintro⟨n,p,q,r,s,l,e⟩;cases e;exact⟨_,_,_,_,_,_,O⟩
theorem qT5(hw:∀m∈ms,Wf m){c:Int}(hc:0<=c)(hn:NMA 0 c ms)(hM:MO none ms):MO none (xA c ms).1/\∀p,MO p (xA c ms).2:=by
 have nl:=qWx hw hc hn hM;have nh:=qXq hw hc hn;rcases zL ms c hc with ⟨h1,h2⟩|⟨A,B,m,d,h1,h2,h3,h4,h5,h6,h7⟩
 . rw[<-h1]at hM
   exact⟨qP9 hM nl,λp=>qQ0 nh (qGw hM)⟩
 . rw[h1]at hM
   rw[h2,h3]at*;have hs:=qGw hM;rw[qm h6]at hs;refine⟨?_,λp=>?_⟩
   .
    have:∀(A:List Im) (p:Option Im),MO p (A++m::B)->MO p (A++[kF m 0 d]):=λA=>by
     induction A with
     |nil=>intro p _;exact qXr (λx hx=>by rw[Yg,YY]at hx;subst hx;exact qA0 m 0 d) p
     |cons a A ih=>
      intro p h;by_cases ha:a.wd="mix"
      . obtain⟨l,rfl⟩:=xB ha
        obtain⟨⟨h1,h2⟩,h3⟩:=h;refine⟨⟨h1,?_⟩,ih _ h3⟩;cases A with
        |nil=>exact qKv 0 d h2
        |cons a A=>exact h2
      . rw[YT,qm ha]at*
        exact ih _ h
    exact this A none hM
   . rw[qm (qA0 m d m.mo)]
     cases B with
     |nil=>exact trivial
     |cons x B=>
      by_cases hx:x.wd="mix"
      . obtain⟨l,rfl⟩:=xB hx
        exact⟨⟨qKv d m.mo hs.1.1,hs.1.2⟩,hs.2⟩
      . rw[qm hx]at hs⊢;exact hs
theorem qNr(hw:Wf m){hi:Int}(h:lo<hi):Wf (kF m lo hi):=by
 cases m with
 |clip n p q r s l=>exact⟨qJq hw.1 hw.2.1,hw.2.1,qP8 hw.1 hw.2.1,by show 1<=hi-lo;omega⟩
 |nest n b l=>show 1<=hi-lo;omega
 |gap l=>show 1<=hi-lo;omega
 |mix l=>show 1<=hi-lo;omega
theorem qNg(hw:∀m∈ms,Wf m){c:Int}(hc:0<=c):(∀m∈(xA c ms).1,Wf m)/\∀m∈(xA c ms).2,Wf m:=by
 rcases zL ms c hc with ⟨h1,h2⟩|⟨A,B,m,d,h1,h2,h3,h4,h5,h6,h7⟩
 . exact⟨λm hm=>hw m (by rw[<-h1];exact Yp _ hm),λm hm=>hw m (by rw[<-h1];exact Yf _ hm)⟩
 . rw[h2,h3]
   have hm:=hw m (by rw[h1];simp);refine⟨λx hx=>?_,λx hx=>?_⟩
   . rcases YO.mp hx with hx|hx
     . exact hw x (by rw[h1];simp[hx])
     . rw[YY]at hx;subst hx;exact qNr hm h4
   . rcases YU.mp hx with rfl|hx
     . exact qNr hm h5
     . exact hw x (by rw[h1];simp[hx])
structure Rel(ms:List Im)(lo hi:Int)(ls:List Im):Prop where
 wf:∀m∈ms,Wf m
 mo:MO none ms
 l0:0<=lo
 lh:lo<=hi
 nt:ze ms lo hi=false
 lw:∀m∈ls,Wf m
 lm:∀m∈ls,m.wd≠"mix"
theorem Rel.far{hi:Int}(h:Rel ms lo hi ls):∀x∈qx 0 ms,(x.2.1<lo/\x.2.2<=lo)\/(hi<x.2.1/\hi<=x.1):=by
 intro x hx;have ord:=zX ms 0 h.wf x hx;have nt:=h.nt;have lh:=h.lh;unfold ze at nt;rw[List.any_eq_false]at nt;have:=nt x hx;unfold qUj at this;simp only[Bool.or_eq_true,Yl,decide_eq_true_eq]at this;by_cases h1:x.2.1<lo
 . left;refine⟨h1,?_⟩
   by_cases h2:x.2.2<=lo
   . exact h2
   . exact YC (.inl ⟨by omega,by omega⟩) this
 . right
   have h2:hi<x.2.1:=by
    by_cases h3:hi<x.2.1
    . exact h3
    . exact YC (.inr ⟨by omega,by omega⟩) this
   refine⟨h2,?_⟩;by_cases h4:hi<=x.1
   . exact h4
   . exact YC (.inl ⟨by omega,by omega⟩) this
theorem Rel.nlo{hi:Int}(h:Rel ms lo hi ls):NMA 0 lo ms:=λx hx=>by have:=h.far x hx;have:=h.lh;omega
theorem Rel.nhi{hi:Int}(h:Rel ms lo hi ls):NMA 0 hi ms:=λx hx=>by have:=h.far x hx;have:=h.lh;omega
theorem Rel.eq{hi:Int}(h:Rel ms lo hi ls):qOi ms lo hi ls=z8 0 ((xA lo ms).1++[.gap (qBp (lo-jC ms) 0)]++ls++(xA hi ms).2):=by unfold qOi;rw[qV0 ms 0 lo h.wf h.nlo (YH 0) h.l0 (λ_=>h.mo.nh λ⟨_,_,_,_,_,_,e⟩=>by cases e),qU6 ms 0 hi (jC ms) h.wf h.nhi (by have:=h.l0;have:=h.lh;omega) (by omega) (λx hx=>by have:=qIb ms 0 none h.wf h.mo x hx;omega),ZQ,ZQ]
theorem qQt{c:Int}(hc:0<=c)(hw:∀m∈ms,Wf m):jC (xA c ms).1+qBp (c-jC ms) 0=c/\jC (xA c ms).1+jC (xA c ms).2=jC ms/\(c<=jC ms->jC (xA c ms).1=c):=by
 have hl:=Nn.len λx hx=>(hw x hx).mo;rcases zL ms c hc with ⟨h1,h2⟩|⟨A,B,m,d,h1,h2,h3,h4,h5,h6,h7⟩
 . have e:jC (xA c ms).1+jC (xA c ms).2=jC ms:=by rw[<-jI,h1]
   have:=Nn.len λx hx=>((qNg hw hc).2 x hx).mo;have:=Nn.len λx hx=>((qNg hw hc).1 x hx).mo;unfold qBp;rcases h2 with h2|⟨h2,h3,h4⟩
   . refine⟨by split <;> omega,e,λ_=>h2⟩
   . refine⟨by split <;> omega,e,λ_=>by omega⟩
 . have hm:=hw m (by rw[h1];simp)
   have hlB:=Nn.len (ms:=B) λx hx=>(hw x (by rw[h1];simp[hx])).mo;have e:jC ms=jC A+(m.mo+jC B):=by rw[h1,jI,qU]
   rw[h2,h3,jI,qFn,qU,qHw];unfold qBp;refine⟨by split <;> omega,by omega,λ_=>by omega⟩
def OS:Bool->List Im->Prop
 |g,[]=>g=false
 |g,.gap l::ms=>g=false/\1<=l/\OS true ms
 |_,.clip .. ::ms=>OS false ms
 |_,.nest .. ::ms=>OS false ms
 |_,.mix _::ms=>OS false ms
theorem jr(h:m.wd≠"gap")(g:Bool)(ms:List Im):OS g (m::ms)=OS false ms:=by
 cases m with
 |gap l=>exact YC rfl h
 |_=>rfl
theorem qPa{A B:Im}{rest:List Im}(l:Int)(hA:A.wd≠"gap")(hB:B.wd≠"gap"):∀(pre:List Im) (g:Bool),OS g (pre++A::B::rest)->OS g (pre++A:: .mix l::B::rest)
 |[],g,h=>by rw[Yg,jr hA,jr hB]at h;rw[Yg,jr hA];show OS false (B::rest);rw[jr hB];exact h
 |x::pre,g,h=>by
  by_cases hg:x.wd="gap"
  . obtain⟨k,rfl⟩:=qEm hg
    exact⟨h.1,h.2.1,qPa l hA hB pre _ h.2.2⟩
  . rw[YT,jr hg]at h⊢
    exact qPa l hA hB pre _ h
theorem qK9:∀(ms:List Im) (w:Int),Nn ms->0<=w->OS false (z8 w ms)
 |[],_,_,_=>rfl
 |m::ms,w,hn,hw=>by
  have h0:=hn m (by simp);by_cases hg:m.wd="gap"
  . obtain⟨l,rfl⟩:=qEm hg
    have h0:0<=l:=h0;rw[z8];exact qK9 ms _ hn.tail (by omega)
  . have ih:=qK9 ms 0 hn.tail (YH 0)
    rw[jF hg];by_cases hp:0<w
    . rw[YB hp]
      refine⟨O,by omega,?_⟩;rw[jr hg];exact ih
    . rw[YA hp,jr hg];exact ih
noncomputable def tkE(ms:List Im):Int:=match ms.head? with
 |some (.mix l)=>l.fdiv 2
 |_=>0
def FS(R:Im->Int->Im->Prop):Int->Option Im->List Im->Prop
 |_,_,[]=>True
 |_,p,.mix l::ms=>(∀A B,p=some A->ms.head?=some B->R A l B)/\FS R (l-l.fdiv 2) (some (.mix l)) ms
 |tb,_,.clip n p q r s k::ms=>tb+tkE ms<=k/\FS R 0 (some (.clip n p q r s k)) ms
 |_,_,.nest n b l::ms=>FS R 0 (some (.nest n b l)) ms
 |_,_,.gap l::ms=>FS R 0 (some (.gap l)) ms
theorem qPs{A B:Im}{rest:List Im}(l:Int)(hA:qK7 (some A))(hB:qK7 (some B)):∀(pre:List Im) (p:Option Im),MO p (pre++A::B::rest)->MO p (pre++A:: .mix l::B::rest)
 |[],p,h=>by obtain⟨n,p1,q,r,s,k,e⟩:=hA;cases e;obtain⟨n',p',q',r',s',k',e⟩:=hB;cases e;exact⟨⟨⟨_,_,_,_,_,_,O⟩,⟨_,_,_,_,_,_,O⟩⟩,h⟩
 |x::pre,p,h=>by
  by_cases hm:x.wd="mix"
  . obtain⟨y,rfl⟩:=xB hm
    refine⟨⟨h.1.1,?_⟩,qPs l hA hB pre _ h.2⟩;have:=h.1.2;cases pre <;> exact this
  . rw[YT,qm hm]at h⊢
    exact qPs l hA hB pre _ h
theorem qUh(h:NHM ms):tkE ms=0:=by
 unfold tkE;cases ms with
 |nil=>rfl
 |cons z ms=>
  cases z with
  |mix y=>exact YC rfl (h y)
  |_=>rfl
theorem qId(hm:m.wd≠"mix"){tb:Int}{p:Option Im}:FS R tb p (m::ms)↔((m.wd="clip"->tb+tkE ms<=m.mo)/\FS R 0 (some m) ms):=by
 cases m with
 |mix l=>exact YC rfl hm
 |clip n p q r s k=>exact⟨λh=>⟨λ_=>h.1,h.2⟩,λh=>⟨h.1 rfl,h.2⟩⟩
 |nest n b l=>exact⟨λh=>⟨λc=>YC (show ("nest":Str)="clip" from c) (by decide+kernel),h⟩,λh=>h.2⟩
 |gap l=>exact⟨λh=>⟨λc=>YC (show ("gap":Str)="clip" from c) (by decide+kernel),h⟩,λh=>h.2⟩
theorem qXv{l:Int}{tb:Int}{p:Option Im}:FS R tb p (.mix l::ms)↔((∀A B,p=some A->ms.head?=some B->R A l B)/\FS R (l-l.fdiv 2) (some (.mix l)) ms):=Iff.rfl
theorem qRr:∀{ms:List Im} {w:Int} {p:Option Im},MO p ms->0<=w->Nn ms->(NHM ms\/w=0)->tkE (z8 w ms)=tkE ms
 |[],_,_,_,_,_,_=>rfl
 |m::ms,w,p,hM,hw,hN,hh=>by
  by_cases hm:m.wd="mix"
  . obtain⟨l,rfl⟩:=xB hm
    have hg:(Im.mix l).wd≠"gap":=by show ("mix":Str)≠"gap";decide+kernel
    rcases hh with hh|rfl
    . exact YC rfl (hh l)
    . rw[jF hg,YA (by omega)];rfl
  . have e:tkE (m::ms)=0:=qUh λl e=>by cases e;exact hm rfl
    rw[qm hm]at hM;by_cases hg:m.wd="gap"
    . obtain⟨l,rfl⟩:=qEm hg
      have hn:NHM ms:=hM.nh λ⟨_,_,_,_,_,_,e⟩=>by cases e
      have hl:0<=l:=hN (.gap l) (by simp);rw[e,z8,qRr hM (by omega) hN.tail (.inl hn),qUh hn]
    . rw[e,jF hg]
      split
      . rfl
      . exact e
theorem qPy{R:Im->Int->Im->Prop}:∀(ms:List Im) (w tb:Int) (p p':Option Im),0<=w->(tb=0\/(w=0/\qK7 ms.head?))->MO p' ms->Nn ms->(NHM ms\/(w=0/\p=p'))->FS R tb p' ms->FS R tb p (z8 w ms)
 |[],_,_,_,_,_,_,_,_,_,_=>trivial
 |m::ms,w,tb,p,p',hw,ht,hM,hN,hh,hF=>by
  by_cases hm:m.wd="mix"
  . obtain⟨l,rfl⟩:=xB hm
    rcases hh with hh|⟨rfl,rfl⟩
    . exact YC rfl (hh l)
    obtain⟨⟨h1,h2⟩,h3⟩:=hM;have hg:(Im.mix l).wd≠"gap":=by show ("mix":Str)≠"gap";decide+kernel
    rw[jF hg,YA (by omega),qXv];have eh:(z8 0 ms).head?=ms.head?:=by
     obtain⟨n,p,q,r,s,k,h2⟩:=h2;cases ms with
     |nil=>cases h2
     |cons x ms=>cases h2;rw[z8,YA (by omega)];rfl
    exact⟨λA B eA eB=>hF.1 A B eA (by rw[<-eh,eB]),qPy ms 0 _ _ _ (YH 0) (.inr ⟨O,h2⟩) h3 hN.tail (.inr ⟨O,O⟩) hF.2⟩
  . rw[qm hm]at hM
    obtain⟨h1,h2⟩:=(qId hm).mp hF;by_cases hg:m.wd="gap"
    . obtain⟨l,rfl⟩:=qEm hg
      have hn:NHM ms:=hM.nh λ⟨_,_,_,_,_,_,e⟩=>by cases e
      have hl:0<=l:=hN (.gap l) (by simp);have e0:tb=0:=by
       rcases ht with ht|⟨_,_,_,_,_,_,_,e⟩
       . exact ht
       . cases e
      subst e0;rw[z8];exact qPy ms (w+l) 0 p (some (.gap l)) (by omega) (.inl rfl) hM hN.tail (.inl hn) h2
    . have ih:=qPy (R:=R) ms 0 0 (some m) (some m) (YH 0) (.inl rfl) hM hN.tail (.inr ⟨rfl,rfl⟩) h2
      have et:=qRr hM (YH 0) hN.tail (.inr rfl);rw[jF hg];split
      . show FS R 0 _ (m::z8 0 ms)
        refine(qId hm).mpr ⟨λc=>?_,ih⟩;rw[et];have:=h1 c;omega
      . refine(qId hm).mpr ⟨λc=>?_,ih⟩
        rw[et];exact h1 c
theorem qMr:∀(ms:List Im) (w:Int) (p p':Option Im),0<=w->MO p' ms->Nn ms->(NHM ms\/(w=0/\p=p'))->MO p (z8 w ms)
 |[],_,_,_,_,_,_,_=>trivial
 |m::ms,w,p,p',hw,hM,hN,hh=>by
  by_cases hm:m.wd="mix"
  . obtain⟨l,rfl⟩:=xB hm
    rcases hh with hh|⟨rfl,rfl⟩
    . exact YC rfl (hh l)
    obtain⟨⟨h1,h2⟩,h3⟩:=hM;have hg:(Im.mix l).wd≠"gap":=by show ("mix":Str)≠"gap";decide+kernel
    have eh:(z8 0 ms).head?=ms.head?:=by
     obtain⟨n,p,q,r,s,k,h2⟩:=h2;cases ms with
     |nil=>cases h2
     |cons x ms=>cases h2;rw[z8,YA (by omega)];rfl
    rw[jF hg,YA (by omega)];exact⟨⟨h1,by rw[eh];exact h2⟩,qMr ms 0 _ _ (YH 0) h3 hN.tail (.inr ⟨O,O⟩)⟩
  . rw[qm hm]at hM
    by_cases hg:m.wd="gap"
    . obtain⟨l,rfl⟩:=qEm hg
      have hn:NHM ms:=hM.nh λ⟨_,_,_,_,_,_,e⟩=>by cases e
      have hl:0<=l:=hN (.gap l) (by simp);rw[z8];exact qMr ms (w+l) p (some (.gap l)) (by omega) hM hN.tail (.inl hn)
    . have ih:=qMr ms 0 (some m) (some m) (YH 0) hM hN.tail (.inr ⟨rfl,rfl⟩)
      rw[jF hg];split
      . show MO (some (.gap w)) (m::z8 0 ms)
        rw[qm hm];exact ih
      . rw[qm hm];exact ih
theorem qDw{Pm:Im->Prop}(hg:∀w,0<w->Pm (.gap w)):∀(ms:List Im) (w:Int),(∀m∈ms,m.wd≠"gap"->Pm m)->∀m∈z8 w ms,Pm m
 |[],_,_,m,h=>by cases h
 |x::ms,w,hp,m,h=>by
  have hp':∀m∈ms,m.wd≠"gap"->Pm m:=λm hm=>hp m (by simp[hm]);by_cases hx:x.wd="gap"
  . obtain⟨l,rfl⟩:=qEm hx
    rw[z8]at h;exact qDw hg ms _ hp' m h
  . rw[jF hx]at h
    split at h
    . rename_i hw
      rcases YU.mp h with rfl|h
      . exact hg w hw
      . rcases YU.mp h with rfl|h
        . exact hp m (by simp) hx
        . exact qDw hg ms _ hp' m h
    . rcases YU.mp h with rfl|h
      . exact hp m (by simp) hx
      . exact qDw hg ms _ hp' m h
theorem qRj{c:Int}(hc:0<=c)(h1:∀m∈ms,Pm m)(h2:∀m∈ms,m.wd≠"mix"->∀x y,0<=x->x<y->y<=m.mo->Pm (kF m x y)):(∀m∈(xA c ms).1,Pm m)/\∀m∈(xA c ms).2,Pm m:=by
 rcases zL ms c hc with ⟨e1,_⟩|⟨A,B,m,d,e1,e2,e3,d0,d1,hm,_⟩
 . exact⟨λm hm=>h1 m (by rw[<-e1];exact Yp _ hm),λm hm=>h1 m (by rw[<-e1];exact Yf _ hm)⟩
 . have hmm:m∈ms:=by rw[e1];simp
   rw[e2,e3];refine⟨λx hx=>?_,λx hx=>?_⟩
   . rcases YO.mp hx with hx|hx
     . exact h1 x (by rw[e1];simp[hx])
     . rw[YY]at hx;subst hx;exact h2 m hmm hm 0 d (YH 0) d0 (by omega)
   . rcases YU.mp hx with rfl|hx
     . exact h2 m hmm hm d m.mo (by omega) d1 (YH _)
     . exact h1 x (by rw[e1];simp[hx])
theorem qV8(hg:∀w,0<w->Pm (.gap w)){hi:Int}(h:Rel ms lo hi ls)(h1:∀m∈ms,Pm m)(h2:∀m∈ms,m.wd≠"mix"->∀x y,0<=x->x<y->y<=m.mo->Pm (kF m x y))(h3:∀m∈ls,Pm m):∀m∈qOi ms lo hi ls,Pm m:=by
 rw[h.eq];refine qDw hg _ _ λm hm hn=>?_;have hhi:0<=hi:=by have:=h.l0;have:=h.lh;omega
 rcases YO.mp hm with hm|hm
 . rcases YO.mp hm with hm|hm
   . rcases YO.mp hm with hm|hm
     . exact(qRj h.l0 h1 h2).1 m hm
     . rw[YY]at hm;subst hm;exact YC rfl hn
   . exact h3 m hm
 . exact(qRj hhi h1 h2).2 m hm
theorem qNb:∀(Y:List Im) (a:Im) (w:Int),Nn Y->0<=w->a.wd≠"gap"->jC (z8 w (Y++[a]))=w+jC Y+a.mo
 |[],a,w,_,hw,ha=>by
  rw[Yg,jF ha,jf];split
  . show jC [.gap w,a]=_;rw[qU,qU,jf];show w+(a.mo+0)=_;omega
  . show jC [a]=_;rw[qU,jf];omega
 |m::Y,a,w,hn,hw,ha=>by
  have h0:=hn m (by simp);rw[YT,qU];by_cases hg:m.wd="gap"
  . obtain⟨l,rfl⟩:=qEm hg
    have h0:0<=l:=h0;rw[z8,qNb Y a (w+l) hn.tail (by omega) ha];show w+l+jC Y+a.mo=w+(l+jC Y)+a.mo;omega
  . have ih:=qNb Y a 0 hn.tail (YH 0) ha
    rw[jF hg];split
    . rw[qU,qU,ih];show w+(m.mo+(0+jC Y+a.mo))=_;omega
    . rw[qU,ih];omega
theorem qLm:∀(Y:List Im) (w:Int),Nn Y->0<=w->jC (z8 w Y)<=w+jC Y
 |[],w,_,hw=>by show jC []<=w+jC [];rw[jf];omega
 |m::Y,w,hn,hw=>by
  have h0:=hn m (by simp);rw[qU];by_cases hg:m.wd="gap"
  . obtain⟨l,rfl⟩:=qEm hg
    have h0:0<=l:=h0;have:=qLm Y (w+l) hn.tail (by omega);rw[z8];have e:(Im.gap l).mo=l:=rfl;omega
  . have ih:=qLm Y 0 hn.tail (YH 0)
    rw[jF hg];split
    . rw[qU,qU];have e:(Im.gap w).mo=w:=rfl;omega
    . rw[qU];omega
theorem qR0:∀(ms:List Im) (c:Int),Nn ms->jC ms<=c->xA c ms=(ms,[])
 |[],_,_,_=>rfl
 |m::ms,c,hn,h=>by have:=hn.tail.len;rw[qU]at h;rw[xA,YB (by omega),qR0 ms (c-m.mo) hn.tail (by omega)]
structure Rg where
 a:Int
 b:Int
 l:Int
 nst:Str->Prop
structure Rg.Ok(A:Rg):Prop where
 a0:40<=A.a
 a1:A.a<=1000000000
 b0:40<=A.b
 b1:A.b<=1000000000
 l0:40<=A.l
 l1:A.l<=1000000000
noncomputable def rlE(A:Rg):Rls:=λn=>if n="a" then some A.a else if n="b" then some A.b else if n="long" then some A.l else none
def RE(H:Hp)(re:Addr)(A:Rg):Prop:=Rd H re (.dK [(Sum.inr "a",.int A.a),(Sum.inr "b",.int A.b),(Sum.inr "long",.int A.l)])/\A.Ok
theorem RE.same(e:Same H H')(h:RE H re A):RE H' re A:=⟨qHu e h.1,h.2⟩
theorem RE.at{H:Hp}{re:Addr}{A:Rg}(h:RE H re A):ReelsAt H re (rlE A):=by
 intro n N e;unfold rlE at e;split at e
 . rename_i hn;cases e;subst hn;exact⟨_,h.1,rfl⟩
 . split at e
   . rename_i hn;cases e;subst hn;exact⟨_,h.1,rfl⟩
   . split at e
     . rename_i hn;cases e;subst hn;exact⟨_,h.1,rfl⟩
     . cases e
theorem qQj(h:m.wd="clip"):∃n p q r s l,m=.clip n p q r s l:=by
 cases m with
 |clip n p q r s l=>exact⟨_,_,_,_,_,_,rfl⟩
 |nest=>exact YC (show ("nest":Str)="clip" from h) (by decide+kernel)
 |gap=>exact YC (show ("gap":Str)="clip" from h) (by decide+kernel)
 |mix=>exact YC (show ("mix":Str)="clip" from h) (by decide+kernel)
theorem qVh{t:Int}{i:Nat}(hc:cbF ms t=some ((i:Int),((i+1:Nat):Int))):∃n p q r s k n' p' q' r' s' k',ms[i]?=some (.clip n p q r s k)/\ms[i+1]?=some (.clip n' p' q' r' s' k')/\ms=ms.take i++ .clip n p q r s k:: .clip n' p' q' r' s' k'::ms.drop (i+2)/\∀l,ms.take (i+1)++[.mix l]++ms.drop (i+1)=ms.take i++ .clip n p q r s k:: .mix l:: .clip n' p' q' r' s' k'::ms.drop (i+2):=by
 obtain⟨k1,k2⟩:=kY hc;have get:∀j:Nat,qy ms (j:Int)="clip"->∃n p q r s k,ms[j]?=some (.clip n p q r s k):=λj hj=>by
  unfold qy at hj;rw[YA (by omega),YQ]at hj;cases h:ms[j]? with
  |none=>rw[h]at hj;exact YC hj (by decide+kernel)
  |some m=>
   rw[h]at hj;obtain⟨n,p,q,r,s,l,rfl⟩:=qQj hj;exact⟨_,_,_,_,_,_,O⟩
 obtain⟨n,p,q,r,s,k,h1⟩:=get i k1;obtain⟨n',p',q',r',s',k',h2⟩:=get (i+1) k2;have d1:=jy h1;have d2:=jy h2;refine⟨n,p,q,r,s,k,n',p',q',r',s',k',h1,h2,?_,λl=>?_⟩
 . rw[<-d2,<-d1,List.take_append_drop]
 . rw[Ys,h1,d2]
   simp
theorem qRu{A B D:Int}{m k:Int}(h0:InR A D N)(h1:InR (A+m*B) D N)(k0:0<=k)(km:k<=m):InR (A+k*B) D N:=by
 unfold InR at*;by_cases hB:0<=B
 . have a1:=Int.mul_nonneg k0 hB
   have a2:=Ym km hB;omega
 . have a1:=Int.mul_nonpos_of_nonneg_of_nonpos k0 (show B<=0 by omega)
   have a2:=Int.mul_le_mul_of_nonpos_right km (show B<=0 by omega);omega
theorem qUd(p q r s k:Int):Vk p q r s k=p*s+k*(r*q):=by unfold Vk;grind
theorem qSy{l:Int}(h0:InR (Vk p q r s 0) (q*s) N)(h1:InR (Vk p q r s (l-1)) (q*s) N):∀k,0<=k->k<l->InR (Vk p q r s k) (q*s) N:=λk k0 k1=>by rw[qUd]at h0 h1⊢;rw[Int.zero_mul,Yc]at h0;exact qRu h0 h1 k0 (by omega)
theorem qHx{k:Int}(hq:0<q)(hs:0<s):InR (Vk (plP p q r s b) (plQ p q r s b) r s k) (plQ p q r s b*s) N↔InR (Vk p q r s (b+k)) (q*s) N:=by
 have c:=qIc p q r s b;have hb:=qJq (p:=p) (r:=r) (k:=b) hq hs;refine qJ2 (Yt hb hs) (Yt hq hs) ?_;unfold Vk;generalize plP p q r s b=u at c⊢;generalize plQ p q r s b=v at c⊢
 grind
theorem qRy{x y k:Int}(h0:InR (Vk p q r s x) (q*s) N)(h1:InR (Vk p q r s y) (q*s) N)(k0:x<=k)(k1:k<=y):InR (Vk p q r s k) (q*s) N:=by
 rw[qUd]at h0 h1⊢;have e1:p*s+y*(r*q)=p*s+x*(r*q)+(y-x)*(r*q):=by grind
 have e2:p*s+k*(r*q)=p*s+x*(r*q)+(k-x)*(r*q):=by grind
 rw[e1]at h1;rw[e2];exact qRu h0 h1 (by omega) (by omega)
structure GC(A:Rg)(n:Str)(p q r s l N:Int):Prop where
 rn:rlE A n=some N
 n1:1<=N
 n2:N<=1000000000
 q0:0<q
 s0:0<s
 g1:Int.gcd p q=1
 g2:Int.gcd r s=1
 dq:q∣42
 ds:s∣42
 rb:r.natAbs<=6
 l1:1<=l
 i0:InR (Vk p q r s 0) (q*s) N
 i1:InR (Vk p q r s (l-1)) (q*s) N
theorem qX1{k:Int}(hq:0<q)(hs:0<s)(dq:q∣42)(ds:s∣42):plQ p q r s k∣42:=by
 obtain⟨a,ha⟩:=dq;obtain⟨b,hb⟩:=ds;have c:=qIc p q r s k;have g:=qP8 (p:=p) (r:=r) (k:=k) hq hs;have hqs:q*s≠0:=Int.ne_of_gt (Yt hq hs);generalize plP p q r s k=u at c g;generalize plQ p q r s k=v at c g⊢;have key:u*42=(p*a+k*r*b)*v:=by
  apply ZT hqs;have e1:u*42*(q*s)=u*(q*s)*42:=by grind
  have e2:(p*a+k*r*b)*v*(q*s)=v*(p*s*(q*a)+k*r*q*(s*b)):=by grind
  rw[e1,c,e2,<-ha,<-hb]
  grind
 have hd:v∣u*42:=⟨_,by rw[key,ZI]⟩;have hn:v.natAbs∣u.natAbs*(42:Int).natAbs:=by rw[<-Int.natAbs_mul];exact Int.natAbs_dvd_natAbs.mpr hd
 have hc:Nat.Coprime v.natAbs u.natAbs:=by show Nat.gcd _ _=1;rw[Nat.gcd_comm];exact g
 exact Int.natAbs_dvd_natAbs.mp (hc.dvd_of_dvd_mul_left hn)
theorem GC.move{l:Int}(h:GC A n p q r s l N){l':Int}(hl:1<=l')(h0:InR (Vk p q r s b) (q*s) N)(h1:InR (Vk p q r s (b+(l'-1))) (q*s) N):GC A n (plP p q r s b) (plQ p q r s b) r s l' N:=
 ⟨h.rn,h.n1,h.n2,qJq h.q0 h.s0,h.s0,qP8 h.q0 h.s0,h.g2,qX1 h.q0 h.s0 h.dq h.ds,h.ds,h.rb,hl,(qHx h.q0 h.s0).mpr (by rw[Yc];exact h0),(qHx h.q0 h.s0).mpr h1⟩
theorem GC.at{l:Int}(h:GC A n p q r s l N){k:Int}(k0:0<=k)(k1:k<l):InR (Vk p q r s k) (q*s) N:=qSy h.i0 h.i1 k k0 k1
theorem GC.bd{l:Int}(h:GC A n p q r s l N):p.natAbs<2 ^ 40/\q.natAbs<2 ^ 40/\r.natAbs<2 ^ 40/\s.natAbs<2 ^ 40:=by
 have q1:=Int.le_of_dvd (by decide) h.dq;have s1:=Int.le_of_dvd (by decide) h.ds;have q0:=h.q0;have s0:=h.s0;have rb:=h.rb;obtain⟨a1,a2⟩:=h.i0;have e0:Vk p q r s 0=p*s:=by unfold Vk;grind
 rw[e0]at a1 a2;have p0:0<=p:=by
  by_cases c:0<=p
  . exact c
  . have:=Int.mul_neg_of_neg_of_pos (show p<0 by omega) s0
    omega
 have p1:p<N*q:=by
  have e1:N*(q*s)=N*q*s:=by grind
  rw[e1]at a2;exact Yq a2 (by omega)
 have p2:N*q<=1000000000*42:=Int.mul_le_mul h.n2 q1 (by omega) (by decide);exact⟨by omega,by omega,by omega,by omega⟩
theorem p40{x:Nat}(h:x<2 ^ 40){n:Nat}(hn:40<=n):x<2 ^ n:=YR h (Yh (by decide) hn)
theorem GC.rc{l:Int}(h:GC A n p q r s l N)(hl:l<=100000):Rc n p q r s l (rlE A) N:=by obtain⟨b1,b2,b3,b4⟩:=h.bd;have l1:=h.l1;have n1:=h.n1;have n2:=h.n2;exact⟨⟨h.q0,h.g1,p40 b1 (by decide),p40 b2 (by decide)⟩,⟨h.s0,h.g2,p40 b3 (by decide),p40 b4 (by decide)⟩,by omega,l1,h.rn,p40 (by omega) (by decide)⟩
def GI(A:Rg):Im->Prop
 |.clip n p q r s l=> ∃N,GC A n p q r s l N
 |.nest n b l=>A.nst n/\0<=b/\1<=l/\b+l<=100
 |.gap l=>1<=l
 |.mix l=>1<=l/\l<=9
theorem GI.wf(h:GI A m):Wf m:=by
 cases m with
 |clip n p q r s l=>obtain⟨N,c⟩:=h;exact⟨c.q0,c.s0,c.g1,c.l1⟩
 |nest n b l=>exact h.2.2.1
 |gap l=>exact h
 |mix l=>exact h.1
theorem GI.part(h:GI A m)(hm:m.wd≠"mix"){x y:Int}(h0:0<=x)(h1:x<y)(h2:y<=m.mo):GI A (kF m x y):=by
 cases m with
 |clip n p q r s l=>
  obtain⟨N,c⟩:=h;have h2:y<=l:=h2;exact⟨N,c.move (b:=x) (l':=y-x) (by omega) (c.at h0 (by omega)) (c.at (by omega) (by omega))⟩
 |nest n b l=>
  obtain⟨a1,a2,a3,a4⟩:=h;have h2:y<=l:=h2;exact⟨a1,by show 0<=b+x;omega,by show 1<=y-x;omega,by show b+x+(y-x)<=100;omega⟩
 |gap l=>show 1<=y-x;omega
 |mix l=>exact YC rfl hm
theorem GI.ib(h:GI A m):ImB m:=by
 cases m with
 |clip n p q r s l=>
  obtain⟨N,c⟩:=h;obtain⟨b1,b2,b3,b4⟩:=c.bd;exact⟨c.q0,c.s0,p40 b1 (by decide),p40 b2 (by decide),p40 b3 (by decide),p40 b4 (by decide)⟩
 |_=>trivial
theorem GI.it(h:GI A m)(hl:m.mo<=100000):ItR (rlE A) m:=λn p q r s l e=>by subst e;obtain⟨N,c⟩:=h;exact⟨N,c.rc hl⟩
theorem GI.ih(h:GI A m)(hl:m.mo<=100000):ImH m:=by
 cases m with
 |clip n p q r s l=>
  have hb:=h.ib;obtain⟨N,c⟩:=h;have:=c.l1;have hl:l<=100000:=hl;exact⟨hb,p40 (by omega) (by decide)⟩
 |_=>trivial
theorem qNs:∀{ms:List Im},Nn ms->∀m∈ms,m.mo<=jC ms
 |[],_,m,h=>by cases h
 |x::xs,hn,m,h=>by
  rw[qU];have h1:=hn x (by simp);have h2:=Nn.len hn.tail;rcases YU.mp h with rfl|h
  . omega
  . have:=qNs hn.tail m h
    omega
theorem qGx:∀{ms:List Im} {b:Int} {i0 i:Nat} {t d:Int},xf b i0 ms t=some (i,d)->∃A m B,ms=A++m::B/\i=i0+A.length/\t=b+jC A+d/\0<=d/\d<m.mo
 |[],_,_,_,_,_,h=>by simp[xf]at h
 |m::ms,b,i0,i,t,d,h=>by
  rw[xf]at h;by_cases hc:b<=t/\t<b+m.mo
  . rw[YB hc]at h
    cases h;exact⟨[],m,ms,O,O,by rw[jf];omega,by omega,by omega⟩
  . rw[YA hc]at h
    obtain⟨A,x,B,h1,h2,h3,h4,h5⟩:=qGx h;exact⟨m::A,x,B,by rw[h1];rfl,by rw[YE];omega,by rw[qU];omega,h4,h5⟩
theorem qRc{α:Type}(A:List α)(m:α)(B:List α):(A++m::B)[A.length]?=some m:=by rw[Yy (YI _),Nat.sub_self];rfl
theorem glue_parts{x y:Im}(hx:Wf x)(hy:Wf y)(hc:qK4 x y=true):x=kF (glue x y) 0 x.mo/\y=kF (glue x y) x.mo (glue x y).mo/\Wf (glue x y)/\((glue x y).wd="clip"\/(glue x y).wd="nest")/\0<x.mo/\x.mo<(glue x y).mo:=by
 rcases vY hc with ⟨n,p,q,r,s,l,n',p',q',r',s',l',rfl,rfl⟩|⟨n,b,l,n',b',l',rfl,rfl⟩
 . have hc:goB n n' p q r s l p' q' r' s'=true:=hc
   unfold goB at hc;simp only[Yl,beq_iff_eq,decide_eq_true_eq]at hc;obtain⟨rfl,⟨rfl,rfl⟩,rfl,rfl⟩:=hc;obtain⟨h1,h2⟩:=qHk (r:=r) (s:=s) hx.1 hx.2.1 hx.2.2.1;have l1:1<=l:=hx.2.2.2;have l2:1<=l':=hy.2.2.2;refine⟨?_,?_,⟨hx.1,hx.2.1,hx.2.2.1,by show 1<=l+l';omega⟩,.inl rfl,by show 0<l;omega,by show l<l+l';omega⟩
   . show _=Im.clip n (plP p q r s 0) (plQ p q r s 0) r s (l-0)
     rw[h1,h2,ZQ]
   . show _=Im.clip n (plP p q r s l) (plQ p q r s l) r s (l+l'-l)
     congr 1;omega
 . have hc:(decide (n=n') && decide (b'=b+l))=true:=hc
   simp only[Yl,decide_eq_true_eq]at hc;obtain⟨rfl,rfl⟩:=hc;have l1:1<=l:=hx;have l2:1<=l':=hy;refine⟨?_,?_,(by show 1<=l+l';omega),.inr rfl,by show 0<l;omega,by show l<l+l';omega⟩
   . show _=Im.nest n (b+0) (l-0)
     rw[Yc,ZQ]
   . show _=Im.nest n (b+l) (l+l'-l)
     congr 1;omega
theorem qJt{α:Type}{A:List α}(h:A≠[]):∃(X:List α) (a:α),A=X++[a]:=⟨A.dropLast,A.getLast h,(List.dropLast_concat_getLast h).symm⟩
theorem qVb{t:Int}(h:nbF ms t=some (i,j)):(∃(A:List Im) (x y:Im) (B:List Im),ms=A++x::y::B/\i=(A.length:Int)/\j=i+1/\t=jC A+x.mo/\x.wd≠"mix"/\0<y.mo)\/∃(A:List Im) (l:Int) (y:Im) (B:List Im),ms=A++ .mix l::y::B/\j=((A.length+1:Nat):Int)/\i=(A.length:Int)-1/\t=jC A/\0<y.mo:=by
 unfold nbF at h;cases hi:xf 0 0 ms t with
 |none=>rw[hi]at h;cases h
 |some r=>
  obtain⟨k,d⟩:=r;rw[hi]at h;dsimp only at h;by_cases hc:d≠0\/(k:Int)=0
  . rw[YB hc]at h;cases h
  . rw[YA hc]at h
    have d0:d=0:=by omega
    subst d0;obtain⟨A,y,B,h1,h2,h3,h4,h5⟩:=qGx hi;have hA:A≠[]:=by rintro rfl;apply hc;right;rw[h2];rfl
    obtain⟨X,x,rfl⟩:=qJt hA;have e:ms=X++x::y::B:=by rw[h1];simp
    have hkx:k=X.length+1:=by rw[h2,YN];show 0+(X.length+1)=_;omega
    have hk:qy ms ((k:Int)-1)=x.wd:=vQ (i:=X.length) (by rw[e];exact qRc _ _ _) (by omega);rw[hk]at h;rw[jI,qU,jf]at h3;by_cases hm:x.wd="mix"
    . obtain⟨l,rfl⟩:=xB hm
      rw[YB hm]at h;have:=Prod.mk.inj (Yb h);have e0:(Im.mix l).mo=0:=rfl;exact .inr ⟨X,l,y,B,e,by omega,by omega,by omega,by omega⟩
    . rw[YA hm]at h
      have:=Prod.mk.inj (Yb h);exact .inl ⟨X,x,y,B,e,by omega,by omega,by omega,hm,by omega⟩
theorem qR1{A:List Im}{x y:Im}{t:Int}(h:nbF (A++x::y::B) t=some ((A.length:Int),(A.length:Int)+1)):qHi (A++x::y::B) t=if qK4 x y=true then some (A++glue x y::B)else none:=by
 unfold qHi;rw[h];dsimp only;have e0:((A.length:Int)+1).toNat=A.length+1:=by omega
 rw[YQ,e0];have e1:(A++x::y::B)[A.length]?=some x:=qRc _ _ _;have e2:(A++x::y::B)[A.length+1]?=some y:=by
  have:=qRc (A++[x]) y B;rw[YN,Yx]at this;have e:A++x::y::B=(A++[x])++y::B:=by simp
  rw[e];exact this
 rw[e1,e2];dsimp only;have e3:(A++x::y::B).take A.length=A:=by rw[List.take_left'];rfl
 have e4:(A++x::y::B).drop (A.length+1+1)=B:=by
  have e5:A++x::y::B=(A++[x,y])++B:=by simp
  rw[e5,List.drop_left'];simp
 rw[e3,e4];have e6:A++[glue x y]++B=A++glue x y::B:=by simp
 rw[e6]
theorem qKg{A:List Im}{l:Int}(hM:MO none ms)(e:ms=A++ .mix l::B):∃A' n p q r s k n' p' q' r' s' k' B',A=A'++[.clip n p q r s k]/\B=.clip n' p' q' r' s' k'::B':=by
 rw[e]at hM;have h:=qGw hM;obtain⟨⟨n,p,q,r,s,k,h1⟩,n',p',q',r',s',k',h2⟩:=h.1;have hA:A≠[]:=by rintro rfl;cases h1
 obtain⟨X,x,rfl⟩:=qJt hA;rw[List.getLast?_concat]at h1;have h1:some x=some (.clip n p q r s k):=h1;cases h1;cases B with
 |nil=>cases h2
 |cons b B=>
  have h2:some b=some (.clip n' p' q' r' s' k'):=h2;cases h2;exact⟨X,n,p,q,r,s,k,n',p',q',r',s',k',B,O,O⟩
theorem qXe(hM:MO none ms){t:Int}(h:nbF ms t=some (i,j)):0<=i:=by
 rcases qVb h with ⟨A,x,y,B,e,rfl,_⟩|⟨A,l,y,B,e,_,rfl,_⟩
 . omega
 . obtain⟨X,n,p,q,r,s,k,n',p',q',r',s',k',Y,rfl,_⟩:=qKg hM (show ms=A++ .mix l::(y::B)from e)
   rw[YN,Yx];omega
theorem qJb{X X':List Im}(h:∀g,OS g X->OS g X'):∀(U:List Im) (g:Bool),OS g (U++X)->OS g (U++X')
 |[],g,q=>h g q
 |u::U,g,q=>by
  by_cases hg:u.wd="gap"
  . obtain⟨l,rfl⟩:=qEm hg
    exact⟨q.1,q.2.1,qJb h U _ q.2.2⟩
  . rw[YT,jr hg]at q⊢
    exact qJb h U _ q
theorem qKt{x x':Im}{T T':List Im}(hc:qK7 (some x)->qK7 (some x'))(h:∀p,MO p (x::T)->MO p (x'::T')):∀(U:List Im) (p:Option Im),MO p (U++x::T)->MO p (U++x'::T')
 |[],p,q=>h p q
 |u::U,p,q=>by
  by_cases hm:u.wd="mix"
  . obtain⟨l,rfl⟩:=xB hm
    refine⟨⟨q.1.1,?_⟩,qKt hc h U _ q.2⟩;cases U with
    |nil=>exact hc q.1.2
    |cons b U=>exact q.1.2
  . rw[YT,qm hm]at q⊢
    exact qKt hc h U _ q
theorem qVw(h:m.wd="clip"):qK7 (some m):=by obtain⟨n,p,q,r,s,l,rfl⟩:=qQj h;exact⟨_,_,_,_,_,_,O⟩
theorem qXw(h:qK7 (some m)):m.wd="clip":=by obtain⟨n,p,q,r,s,l,e⟩:=h;rw[Yb e];rfl
theorem qZt(h:m.wd="clip"):m.wd≠"gap"/\m.wd≠"mix":=by rw[h];decide+kernel
theorem qI2{α:Type}{xs:List α}{i:Nat}{x:α}(h:xs[i]?=some x)(y:α):xs=xs.take i++x::xs.drop (i+1)/\xs.set i y=xs.take i++y::xs.drop (i+1):=by
 have hi:=(glt h);constructor
 . rw[<-jy h,List.take_append_drop]
 . rw[List.set_eq_take_append_cons_drop,YB hi]
theorem qSl{i:Nat}(h:qy ms ((i:Int)+1)≠"mix"):NHM (ms.drop (i+1)):=λl e=>by rw[List.head?_drop]at e;exact h (vQ e (by omega))
theorem qNf{i:Nat}(h:ms[i]?=some m)(m':Im):jC (ms.set i m')=jC ms-m.mo+m'.mo:=by obtain⟨e1,e2⟩:=qI2 h m';have a1:=congrArg jC e1;rw[jI,qU]at a1;rw[e2,jI,qU];omega
theorem qW4(h:hmB ms i=false):qy ms (i-1)≠"mix"/\qy ms (i+1)≠"mix":=by unfold hmB at h;simpa using h
theorem qKy{i:Nat}(h:ms[i]?=some m)(e:m'.wd=m.wd)(k:Int):qy (ms.set i m') k=qy ms k:=by
 unfold qy;split
 . rfl
 . rw[List.getElem?_set]
   by_cases c:i=k.toNat
   . subst c
     rw[YB rfl,YB (glt h),h];exact e
   . rw[YA c]
theorem qQr{l:Int}(h:GC A n p q r s l N)(b0:0<b)(hb:b<=kZ p q r s l N):InR (Vk p q r s (l+(b-1))) (q*s) N:=by have:=(qPu (p:=p) (q:=q) (r:=r) (s:=s) (k0:=l) (e:=1) (m:=N) h.q0 h.s0 (.inl rfl) (λ_=>h.i0)).2.2.1 (b-1) (by omega) (by unfold kZ at hb;omega);rw[Int.one_mul]at this;exact this
theorem qQv{l:Int}(h:GC A n p q r s l N)(b0:b<=0)(hb: -b<=kP p q r s N):InR (Vk p q r s b) (q*s) N:=by
 by_cases z:b=0
 . subst z;exact h.i0
 have:=(qPu (p:=p) (q:=q) (r:=r) (s:=s) (k0:= -1) (e:= -1) (m:=N) h.q0 h.s0 (.inr rfl) (λ_=>h.i0)).2.2.1 (-b-1) (by omega) (by unfold kP at hb;omega);have e: -1+ -1*(-b-1)=b:=by omega
 rw[e]at this;exact this
theorem GC.slip{l:Int}(h:GC A n p q r s l N)(hb:qHp b<=if 0<b then kZ p q r s l N else kP p q r s N):GC A n (plP p q r s b) (plQ p q r s b) r s l N:=by
 have l1:=h.l1;unfold qHp at hb;by_cases b0:0<b
 . rw[YB b0,YA (by omega)]at hb
   have t:=qQr h b0 hb;have e:b+(l-1)=l+(b-1):=by omega
   exact h.move l1 (qRy h.i0 t (by omega) (by omega)) (by rw[e];exact t)
 . rw[YA b0]at hb
   have t:=qQv (b:=b) h (by omega) (by split at hb <;> omega);exact h.move l1 t (qRy t h.i1 (by omega) (by omega))
theorem GC.roll{n':Str}{l p' q' r' s' l' N':Int}(h:GC A n p q r s l N)(h':GC A n' p' q' r' s' l' N')(hb:qHp b<=qHd b (kZ p q r s l N) (kP p' q' r' s' N') l l'):GC A n p q r s (l+b) N/\GC A n' (plP p' q' r' s' b) (plQ p' q' r' s' b) r' s' (l'-b) N':=by
 have l1:=h.l1;have l1':=h'.l1;unfold qHp qHd at hb;have k:1<=l+b/\InR (Vk p q r s (l+b-1)) (q*s) N/\1<=l'-b/\InR (Vk p' q' r' s' b) (q'*s') N':=by
  by_cases b0:0<b
  . rw[YB b0,YA (by omega)]at hb
    have hb':b<=l'-1/\b<=kZ p q r s l N:=by split at hb <;> omega
    have e:l+b-1=l+(b-1):=by omega
    exact⟨by omega,by rw[e];exact qQr h b0 hb'.2,by omega,h'.at (by omega) (by omega)⟩
  . rw[YA b0]at hb
    have hb': -b<=kP p' q' r' s' N'/\ -b<=l-1:=by split at hb <;> split at hb <;> omega
    exact⟨by omega,h.at (by omega) (by omega),by omega,qQv h' (by omega) hb'.1⟩
 refine⟨⟨h.rn,h.n1,h.n2,h.q0,h.s0,h.g1,h.g2,h.dq,h.ds,h.rb,k.1,h.i0,k.2.1⟩,h'.move k.2.2.1 k.2.2.2 ?_⟩;have e:b+(l'-b-1)=l'-1:=by omega
 rw[e];exact h'.i1
theorem qXz(h:qK4 m m'=true):m.wd=m'.wd/\(m'.wd="clip"\/m'.wd="nest"):=by
 rcases vY h with ⟨n,p,q,r,s,l,n',p',q',r',s',l',rfl,rfl⟩|⟨n,b,l,n',b',l',rfl,rfl⟩
 . exact⟨O,.inl rfl⟩
 . exact⟨O,.inr rfl⟩
theorem qVu{x y:Im}(hc:qK4 x y=true):(glue x y).mo=x.mo+y.mo/\(glue x y).wd=x.wd:=by rcases vY hc with ⟨n,p,q,r,s,l,n',p',q',r',s',l',rfl,rfl⟩|⟨n,b,l,n',b',l',rfl,rfl⟩ <;> exact⟨rfl,rfl⟩
theorem GI.glue{A:Rg}{x y:Im}(hx:GI A x)(hy:GI A y)(hc:qK4 x y=true):GI A (glue x y):=by
 rcases vY hc with ⟨n,p,q,r,s,l,n',p',q',r',s',l',rfl,rfl⟩|⟨n,b,l,n',b',l',rfl,rfl⟩
 . have hc:goB n n' p q r s l p' q' r' s'=true:=hc
   unfold goB at hc;simp only[Yl,beq_iff_eq,decide_eq_true_eq]at hc;obtain⟨rfl,⟨rfl,rfl⟩,rfl,rfl⟩:=hc;obtain⟨N,g⟩:=hx;obtain⟨N',g'⟩:=hy;obtain rfl:N'=N:=by have:=g'.rn;rw[g.rn]at this;exact(Yb this).symm
   have l1:=g.l1;have l2:=g'.l1;refine⟨N',g.rn,g.n1,g.n2,g.q0,g.s0,g.g1,g.g2,g.dq,g.ds,g.rb,by show 1<=l+l';omega,g.i0,?_⟩;have:=(qHx g.q0 g.s0).mp g'.i1;have e:l+l'-1=l+(l'-1):=by omega
   show InR (Vk p q r s (l+l'-1)) (q*s) N';rw[e];exact this
 . obtain⟨a1,a2,a3,_⟩:=hx
   obtain⟨_,_,b3,b4⟩:=hy;have e:b'=b+l:=by have hc:(n==n' && decide (b'=b+l))=true:=hc;simp only[Yl,decide_eq_true_eq]at hc;exact hc.2
   exact⟨a1,a2,by show 1<=l+l';omega,by show b+(l+l')<=100;omega⟩
structure GW(A:Rg)(M:Int)(c:Nat)(ms:List Im):Prop where
 it:∀m∈ms,GI A m
 os:OS false ms
 mo:MO none ms
 le:jC ms<=M
 ct:ms.length<=c
theorem GW.wf{A:Rg}{M:Int}{c:Nat}{ms:List Im}(h:GW A M c ms):∀m∈ms,Wf m:=λm hm=>(h.it m hm).wf
theorem GW.nn{c:Nat}(h:GW A M c ms):Nn ms:=λm hm=>(h.wf m hm).mo
theorem GW.mono{c:Nat}(h:GW A M c ms)(h1:M<=M')(h2:c<=c'):GW A M' c' ms:=⟨h.it,h.os,h.mo,by have:=h.le;omega,by have:=h.ct;omega⟩
theorem GW.rel0{c:Nat}(h:GW A M c ms){hi:Int}(h0:0<=lo)(h1:lo<=hi)(ht:ze ms lo hi=false):Rel ms lo hi []:=⟨h.wf,h.mo,h0,h1,ht,(λm hm=>by cases hm),(λm hm=>by cases hm)⟩
theorem GW.swap{c:Nat}{i:Nat}(h:GW A M c ms)(hm:ms[i]?=some m)(hc:m.wd="clip")(hc':m'.wd="clip")(hg:GI A m')(hb:hmB ms (i:Int)=false)(M':Int)(hM:jC ms-m.mo+m'.mo<=M'):GW A M' c (ms.set i m'):=by
 obtain⟨e1,e2⟩:=qI2 hm m';obtain⟨b1,b2⟩:=qW4 hb;obtain⟨g1,g2⟩:=qZt hc;obtain⟨g1',g2'⟩:=qZt hc';have o:=h.os;have q:=h.mo;rw[e1]at o q;refine⟨λx hx=>?_,?_,?_,by rw[qNf hm];exact hM,by rw[ZL];exact h.ct⟩
 . rcases List.mem_or_eq_of_mem_set hx with q|q
   . exact h.it x q
   . rw[q];exact hg
 . rw[e2]
   refine qJb (λg q=>?_) _ _ o;rw[jr g1]at q;rw[jr g1'];exact q
 . rw[e2]
   refine qKt (λ_=>qVw hc') (λp q=>?_) _ _ q;rw[qm g2]at q;rw[qm g2'];exact qQ0 (qSl b2) q
theorem GW.rolled{c:Nat}(h:GW A M c ms){w:Str}{t:Int}{is:List Int}(hw:Wd3 w)(hp:plF w ms t=some is)(hx:is.any (hmB ms)=false)(hc:qHp b<=qR4 (rlE A) ms w is b):GW A M c (qUo ms w is b):=by
 have cl:∀{i:Nat} {n:Str} {p q r s l N:Int},ms[i]?=some (.clip n p q r s l)->rlE A n=some N->GC A n p q r s l N:=λ{i n p q r s l N} hm hr=>by obtain⟨N',g⟩:=h.it _ (YF hm);have:=g.rn;rw[hr]at this;cases this;exact g
 have nx:∀x∈is,hmB ms x=false:=λx hx'=>by rw[List.any_eq_false]at hx;simpa using hx x hx'
 have hle:=h.le;rcases qZ4 (λn p q r s l hm=>let ⟨N,c⟩:=h.it _ hm;⟨N,c.rn⟩) hw hp with ⟨rfl,i,n,p,q,r,s,l,N,rfl,hm,hN,hv⟩|⟨_,_,i,j,n,p,q,r,s,l,N,n',p',q',r',s',l',N',hlt,m1,m2,_,_,hm,hm',hN,hN',hv⟩
 . rw[(hv b).1]at hc
   rw[(hv b).2];exact h.swap (m':=.clip n (plP p q r s b) (plQ p q r s b) r s l) hm rfl rfl ⟨N,(cl hm hN).slip hc⟩ (nx _ (by simp)) M (by show jC ms-l+l<=M;omega)
 . rw[(hv b).1]at hc
   rw[(hv b).2];obtain⟨k1,k2⟩:=(cl hm hN).roll (cl hm' hN') hc;have s1:=h.swap (m':=.clip n p q r s (l+b)) hm rfl rfl ⟨N,k1⟩ (nx _ m1) (M+qHp b) (by show jC ms-l+(l+b)<=_;unfold qHp;split <;> omega);have hm2:(ms.set i (.clip n p q r s (l+b)))[j]?=some (.clip n' p' q' r' s' l'):=by rw[List.getElem?_set,YA (by omega)];exact hm'
   refine s1.swap (m':=.clip n' (plP p' q' r' s' b) (plQ p' q' r' s' b) r' s' (l'-b)) hm2 rfl rfl ⟨N',k2⟩ ?_ M ?_
   . have:=nx _ m2
     unfold hmB at this⊢;rw[qKy (m':=.clip n p q r s (l+b)) hm rfl,qKy (m':=.clip n p q r s (l+b)) hm rfl];exact this
   . rw[qNf hm]
     show jC ms-l+(l+b)-l'+(l'-b)<=M;omega
theorem GW.glued{c:Nat}{U:List Im}{x y:Im}(h:GW A M c (U++x::y::B))(hc:qK4 x y=true):GW A M c (U++glue x y::B):=by
 obtain⟨k1,k2⟩:=qXz hc;obtain⟨m1,m2⟩:=qVu hc;have nx:x.wd≠"mix"/\x.wd≠"gap":=by rw[k1];rcases k2 with e|e <;> rw[e] <;> decide+kernel
 have ny:y.wd≠"mix"/\y.wd≠"gap":=by rw[<-k1];exact nx
 have ng:(glue x y).wd≠"mix"/\(glue x y).wd≠"gap":=by rw[m2];exact nx
 have clg:qK7 (some y)->qK7 (some (glue x y)):=λq=>qVw (by rw[m2,k1];exact qXw q);have a1:=h.le;have a2:=h.ct;rw[jI,qU,qU]at a1;simp only[YN,YE]at a2;refine⟨λm hm=>?_,qJb (λg q=>?_) U _ h.os,qKt (λq=>qVw (by rw[m2];exact qXw q)) (λp q=>?_) U _ h.mo,by rw[jI,qU,m1];omega,by simp only[YN,YE];omega⟩
 . rcases YO.mp hm with hm|hm
   . exact h.it m (by simp[hm])
   . rcases YU.mp hm with rfl|hm
     . exact GI.glue (h.it x (by simp)) (h.it y (by simp)) hc
     . exact h.it m (by simp[hm])
 . rw[jr nx.2,jr ny.2]at q
   rw[jr ng.2];exact q
 . rw[qm nx.1,qm ny.1]at q
   rw[qm ng.1];cases B with
   |nil=>trivial
   |cons b B=>
    by_cases hb:b.wd="mix"
    . obtain⟨l,rfl⟩:=xB hb
      exact⟨⟨clg q.1.1,q.1.2⟩,q.2⟩
    . rw[qm hb]at q⊢
      exact q
theorem GW.mixd{c:Nat}{t l:Int}{i:Nat}(h:GW A M c ms)(hc:cbF ms t=some ((i:Int),((i+1:Nat):Int)))(h1:1<=l/\l<=9):GW A M (c+1) (ms.take (i+1)++[.mix l]++ms.drop (i+1)):=by
 obtain⟨n,p,q,r,s,k,n',p',q',r',s',k',e1,e2,e3,e4⟩:=qVh hc;have o:=h.os;have m:=h.mo;have a1:=h.le;have a2:=h.ct;have it:=h.it;rw[e4 l];rw[e3]at o m a1 a2 it;generalize ms.take i=X at*;generalize ms.drop (i+2)=Y at*;refine⟨λx hx=>?_,qPa l (by show ("clip":Str)≠"gap";decide+kernel) (by show ("clip":Str)≠"gap";decide+kernel) _ _ o,qPs l ⟨_,_,_,_,_,_,O⟩ ⟨_,_,_,_,_,_,O⟩ _ _ m,?_,?_⟩
 . simp only[YO,YU]at hx it
   rcases hx with hx|hx|hx|hx|hx
   . exact it x (.inl hx)
   . exact it x (.inr (.inl hx))
   . subst hx;exact h1
   . exact it x (.inr (.inr (.inl hx)))
   . exact it x (.inr (.inr (.inr hx)))
 . rw[jI,qU,qU]at a1
   rw[jI,qU,qU,qU];have:(Im.mix l).mo=0:=rfl;omega
 . simp only[YN,YE]at a2⊢
   omega
theorem GW.unmixed{c:Nat}{t:Int}{i:Nat}(h:GW A M c ms)(hc:cbF ms t=some ((i:Int),((i+2:Nat):Int))):GW A M c (ms.take (i+1)++ms.drop (i+2)):=by
 have hn:nbF ms t=some ((i:Int),((i+2:Nat):Int)):=by
  unfold cbF at hc;cases hq:nbF ms t with
  |none=>rw[hq]at hc;cases hc
  |some x=>
   obtain⟨a,b⟩:=x;rw[hq]at hc;dsimp only at hc;split at hc
   . exact hc
   . cases hc
 rcases qVb hn with ⟨U,x,y,B,_,_,e2,_⟩|⟨U,l,y,B,e,e1,e2,et,_⟩
 . omega
 . obtain⟨X,n,p,q,r,s,k,n',p',q',r',s',k',Y,rfl,eY⟩:=qKg h.mo (show ms=U++ .mix l::(y::B)from e)
   have hl:X.length=i:=by rw[YN,Yx]at e2;omega
   have e':ms=X++ .clip n p q r s k:: .mix l:: .clip n' p' q' r' s' k'::Y:=by rw[e,eY];simp
   have e3:ms.take (i+1)++ms.drop (i+2)=X++ .clip n p q r s k:: .clip n' p' q' r' s' k'::Y:=by
    have a1:ms=(X++[.clip n p q r s k])++(.mix l:: .clip n' p' q' r' s' k'::Y):=by rw[e'];simp
    have a2:ms=(X++[.clip n p q r s k,.mix l])++(.clip n' p' q' r' s' k'::Y):=by rw[e'];simp
    have b1:ms.take (i+1)=X++[.clip n p q r s k]:=by rw[a1,List.take_left'];simp[hl]
    have b2:ms.drop (i+2)=.clip n' p' q' r' s' k'::Y:=by rw[a2,List.drop_left'];simp[hl]
    rw[b1,b2];simp
   rw[e3];obtain⟨a1,o,m,a3,a4⟩:=h;rw[e']at a1 o m a3 a4;refine⟨λx hx=>a1 x ?_,qJb (X:=Im.clip n p q r s k:: .mix l::Im.clip n' p' q' r' s' k'::Y) (X':=Im.clip n p q r s k::Im.clip n' p' q' r' s' k'::Y) (λg q=>q) X _ o,qKt (x:=.clip n p q r s k) (x':=.clip n p q r s k) (T:=.mix l::Im.clip n' p' q' r' s' k'::Y) (T':=Im.clip n' p' q' r' s' k'::Y) id (λp q=>q.2) X _ m,?_,?_⟩
   . simp only[YO,YU]at hx⊢
     rcases hx with hx|hx|hx|hx
     . exact .inl hx
     . exact .inr (.inl hx)
     . exact .inr (.inr (.inr (.inl hx)))
     . exact .inr (.inr (.inr (.inr hx)))
   . rw[jI,qU,qU,qU]at a3
     rw[jI,qU,qU];have:(Im.mix l).mo=0:=rfl;omega
   . simp only[YN,YE]at a4⊢
     omega
theorem qP2{c:Nat}{ms':List Im}{t:Int}(h:GW A M c ms)(h0:0<=t)(hh:qHi ms t=some ms')(ht:ze ms t t=false):∃(U:List Im) (x y:Im) (B:List Im),ms=U++x::y::B/\ms'=U++glue x y::B/\qK4 x y=true/\t=jC U+x.mo:=by
 cases hn:nbF ms t with
 |none=>unfold qHi at hh;rw[hn]at hh;cases hh
 |some x=>
 obtain⟨i,j⟩:=x;rcases qVb hn with ⟨U,x,y,B,e,rfl,rfl,et,_⟩|⟨U,l,y,B,e,_,_,et,_⟩
 . subst e
   rw[qR1 hn]at hh;by_cases hc:qK4 x y=true
   . rw[YB hc]at hh
     cases hh;exact⟨U,x,y,B,O,O,hc,et⟩
   . rw[YA hc]at hh;cases hh
 . exfalso
   have hR:=h.rel0 h0 (YH t) ht;have hs:(0+jC U-l.fdiv 2,0+jC U,0+jC U+(l-l.fdiv 2))∈qx 0 ms:=by rw[e,kt];refine Yf _ ?_;rw[qx];simp
   have:=hR.far _ hs;dsimp only at this;omega
def Rw(ms:List Im):Prop:= ∀m∈ms,0<=m.mo/\(m.wd≠"gap"->m.wd≠"mix"->1<=m.mo)
theorem Rw.nn(h:Rw ms):Nn ms:=λm hm=>(h m hm).1
theorem Rw.app{A:List Im}(h:Rw A)(h':Rw B):Rw (A++B):=λx hx=>(YO.mp hx).elim (h x) (h' x)
theorem Wf.rw(h:∀m∈ms,Wf m):Rw ms:=λm hm=>⟨(h m hm).mo,λ_ h2=>(h m hm).pos h2⟩
theorem Rw.gap{l:Int}(h:0<=l):Rw [.gap l]:=λm hm=>by rw[YY]at hm;subst hm;exact⟨h,λe=>YC rfl e⟩
noncomputable def qS1(lo:Int)(ms:List Im):List Im:=(xA lo ms).1++[.gap (qBp (lo-jC ms) 0)]
theorem qZk(z:Int):0<=qBp z 0:=by unfold qBp;split <;> omega
theorem Rel.h0{hi:Int}(h:Rel ms lo hi ls):0<=hi:=by have:=h.l0;have:=h.lh;omega
theorem Rel.eq2{hi:Int}(h:Rel ms lo hi ls):qOi ms lo hi ls=z8 0 (qS1 lo ms++(ls++(xA hi ms).2)):=by rw[h.eq];unfold qS1;simp
theorem Rel.pad{hi:Int}(h:Rel ms lo hi ls):Rw (qS1 lo ms)/\jC (qS1 lo ms)=lo/\MO none (qS1 lo ms):=by
 have e:(Im.gap (qBp (lo-jC ms) 0)).mo=qBp (lo-jC ms) 0:=rfl;refine⟨(Wf.rw (qNg h.wf h.l0).1).app (Rw.gap (qZk _)),?_,?_⟩
 . unfold qS1
   rw[jI,qU,jf,e];have:=(qQt h.l0 h.wf).1;omega
 . exact qLj none none _ _ (qT5 h.wf h.l0 h.nlo h.mo).1 trivial
theorem Rel.right{hi:Int}(h:Rel ms lo hi ls):Rw (xA hi ms).2/\∀p,MO p (xA hi ms).2:=⟨Wf.rw (qNg h.wf h.h0).2,(qT5 h.wf h.h0 h.nhi h.mo).2⟩
theorem Rel.raw{hi:Int}(h:Rel ms lo hi ls):Rw (qS1 lo ms++(ls++(xA hi ms).2)):=h.pad.1.app ((Wf.rw h.lw).app h.right.1)
theorem Rel.mo'{hi:Int}(h:Rel ms lo hi ls):MO none (qOi ms lo hi ls):=by rw[h.eq2];exact qMr _ 0 none none (YH 0) (qLj none none _ _ h.pad.2.2 (qLj _ none _ _ (qXr h.lm _) (h.right.2 _))) h.raw.nn (.inr ⟨O,O⟩)
theorem qW8{hi:Int}(h:Rel ms lo hi ls):OS false (qOi ms lo hi ls):=by rw[h.eq2];exact qK9 _ 0 h.raw.nn (YH 0)
theorem qG8:∀(ms:List Im) (w:Int),(z8 w ms).length<=ms.length+if 0<w then 1 else 0
 |[],w=>by simp[z8]
 |m::ms,w=>by
  by_cases hg:m.wd="gap"
  . obtain⟨l,rfl⟩:=qEm hg
    have:=qG8 ms (w+l);rw[z8,YE];split at this <;> split <;> omega
  . have:=qG8 ms 0
    rw[YA (by omega)]at this;rw[jF hg];split
    . rw[YE,YE,YE]
      omega
    . rw[YE,YE]
      omega
theorem qM3:∀(ms:List Im) (c:Int),(xA c ms).1.length+(xA c ms).2.length<=ms.length+1
 |[],c=>by simp[xA]
 |m::ms,c=>by
  rw[xA];split
  . have:=qM3 ms (c-m.mo)
    simp only[YE];omega
  . split
    . simp only[YE,ZM]
      omega
    . simp only[YE,ZM]
      omega
theorem qQx:∀(ms:List Im) (lo hi:Int),lo<=hi->(xA lo ms).1.length+(xA hi ms).2.length<=ms.length+1
 |[],lo,hi,_=>by simp[xA]
 |m::ms,lo,hi,h=>by
  rw[xA,xA];by_cases c1:m.mo<=lo
  . rw[YB c1,YB (by omega)]
    have:=qQx ms (lo-m.mo) (hi-m.mo) (by omega);simp only[YE];omega
  . rw[YA c1]
    by_cases c2:m.mo<=hi
    . rw[YB c2]
      have:=qM3 ms (hi-m.mo);split
      . simp only[YE,ZM]
        omega
      . simp only[YE,ZM]
        omega
    . rw[YA c2]
      split <;> split <;> simp only[YE,ZM] <;> omega
theorem GW.rel{c:Nat}(h:GW A M c ms){hi:Int}(hR:Rel ms lo hi ls)(hl:∀m∈ls,GI A m){B:Int}{n:Nat}(hlo:lo<=M+4)(hll:jC ls<=B)(hn:ls.length<=n):GW A (M+4+B) (c+2+n) (qOi ms lo hi ls):=by
 have h0:=hR.l0;have h1:=hR.lh;have a1:=h.le;have a2:=h.ct;refine⟨qV8 (Pm:=GI A) (λw hw=>by show 1<=w;omega) hR h.it (λm hm nm x y x0 x1 x2=>(h.it m hm).part nm x0 x1 x2) hl,qW8 hR,hR.mo',?_,?_⟩
 . rw[hR.eq2]
   have b1:=qLm _ 0 hR.raw.nn (YH 0);obtain⟨l4,l5,l6⟩:=qQt (c:=hi) (show 0<=hi by omega) h.wf;rw[jI,jI,hR.pad.2.1]at b1;have b2:jC (xA hi ms).2=0\/jC (xA hi ms).2=jC ms-hi:=by
    by_cases q:hi<=jC ms
    . have:=l6 q
      right;omega
    . left
      rw[qR0 ms hi h.nn (by omega)];rfl
   have:=Nn.len (Wf.rw hR.lw).nn;omega
 . rw[hR.eq2]
   have b1:=qG8 (qS1 lo ms++(ls++(xA hi ms).2)) 0;have b2:=qQx ms lo hi h1;rw[YA (by omega)]at b1;unfold qS1 at b1⊢;simp only[YN,YE,ZM]at b1;omega
structure TW(A:Rg)(M:Int)(c:Nat)(ts:List (List Im))(tie:List Int):Prop where
 l3:1<=ts.length/\ts.length<=3
 ms:∀ms∈ts,GW A M c ms
 tl:tie.length<=3
 tin:∀x∈tie,∃k:Nat,x=(k:Int)/\k<ts.length
theorem TW.set{A:Rg}{M M':Int}{c c':Nat}{ts:List (List Im)}{tie:List Int}{ms:List Im}(h:TW A M c ts tie)(n:Nat)(hM:M<=M')(hc:c<=c')(hg:GW A M' c' ms):TW A M' c' (ts.set n ms) tie:=by
 refine⟨by rw[ZL];exact h.l3,λx hx=>?_,h.tl,λx hx=>by rw[ZL];exact h.tin x hx⟩;rcases List.mem_or_eq_of_mem_set hx with q|q
 . exact(h.ms x q).mono hM hc
 . rw[q];exact hg
theorem TW.mono{A:Rg}{M M':Int}{c c':Nat}{ts:List (List Im)}{tie:List Int}(h:TW A M c ts tie)(hM:M<=M')(hc:c<=c'):TW A M' c' ts tie:=⟨h.l3,λms hm=>(h.ms ms hm).mono hM hc,h.tl,h.tin⟩
theorem TW.tabD{c:Nat}{ts:List (List Im)}(h:TW A M c ts tie)(hM:M<=100000)(hc:c<=100)(ht:TabF H (.ref tz) ts tie)(hr:RE H re A):TabD H tz re (rlE A) ts tie:=by refine⟨ht,λms hm=>?_,by have:=h.l3;omega,by have:=h.tl;omega,h.tin,hr.at⟩;have q:=h.ms ms hm;have a1:=q.le;have a2:=q.ct;refine⟨⟨λm hm'=>⟨(q.it m hm').ib,(q.wf m hm').mo⟩,by omega⟩,by omega,λm hm'=>(q.it m hm').it ?_⟩;have:=qNs q.nn m hm';omega
def LayG(A:Rg)(m:Im):Prop:=(∃n b l,m=.nest n b l/\A.nst n/\qJi n=true/\0<=b/\1<=l/\l<=9/\b<=40)\/∃n p q r s l N,m=.clip n p q r s l/\GC A n p q r s l N/\l<=9
theorem LayG.gi(h:LayG A m):GI A m:=by
 rcases h with ⟨n,b,l,rfl,h1,_,h2,h3,h4,h5⟩|⟨n,p,q,r,s,l,N,rfl,h1,_⟩
 . exact⟨h1,h2,h3,by omega⟩
 . exact⟨N,h1⟩
theorem LayG.mo{A:Rg}{m:Im}(h:LayG A m):m.wd≠"mix"/\1<=m.mo/\m.mo<=10:=by
 rcases h with ⟨n,b,l,rfl,h1,_,h2,h3,h4,_⟩|⟨n,p,q,r,s,l,N,rfl,h1,h4⟩
 . exact⟨by show ("nest":Str)≠"mix";decide+kernel,h3,by show l<=10;omega⟩
 . exact⟨by show ("clip":Str)≠"mix";decide+kernel,h1.l1,by show l<=10;omega⟩
theorem qZm(h:rlE A n=some N):qJi n=true/\n.length<=1000:=by
 unfold rlE at h;split at h
 . rename_i q;subst q;exact⟨by decide+kernel,by decide+kernel⟩
 . split at h
   . rename_i q;subst q;exact⟨by decide+kernel,by decide+kernel⟩
   . split at h
     . rename_i q;subst q;exact⟨by decide+kernel,by decide+kernel⟩
     . cases h
theorem LayG.ok(h:LayG A m)(hr:RE H re A):LayOk H re m:=by
 rcases h with ⟨n,b,l,rfl,_,h1,h2,h3,h4,_⟩|⟨n,p,q,r,s,l,N,rfl,h1,h4⟩
 . exact⟨h1,h2,h3⟩
 . obtain⟨b1,b2,b3,b4⟩:=h1.bd
   have l1:=h1.l1;obtain⟨n1,n2⟩:=qZm h1.rn;exact⟨N,hr.at _ _ h1.rn,⟨n1,n2,⟨h1.q0,h1.s0,p40 b1 (by decide),p40 b2 (by decide),p40 b3 (by decide),p40 b4 (by decide)⟩,h1.g1,h1.g2,l1,by omega⟩,h1.i0,h1.i1⟩
def DkN(A:Rg)(M:Int):Dk->Prop
 |.hel _=>False
 |.cut t=>0<=t/\t<=M+4
 |.opn t l=>0<=t/\t<=M+4/\1<=l/\l<=9
 |.cls t u=>0<=t/\t<=M+4/\t<u/\u<=t+9
 |.lft t u=>0<=t/\t<=M+4/\t<u/\u<=t+9
 |.lin t m=>0<=t/\t<=M+4/\LayG A m
 |.lov t m=>0<=t/\t<=M+4/\LayG A m
theorem DkN.lay{d:Dk}(h:DkN A M d):0<=d.t/\d.t<=d.hi/\d.t<=M+4/\(∀m∈d.laid,GI A m/\m.wd≠"mix"/\1<=m.mo)/\d.laid.length<=1/\jC d.laid<=10:=by
 have gm:("gap":Str)≠"mix":=by decide+kernel
 have one:∀{m:Im},GI A m->m.wd≠"mix"->1<=m.mo->m.mo<=10->(∀x∈[m],GI A x/\x.wd≠"mix"/\1<=x.mo)/\[m].length<=1/\jC [m]<=10:=λ{m} a b c d=>⟨λx hx=>by rw[YY]at hx;subst hx;exact⟨a,b,c⟩,YI 1,by rw[qU,jf];omega⟩;have no:(∀x∈([]:List Im),GI A x/\x.wd≠"mix"/\1<=x.mo)/\([]:List Im).length<=1/\jC []<=10:=⟨(λx hx=>by cases hx),by decide,by decide⟩;cases d with
 |hel t=>exact h.elim
 |cut t=>exact⟨h.1,YH _,h.2,no⟩
 |opn t l=>
  obtain⟨a1,a2,a3,a4⟩:=h;exact⟨a1,YH _,a2,one (m:=.gap l) a3 gm a3 (by show l<=10;omega)⟩
 |cls t u=>
  obtain⟨a1,a2,a3,a4⟩:=h;exact⟨a1,by show t<=u;omega,a2,no⟩
 |lft t u=>
  obtain⟨a1,a2,a3,a4⟩:=h;have q:1<=u-t:=by omega
  exact⟨a1,by show t<=u;omega,a2,one (m:=.gap (u-t)) q gm q (by show u-t<=10;omega)⟩
 |lin t m=>
  obtain⟨a1,a2,a3⟩:=h;obtain⟨b1,b2,b3⟩:=a3.mo;exact⟨a1,YH _,a2,one a3.gi b1 b2 b3⟩
 |lov t m=>
  obtain⟨a1,a2,a3⟩:=h;obtain⟨b1,b2,b3⟩:=a3.mo;exact⟨a1,by show t<=t+m.mo;omega,a2,one a3.gi b1 b2 b3⟩
theorem qKu:∀ls:List Im,jC (ls.map λm=>Im.gap m.mo)=jC ls
 |[]=>rfl
 |m::ls=>by rw[ZG,qU,qU,qKu ls];rfl
theorem qTw{d:Dk}(h:∀m∈d.laid,GI A m/\m.wd≠"mix"/\1<=m.mo)(hn:d.laid.length<=1)(hl:jC d.laid<=10)(n k:Int):(∀m∈qCn d n k,GI A m/\m.wd≠"mix")/\(qCn d n k).length<=1/\jC (qCn d n k)<=10:=by
 unfold qCn;split
 . exact⟨λm hm=>⟨(h m hm).1,(h m hm).2.1⟩,hn,hl⟩
 . refine⟨λm hm=>?_,by rw[YS];exact hn,by rw[qKu];exact hl⟩
   obtain⟨x,hx,rfl⟩:=List.mem_map.mp hm;exact⟨(h x hx).2.2,by show ("gap":Str)≠"mix";decide+kernel⟩
theorem TW.chg{c:Nat}{ts:List (List Im)}(h:TW A M c ts tie){d:Dk}(hd:DkN A M d)(n:Int):∀ns:List Int,(∀k∈ns,∃j:Nat,k=(j:Int)/\j<ts.length)->(∀k∈ns,ze (ts.getD k.toNat []) d.t d.hi=false)->TW A (M+14) (c+4) (qOb ts d n ns) tie:=by
 obtain⟨a1,a2,a3,a4,a5,a6⟩:=hd.lay;suffices hs:∀(ns:List Int) (ts':List (List Im)),TW A (M+14) (c+4) ts' tie->(∀k∈ns,∃j:Nat,k=(j:Int)/\j<ts.length)->(∀k∈ns,ze (ts.getD k.toNat []) d.t d.hi=false)->TW A (M+14) (c+4) (ns.foldl (λts1 k=>ts1.set k.toNat (qOi (ts.getD k.toNat []) d.t d.hi (qCn d n k))) ts') tie from λns h1 h2=>hs ns ts (h.mono (by omega) (by omega)) h1 h2
 intro ns
 induction ns with
 |nil=>exact λts' h' _ _=>h'
 |cons k ns ih=>
  intro ts' h' h1 h2;refine ih _ ?_ (λx hx=>h1 x (by simp[hx])) (λx hx=>h2 x (by simp[hx]));obtain⟨j,rfl,hj⟩:=h1 k (by simp);obtain⟨b1,b2,b3⟩:=qTw a4 a5 a6 n (j:Int);have hm:ts.getD ((j:Int)).toNat []∈ts:=by rw[YQ,List.getD_eq_getElem?_getD,YD hj];exact List.getElem_mem hj
  exact h'.set _ (YH _) (YI _) (((h.ms _ hm).rel ⟨(h.ms _ hm).wf,(h.ms _ hm).mo,a1,a2,h2 _ (by simp),λm hm=>(b1 m hm).1.wf,λm hm=>(b1 m hm).2⟩ (λm hm=>(b1 m hm).1) (B:=10) (n:=1) a3 b3 b2).mono (by omega) (by omega))
def DeN(A:Rg)(M:Int):De->Prop
 |.hel t=>0<=t/\t<=M+4
 |.mix t l=>0<=t/\t<=M+4/\1<=l/\l<=9
 |.unm t=>0<=t/\t<=M+4
 |.rol w t b=>Wd3 w/\0<=t/\t<=M+4/\b.natAbs<=4
 |.chg d=>DkN A M d
theorem qXl{n:Nat}{L:Nat}(hn:n<L)(ht:∀x∈tie,∃k:Nat,x=(k:Int)/\k<L)(push:Bool):∀k∈chF tie (n:Int) push,∃j:Nat,k=(j:Int)/\j<L:=by
 intro k hk;unfold chF at hk;split at hk
 . rcases YU.mp hk with rfl|hk
   . exact⟨n,O,hn⟩
   . exact ht k (List.mem_filter.mp hk).1
 . rw[YY]at hk
   exact⟨n,hk,hn⟩
theorem qMp{ts:List (List Im)}{ns:List Int}{hi:Int}(h:¬xU ts ns lo hi=true):∀k∈ns,ze (ts.getD k.toNat []) lo hi=false:=λk hk=>by
 unfold xU at h;rw[List.any_eq_true]at h;cases q:ze (ts.getD k.toNat []) lo hi with
 |false=>rfl
 |true=>exact YC ⟨k,hk,q⟩ h
theorem TW.res{c:Nat}{ts:List (List Im)}(h:TW A M c ts tie)(M0:0<=M){n:Nat}(hm:ts[n]?=some ms){d:De}(hd:DeN A M d){ts':List (List Im)}(hr:qFy (rlE A) ts tie n ms d=.good ts'):TW A (M+14) (c+4) ts' tie:=by
 have hn:=(glt hm);have hg:=h.ms ms (YF hm);have gd:ts.getD ((n:Int)).toNat []=ms:=by rw[YQ,List.getD_eq_getElem?_getD,hm];rfl
 have fin:∀{x:List Im},GW A M (c+1) x->Res.good (ts.set n x)=.good ts'->TW A (M+14) (c+4) ts' tie:=λ{x} q e=>by cases e;exact h.set n (by omega) (by omega) (q.mono (by omega) (by omega))
 cases d with
 |hel t=>
  rw[qFy]at hr;cases hh:qHi ms t with
  |none=>rw[hh]at hr;cases hr
  |some ms'=>
   rw[hh]at hr;dsimp only at hr;split at hr
   . cases hr
   . rename_i ht
     have:=qMp ht (n:Int) (by unfold chF;rw[YA (λq=>YZ q.1)];simp);rw[gd]at this;obtain⟨U,x,y,B,rfl,rfl,hc,_⟩:=qP2 hg hd.1 hh this;exact fin ((hg.glued hc).mono (YH _) (by omega)) hr
 |mix t l=>
  rw[qFy]at hr;cases hc:cbF ms t with
  |none=>rw[hc]at hr;cases hr
  |some x=>
   obtain⟨i,j⟩:=x;rw[hc]at hr;dsimp only at hr;split at hr
   . rename_i e
     cases hM:mmF (rlE A) ms t with
     |none=>rw[hM]at hr;cases hr
     |some M'=>
      rw[hM]at hr;dsimp only at hr;split at hr
      . cases hr
      . obtain⟨k,rfl,_⟩:=qT0 hc
        rw[YQ]at hr;exact fin (hg.mixd (by rw[hc,e];rfl) hd.2.2) hr
   . cases hr
 |unm t=>
  rw[qFy]at hr;cases hc:cbF ms t with
  |none=>rw[hc]at hr;cases hr
  |some x=>
   obtain⟨i,j⟩:=x;rw[hc]at hr;dsimp only at hr;split at hr
   . cases hr
   . rename_i e
     obtain⟨k,rfl,e2⟩:=qT0 hc;rw[YQ]at hr;exact fin ((hg.unmixed (t:=t) (i:=k) (by rw[hc];congr 2;omega)).mono (YH _) (by omega)) hr
 |rol w t b=>
  rw[qFy]at hr;cases hp:plF w ms t with
  |none=>rw[hp]at hr;cases hr
  |some is=>
   rw[hp]at hr;dsimp only at hr;split at hr
   . cases hr
   . rename_i hx
     split at hr
     . rename_i hc
       exact fin ((hg.rolled hd.1 hp (by simpa using hx) hc).mono (YH _) (by omega)) hr
     . cases hr
 |chg d=>
  rw[qFy]at hr;split at hr
  . split at hr
    . cases hr
    . rename_i ht
      cases hr;exact h.chg hd _ _ (qXl hn h.tin _) (qMp ht)
  . cases hr
theorem MO.ok(h:MO none ms):qRz ms:=by
 intro i l hi;have hlt:=(glt hi);have e:ms=ms.take i++ .mix l::ms.drop (i+1):=by rw[<-jy hi,List.take_append_drop]
 rw[e]at h;obtain⟨⟨h1,h2⟩,_⟩:=qGw h;have h1':1<=i/\qK7 ms[i-1]?:=by
  cases i with
  |zero=>obtain⟨_,_,_,_,_,_,e⟩:=h1;cases e
  |succ i=>
   have e:(ms.take (i+1)).getLast?=ms[i]?:=by rw[List.getLast?_eq_getElem?,Yk,Nat.min_eq_left (by omega)];exact List.getElem?_take_of_lt (by omega)
   rw[e,Option.or_none]at h1;exact⟨by omega,h1⟩
 rw[List.head?_drop]at h2;exact⟨h1'.1,h1'.2,h2⟩
theorem qX0{c:Nat}{d:De}(h:DeN A M d)(hg:GW A M c ms)(hM:M<=1000)(hr:RE H re A):qYq H re ms d:=by
 have e:(10000:Int)<=2 ^ 400:=by decide
 cases d with
 |hel t=>exact⟨h.1,λm hm=>(hg.it m hm).ih (by have:=qNs hg.nn m hm;have:=hg.le;omega),λi j hn=>qXe hg.mo hn⟩
 |mix t l=>exact⟨h.1,h.2.2.1⟩
 |unm t=>exact h.1
 |rol w t b=>exact⟨h.2.1,by have:=h.2.2.2;omega⟩
 |chg d=>
  cases d with
  |hel t=>exact h.elim
  |cut t=>
   obtain⟨h1,h2⟩:=h;cases hw:v8 ms t with
   |false=>exact .inl ⟨t,rfl,h1,hw⟩
   |true=>exact .inr ⟨h1,by generalize (2:Int) ^ 400=B at e⊢;omega,hw⟩
  |opn t l=>obtain⟨h1,h2,h3,h4⟩:=h;exact .inr ⟨h1,by generalize (2:Int) ^ 400=B at e⊢;omega,h3⟩
  |cls t u=>obtain⟨h1,h2,h3,h4⟩:=h;exact .inr ⟨h1,h3,by generalize (2:Int) ^ 400=B at e⊢;omega⟩
  |lft t u=>obtain⟨h1,h2,h3,h4⟩:=h;exact .inr ⟨h1,h3,by generalize (2:Int) ^ 400=B at e⊢;omega⟩
  |lin t m=>obtain⟨h1,h2,h3⟩:=h;exact .inr ⟨h1,by generalize (2:Int) ^ 400=B at e⊢;omega,h3.ok hr⟩
  |lov t m=>obtain⟨h1,h2,h3⟩:=h;obtain⟨_,q3,q4⟩:=h3.mo;exact .inr ⟨h1,by generalize (2:Int) ^ 400=B at e⊢;omega,h3.ok hr,by omega,by generalize (2:Int) ^ 400=B at e⊢;omega⟩
theorem GI.g{A:Rg}{m:Im}(h:GI A m)(hl:m.mo<=100000):m.g:=by
 have e:(100001:Int)<2 ^ 400:=by decide
 cases m with
 |clip n p q r s l=>
  obtain⟨N,c⟩:=h;obtain⟨b1,b2,b3,b4⟩:=c.bd;have hl:l<=100000:=hl;exact⟨c.q0,c.s0,p40 b1 (by decide),p40 b2 (by decide),p40 b3 (by decide),p40 b4 (by decide),c.l1,by generalize (2:Int) ^ 400=B at e⊢;omega⟩
 |nest n b l=>obtain⟨_,h1,h2,h3⟩:=h;exact⟨h1,by omega,h2⟩
 |gap l=>exact h
 |mix l=>exact⟨h.1,by have:=h.2;omega⟩
theorem GW.told{c:Nat}(h:GW A M c ms)(hM:M<=1000)(hc:c<=300):ms.length<=300/\qRz ms/\∀m∈ms,m.g/\∀n b l,m=.nest n b l->A.nst n:=
 ⟨by have:=h.ct;omega,h.mo.ok,λm hm=>⟨(h.it m hm).g (by have:=qNs h.nn m hm;have:=h.le;omega),λn b l e=>by have:=h.it m hm;rw[e]at this;exact this.1⟩⟩
theorem DeN.mono{d:De}(h:DeN A M d)(hM:M<=M'):DeN A M' d:=by
 cases d with
 |hel t=>exact⟨h.1,by have:=h.2;omega⟩
 |mix t l=>exact⟨h.1,by have:=h.2.1;omega,h.2.2⟩
 |unm t=>exact⟨h.1,by have:=h.2;omega⟩
 |rol w t b=>exact⟨h.1,h.2.1,by have:=h.2.2.1;omega,h.2.2.2⟩
 |chg d=>
  cases d with
  |hel t=>exact h
  |cut t=>exact⟨h.1,by have:=h.2;omega⟩
  |opn t l=>exact⟨h.1,by have:=h.2.1;omega,h.2.2⟩
  |cls t u=>exact⟨h.1,by have:=h.2.1;omega,h.2.2⟩
  |lft t u=>exact⟨h.1,by have:=h.2.1;omega,h.2.2⟩
  |lin t m=>exact⟨h.1,by have:=h.2.1;omega,h.2.2⟩
  |lov t m=>exact⟨h.1,by have:=h.2.1;omega,h.2.2⟩
inductive qHb(vs:List V)(H:Hp)(Q:VK)(_:XK):Prop
|mk (n m:Int) (_:vs=[.int n,.int m]) (_:0<=m) (_:m<=100) (_:∀(z:Addr) (xs:List Int),H z=none->xs.length=m.toNat->(∀x∈xs,0<=x/\x<2147483629)->Q (.ref z) (upd H z (.lst (xs.map V.int))))
theorem qAo(T:Tx K mg a):FnOk P w K mg base CX0 1 a.A77 a.B77 ["_law_number","_law_many"] qHb:=by
 refine oL T.D77.F xK λ_ _ _ _ H _ _ _ hr h _ Y=>?_;obtain⟨n,m,rfl,h0,h1,k⟩:=h;apply Y;refine⟨_,(qD (qW 2 xK.nd (qo qB))
  (qD (qW 3 xK.nd (qP qi (pv 0) qG))
  (qD (xj PassesOwn.never rfl (qE6 rfl T.b_range (qA (pv 1) qB)) (q8 (i:=4) xK.nd rfl (Or.inl rfl)) (qD (qW 3 xK.nd (qP qi (qP qk (qP qk (qP qk (qP jd (pv 3) (pv 3)) (qP jd qG (pv 3))) (qP jd qG (pv 4))) qG) qG))
  (qF (jR (qOd F.plainAttrs_list F.slot_list_append F.type_list_append kG (pv 2) (qA (qP qf (pv 3) qG) qB))))))
  (qF (qK (pv 2)))))),?_⟩
 try dsimp only[jD,qc]
 refine⟨sL0,λz hz=>?_⟩;refine⟨_,O,_,_,O,O,nz,?_⟩;refine⟨_,O,m,O,by omega,by omega,qE1 (n:=m.toNat) (λi σ H'=> ∃(xs:List Int) (x:Int) (o:Option V),σ=[some (.int n),some (.int m),some (.ref z),some (.int x),o]/\H'=upd H z (.lst (xs.map V.int))/\xs.length=i/\(∀x∈xs,0<=x/\x<2147483629)/\0<=x/\x<2147483629)
  ⟨[],_,none,rfl,rfl,rfl,(by simp),Int.fmod_nonneg_of_pos n (by decide),Int.fmod_lt_of_pos n (by decide)⟩ ?_ ?_⟩
 . rintro i σ H' hi ⟨xs,x,o,rfl,rfl,hl,hx,x0,x1⟩
   have q0:=Int.fmod_nonneg_of_pos (x*x+40692*x+2*(0+(i:Int))+1) (show (0:Int)<2147483629 by decide);have q1:=Int.fmod_lt_of_pos (x*x+40692*x+2*(0+(i:Int))+1) (show (0:Int)<2147483629 by decide);refine⟨_,O,_,O,_,_,O,O,cmL (by omega) (by omega),_,O,_,_,O,O,cmL (by decide) (by decide),_,_,O,O,?_⟩;refine⟨_,O,_,_,O,O,cmL (by decide) (by decide),_,_,O,O,_,_,O,O,_,_,O,O,nz,?_⟩;refine⟨_,O,.inl ⟨O,_,SqL.of qC⟩,_,O,_,_,O,O,cdB (by decide) (by decide),z,_,_,O,O,qC,(by rw[YS];exact qj (by omega)),?_⟩;refine⟨xs++[(x*x+40692*x+2*(0+(i:Int))+1).fmod 2147483629 |>.fdiv 3],_,_,O,?_,?_,?_,q0,q1⟩
   . rw[qIj,Yr]
     rfl
   . rw[YN,hl]
     rfl
   . intro y hy
     rcases YO.mp hy with hy|hy
     . exact hx y hy
     . have e:y=((x*x+40692*x+2*(0+(i:Int))+1).fmod 2147483629).fdiv 3:=by simpa using hy
       rw[e,Int.fdiv_eq_ediv_of_nonneg _ (by decide)];omega
 . rintro σ H' ⟨xs,x,o,rfl,rfl,hl,hx,x0,x1⟩
   exact⟨_,O,k z xs hz hl hx⟩
theorem vF(h0:0<=i)(h1:i<(xs.length:Int)):∃v,atI xs i=some v/\v∈xs:=by
 obtain⟨k,rfl⟩:=Int.eq_ofNat_of_zero_le h0;have hk:k<xs.length:=by omega
 exact⟨xs[k],qz (YD hk),List.getElem_mem hk⟩
inductive qH3(vs:List V)(H:Hp)(Q:VK)(_:XK):Prop
|mk (c:Int) (_:vs=[.int c]) (_:∀(re:Addr) (x y z:Int) (H':Hp),Same H H'->H re=none->H' re=some (.dK [(Sum.inr "a",.int x),(Sum.inr "b",.int y),(Sum.inr "long",.int z)])->(∀n,Rg.Ok ⟨x,y,z,n⟩)->Q (.ref re) H')
theorem qH0(T:Tx K mg a):FnOk P w K mg base CX0 1 a.A78 a.B78 ["_law_cell"] qH3:=by
 refine oL T.D78.F qH2 λ_ _ _ _ H vs _ _ hr h _ Y=>?_;obtain⟨c,rfl,kk⟩:=h;apply Y;refine⟨_,(qF (qK (qQ4 (qAy qR (qP qk qG (qP qi (pv 0) qG)) (qAy qR (qP qk qG (qP qi (qP qf (pv 0) qG) qG)) (qAy qR (qP jG (qP qT7 qG qG) (qP qi (qP qf (pv 0) qG) qG)) qPn))) rfl rfl (by simp) (by decide)))),?_⟩
 try dsimp only[jD,qc]
 refine λre hre=>?_;have f:=fm c (show (0:Int)<9 by decide);have f2:=fm (c.fdiv 9) (show (0:Int)<1000 by decide);have f3:=fm (c.fdiv 81) (show (0:Int)<7 by decide);refine⟨_,O,_,_,O,O,nz,_,_,O,O,_,O,_,_,O,O,cdB (by decide) (by decide),_,_,O,O,nz,_,_,O,O,?_⟩;refine⟨_,_,O,O,cpw (n:=9) (by decide),_,O,_,_,O,O,cdB (by decide) (by decide),_,_,O,O,nz,_,_,O,O,?_⟩;refine⟨qC,[(Sum.inr "a",.int (40+c.fmod 9)),(Sum.inr "b",.int (40+(c.fdiv 9).fmod 1000)),(Sum.inr "long",.int (10 ^ (9:Int).toNat-(c.fdiv 81).fmod 7))],O,(by show 3<=15;decide),?_⟩;rw[qIj];have em:∀x y z:V,qFa [] [((Sum.inr ("a":Str):Key),x),(Sum.inr ("b":Str),y),(Sum.inr ("long":Str),z)]=[(Sum.inr ("a":Str),x),(Sum.inr ("b":Str),y),(Sum.inr ("long":Str),z)]:=λx y z=>by rfl
 rw[em];have e9:(10:Int) ^ (9:Int).toNat=1000000000:=by decide
 rw[e9];exact kk re _ _ _ _ (qE hre _) hre qC λn=>⟨by show 40<=40+_;omega,by show 40+_<=_;omega,by show 40<=40+_;omega,by show 40+_<=_;omega,by show 40<=_-_;omega,by show _-_<=_;omega⟩
def Prs(G:Int->Int->Prop)(H:Hp)(vs:List V):Prop:= ∀v∈vs,∃t p q,v=.ref t/\H t=some (.tup [.int p,.int q])/\G p q
theorem jT{G:Int->Int->Prop}{H0:Hp}(e:Same H0 H)(h:Prs G H vs){t:Addr}(ht:H t=none)(g:G p q):Same H0 (upd H t (.tup [.int p,.int q]))/\Prs G (upd H t (.tup [.int p,.int q])) (vs++[.ref t]):=by
 have w:=qE ht (.tup [.int p,.int q]);refine⟨e.trans w,λv hv=>?_⟩;rcases YO.mp hv with hv|hv
 . obtain⟨t',p',q',e1,e2,e3⟩:=h v hv
   exact⟨t',p',q',e1,w _ _ e2,e3⟩
 . rw[YY]at hv
   exact⟨t,p,q,hv,qC,g⟩
def StG(p q:Int):Prop:=0<q/\Int.gcd p q=1/\q∣42/\18*q<=p/\p<=22*q
def SpG(r s:Int):Prop:=0<s/\Int.gcd r s=1/\s∣42/\r.natAbs<=6/\ -(2*s)<=r/\r<=2*s
theorem qJx{k:Int}(h1:StG p q)(h2:SpG r s)(k0:0<=k)(k1:k<=6)(hN:40<=N):InR (Vk p q r s k) (q*s) N:=by
 obtain⟨q0,_,_,a1,a2⟩:=h1;obtain⟨s0,_,_,_,b1,b2⟩:=h2;have m1:=Ym a1 (show 0<=s by omega);have m2:=Ym a2 (show 0<=s by omega);have kq:0<=k*q:=Int.mul_nonneg k0 (by omega);have m3:=Int.mul_le_mul_of_nonneg_left b1 kq;have m4:=Int.mul_le_mul_of_nonneg_left b2 kq;have qs:0<q*s:=Yt q0 s0;have m5:=Ym k1 (show 0<=q*s by omega);have m6:=Ym hN (show 0<=q*s by omega);have e1:Vk p q r s k=p*s+k*q*r:=by unfold Vk;grind
 have e2:18*q*s=18*(q*s):=by grind
 have e3:22*q*s=22*(q*s):=by grind
 have e4:k*q*(2*s)=2*(k*(q*s)):=by grind
 have e5:k*q* -(2*s)=-(2*(k*(q*s))):=by grind
 unfold InR;rw[e1];rw[e2]at m1;rw[e3]at m2;rw[e4]at m4;rw[e5]at m3;generalize q*s=z at*;generalize k*z=y at*;generalize N*z=x at*;generalize p*s=u at*;generalize k*q*r=v at*;omega
theorem qPd(hA:A.Ok)(hn:n="a"\/n="b"\/n="long"){l:Int}(h1:StG p q)(h2:SpG r s)(l1:1<=l)(l2:l<=7):LayG A (.clip n p q r s l):=by
 have hr:∃N,rlE A n=some N/\40<=N/\N<=1000000000:=by
  unfold rlE;rcases hn with rfl|rfl|rfl
  . exact⟨_,O,hA.a0,hA.a1⟩
  . exact⟨_,O,hA.b0,hA.b1⟩
  . exact⟨_,O,hA.l0,hA.l1⟩
 obtain⟨N,hr,n1,n2⟩:=hr;exact .inr ⟨n,p,q,r,s,l,N,O,⟨hr,by omega,n2,h1.1,h2.1,h1.2.1,h2.2.1,h1.2.2.1,h2.2.2.1,h2.2.2.2.1,l1,qJx h1 h2 (YH 0) (by decide) n1,qJx h1 h2 (by omega) (by omega) n1⟩,by omega⟩
inductive qJc(vs:List V)(H:Hp)(Q:VK)(_:XK):Prop
|mk (x:Int) (_:vs=[.int x]) (_:0<=x) (_:∀(z:Addr) (m:Im) (H':Hp),Same H H'->IsI H' m (.ref z)->m.wd="clip"->(∀A:Rg,A.Ok->LayG A m)->Q (.ref z) H')
theorem vN(T:Tx K mg a):FnOk P w K mg base CX0 1 a.A79 a.B79 ["_law_x"] qJc:=by
 refine oL T.D79.F vT λ_ A _ _ H _ _ _ hr h _ Y=>?_;obtain⟨x,rfl,x0,kk⟩:=h;apply Y;refine⟨_,(qD (qW 1 vT.nd (jN qh (qo (qA (qY (qA qG (qA qG qB))) (qA (qY (qA qG (qA qG qB))) (qA (qY (qA (qE7 vW qG) (qA qG qB))) (qA (qY (qA qG (qA qG qB))) (qA (qY (qA qG (qA qG qB))) (qA (qY (qA qG (qA qG qB))) (qA (qY (qA (qE7 vW qG) (qA qG qB))) (qA (qY (qA qG (qA qG qB))) qB))))))))) (qP qi (qP qf (pv 0) qG) qG) (λ_ _=>rfl)))
  (qD (qW 2 vT.nd (jN qh (qo (qA (qY (qA qG (qA qG qB))) (qA (qY (qA qG (qA qG qB))) (qA (qY (qA qG (qA qG qB))) (qA (qY (qA qG (qA qG qB))) (qA (qY (qA qG (qA qG qB))) (qA (qY (qA qG (qA qG qB))) (qA (qY (qA qG (qA qG qB))) (qA (qY (qA qG (qA qG qB))) qB))))))))) (qP qi (qP qf (pv 0) qG) qG) (λ_ _=>rfl)))
  (qF (qK (qY (qA qR (qA (jN qh (qo (qA qR (qA qR (qA qR qB)))) (qP qi (pv 0) qG) (λ_ _=>rfl)) (qA (pv 2) (qA (pv 1) (qA (qP qk qG (qP qi (qP qf (pv 0) qG) qG)) qB)))))))))),?_⟩
 try dsimp only[jD,qc]
 have s8:(8:Nat)<=sizeLine:=by decide
 have a0:Prs SpG H []:=λv hv=>by cases hv
 refine⟨sL2,λt1 h1=>?_⟩;obtain⟨e1,a1⟩:=jT (p:=1) (q:=1) (Same.refl H) a0 h1 (by unfold SpG;decide);change _;generalize upd _ t1 _=H1 at e1 a1⊢;refine⟨sL2,λt2 h2=>?_⟩;obtain⟨e2,a2⟩:=jT (p:=1) (q:=2) e1 a1 h2 (by unfold SpG;decide);change _;generalize upd _ t2 _=H2 at e2 a2⊢;refine⟨_,O,sL2,λt3 h3=>?_⟩;obtain⟨e3,a3⟩:=jT (p:=(-1)) (q:=1) e2 a2 h3 (by unfold SpG;decide);change _;generalize upd _ t3 _=H3 at e3 a3⊢;refine⟨sL2,λt4 h4=>?_⟩;obtain⟨e4,a4⟩:=jT (p:=0) (q:=1) e3 a3 h4 (by unfold SpG;decide);change _;generalize upd _ t4 _=H4 at e4 a4⊢;refine⟨sL2,λt5 h5=>?_⟩;obtain⟨e5,a5⟩:=jT (p:=2) (q:=1) e4 a4 h5 (by unfold SpG;decide);change _;generalize upd _ t5 _=H5 at e5 a5⊢;refine⟨sL2,λt6 h6=>?_⟩;obtain⟨e6,a6⟩:=jT (p:=3) (q:=2) e5 a5 h6 (by unfold SpG;decide);change _;generalize upd _ t6 _=H6 at e6 a6⊢;refine⟨_,O,sL2,λt7 h7=>?_⟩;obtain⟨e7,a7⟩:=jT (p:=(-5)) (q:=3) e6 a6 h7 (by unfold SpG;decide);change _;generalize upd _ t7 _=H7 at e7 a7⊢;refine⟨sL2,λt8 h8=>?_⟩;obtain⟨e8,a8⟩:=jT (p:=2) (q:=7) e7 a7 h8 (by unfold SpG;decide);change _;generalize upd _ t8 _=H8 at e8 a8⊢;refine⟨s8,λl hl=>?_⟩;have w1:=qE hl (.lst [.ref t1,.ref t2,.ref t3,.ref t4,.ref t5,.ref t6,.ref t7,.ref t8]);have f1:=fm (x.fdiv 7) (show (0:Int)<8 by decide);refine qS λ_ Y=>?_;obtain⟨v,hv,hmem⟩:=vF (xs:=[V.ref t1,.ref t2,.ref t3,.ref t4,.ref t5,.ref t6,.ref t7,.ref t8]) (i:=(x.fdiv 7).fmod 8) f1.1 (show _<((8:Nat):Int) by omega);obtain⟨ts,r,s1,rfl,hts,hg⟩:=a8 v hmem;apply Y;refine⟨_,O,_,_,O,O,cdB (by decide) (by decide),_,_,O,O,nz,l,_,_,_,O,O,SqL.of qC,hv,?_⟩;have hts:=w1 _ _ hts;have e10:=e8.trans w1;change _;generalize upd H8 l _=J at hts e10⊢;clear a0 a1 a2 a3 a4 a5 a6 a7 a8 e1 e2 e3 e4 e5 e6 e7 e8 h1 h2 h3 h4 h5 h6 h7 h8 hv hmem hl w1;have a0:Prs StG J []:=λv hv=>by cases hv
 have e0:=Same.refl J;refine⟨sL2,λt1 h1=>?_⟩;obtain⟨e1,a1⟩:=jT (p:=20) (q:=1) e0 a0 h1 (by unfold StG;decide);change _;generalize upd _ t1 _=H1 at e1 a1⊢;refine⟨sL2,λt2 h2=>?_⟩;obtain⟨e2,a2⟩:=jT (p:=39) (q:=2) e1 a1 h2 (by unfold StG;decide);change _;generalize upd _ t2 _=H2 at e2 a2⊢;refine⟨sL2,λt3 h3=>?_⟩;obtain⟨e3,a3⟩:=jT (p:=61) (q:=3) e2 a2 h3 (by unfold StG;decide);change _;generalize upd _ t3 _=H3 at e3 a3⊢;refine⟨sL2,λt4 h4=>?_⟩;obtain⟨e4,a4⟩:=jT (p:=18) (q:=1) e3 a3 h4 (by unfold StG;decide);change _;generalize upd _ t4 _=H4 at e4 a4⊢;refine⟨sL2,λt5 h5=>?_⟩;obtain⟨e5,a5⟩:=jT (p:=141) (q:=7) e4 a4 h5 (by unfold StG;decide);change _;generalize upd _ t5 _=H5 at e5 a5⊢;refine⟨sL2,λt6 h6=>?_⟩;obtain⟨e6,a6⟩:=jT (p:=22) (q:=1) e5 a5 h6 (by unfold StG;decide);change _;generalize upd _ t6 _=H6 at e6 a6⊢;refine⟨sL2,λt7 h7=>?_⟩;obtain⟨e7,a7⟩:=jT (p:=20) (q:=1) e6 a6 h7 (by unfold StG;decide);change _;generalize upd _ t7 _=H7 at e7 a7⊢;refine⟨sL2,λt8 h8=>?_⟩;obtain⟨e8,a8⟩:=jT (p:=19) (q:=1) e7 a7 h8 (by unfold StG;decide);change _;generalize upd _ t8 _=H8 at e8 a8⊢;refine⟨s8,λl2 hl=>?_⟩;have w1:=qE hl (.lst [.ref t1,.ref t2,.ref t3,.ref t4,.ref t5,.ref t6,.ref t7,.ref t8]);have f2:=fm (x.fdiv 56) (show (0:Int)<8 by decide);refine qS λ_ Y=>?_;obtain⟨v,hv,hmem⟩:=vF (xs:=[V.ref t1,.ref t2,.ref t3,.ref t4,.ref t5,.ref t6,.ref t7,.ref t8]) (i:=(x.fdiv 56).fmod 8) f2.1 (show _<((8:Nat):Int) by omega);obtain⟨tp,p,q,rfl,htp,hp⟩:=a8 v hmem;apply Y;refine⟨_,O,_,_,O,O,cdB (by decide) (by decide),_,_,O,O,nz,l2,_,_,_,O,O,SqL.of qC,hv,?_⟩;have htp:=w1 _ _ htp;have e11:=e8.trans w1;change _;generalize upd H8 l2 _=J2 at htp e11⊢;clear a0 a1 a2 a3 a4 a5 a6 a7 a8 e0 e1 e2 e3 e4 e5 e6 e7 e8 h1 h2 h3 h4 h5 h6 h7 h8 hv hmem hl w1;refine⟨sL3,λl3 hl=>?_⟩;have w1:=qE hl (.lst [.str "a",.str "b",.str "long"]);have f3:=fm x (show (0:Int)<3 by decide);refine qS λ_ Y=>?_;obtain⟨v,hv,hmem⟩:=vF (xs:=[V.str "a",.str "b",.str "long"]) (i:=x.fmod 3) f3.1 (show _<((3:Nat):Int) by omega);obtain⟨n,rfl,hn⟩:∃n:Str,v=.str n/\(n="a"\/n="b"\/n="long"):=by simp only[YU,ZD,or_false]at hmem;rcases hmem with rfl|rfl|rfl <;> exact⟨_,rfl,by simp⟩
 apply Y;refine⟨_,O,_,_,O,O,nz,l3,_,_,_,O,O,SqL.of qC,hv,?_⟩;have f4:=fm (x.fdiv 448) (show (0:Int)<7 by decide);refine⟨_,O,_,O,_,O,_,_,O,O,cdB (by decide) (by decide),_,_,O,O,nz,_,_,O,O,sL5,λz hz=>?_⟩;have w2:=qE hz (.tup [.str "clip",.str n,.ref tp,.ref ts,.int (1+(x.fdiv 448).fmod 7)]);exact kk z (.clip n p q r s1 (1+(x.fdiv 448).fmod 7)) _ (((e10.trans e11).trans w1).trans w2) ⟨z,tp,ts,O,qC,w2 _ _ (w1 _ _ htp),w2 _ _ (w1 _ _ (e11 _ _ hts))⟩ rfl λA hA=>qPd hA hn hp hg (by omega) (by omega)
theorem qSr{x:Int}(hx:0<=x)(hb:0<b):0<=x.fdiv b:=by rw[Int.fdiv_eq_ediv_of_nonneg _ (by omega)];exact Int.ediv_nonneg hx (by omega)
def ItD(m:Im):Prop:=(∃n b l,m=.nest n b l/\(n="z"\/n="other")/\0<=b/\b<30/\1<=l/\l<=6)\/(m.wd="clip"/\∀A:Rg,A.Ok->LayG A m)
inductive qIw(vs:List V)(H:Hp)(Q:VK)(_:XK):Prop
|mk (x:Int) (_:vs=[.int x]) (_:0<=x) (_:∀(z:Addr) (m:Im) (H':Hp),Same H H'->IsI H' m (.ref z)->ItD m->Q (.ref z) H')
theorem qCy(T:Tx K mg a):FnOk P w K mg base CX0 2 a.A80 a.B80 ["_law_x"] qIw:=by
 refine oL T.D80.F qJv λ_ A _ _ H vs Q _ hr h _ Y=>?_;obtain⟨x,rfl,x0,kk⟩:=h;apply Y;refine⟨_,(qD (qZ (qM jM (qP qi (pv 0) qG) qG (qO _)) (qF (qK (qY (qA qR (qA (jN qh (qo (qA qR (qA qR qB))) (qP qi (qP qf (pv 0) qG) qG) (λ_ _=>rfl)) (qA (qP qi (qP qf (pv 0) qG) qG) (qA (qP qk qG (qP qi (qP qf (pv 0) qG) qG)) qB))))))) qN)
  (qF (qK (qI T.D79 (vN T) hr rfl (qA (qP qf (pv 0) qG) qB))))),?_⟩
 try dsimp only[jD,qc]
 refine⟨_,O,_,_,O,O,nz,O,_,O,ja (λ_=>?_) (λ_=>?_)⟩
 . refine⟨sL2,λl hl=>?_⟩
   have w1:=qE hl (.lst [.str "z",.str "other"]);have f1:=fm (x.fdiv 5) (show (0:Int)<2 by decide);have f2:=fm (x.fdiv 10) (show (0:Int)<30 by decide);have f3:=fm (x.fdiv 300) (show (0:Int)<6 by decide);refine qS λ_ Y=>?_;obtain⟨v,hv,hmem⟩:=vF (xs:=[V.str "z",.str "other"]) (i:=(x.fdiv 5).fmod 2) f1.1 (show _<((2:Nat):Int) by omega);obtain⟨n,rfl,hn⟩:∃n:Str,v=.str n/\(n="z"\/n="other"):=by simp only[YU,ZD,or_false]at hmem;rcases hmem with rfl|rfl <;> exact⟨_,rfl,by simp⟩
   apply Y;refine⟨_,O,_,_,O,O,cdB (by decide) (by decide),_,_,O,O,nz,l,_,_,_,O,O,SqL.of qC,hv,?_⟩;refine⟨_,O,_,_,O,O,cdB (by decide) (by decide),_,_,O,O,nz,_,O,_,_,O,O,cdB (by decide) (by decide),_,_,O,O,nz,_,_,O,O,sL4,λz hz=>?_⟩;exact kk z (.nest n ((x.fdiv 10).fmod 30) (1+(x.fdiv 300).fmod 6)) _ (w1.trans (qE hz _)) ⟨z,O,qC⟩ (.inl ⟨_,_,_,O,hn,f2.1,f2.2,by omega,by omega⟩)
 . refine⟨_,O,_,_,O,O,cdB (by decide) (by decide),_,O,qSr x0 (by decide),λz m H' e hI hc hL=>kk z m H' e hI (.inr ⟨hc,hL⟩)⟩
def DeD(d:De):Prop:= ∀A:Rg,A.Ok->A.nst "z"->A.nst "other"->DeN A 24 d
inductive qKf(vs:List V)(H:Hp)(Q:VK)(_:XK):Prop
|mk (x y L:Int) (_:vs=[.int x,.int y,.int L]) (_:0<=x) (_:0<=y) (_:1<=L) (_:∀(dz:Addr) (n:Nat) (d:De) (H':Hp),Same H H'->(n:Int)<L->DeAt H' dz n d->DeD d->Q (.ref dz) H')
theorem ItD.lay(h:ItD m)(hA:A.Ok)(h1:A.nst "z")(h2:A.nst "other"):LayG A m:=by
 rcases h with ⟨n,b,l,rfl,hn,b0,b1,l0,l1⟩|⟨_,h⟩
 . refine .inl ⟨n,b,l,O,?_,?_,b0,l0,by omega,by omega⟩
   . rcases hn with rfl|rfl
     . exact h1
     . exact h2
   . rcases hn with rfl|rfl <;> decide+kernel
 . exact h A hA
theorem qJ4(T:Tx K mg a):FnOk P w K mg base CX0 3 a.A81 a.B81 ["_law_x","_law_y","_law_tracks"] qKf:=by
 refine oL T.D81.F zc λ_ A _ _ H _ Q _ hr h _ Y=>?_;obtain⟨x,y,L,rfl,x0,y0,L1,kk⟩:=h;apply Y;refine⟨_,(qD (qW 3 zc.nd (qP qi (pv 0) (pv 2)))
  (qD (qW 4 zc.nd (qP qi (qP qf (pv 0) qG) qG))
  (qD (qW 5 zc.nd (qP qi (pv 1) qG))
  (qD (qZ (qM zM (pv 5) qG (qO _)) (qF (qK (qY (qA qR (qA (pv 3) (qA (pv 4) (qA (qI T.D80 (qCy T) hr rfl (qA (qP qf (pv 1) qG) qB)) qB))))))) qN)
  (qD (qZ (qM zM (pv 5) qG (qO _)) (qF (qK (qY (qA qR (qA (pv 3) (qA (pv 4) (qA (qI T.D80 (qCy T) hr rfl (qA (qP qf (pv 1) qG) qB)) qB))))))) qN)
  (qD (qZ (qM zM (pv 5) qG (qO _)) (qF (qK (qY (qA (jN qh (qo (qA qR (qA qR qB))) (qP jG (pv 5) qG) (λ_ _=>rfl)) (qA (pv 3) (qA (pv 4) qB)))))) qN)
  (qD (qZ (qM zM (pv 5) qG (qO _)) (qF (qK (qY (qA (jN qh (qo (qA qR (qA qR qB))) (qP jG (pv 5) qG) (λ_ _=>rfl)) (qA (pv 3) (qA (pv 4) (qA (qP qk (qP qk (pv 4) qG) (qP qi (qP qf (pv 1) qG) qG)) qB))))))) qN)
  (qD (qZ (qM jM (pv 5) qG (qO _)) (qF (qK (qY (qA qR (qA (pv 3) (qA (pv 4) (qA (qP qk qG (qP qi (qP qf (pv 1) qG) qG)) qB))))))) qN)
  (qD (qZ (qM zM (pv 5) qG (qO _)) (qF (qK (qY (qA (jN qh (qo (qA qR (qA qR (qA qR qB)))) (qP jG (pv 5) qG) (λ_ _=>rfl)) (qA (pv 3) (qA (pv 4) (qA (qP jG (qP qi (qP qf (pv 1) qG) qG) qG) qB))))))) qN)
  (qD (qZ (qM zM (pv 5) qG (qO _)) (qF (qK (qY (qA qR (qA (pv 3) (qA (pv 4) (qA (qP qk qG (qP qi (qP qf (pv 1) qG) qG)) qB))))))) qN)
  (qF (qK (qY (qA qR (qA (pv 3) (qA (pv 4) qB)))))))))))))))),?_⟩
 try dsimp only[jD,qc]
 have f1:=fm x (show 0<L by omega);have f2:=fm (x.fdiv 7) (show (0:Int)<24 by decide);have f3:=fm y (show (0:Int)<18 by decide);refine⟨_,O,_,O,_,_,O,O,(by omega),?_⟩;obtain⟨n,hn⟩:=Int.eq_ofNat_of_zero_le f1.1;dsimp only;rw[hn]at f1⊢;refine⟨_,O,_,_,O,O,cdB (by decide) (by decide),_,_,O,O,nz,?_⟩;dsimp only;generalize (x.fdiv 7).fmod 24=t at f2⊢;refine⟨_,O,_,_,O,O,nz,?_⟩;dsimp only;generalize y.fmod 18=wy at f3⊢;have y18:=qSr y0 (show (0:Int)<18 by decide);have t4:t<=24+4:=by omega
 have fin:∀(dz:Addr) (d:De) (H':Hp),Same H H'->DeAt H' dz n d->DeD d->Q (.ref dz) H':=λdz d H' e h1 h2=>kk dz n d H' e f1.2 h1 h2;refine⟨_,O,_,_,O,O,_,O,ja (λ_=>?_) (λ_=>?_)⟩
 . refine⟨_,O,_,O,_,O,_,_,O,O,cdB (by decide) (by decide),_,O,y18,λz m H1 e1 hI hD=>⟨sL4,λdz hdz=>?_⟩⟩
   have w1:=qE hdz (.tup [.str "lay_in",.int (n:Int),.int t,.ref z]);exact fin dz (.chg (.lin t m)) _ (e1.trans w1) ⟨⟨_,qC,hI.ts (qd w1)⟩,λ_ q=>by cases q⟩ λA a1 a2 a3=>⟨f2.1,t4,hD.lay a1 a2 a3⟩
 refine⟨_,O,_,_,O,O,_,O,ja (λ_=>?_) (λc1=>?_)⟩
 . refine⟨_,O,_,O,_,O,_,_,O,O,cdB (by decide) (by decide),_,O,y18,λz m H1 e1 hI hD=>⟨sL4,λdz hdz=>?_⟩⟩
   have w1:=qE hdz (.tup [.str "lay_over",.int (n:Int),.int t,.ref z]);exact fin dz (.chg (.lov t m)) _ (e1.trans w1) ⟨⟨_,qC,hI.ts (qd w1)⟩,λ_ q=>by cases q⟩ λA a1 a2 a3=>⟨f2.1,t4,hD.lay a1 a2 a3⟩
 have g1:6<=wy:=by simpa using c1
 refine⟨_,O,_,_,O,O,_,O,ja (λc=>?_) (λc2=>?_)⟩
 . have g2:wy<8:=by simpa using c
   refine⟨sL2,λl hl=>?_⟩;refine qS λ_ Y=>?_;obtain⟨v,hv,hmem⟩:=vF (xs:=[V.str "cut",.str "heal"]) (i:=wy-6) (by omega) (show _<((2:Nat):Int) by omega);apply Y;refine⟨_,O,_,_,O,O,l,_,_,v,O,O,SqL.of qC,hv,_,O,_,O,sL3,λdz hdz=>?_⟩;have e:=(qE hl (.lst [.str "cut",.str "heal"])).trans (qE hdz (.tup [v,.int (n:Int),.int t]));simp only[YU,ZD,or_false]at hmem;rcases hmem with rfl|rfl
   . exact fin dz (.chg (.cut t)) _ e ⟨qC,λ_ q=>by cases q⟩ λA _ _ _=>⟨f2.1,t4⟩
   . exact fin dz (.hel t) _ e qC λA _ _ _=>⟨f2.1,t4⟩
 have g2:8<=wy:=by simpa using c2
 have f6:=fm (y.fdiv 18) (show (0:Int)<6 by decide);have f5:=fm (y.fdiv 18) (show (0:Int)<5 by decide);have f9:=fm (y.fdiv 18) (show (0:Int)<9 by decide);refine⟨_,O,_,_,O,O,_,O,ja (λc=>?_) (λc3=>?_)⟩
 . have g3:wy<10:=by simpa using c
   refine⟨sL2,λl hl=>?_⟩;refine qS λ_ Y=>?_;obtain⟨v,hv,hmem⟩:=vF (xs:=[V.str "close",.str "lift"]) (i:=wy-8) (by omega) (show _<((2:Nat):Int) by omega);apply Y;refine⟨_,O,_,_,O,O,l,_,_,v,O,O,SqL.of qC,hv,_,O,_,O,_,O,_,_,O,O,_,O,_,_,O,O,cdB (by decide) (by decide),_,_,O,O,nz,_,_,O,O,sL4,λdz hdz=>?_⟩;have e:=(qE hl (.lst [.str "close",.str "lift"])).trans (qE hdz (.tup [v,.int (n:Int),.int t,.int (t+1+(y.fdiv 18).fmod 6)]));simp only[YU,ZD,or_false]at hmem;rcases hmem with rfl|rfl
   . exact fin dz (.chg (.cls t (t+1+(y.fdiv 18).fmod 6))) _ e ⟨qC,λ_ q=>by cases q⟩ λA _ _ _=>⟨f2.1,t4,by omega,by omega⟩
   . exact fin dz (.chg (.lft t (t+1+(y.fdiv 18).fmod 6))) _ e ⟨qC,λ_ q=>by cases q⟩ λA _ _ _=>⟨f2.1,t4,by omega,by omega⟩
 have g3:10<=wy:=by simpa using c3
 refine⟨_,O,O,_,O,ja (λc=>?_) (λc4=>?_)⟩
 . refine⟨_,O,_,O,_,O,_,_,O,O,cdB (by decide) (by decide),_,_,O,O,nz,_,_,O,O,sL4,λdz hdz=>?_⟩
   exact fin dz (.chg (.opn t (1+(y.fdiv 18).fmod 5))) _ (qE hdz _) ⟨qC,λ_ q=>by cases q⟩ λA _ _ _=>⟨f2.1,t4,by omega,by omega⟩
 have g4:wy≠10:=by simpa using c4
 refine⟨_,O,_,_,O,O,_,O,ja (λc=>?_) (λ_=>?_)⟩
 . have g5:wy<14:=by simpa using c
   refine⟨sL3,λl hl=>?_⟩;refine qS λ_ Y=>?_;obtain⟨v,hv,hmem⟩:=vF (xs:=[V.str "roll",.str "slip",.str "slide"]) (i:=wy-11) (by omega) (show _<((3:Nat):Int) by omega);obtain⟨wd,rfl,hw⟩:∃wd:Str,v=.str wd/\Wd3 wd:=by unfold Wd3;simp only[YU,ZD,or_false]at hmem;rcases hmem with rfl|rfl|rfl <;> exact⟨_,rfl,by simp⟩
   apply Y;refine⟨_,O,_,_,O,O,l,_,_,_,O,O,SqL.of qC,hv,_,O,_,O,_,O,_,_,O,O,cdB (by decide) (by decide),_,_,O,O,nz,_,_,O,O,sL4,λdz hdz=>?_⟩;exact fin dz (.rol wd t ((y.fdiv 18).fmod 9-4)) _ ((qE hl _).trans (qE hdz _)) ⟨hw,qC⟩ λA _ _ _=>⟨hw,f2.1,t4,by omega⟩
 refine⟨_,O,_,_,O,O,_,O,ja (λc=>?_) (λ_=>?_)⟩
 . refine⟨_,O,_,O,_,O,_,_,O,O,cdB (by decide) (by decide),_,_,O,O,nz,_,_,O,O,sL4,λdz hdz=>?_⟩
   exact fin dz (.mix t (1+(y.fdiv 18).fmod 5)) _ (qE hdz _) qC λA _ _ _=>⟨f2.1,t4,by omega,by omega⟩
 . refine⟨_,O,_,O,sL3,λdz hdz=>?_⟩
   exact fin dz (.unm t) _ (qE hdz _) qC λA _ _ _=>⟨f2.1,t4⟩
theorem DeAt.lay{n:Nat}{d:De}(h:DeAt H dz n d):(∃xs w,H dz=some (.tup xs)/\atI xs 0=some (.str w)/\inV (.str w) [.str "lay_in",.str "lay_over"]=false/\∀t m,d≠ .chg (.lin t m)/\d≠ .chg (.lov t m))\/
 ∃w t m v,(w="lay_in"\/w="lay_over")/\H dz=some (.tup [.str w,.int (n:Int),.int t,v])/\IsI H m v/\(d=.chg (.lin t m)\/d=.chg (.lov t m)):=by
 cases d with
 |hel t=>exact .inl ⟨_,_,h,rfl,by decide+kernel,λ_ _=>⟨nofun,nofun⟩⟩
 |mix t l=>exact .inl ⟨_,_,h,rfl,by decide+kernel,λ_ _=>⟨nofun,nofun⟩⟩
 |unm t=>exact .inl ⟨_,_,h,rfl,by decide+kernel,λ_ _=>⟨nofun,nofun⟩⟩
 |rol w t b=>
  refine .inl ⟨_,_,h.2,O,?_,λ_ _=>⟨nofun,nofun⟩⟩;rcases h.1 with rfl|rfl|rfl <;> decide+kernel
 |chg d=>
  obtain⟨h,_⟩:=h;cases d with
  |cut t=>exact .inl ⟨_,_,h,rfl,by decide+kernel,λ_ _=>⟨nofun,nofun⟩⟩
  |hel t=>exact .inl ⟨_,_,h,rfl,by decide+kernel,λ_ _=>⟨nofun,nofun⟩⟩
  |opn t l=>exact .inl ⟨_,_,h,rfl,by decide+kernel,λ_ _=>⟨nofun,nofun⟩⟩
  |cls t u=>exact .inl ⟨_,_,h,rfl,by decide+kernel,λ_ _=>⟨nofun,nofun⟩⟩
  |lft t u=>exact .inl ⟨_,_,h,rfl,by decide+kernel,λ_ _=>⟨nofun,nofun⟩⟩
  |lin t m=>obtain⟨v,h1,h2⟩:=h;exact .inr ⟨_,t,m,v,.inl rfl,h1,h2,.inl rfl⟩
  |lov t m=>obtain⟨v,h1,h2⟩:=h;exact .inr ⟨_,t,m,v,.inr rfl,h1,h2,.inr rfl⟩
def DeC(d:De):Prop:= ∀A:Rg,A.Ok->DeN A 24 d
theorem DeD.c{d:De}(h:DeD d)(hn:∀t m,d≠ .chg (.lin t m)/\d≠ .chg (.lov t m)):DeC d:=λA hA=>by
 have:=h ⟨A.a,A.b,A.l,λ_=>True⟩ ⟨hA.a0,hA.a1,hA.b0,hA.b1,hA.l0,hA.l1⟩ trivial trivial;cases d with
 |chg d=>
  cases d with
  |lin t m=>exact YC rfl (hn t m).1
  |lov t m=>exact YC rfl (hn t m).2
  |_=>exact this
 |_=>exact this
inductive qEd(vs:List V)(H:Hp)(Q:VK)(_:XK):Prop
|mk (dz:Addr) (n:Nat) (d:De) (_:vs=[.ref dz]) (_:DeAt H dz n d) (_:DeD d) (_:∀(z:Addr) (d':De) (H':Hp),Same H H'->DeAt H' z n d'->DeC d'->Q (.ref z) H')
theorem qSt{d:De}{t:Int}(h:DeD d)(hd:d=.chg (.lin t m)\/d=.chg (.lov t m)):0<=t/\t<=24+4/\((∃n b l,m=.nest n b l/\1<=l/\l<=9)\/m.wd="clip"/\DeC d):=by
 have a:=h ⟨40,40,40,λ_=>True⟩ ⟨by decide,by decide,by decide,by decide,by decide,by decide⟩ trivial trivial;have k:0<=t/\t<=24+4/\LayG ⟨40,40,40,λ_=>True⟩ m:=by
  rcases hd with rfl|rfl
  . exact a
  . exact a
 refine⟨k.1,k.2.1,?_⟩;rcases k.2.2 with ⟨n,b,l,rfl,_,_,_,l1,l2,_⟩|⟨n,p,q,r,s,l,N,rfl,_⟩
 . exact .inl ⟨n,b,l,O,l1,l2⟩
 . refine .inr ⟨O,λA hA=>?_⟩
   have b:=h ⟨A.a,A.b,A.l,λ_=>True⟩ ⟨hA.a0,hA.a1,hA.b0,hA.b1,hA.l0,hA.l1⟩ trivial trivial;have qg:∀{N:Int},GC ⟨A.a,A.b,A.l,λ_=>True⟩ n p q r s l N->GC A n p q r s l N:=λg=>⟨g.rn,g.n1,g.n2,g.q0,g.s0,g.g1,g.g2,g.dq,g.ds,g.rb,g.l1,g.i0,g.i1⟩;have f:LayG ⟨A.a,A.b,A.l,λ_=>True⟩ (.clip n p q r s l)->LayG A (.clip n p q r s l):=λg=>by
    rcases g with ⟨_,_,_,e,_⟩|⟨n',p',q',r',s',l',N',e,g1,g2⟩
    . cases e
    . cases e;exact .inr ⟨_,_,_,_,_,_,_,rfl,qg g1,g2⟩
   rcases hd with rfl|rfl
   . exact⟨b.1,b.2.1,f b.2.2⟩
   . exact⟨b.1,b.2.1,f b.2.2⟩
theorem qEg(T:Tx K mg a):FnOk P w K mg base CX0 1 a.A84 a.B84 ["_law_deed_here"] qEd:=by
 refine oL T.D84.F qEz λ_ A _ _ H vs Q _ hr h _ Y=>?_;obtain⟨dz,n,d,rfl,hA,hD,kk⟩:=h;apply Y;refine⟨_,(qD (qZ (PW.pt (vO (qM xc (qJ (pv 0)) (qo (qA qR (qA qR qB))) rfl) (zK (qM jM (qJ (qJ (pv 0))) qR (qO _))))) (qF (qK (qY (qA qR (qA (qJ (pv 0)) (qA (qJ (pv 0)) (qA (qJ (qJ (pv 0))) qB))))))) qN)
  (qF (qK (pv 0)))),?_⟩
 try dsimp only[jD,qc]
 rcases hA.lay with ⟨xs,wd,hd,h0,hi,hn⟩|⟨wd,t,m,v,hw,hd,hI,hdd⟩
 . refine⟨_,O,dz,_,_,_,O,O,SqT.of hd,h0,sL2,λq hq=>⟨q,_,O,.inl (SqL.of qC),O,O,_,zj rfl,ja (λc=>?_) (λ_=>?_)⟩⟩
   . exact YC (hi.symm.trans c) YZ
   . exact⟨_,O,kk dz d _ (qE hq _) (hA.same (qE hq _)) (hD.c hn)⟩
 . obtain⟨t0,t1,hk⟩:=qSt hD hdd
   have hi:inV (.str wd) [.str "lay_in",.str "lay_over"]=true:=by rcases hw with rfl|rfl <;> decide+kernel
   refine(ixO hd rfl ⟨sL2,λq hq=>?_⟩);have w1:=qE hq (.lst [.str "lay_in",.str "lay_over"]);refine⟨q,_,O,.inl (SqL.of qC),O,O,_,zj rfl,ja (λ_=>?_) (λc=>YC hi c)⟩;have hd1:=w1 _ _ hd;have hI1:=hI.ts (qd w1);refine qS λ_ Y=>?_;obtain⟨zi,xi,rfl,hzi,h0,_⟩:=hI1.opn;apply Y;refine(ixO hd1 rfl ⟨zi,xi,_,_,O,O,SqT.of hzi,h0,O,_,O,?_⟩);rcases hk with ⟨nn,b,l,rfl,l1,l2⟩|⟨hc,hC⟩
   . obtain⟨zi',ez,hzn⟩:=id hI1
     cases ez;refine ja (λ_=>?_) (λc=>YC (by show decide (V.str "nest"=V.str "nest")=true;simp) c);refine(ixO hd1 rfl (ixO hd1 rfl (ixO hd1 rfl (ixT (SqT.of hzn) rfl ⟨sL4,λz hz=>?_⟩))));exact kk z (.chg (.opn t l)) _ (w1.trans (qE hz _)) ⟨qC,λ_ q=>by cases q⟩ λA _=>⟨t0,t1,l1,l2⟩
   . refine ja (λc=>?_) (λ_=>⟨_,O,kk dz d _ w1 (hA.same w1) hC⟩)
     have c':decide (V.str m.wd=V.str "nest")=true:=c;rw[hc]at c';exact YC c' (by decide+kernel)
inductive qIf(vs:List V)(H:Hp)(Q:VK)(_:XK):Prop
|mk (c:Int) (_:vs=[.int c]) (_:(c=0\/c=2)) (_:∀(t:Addr) (H':Hp),Same H H'->TabF H' (.ref t) (List.replicate (1+c.fmod 3).toNat []) []->Q (.ref t) H')
theorem qR3{H:Hp}:∀{n:Nat} {vs:List V},vs.length=n->(∀v∈vs,∃z:Addr,v=.ref z/\Tr H z [])->TrsAt H (List.replicate n []) vs
 |0,[],_,_=>trivial
 |n+1,v::vs,hl,h=>⟨h v (by simp),qR3 (by simpa using hl) λv hv=>h v (by simp[hv])⟩
theorem qBh(T:Tx K mg a):FnOk P w K mg base CX0 1 a.A82 a.B82 ["_law_cell"] qIf:=by
 refine oL T.D82.F kK λ_ A _ _ H vs Q _ hr h _ Y=>?_;obtain⟨c,rfl,hc,kk⟩:=h;apply Y;refine⟨_,(qD (qPr (i:=1) kK.nd rfl (Or.inr rfl) (qP qk qG (qP qi (pv 0) qG)))
  (qD (qW 2 kK.nd (jN qh (qo (qA (qo qB) (qA (qo (qA qG qB)) (qA (qo (qA qG (qA qG qB))) (qA (qo (qA qG (qA qG qB))) (qA (qo (qA qG (qA qG qB))) (qA (qo (qA qG (qA qG (qA qG qB)))) qB))))))) (qP qi (qP qf (pv 0) qG) qG) (λ_ _=>rfl)))
  (qF (qK (qY (qA (wU [] [] rfl (qE6 rfl T.b_range (qA (pv 1) qB)) (λ_ _ _ _=>(qo qB))) (qA (qNo ["_law_tracks"] [1] rfl (jl (pv 2)) (λ_ _ _ _=>(qM zM (pv 0) (pv 1) (qO _))) (λ_ _ _ _=>(pv 0))) qB))))))),?_⟩
 try dsimp only[jD,qc]
 have f1:=fm c (show (0:Int)<3 by decide);have e0:(c.fdiv 3).fmod 6=0:=by rcases hc with rfl|rfl <;> decide
 refine⟨_,O,_,_,O,O,nz,_,_,O,O,?_⟩;refine⟨sL0,λl0 h0=>⟨sL1,λl1 h1=>⟨sL2,λl2 h2=>⟨sL2,λl3 h3=>⟨sL2,λl4 h4=>⟨sL3,λl5 h5=>⟨(by show 6<=sizeLine;decide),λl6 h6=>?_⟩⟩⟩⟩⟩⟩⟩;have w:=(((((qE h1 (.lst [.int 0])).trans (qE h2 (.lst [.int 0,.int 1]))).trans (qE h3 (.lst [.int 1,.int 2]))).trans (qE h4 (.lst [.int 0,.int 2]))).trans (qE h5 (.lst [.int 0,.int 1,.int 2]))).trans (qE h6 (.lst [.ref l0,.ref l1,.ref l2,.ref l3,.ref l4,.ref l5]));have e1:=(qE h0 (.lst [])).trans w;have hl0:=w _ _ (qC (H:=H) (a:=l0) (o:=.lst []));refine⟨_,O,_,_,O,O,cdB (by decide) (by decide),_,_,O,O,nz,l6,_,_,.ref l0,O,O,SqL.of qC,(by rw[e0];rfl),?_⟩;change _;generalize upd _ l6 _=J at hl0 e1⊢;have hn:(((1+c.fmod 3).toNat:Nat):Int)=1+c.fmod 3:=by omega
 refine⟨_,rfl,_,rfl,by omega,by omega,qNx (n:=(1+c.fmod 3).toNat) (λj acc H'=>Same J H'/\acc.length=j/\∀v∈acc,∃z:Addr,v=.ref z/\Tr H' z []) ⟨Same.refl _,rfl,(λv hv=>by cases hv)⟩ ?_ ?_ ?_⟩
 . rintro j acc H' hj ⟨e,hl,hv⟩
   exact qj (by omega)
 . rintro j acc H' hj ⟨e,hl,hv⟩
   refine⟨sL0,λz hz=>Nxt.mk hj ⟨e.trans (qE hz _),by simp[hl],λv hv'=>?_⟩⟩;rcases YO.mp hv' with q|q
   . obtain⟨z',q1,q2⟩:=hv v q
     exact⟨z',q1,q2.same (qE hz _)⟩
   . rw[YY]at q
     exact⟨z,q,[],qC,trivial⟩
 rintro acc H1 ⟨e2,hl,hv⟩ d hd;have w2:=qE hd (.lst acc);have hl1:=w2 _ _ (e2 _ _ hl0);refine⟨_,O,l0,O,⟨_,SqL.of hl1⟩,qGt (K:=K) (a:=l0) (xs:=[]) (λj acc' H'=>acc'=[]/\H'=upd H1 d (.lst acc)) ⟨O,O⟩ ?_ ?_ ?_⟩
 . rintro j acc' H' hj ⟨rfl,rfl⟩
   exact⟨SqL.of hl1,by decide⟩
 . rintro j x acc' H' hj
   exact YC hj (Nat.not_lt_zero _)
 rintro acc' H' ⟨rfl,rfl⟩ d2 hd2;have w3:=qE hd2 (.lst []);refine⟨sL2,λt ht=>?_⟩;have w4:=qE ht (.tup [.ref d,.ref d2]);exact kk t _ (((e1.trans e2).trans w2).trans (w3.trans w4)) ⟨t,d,d2,acc,rfl,qC,w4 _ _ (w3 _ _ qC),qR3 hl λv hv'=>let ⟨z,q1,q2⟩:=hv v hv';⟨z,q1,q2.same (w2.trans (w3.trans w4))⟩,w4 _ _ qC⟩
inductive qG1(vs:List V)(H:Hp)(Q:VK)(_:XK):Prop
|mk (tz dz re:Addr) (A:Rg) (M:Int) (c:Nat) (ts:List (List Im)) (n:Nat) (d:De) (_:vs=[.ref tz,.ref dz,.ref re]) (_:TabF H (.ref tz) ts []) (_:TW A M c ts []) (_:RE H re A) (_:DeAt H dz n d) (_:DeN A M d) (_:n<ts.length) (_:0<=M) (_:M<=1000) (_:c<=100) (_:∀(t:Addr) (ts':List (List Im)) (H':Hp),Same H H'->TabF H' (.ref t) ts' []->TW A (M+14) (c+4) ts' []->ts'.length=ts.length->Q (.ref t) H')
theorem qTa{d:Dk}{n:Int}:∀(ns:List Int) (ts:List (List Im)),(qOb ts d n ns).length=ts.length:=λns ts=>qLb ts d n ns
theorem qVx{ts:List (List Im)}{n:Nat}{d:De}{ts':List (List Im)}(h:qFy rl ts tie n ms d=.good ts'):ts'.length=ts.length:=by
 cases d with
 |hel t=>rw[qFy]at h;split at h; · cases h
         split at h <;> cases h;rw[ZL]
 |mix t l=>rw[qFy]at h;split at h; · cases h
           split at h
           . split at h
             . cases h
             . split at h <;> cases h
               rw[ZL]
           . cases h
 |unm t=>rw[qFy]at h;split at h; · cases h
         split at h <;> cases h;rw[ZL]
 |rol w t b=>rw[qFy]at h;split at h; · cases h
             split at h
             . cases h
             . split at h <;> cases h
               rw[ZL]
 |chg d=>rw[qFy]at h;split at h
         . split at h <;> cases h
           exact qTa _ _
         . cases h
theorem x9(T:Tx K mg a):FnOk P w K mg base CX0 11 a.A83 a.B83 ["_law_table_here","_law_deed_here","_law_reels_here"] qG1:=by
 refine oL T.D83.F xD λ_ _ _ _ H _ Q _ hr h _ Y=>?_;obtain⟨tz,dz,re,A',M,c,ts,n,d,rfl,hT,hW,hR,hA,hN,hn,M0,M1,hc,kk⟩:=h;obtain⟨ms,hms⟩:∃ms,ts[n]?=some ms:=⟨_,YD hn⟩;have hg:=hW.ms ms (YF hms);have hO:=qX0 hN hg M1 hR;have hP:=hW.tabD (by omega) hc hT hR;have same:∀H',Same H H'->Q (.ref tz) H':=λH' e=>kk tz ts H' e (hT.same e) (hW.mono (by omega) (by omega)) rfl;obtain⟨Exn,hEx⟩:∃Exn:Value->Option Addr->L2.St->Hp->Prop,Exn=λB od σ H'=>Same H H'/\(∃o,σ=[some (.ref tz),some (.ref dz),some (.ref re),o])/\(B=.ref a.k_NoPlace\/B=.ref a.k_Mixed\/B=.ref a.k_Short):=⟨_,rfl⟩;apply Y;refine⟨_,(qD (qW 3 xD.nd (pv 0))
  (qD (qP6 (Exn) .none xD.nd rfl T.c_CutError (λ_=>(qF (qW 3 xD.nd (qTe T.D75 (qEj T) hr rfl (qA (pv 0) (qA (pv 1) (qA (pv 2) qB))))))) (λ_ _=>(qF (qW 3 xD.nd (pv 0)))))
  (qF (qK (pv 3))))),?_⟩
 try dsimp only[jD,qc]
 subst hEx;refine⟨_,O,⟨?_,?_⟩⟩
 . refine⟨_,O,_,O,_,O,tz,dz,re,rlE A',ts,[],_,O,hP,⟨n,ms,d,hms,hA,hO,O⟩,λ_ H' e=>⟨e,⟨_,O⟩,.inl rfl⟩,λ_ H' e=>⟨e,⟨_,O⟩,.inr (.inl rfl)⟩,λm _ dx H' e _=>⟨e,⟨_,O⟩,.inr (.inr rfl)⟩,λts' h t' H' e hN'=>?_⟩
   exact⟨_,O,kk t' ts' H' e hN' (hW.res M0 hms hN h) (qVx h)⟩
 . rintro ea ⟨B1,B2⟩ σ' H' ⟨sH,⟨o,rfl⟩,hB⟩ hn' hl'
   have eo:∀o:HO,Same H (upd H' ea o):=λo=>sH.trans (qE hn' _);rcases hB with e1|e1|e1
   . dsimp only at e1;subst e1
     exact⟨T.yPC,_,O,_,O,same _ (eo _)⟩
   . dsimp only at e1;subst e1
     exact⟨T.yMC,_,O,_,O,same _ (eo _)⟩
   . dsimp only at e1;subst e1
     exact⟨T.ySC,_,O,_,O,same _ (eo _)⟩
def SB(z:Addr)(H H':Hp):Prop:= ∀b u,b≠z->H b=some u->H' b=some u
theorem SB.refl(z:Addr)(H:Hp):SB z H H:=λ_ _ _ h=>h
theorem SB.trans{H1:Hp}(a:SB z H H1)(b:SB z H1 H2):SB z H H2:=λc u n h=>b c u n (a c u n h)
theorem vK(e:Same H H'):SB z H H':=λb u _ h=>e b u h
theorem wT:SB z H (upd H z o):=λb u n h=>by rw[qQ n];exact h
noncomputable def Rg.un(A:Rg):Rg:=⟨A.a,A.b,A.l,λ_=>False⟩
noncomputable def Rg.ab(A:Rg):Rg:=⟨A.a,A.b,A.l,λn=>n="under"⟩
theorem RE.un{H:Hp}{re:Addr}{A:Rg}(h:RE H re A):RE H re A.un:=⟨h.1,h.2.a0,h.2.a1,h.2.b0,h.2.b1,h.2.l0,h.2.l1⟩
theorem RE.ab{H:Hp}{re:Addr}{A:Rg}(h:RE H re A):RE H re A.ab:=⟨h.1,h.2.a0,h.2.a1,h.2.b0,h.2.b1,h.2.l0,h.2.l1⟩
structure RoomS(H:Hp)(re td:Addr)(A:Rg)(M:Int)(c:Nat)(U Z:List (List Im)):Prop where
 d:∃tu ta:Addr,H td=some (.dK [(Sum.inr "under",.ref tu),(Sum.inr "above",.ref ta)])/\TabF H (.ref tu) U []/\TabF H (.ref ta) Z []
 re:RE H re A
 u:TW A.un M c U []
 w:TW A.ab M c Z []
noncomputable def rm2(U Z:List (List Im)):Rms:=λn=>if n="under" then some U else if n="above" then some Z else none
theorem nab:("above":Str)≠"under":=by decide+kernel
theorem RoomS.rm{c:Nat}(h:RoomS H re td A M c U Z)(hz:H rz=some (.tup [.ref re,.ref td])):RoomAt H rz (rm2 U Z):=by
 obtain⟨tu,ta,h1,h2,h3⟩:=h.d;refine⟨re,td,_,hz,.of h1,λnm ts e=>?_⟩;unfold rm2 at e;split at e
 . rename_i q;subst q;cases e;exact⟨_,rfl,h2.tab⟩
 . split at e
   . rename_i q;subst q;cases e;exact⟨_,rfl,h3.tab⟩
   . cases e
theorem RoomS.lv{c:Nat}(h:RoomS H re td A M c U Z)(hM:M<=1000)(hc:c<=300)(hn:nm="under"\/nm="above"):Lv (rm2 U Z) 2 nm:=by
 have lu:∀n,Lv (rm2 U Z) (n+1) "under":=λn=>⟨U,by unfold rm2;rw[YB rfl],by have:=h.u.l3;omega,λms hm=>by obtain⟨a1,a2,a3⟩:=(h.u.ms ms hm).told hM hc;exact⟨a1,a2,λm hm'=>⟨(a3 m hm').1,λnm' b l e=>((a3 m hm').2 nm' b l e).elim⟩⟩⟩
 rcases hn with rfl|rfl
 . exact lu 1
 . exact⟨Z,by unfold rm2;rw[YA nab,YB rfl],by have:=h.w.l3;omega,λms hm=>by obtain⟨a1,a2,a3⟩:=(h.w.ms ms hm).told hM hc;refine⟨a1,a2,λm hm'=>⟨(a3 m hm').1,λnm' b l e=>?_⟩⟩;obtain rfl:nm'="under":=(a3 m hm').2 nm' b l e;exact lu 0⟩
structure LT(H H':Hp):Prop where
 l:∀b xs,H b=some (.lst xs)->H' b=some (.lst xs)
 t:∀b xs,H b=some (.tup xs)->H' b=some (.tup xs)
 f:∀b o u,H b=some (.frz o u)->H' b=some (.frz o u)
theorem LT.of(e:Same H H'):LT H H':=⟨λb _ h=>e b _ h,λb _ h=>e b _ h,λb _ _ h=>e b _ h⟩
theorem LT.trans{H1:Hp}(a:LT H H1)(b:LT H1 H2):LT H H2:=⟨λx _ h=>b.l x _ (a.l x _ h),λx _ h=>b.t x _ (a.t x _ h),λx _ _ h=>b.f x _ _ (a.f x _ _ h)⟩
theorem LT.tr(e:LT H H')(h:Tr H z ms):Tr H' z ms:=let ⟨vs,h1,h2⟩:=h;⟨vs,e.l _ _ h1,h2.ts e.t⟩
theorem LT.trs{H H':Hp}(e:LT H H'):∀{ts:List (List Im)} {vs:List V},TrsAt H ts vs->TrsAt H' ts vs
 |[],[],_=>trivial
 |_::_,_::_,⟨⟨z,h1,h2⟩,h3⟩=>⟨⟨z,h1,e.tr h2⟩,e.trs h3⟩
theorem LT.tab(e:LT H H'){ts:List (List Im)}(h:TabF H v ts tie):TabF H' v ts tie:=let ⟨tt,tl,ti,zs,h1,h2,h3,h4,h5⟩:=h;⟨tt,tl,ti,zs,h1,e.t _ _ h2,e.l _ _ h3,e.trs h4,e.l _ _ h5⟩
theorem RoomS.lt(e:LT H H'){c:Nat}(h:RoomS H re td A M c U Z)(h1:H' re=H re)(h2:H' td=H td):RoomS H' re td A M c U Z:=by
 obtain⟨tu,ta,a1,a2,a3⟩:=h.d;refine⟨⟨tu,ta,h2.trans a1,e.tab a2,e.tab a3⟩,⟨?_,h.re.2⟩,h.u,h.w⟩;rcases h.re.1 with q|⟨o,q⟩
 . exact .inl (h1.trans q)
 . exact .inr ⟨o,h1.trans q⟩
theorem TW.empty{L:Nat}(h1:1<=L)(h3:L<=3):TW A 24 0 (List.replicate L []) []:=by refine⟨by rw[List.length_replicate];exact⟨h1,h3⟩,λms hm=>?_,by decide,λx hx=>by cases hx⟩;obtain⟨_,rfl⟩:=List.mem_replicate.mp hm;exact⟨λm hm=>(by cases hm),rfl,trivial,by decide,YI 0⟩
inductive qBo(vs:List V)(H:Hp)(Q:VK)(_:XK):Prop
|mk (c:Int) (_:vs=[.int c]) (_:∀(rz re td:Addr) (A:Rg) (U Z:List (List Im)) (H':Hp),Same H H'->H' rz=some (.tup [.ref re,.ref td])->H td=none->RoomS H' re td A 94 20 U Z->Q (.ref rz) H')
theorem qBk(T:Tx K mg a):FnOk P w K mg base CX0 12 a.A85 a.B85 ["_law_cell"] qBo:=by
 refine oL T.D85.F ql λ_ A _ _ H vs Q _ hr h _ Y=>?_;obtain⟨c,rfl,kk⟩:=h;apply Y;refine⟨_,(qD (qW 1 ql.nd (qI T.D78 (qH0 T) hr rfl (qA (qP qi (pv 0) (qP qT7 qG qG)) qB)))
  (qD (qW 2 ql.nd (qI T.D82 (qBh T) hr rfl (qA qG qB)))
  (qD (qW 3 ql.nd (qI T.D82 (qBh T) hr rfl (qA qG qB)))
  (qD (xj PassesOwn.never rfl (jl (x5 vV (qI T.D77 (qAo T) hr rfl (qA (qP qf (pv 0) qG) (qA qG qB))) (zw qG) vv)) (q8 (i:=4) ql.nd rfl (Or.inl rfl)) (qD (qW 2 ql.nd (qI T.D83 (x9 T) hr rfl (qA (pv 2) (qA (qY (qA qR (qA qG (qA (qP qi (pv 4) qG) (qA (qI T.D79 (vN T) hr rfl (qA (qP qf (pv 4) qG) qB)) qB))))) (qA (pv 1) qB)))))
  (qF (qW 3 ql.nd (qI T.D83 (x9 T) hr rfl (qA (pv 3) (qA (qY (qA qR (qA qG (qA (qP qi (pv 4) qG) (qA (qI T.D79 (vN T) hr rfl (qA (qP qf (pv 4) qG) qB)) qB))))) (qA (pv 1) qB))))))))
  (qD (qW 3 ql.nd (qI T.D83 (x9 T) hr rfl (qA (pv 3) (qA (qY (qA qR (qA qG (qA (qP qi (pv 0) qG) (qA (qY (qA qR (qA qR (qA (qP qi (qP qf (pv 0) qG) qG) (qA qG qB))))) qB))))) (qA (pv 1) qB)))))
  (qF (qK (qY (qA (pv 1) (qA (qQ4 (qAy qR (pv 2) (qAy qR (pv 3) qPn)) rfl rfl (by simp) (by decide)) qB)))))))))),?_⟩
 try dsimp only[jD,qc]
 refine⟨_,O,_,_,O,O,cpw (n:=6) (by decide),_,_,O,O,(by decide),_,O,λre x y z H1 e1 hre0 hre hOk=>?_⟩;obtain⟨A',hA'⟩:∃A':Rg,A'=⟨x,y,z,λ_=>False⟩:=⟨_,rfl⟩;have hR:RE H1 re A':=by subst hA';exact⟨.of hre,hOk _⟩
 have hOA:A'.Ok:=hR.2;clear hA' hre hOk;refine⟨0,O,.inl rfl,λtu H2 e2 hu=>⟨2,O,.inr rfl,λta H3 e3 ha=>?_⟩⟩;have hu:TabF H3 (.ref tu) (List.replicate 1 []) []:=hu.same e3;have ha:TabF H3 (.ref ta) (List.replicate 3 []) []:=ha;have hR3:=(hR.same e2).same e3;refine⟨_,O,_,_,O,O,cdB (by decide) (by decide),_,6,O,by decide,by decide,λl xs hl hxl hxs=>?_⟩;have w4:=qE hl (.lst (xs.map V.int));refine⟨_,O,l,_,O,SqL.of qC,λl2 hl2=>?_⟩;have w5:=qE hl2 (.lst (xl (xs.map V.int) (some 2) none));have e35:=w4.trans w5;have hl5:=(qC (H:=upd H3 l (.lst (xs.map V.int))) (a:=l2) (o:=.lst (xl (xs.map V.int) (some 2) none)));have hcv:∀v∈xl (xs.map V.int) (some 2) none,∃k:Int,v=.int k/\0<=k:=λv hv=>by
  have:v∈xs.map V.int:=by unfold xl at hv;exact List.mem_of_mem_drop (List.mem_of_mem_take hv)
  obtain⟨k,hk,rfl⟩:=List.mem_map.mp this;exact⟨k,O,(hxs k hk).1⟩
 have hcl:(xl (xs.map V.int) (some 2) none).length<=4:=by
  match xs,hxl with
  |[_,_,_,_,_,_],_=>exact Nat.le_of_eq rfl
 change _;generalize upd _ l2 _=J at e35 hl5⊢;generalize xl (xs.map V.int) (some 2) none=us at*;have eJ:=((e1.trans e2).trans e3).trans e35;have hRJ:=hR3.same e35;refine⟨l2,O,⟨_,SqL.of hl5⟩,j3 (K:=K) (a:=l2) (xs:=us) (λi σ H'=> ∃(o:Option V) (tu ta:Addr) (U Z:List (List Im)),σ=[some (.int c),some (.ref re),some (.ref tu),some (.ref ta),o]/\Same J H'/\TabF H' (.ref tu) U []/\TabF H' (.ref ta) Z []/\TW A'.un (24+14*(i:Int)) (4*i) U []/\TW A'.ab (24+14*(i:Int)) (4*i) Z []/\Z.length=3) ⟨none,tu,ta,_,_,O,Same.refl _,hu.same e35,ha.same e35,TW.empty (by decide) (by decide),TW.empty (by decide) (by decide),O⟩ ?_ ?_ ?_⟩
 . rintro i σ H' hi ⟨o,tu,ta,U,Z,rfl,e,_⟩
   exact SqL.of (e _ _ hl5)
 . rintro i v σ H' hv ⟨o,tu,ta,U,Z,rfl,e,hu,ha,wu,wa,l3⟩
   refine qS λ_ Y=>?_;obtain⟨k,rfl,k0⟩:=hcv v (YF hv);apply Y;have hi:=(glt hv);have f1:=fm k (show (0:Int)<9 by decide);have f2:=fm k (show (0:Int)<13 by decide);have hRe:=hRJ.same e;refine⟨_,O,_,O,_,_,O,O,nz,_,O,_,_,O,O,cdB (by decide) (by decide),_,O,qSr k0 (by decide),λz m H4 e4 hI _ hL=>⟨sL4,λdz hdz=>?_⟩⟩;have w6:=qE hdz (.tup [.str "lay_in",.int 0,.int (k.fmod 9),.ref z]);have e46:=e4.trans w6;have c4:4*i<=100:=by omega
   refine⟨_,O,tu,dz,re,A'.un,_,_,U,0,.chg (.lin (k.fmod 9) m),O,hu.same e46,wu,(hRe.same e46).un,⟨⟨_,qC,hI.ts (qd w6)⟩,nofun⟩,⟨f1.1,by omega,hL _ (hRe.un).2⟩,wu.l3.1,by omega,by omega,c4,λtu' U' H5 e5 hu' wu' _=>?_⟩;have e05:=(e46.trans e5);refine⟨_,O,_,O,_,_,O,O,nz,_,O,_,_,O,O,cdB (by decide) (by decide),_,O,qSr k0 (by decide),λz2 m2 H6 e6 hI2 _ hL2=>⟨sL4,λdz2 hdz2=>?_⟩⟩;have w7:=qE hdz2 (.tup [.str "lay_in",.int 0,.int (k.fmod 13),.ref z2]);have e67:=e6.trans w7;have e07:=e05.trans e67;refine⟨_,O,ta,dz2,re,A'.ab,_,_,Z,0,.chg (.lin (k.fmod 13) m2),O,ha.same e07,wa,(hRe.same e07).ab,⟨⟨_,qC,hI2.ts (qd w7)⟩,nofun⟩,⟨f2.1,by omega,hL2 _ (hRe.ab).2⟩,wa.l3.1,by omega,by omega,c4,λta' W' H8 e8 ha' wa' hl'=>?_⟩;exact⟨_,tu',ta',U',W',O,e.trans (e07.trans e8),hu'.same (e67.trans e8),ha',wu'.mono (by omega) (by omega),wa'.mono (by omega) (by omega),hl'.trans l3⟩
 rintro σ H' ⟨o,tu,ta,U,Z,rfl,e,hu,ha,wu,wa,l3⟩;have f1:=fm c (show (0:Int)<4 by decide);have f2:=fm (c.fdiv 4) (show (0:Int)<3 by decide);have hRe:=hRJ.same e;refine⟨_,O,_,O,_,_,O,O,nz,_,O,_,_,O,O,cdB (by decide) (by decide),_,_,O,O,nz,sL4,λz hz=>⟨sL4,λdz hdz=>?_⟩⟩;have w6:=qE hz (.tup [.str "nest",.str "under",.int ((c.fdiv 4).fmod 3),.int 9]);have w7:=qE hdz (.tup [.str "lay_in",.int 1,.int (c.fmod 4),.ref z]);have e67:=w6.trans w7;refine⟨_,O,ta,dz,re,A'.ab,_,_,Z,1,.chg (.lin (c.fmod 4) (.nest "under" ((c.fdiv 4).fmod 3) 9)),O,ha.same e67,wa,(hRe.same e67).ab,⟨⟨_,qC,⟨z,O,w7 _ _ qC⟩⟩,nofun⟩,⟨f1.1,by omega,.inl ⟨_,_,_,O,O,by decide+kernel,f2.1,by decide,by decide,by omega⟩⟩,by omega,by omega,by omega,by omega,λta' W' H8 e8 ha' wa' hl'=>?_⟩;refine⟨_,O,λtd htd=>?_⟩;have w9:=qE htd (.dK []);refine⟨_,O,_,O,qC,[(Sum.inr "under",.ref tu),(Sum.inr "above",.ref ta')],O,(by show 2<=15;decide),?_⟩;rw[qIj];have em:∀x y:V,qFa [] [((Sum.inr ("under":Str):Key),x),(Sum.inr ("above":Str),y)]=[(Sum.inr ("under":Str),x),(Sum.inr ("above":Str),y)]:=λx y=>by rfl
 rw[em];refine⟨sL2,λrz hrz=>?_⟩;have w10:=qE htd (.dK [(Sum.inr "under",.ref tu),(Sum.inr "above",.ref ta')]);have w11:=qE hrz (.tup [.ref re,.ref td]);have ez:=w10.trans w11;have e08:=e67.trans e8;have eH:Same H H8:=(eJ.trans e).trans e08;have ni:(4*us.length:Int)<=16:=by omega
 exact kk rz re td A' U W' _ (eH.trans ez) qC (eH.free htd) ⟨⟨tu,ta',w11 _ _ qC,hu.same (e08.trans ez),ha'.same ez⟩,hRe.same (e08.trans ez),wu.mono (by omega) (by omega),wa'.mono (by omega) (by omega)⟩
inductive qEr(vs:List V)(H:Hp)(Q:VK)(_:XK):Prop
|mk (rz re td:Addr) (c x y:Int) (A:Rg) (M:Int) (cc:Nat) (U Z:List (List Im)) (_:vs=[.ref rz,.int c,.int x,.int y]) (_:H rz=some (.tup [.ref re,.ref td])) (_:RoomS H re td A M cc U Z) (_:0<=x) (_:0<=y) (_:24<=M) (_:M<=1000) (_:cc<=100) (_:∀(rz':Addr) (U' W':List (List Im)) (H':Hp),SB td H H'->H' rz'=some (.tup [.ref re,.ref td])->RoomS H' re td A (M+14) (cc+4) U' W'->Q (.ref rz') H')
theorem qLn{kvs:List (Key×V)}(e:SB z H H')(hz:H z=some (.dK kvs)):LT H H':=⟨λb xs h=>e b _ (xC h hz (by intro q;cases q)) h,λb xs h=>e b _ (xC h hz (by intro q;cases q)) h,λb o u h=>e b _ (xC h hz (by intro q;cases q)) h⟩
theorem RoomS.same{H H':Hp}(e:Same H H'){re td:Addr}{A:Rg}{M:Int}{c:Nat}{U Z:List (List Im)}(h:RoomS H re td A M c U Z):RoomS H' re td A M c U Z:=let ⟨tu,ta,a1,a2,a3⟩:=h.d;⟨⟨tu,ta,e _ _ a1,a2.same e,a3.same e⟩,h.re.same e,h.u,h.w⟩
theorem qYi(e:SB z H H'){a:Addr}(n:a≠z)(h:Rd H a u):Rd H' a u:=by
 rcases h with h|⟨o,h⟩
 . exact .inl (e _ _ n h)
 . exact .inr ⟨o,e _ _ n h⟩
theorem qQ2{a b:Addr}(h:Rd H a u)(hb:H b=some o)(h1:u≠o)(h2:∀x,HO.frz x u≠o):a≠b:=by
 rcases h with q|⟨x,q⟩
 . exact xC q hb h1
 . exact xC q hb (h2 x)
theorem qFs(T:Tx K mg a):FnOk P w K mg base CX0 12 a.A88 a.B88 ["_law_room","_law_cell","_law_x","_law_y"] qEr:=by
 refine oL T.D88.F jg λ_ _ _ _ H _ _ _ hr h _ Y=>?_;obtain⟨rz,re,td,c,x,y,A',M,cc,U,Z,rfl,hrz,hS,x0,y0,M0,M1,hcc,kk⟩:=h;apply Y;have hu1:=qJ8 hr;refine⟨_,(qD (qJw (pv 0) (qNh rfl (zZ (q8 (i:=4) jg.nd rfl (Or.inl rfl)) (zZ (q8 (i:=5) jg.nd rfl (Or.inl rfl)) qH5))))
  (qD (qW 6 jg.nd (jN qh (qo (qA qR (qA qR qB))) (qP qi (qP qf (pv 1) qG) qG) (λ_ _=>rfl)))
  (qD (qW 7 jg.nd (qI T.D84 (qEg T) hr rfl (qA (qI T.D81 (qJ4 T) hr rfl (qA (pv 2) (qA (pv 3) (qA (qX jV rfl T.b_len rfl (qA (qJ (kh hu1 (pv 5) (pv 6) (λ_ _=>rfl))) qB)) qB)))) qB)))
  (qD (qL5 hu1 (pv 5) (pv 6) (qI T.D83 (x9 T) hr rfl (qA (kh hu1 (pv 5) (pv 6) (λ_ _=>rfl)) (qA (pv 7) (qA (pv 4) qB)))) rfl)
  (qF (qK (qY (qA (pv 4) (qA (pv 5) qB))))))))),?_⟩
 try dsimp only[jD,qc]
 refine qS λ_ Y=>?_;obtain⟨tu,ta,hd,hu,ha⟩:=hS.d;apply Y;have nre:re≠td:=qQ2 hS.re.1 hd (by intro q;cases q) (by intro x q;cases q);refine⟨_,O,rz,_,O,SqT.of hrz,O,_,_,O,_,_,O,O,?_⟩;refine⟨sL2,λl hl=>?_⟩;have w1:=qE hl (.lst [.str "under",.str "above"]);have f1:=fm (c.fdiv 7) (show (0:Int)<2 by decide);refine qS λ_ Y=>?_;obtain⟨v,hv,hmem⟩:=vF (xs:=[V.str "under",.str "above"]) (i:=(c.fdiv 7).fmod 2) f1.1 (show _<((2:Nat):Int) by omega);apply Y;refine⟨_,O,_,_,O,O,cdB (by decide) (by decide),_,_,O,O,nz,l,_,_,_,O,O,SqL.of qC,hv,?_⟩;have hrz1:=w1 _ _ hrz;have hd1:=w1 _ _ hd;have hR1:=hS.re.same w1;change _;generalize upd H l _=H1 at w1 hrz1 hd1 hR1⊢;have hu1':=hu.same w1;have ha1:=ha.same w1;refine qS λ_ Y=>?_;obtain⟨nm,rfl,hn⟩:∃nm:Str,v=.str nm/\(nm="under"\/nm="above"):=by simp only[YU,ZD,or_false]at hmem;rcases hmem with rfl|rfl <;> exact⟨_,rfl,by simp⟩
 obtain⟨tz,ts,B,hg,hT,hW,hRB,hfin⟩:∃(tz:Addr) (ts:List (List Im)) (B:Rg),(∀{G:Hp},Same H1 G->DGet G td (.str nm) (some (.ref tz)))/\TabF H1 (.ref tz) ts []/\TW B M cc ts []/\(∀{G:Hp},Same H1 G->RE G re B)/\
  ∀(tz':Addr) (ts':List (List Im)) (G:Hp),Same H1 G->TabF G (.ref tz') ts' []->TW B (M+14) (cc+4) ts' []->∃H4,DPut G td (.str nm) (.ref tz') H4/\SB td H1 H4/\∃U' W',RoomS H4 re td A' (M+14) (cc+4) U' W':=by
  have put:∀(G:Hp) (e:Same H1 G) (kv:List (Key×V)),(∀b,b≠td->upd G td (.dK kv) b=G b)/\SB td H1 (upd G td (.dK kv))/\LT G (upd G td (.dK kv)):=λG e kv=>⟨λb hb=>qQ hb,λb u hb h=>by rw[qQ hb];exact e _ _ h,qLn (kvs:=[(Sum.inr "under",.ref tu),(Sum.inr "above",.ref ta)]) wT (e _ _ hd1)⟩;have hre:∀{G:Hp} (e:Same H1 G) (kv:List (Key×V)),RE (upd G td (.dK kv)) re A':=λ{G} e kv=>⟨qYi wT nre (qHu e hR1.1),hR1.2⟩;rcases hn with rfl|rfl
  . refine⟨tu,U,A'.un,λe=>DGet.k (k:=Sum.inr "under") (e _ _ hd1),hu1',hS.u,λe=>(hR1.same e).un,λtz' ts' G e hT' hW'=>?_⟩
    obtain⟨p1,p2,p3⟩:=put G e [(Sum.inr "under",.ref tz'),(Sum.inr "above",.ref ta)];exact⟨_,DPut.k (k:=Sum.inr "under") (e _ _ hd1) (show 2<sizeLine by decide),p2,ts',Z,⟨tz',ta,qC,p3.tab hT',p3.tab (ha1.same e)⟩,hre e _,hW',hS.w.mono (by omega) (by omega)⟩
  . refine⟨ta,Z,A'.ab,λe=>DGet.k (k:=Sum.inr "above") (e _ _ hd1),ha1,hS.w,λe=>(hR1.same e).ab,λtz' ts' G e hT' hW'=>?_⟩
    obtain⟨p1,p2,p3⟩:=put G e [(Sum.inr "under",.ref tu),(Sum.inr "above",.ref tz')];exact⟨_,DPut.k (k:=Sum.inr "above") (e _ _ hd1) (show 2<sizeLine by decide),p2,U,ts',⟨tu,tz',qC,p3.tab (hu1'.same e),p3.tab hT'⟩,hre e _,hS.u.mono (by omega) (by omega),hW'⟩
 obtain⟨tt,tl,ti,zs,q0,g2,g3,g4,g5⟩:=id hT;cases q0;apply Y;have hzl:=g4.len;have l13:=hW.l3;refine⟨_,O,_,O,_,O,_,O,td,_,O,hg (Same.refl _),ixT (SqT.of g2) at0 ⟨tl,_,O,.inl (SqL.of g3),x,y,_,O,x0,y0,by omega,λdz n d H2 e2 hnL hA hD=>?_⟩⟩;refine⟨dz,n,d,O,hA,hD,λdz' d' H3 e3 hA' hC=>?_⟩;have e13:=e2.trans e3;refine⟨_,O,_,O,td,_,O,hg e13,_,O,_,O,tz,dz',re,B,M,cc,ts,n,d',O,hT.same e13,hW,hRB e13,hA',(hC B (hRB e13).2).mono (by omega),by omega,by omega,M1,hcc,λt' ts' H4 e4 hT' hW' _=>?_⟩;refine qS λ_ Y=>?_;obtain⟨H5,hP,hsb,U',W',hS'⟩:=hfin t' ts' H4 (e13.trans e4) hT' hW';apply Y;refine⟨_,O,_,O,td,H5,O,hP,_,O,_,O,sL2,λrz' hrz'=>?_⟩;have w6:=qE hrz' (.tup [.ref re,.ref td]);exact kk rz' U' W' _ ((vK w1).trans (hsb.trans (vK w6))) qC (hS'.same w6)
theorem qUr(h:kj v=true)(hb:v≠ .non->(∃b,v=.bl b)\/(∃i,v=.int i)\/∃z,v=.str z):∃t,qK5 K H v t/\W.kitOne K t (.type "list")=some false/\W.kitOne K t (.type "tuple")=some false/\W.kitOne K t (.type "dict")=some false:=by
 by_cases e:v=.non
 . subst e;exact⟨_,.non,by kernel_rfl,by kernel_rfl,by kernel_rfl⟩
 . rcases hb e with ⟨b,rfl⟩|⟨i,rfl⟩|⟨z,rfl⟩
   . exact⟨_,.bl b,by kernel_rfl,by kernel_rfl,by kernel_rfl⟩
   . exact⟨_,.int i,by kernel_rfl,by kernel_rfl,by kernel_rfl⟩
   . exact⟨_,.str z,by kernel_rfl,by kernel_rfl,by kernel_rfl⟩
mutual
def Pc:D->Prop
 |.leaf v=>v≠ .non->(∃b,v=.bl b)\/(∃i,v=.int i)\/∃z,v=.str z
 |.tup ds=>ds.length<=100/\Pcs ds
 |.lst _=>False
def Pcs:List D->Prop
 |[]=>True
 |d::ds=>Pc d/\Pcs ds
end
theorem Pcs.get:∀{ds:List D} {j:Nat} {d:D},Pcs ds->ds[j]?=some d->Pc d
 |[],_,_,_,h=>by simp at h
 |d::ds,0,e,h,q=>by
  unfold Pcs at h;have:d=e:=by simpa using q
  rw[<-this];exact h.1
 |d::ds,j+1,e,h,q=>by unfold Pcs at h;exact Pcs.get h.2 (by simpa using q)
theorem Reps.get'{H:Hp}:∀{ds:List D} {xs:List V},Reps K H ds xs->∀{j:Nat} {x:V},xs[j]?=some x->∃d,ds[j]?=some d/\Rep K H d x
 |[],[],_,j,x,h=>by simp at h
 |d::ds,y::ys,r,0,x,h=>by
  unfold Reps at r;have:y=x:=by simpa using h
  subst this;exact⟨d,O,r.1⟩
 |d::ds,y::ys,r,j+1,x,h=>by unfold Reps at r;exact Reps.get' r.2 (by simpa using h)
 |[],_::_,r,_,_,_=>by unfold Reps at r;exact r.elim
 |_::_,[],r,_,_,_=>by unfold Reps at r;exact r.elim
theorem Reps.snoc{H:Hp}{d:D}{x:V}(h:Rep K H d x):∀{ds:List D} {xs:List V},Reps K H ds xs->Reps K H (ds++[d]) (xs++[x])
 |[],[],_=>by show Reps K H [d] [x];unfold Reps;exact⟨h,by unfold Reps;trivial⟩
 |e::ds,y::ys,r=>by unfold Reps at r;show Reps K H (e::(ds++[d])) (y::(ys++[x]));unfold Reps;exact⟨r.1,Reps.snoc h r.2⟩
 |[],_::_,r=>by unfold Reps at r;exact r.elim
 |_::_,[],r=>by unfold Reps at r;exact r.elim
inductive wI(K:W.Frag)(n:Nat)(vs:List V)(H:Hp)(Q:VK)(_:XK):Prop
|mk (x:V) (d:D) (_:vs=[x]) (_:Rep K H d x) (_:Pc d) (_:dep d<n) (_:∀(y:V) (H':Hp),Same H H'->Rep K H' d y->Q y H')
theorem qKc(T:Tx K mg a)(n:Nat)(IH:∀{base:Heap},FnOk P w K mg base CX0 n a.A46 a.B46 ["thing"] (wI K n)):
 FnOk P w K mg base CX0 (n+1) a.A46 a.B46 ["thing"] (wI K (n+1)):=by
 refine T.D46.F.ok qOw (λvs H Q E h=>?_) (λcdv A outer s H vs Q E hrn h=>?_)
 . obtain⟨x,d,rfl,_⟩:=h
   rfl
 refine qS λ_ Y=>?_;obtain⟨x,d,rfl,hR,hW,hd,kk⟩:=h;apply Y;refine⟨_,(qD (qZ (qr (qX (qBj jB xg) rfl T.b_isinstance rfl (qA (pv 0) (qA (qDo rfl T.b_list rfl) qB)))) jc qN)
  (qD (qZ (qr (qX (qBj jB xg) rfl T.b_isinstance rfl (qA (pv 0) (qA (qDo rfl T.b_tuple rfl) qB)))) (qF (qK (jw x8 rfl T.b_tuple rfl (qA (wU [] [] rfl (qT1 (pv 0)) (λ_ _ _ _=>(qI T.D46 IH hrn rfl (qA (pv 0) qB) (YI _)))) qB)))) qN)
  (qD (qZ (qr (qX (qBj jB xg) rfl T.b_isinstance rfl (qA (pv 0) (qA (qDo rfl T.b_dict rfl) qB)))) jc qN)
  (qF (qK (pv 0)))))),?_⟩
 try dsimp only[jD,qc]
 cases d with
 |lst ds=>unfold Pc at hW;exact hW.elim
 |leaf v=>
  have hR':=hR;unfold Rep at hR;obtain⟨rfl,hf⟩:=hR;unfold Pc at hW;refine qS λ_ Y=>?_;obtain⟨t,ht,h1,h2,h3⟩:=qUr (K:=K) (H:=H) hf hW;apply Y;refine⟨_,O,.inl ⟨_,_,t,false,O,ht,⟨_,.inl ⟨O,h1⟩⟩,false,O,qv ?_⟩⟩;refine⟨_,O,.inl ⟨_,_,t,false,O,ht,⟨_,.inl ⟨O,h2⟩⟩,false,O,qv ?_⟩⟩;refine⟨_,O,.inl ⟨_,_,t,false,O,ht,⟨_,.inl ⟨O,h3⟩⟩,false,O,qv ?_⟩⟩;exact⟨_,O,kk _ H (Same.refl _) hR'⟩
 |tup ds=>
  unfold Rep at hR;refine qS λ_ Y=>?_;obtain⟨p,xs,rfl,hT,hs⟩:=hR;apply Y;unfold Pc at hW;have hd:qIo ds<n:=by unfold dep at hd;omega
  refine⟨_,O,.inr ⟨p,_,_,false,O,.inl ⟨xs,hT,O⟩,by kernel_rfl,false,O,qv ?_⟩⟩;refine⟨_,O,.inr ⟨p,_,_,true,O,.inl ⟨xs,hT,O⟩,by kernel_rfl,true,O,jn ?_⟩⟩;have hl:=hs.length;refine⟨_,O,p,O,⟨_,hT⟩,qNi (K:=K) (a:=p) (xs:=xs) (λj acc H'=>Same H H'/\Reps K H' (ds.take j) acc) ⟨Same.refl _,by show Reps K H [] [];unfold Reps;trivial⟩ ?_ ?_ ?_⟩
  . rintro j acc H' hj ⟨e,hr⟩
    refine⟨L3.Same.tup e hT,?_⟩;have:=hr.length;rw[Yk]at this;exact qj (by have:=hW.1;omega)
  . rintro j x acc H' hj hx ⟨e,hr⟩
    refine qS λ_ Y=>?_;obtain⟨d,hdj,hRd⟩:=Reps.get' hs hx;apply Y;refine⟨_,O,x,d,O,Rep.same e d hRd,hW.2.get hdj,Yd (qD0 hdj) hd,λy H2 e2 hy=>Nxt.mk hj ⟨e.trans e2,?_⟩⟩;rw[Ys,hdj];exact Reps.snoc hy (Reps.same e2 _ hr)
  rintro acc H1 ⟨e,hr⟩ l hl';rw[<-hl,Yw]at hr;have w1:=qE hl' (.lst acc);refine⟨l,_,O,.inl ⟨SqL.of qC,λt ht=>?_⟩⟩;have w2:=qE ht (.tup acc);refine kk (.ref t) _ ((e.trans w1).trans w2) ?_;unfold Rep;exact⟨t,acc,O,SqT.of qC,Reps.same (w1.trans w2) _ hr⟩
theorem qGj(T:Tx K mg a):∀(n:Nat) {base:Heap},FnOk P w K mg base CX0 n a.A46 a.B46 ["thing"] (wI K n)
 |0,base=>⟨λvs H Q E h=>by obtain⟨_,_,_,_,_,h,_⟩:=h;exact YC h (Nat.not_lt_zero _),λA outer s H args us vs Q E hr he hb hv hs=>by obtain⟨_,_,_,_,_,h,_⟩:=hs;exact YC h (Nat.not_lt_zero _)⟩
 |n+1,base=>qKc T n (qGj T n)
theorem LT.sqT(e:LT H H'){s:Addr}(h:SqT K H s xs):SqT K H' s xs:=by
 rcases h with (h|⟨o,h⟩)|h
 . exact .inl (.inl (e.t _ _ h))
 . exact .inl (.inr ⟨o,e.f _ _ _ h⟩)
 . exact .inr h
theorem LT.te(e:LT H H'){t:Te}(h:IsTe K H t v):IsTe K H' t v:=let ⟨z,s,h1,h2,h3⟩:=h;⟨z,s,h1,e.t _ _ h2,e.sqT h3⟩
theorem LT.tes{H H':Hp}(e:LT H H'):∀{ts:List Te} {vs:List V},IsTes K H ts vs->IsTes K H' ts vs
 |[],[],_=>trivial
 |_::_,_::_,h=>⟨e.te h.1,e.tes h.2⟩
theorem LT.tl(e:LT H H'){ts:List Te}(h:TL K H z ts):TL K H' z ts:=let ⟨vs,h1,h2⟩:=h;⟨vs,e.l _ _ h1,e.tes h2⟩
mutual
theorem LT.rep{H H':Hp}(e:LT H H'):∀(d:D) {x:V},Pc d->Rep K H d x->Rep K H' d x
 |.leaf v,x,_,h=>by unfold Rep at h⊢;exact h
 |.tup ds,x,hp,h=>by unfold Rep at h⊢;unfold Pc at hp;obtain⟨p,xs,h1,h2,h3⟩:=h;exact⟨p,xs,h1,e.sqT h2,e.reps ds hp.2 h3⟩
 |.lst ds,x,hp,h=>by unfold Pc at hp;exact hp.elim
theorem LT.reps{H H':Hp}(e:LT H H'):∀(ds:List D) {xs:List V},Pcs ds->Reps K H ds xs->Reps K H' ds xs
 |[],[],_,_=>by unfold Reps;trivial
 |d::ds,x::xs,hp,h=>by unfold Reps at h⊢;unfold Pcs at hp;exact⟨e.rep d hp.1 h.1,e.reps ds hp.2 h.2⟩
 |[],_::_,_,h=>by unfold Reps at h;exact h.elim
 |_::_,[],_,h=>by unfold Reps at h;exact h.elim
end
theorem Te.pc(t:Te):Pc t.d:=by unfold Te.d;simp[Pc,Pcs]
theorem qUb:∀ts:List Te,Pcs (ts.map Te.d)
 |[]=>by show Pcs [];unfold Pcs;trivial
 |t::ts=>by show Pcs (t.d::ts.map Te.d);unfold Pcs;exact⟨t.pc,qUb ts⟩
structure qAt(G:List Te->D):Prop where
 pc:∀te,te.length<=2->Pc (G te)
 dp:∀te,L3.dep (G te)<5
noncomputable def qAn(te:List Te):D:=.tup [.leaf (.str "painted"),.tup (te.map Te.d)]
theorem xq:qAt qAn:=by
 refine⟨λte h=>?_,λte=>?_⟩
 . unfold qAn
   simp only[Pc,Pcs,YS];exact⟨show 2<=100 by decide,λ_=>.inr (.inr ⟨_,O⟩),⟨by omega,qUb te⟩,trivial⟩
 . unfold qAn
   have:=qEu te;simp only[L3.dep,qIo];omega
def wt(P:Program)(w:World)(K:W.Frag)(mg:Str->Option Value)(v:V)(G:List Te->D):Prop:=qVn K v/\qAt G/\∀(base:Heap) (H:Hp) (l:Addr) (te:List Te) (Q:VK),TL K H l te->te.length<=2->
 (∀(y:V) (H':Hp),SB l H H'->Rep K H' (G te) y->Q y H')->VCall P w K mg base 1 v Q [.ref l] H
inductive wA(K:W.Frag)(G:List Te->D)(vs:List V)(H:Hp)(Q:VK)(_:XK):Prop
|mk (l:Addr) (te:List Te) (_:vs=[.ref l]) (_:TL K H l te) (_:te.length<=2) (_:∀(y:V) (H':Hp),SB l H H'->Rep K H' (G te) y->Q y H')
theorem IsTes.tsT{l:Addr}{ys:List V}(hl:H l=some (.lst ys)){zs:List V}{ts:List Te}(h:IsTes K H ts vs):IsTes K (upd H l (.lst zs)) ts vs:=by
 induction ts generalizing vs with
 |nil=>cases vs with
  |nil=>trivial
  |cons=>exact h.elim
 |cons t ts ih=>cases vs with
  |nil=>exact h.elim
  |cons v vs=>
   obtain⟨⟨z,s,h1,h2,h3⟩,h4⟩:=h;refine⟨⟨z,s,h1,by rw[qQ (xC h2 hl (by intro q;cases q))];exact h2,?_⟩,ih h4⟩;rcases h3 with (h|⟨o,h⟩)|h
   . exact .inl (.inl (by rw[qQ (xC h hl (by intro q;cases q))];exact h))
   . exact .inl (.inr ⟨o,by rw[qQ (xC h hl (by intro q;cases q))];exact h⟩)
   . exact .inr h
theorem qAh{t:Addr}{te:List Te}(h1:H z=some (.tup [.str "painted",.ref t]))(h2:H t=some (.tup vs))(h3:IsTes K H te vs):Rep K H (qAn te) (.ref z):=by unfold qAn Rep;refine⟨z,_,O,SqT.of h1,?_⟩;unfold Reps;refine⟨by unfold Rep;exact⟨O,O⟩,?_⟩;unfold Reps;refine⟨?_,by unfold Reps;trivial⟩;unfold Rep;exact⟨t,vs,O,SqT.of h2,h3.rep⟩
theorem qIg(T:Tx K mg a):FnOk P w K mg base CX0 1 a.A90 a.B90 ["_law_telling"] (wA K qAn):=by
 refine oL T.D90.F qH4 λ_ _ _ _ _ _ _ _ hr h _ Y=>?_;obtain⟨l,te,rfl,hL,hl,kk⟩:=h;obtain⟨us,h1,h2⟩:=id hL;apply Y;refine⟨_,(qF (qK (qY (qA qR (qA (jw x8 rfl T.b_tuple rfl (qA (pv 0) qB)) qB))))),?_⟩
 try dsimp only[jD,qc]
 refine⟨_,O,l,us,O,.inl ⟨SqL.of h1,λt ht=>⟨sL2,λz hz=>?_⟩⟩⟩;have w1:=qE ht (.tup us);have w2:=qE hz (.tup [.str "painted",.ref t]);exact kk (.ref z) _ (vK (w1.trans w2)) (qAh qC (w2 _ _ qC) (h2.same (w1.trans w2)))
theorem vG(T:Tx K mg a):FnOk P w K mg base CX0 1 a.A91 a.B91 ["_law_telling"] (wA K qAn):=by
 refine oL T.D91.F xM λ_ _ _ _ H _ _ _ hr h _ Y=>?_;obtain⟨l,te,rfl,hL,hl,kk⟩:=h;obtain⟨us,h1,h2⟩:=id hL;apply Y;refine⟨_,(qD (qW 1 xM.nd (qY (qA qR (qA (jw x8 rfl T.b_tuple rfl (qA (pv 0) qB)) qB))))
  (qD (jR (qXs F.plainAttrs_list F.slot_list_clear F.type_list_clear qTt (pv 0)))
  (qF (qK (pv 1))))),?_⟩
 try dsimp only[jD,qc]
 refine⟨_,O,l,us,O,.inl ⟨SqL.of h1,λt ht=>⟨sL2,λz hz=>?_⟩⟩⟩;have w1:=qE ht (.tup us);have w2:=qE hz (.tup [.str "painted",.ref t]);have hl2:=w2 _ _ (w1 _ _ h1);refine⟨_,O,.inl ⟨O,_,SqL.of hl2⟩,l,us,O,O,hl2,_,O,?_⟩;have nz:z≠l:=(qV (w1 _ _ h1) hz).symm;have nt:t≠l:=(qV h1 ht).symm;have e12:TS (upd (upd H t (.tup us)) z (.tup [.str "painted",.ref t])) (upd (upd (upd H t (.tup us)) z (.tup [.str "painted",.ref t])) l (.lst [])):=z6 hl2;exact kk (.ref z) _ ((vK (w1.trans w2)).trans wT) (qAh (by rw[qQ nz];exact qC) (by rw[qQ nt];exact w2 _ _ qC) ((h2.same (w1.trans w2)).tsT hl2))
noncomputable def qO1(v:V)(_:List Te):D:=.leaf v
noncomputable def qT4(_:List Te):D:=.tup []
theorem qVp:qAt qT4:=⟨λte h=>by unfold qT4 Pc;exact⟨by decide,by unfold Pcs;trivial⟩,λte=>by unfold qT4;decide⟩
theorem qBn(T:Tx K mg a):FnOk P w K mg base CX0 1 a.A92 a.B92 ["_law_telling"] (wA K (qO1 .non)):=by
 refine oL T.D92.F qBi λ_ _ _ _ H _ _ _ hr h _ Y=>?_;obtain⟨l,te,rfl,hL,hl,kk⟩:=h;apply Y;refine⟨_,(qF (qK vM)),?_⟩
 try dsimp only[jD,qc]
 exact kk .non H (vK (Same.refl H)) (by unfold qO1 Rep;exact⟨O,O⟩)
theorem wn(T:Tx K mg a):FnOk P w K mg base CX0 1 a.A94 a.B94 ["_law_telling"] (wA K (qO1 (.bl false))):=by
 refine oL T.D94.F wz λ_ _ _ _ H _ _ _ hr h _ Y=>?_;obtain⟨l,te,rfl,hL,hl,kk⟩:=h;apply Y;refine⟨_,(qF (qK zH)),?_⟩
 try dsimp only[jD,qc]
 exact kk (.bl false) H (vK (Same.refl H)) (by unfold qO1 Rep;exact⟨O,O⟩)
theorem wb(T:Tx K mg a):FnOk P w K mg base CX0 1 a.A93 a.B93 ["_law_telling"] (wA K qT4):=by
 refine oL T.D93.F qAf λ_ _ _ _ _ _ _ _ hr h _ Y=>?_;obtain⟨l,te,rfl,hL,hl,kk⟩:=h;apply Y;refine⟨_,(qF (qK (qY qB))),?_⟩
 try dsimp only[jD,qc]
 refine⟨sL0,λz hz=>?_⟩;exact kk (.ref z) _ (vK (qE hz _)) (by unfold qT4 Rep;exact⟨z,[],O,SqT.of qC,by unfold Reps;trivial⟩)
theorem qBc(D:L3.Def K mg x st ["_law_telling"] f fd)(hG:qAt G)(F:∀base:Heap,FnOk P w K mg base CX0 1 f fd ["_law_telling"] (wA K G)):wt P w K mg (.ref f) G:=
 ⟨⟨f,rfl,D.F.kp⟩,hG,λbase H l te Q h1 h2 h3=>⟨f,1,fd,_,_,rfl,YI 1,F base,D.b,⟨l,te,rfl,h1,h2,h3⟩⟩⟩
section
variable{κ α:Type} [DecidableEq κ]
noncomputable def qB8(l:List (κ×α))(k:κ)(v:α):List (κ×α):=if l.any (λx=>decide (x.1=k))then l.map (λx=>if x.1=k then (k,v)else x)else l++[(k,v)]
noncomputable def qA4(l:List (κ×α))(k:κ):Option α:=(l.find? λx=>decide (x.1=k)).map (·.2)
theorem vi{l:List (κ×α)}{k:κ}{x v:α}:qB8 ((k,x)::l) k v=(k,v)::l.map (λy=>if y.1=k then (k,v)else y):=by unfold qB8;simp
theorem xk{l:List (κ×α)}{k k':κ}{x v:α}(h:k'≠k):qB8 ((k',x)::l) k v=(k',x)::qB8 l k v:=by
 unfold qB8;by_cases q:(l.any λx=>decide (x.1=k))=true
 . rw[YB q,YB (by simp only[List.any_cons,q,Bool.or_true])]
   simp[h]
 . rw[YA q,YA (by simp only[List.any_cons,Bool.or_eq_true,decide_eq_true_eq,not_or];exact⟨h,q⟩)]
   rfl
theorem qTi{l:List (κ×α)}{k:κ}{v:α}{x:κ×α}(h:x∈qB8 l k v):x∈l\/x=(k,v):=by
 unfold qB8 at h;split at h
 . obtain⟨y,hy,rfl⟩:=List.mem_map.mp h
   split
   . exact .inr rfl
   . exact .inl hy
 . rcases YO.mp h with h|h
   . exact .inl h
   . exact .inr (YY.mp h)
end
abbrev Kpt:=List ((Str×Int)×List Te)
noncomputable def jx(S:Kpt)(nm:Str):List (Int×List Te):=(S.filter λx=>decide (x.1.1=nm)).map λx=>(x.1.2,x.2)
theorem xL{t:Int}{te:List Te}:jx (((nm,t),te)::S) nm=(t,te)::jx S nm:=by unfold jx;simp
theorem xW{t:Int}{te:List Te}(h:nm'≠nm):jx (((nm',t),te)::S) nm=jx S nm:=by unfold jx;simp[h]
theorem qHc(nm:Str)(t:Int):∀S:Kpt,qA4 (jx S nm) t=qA4 S (nm,t)
 |[]=>rfl
 |((nm',t'),te)::S=>by
  have ih:=qHc nm t S;by_cases h:nm'=nm
  . subst h
    rw[xL];unfold qA4 at ih⊢;by_cases ht:t'=t
    . subst ht;simp
    . rw[List.find?_cons_of_neg (by simpa using ht),List.find?_cons_of_neg (by simp[ht])]
      exact ih
  . rw[xW h]
    unfold qA4 at ih⊢;rw[List.find?_cons_of_neg (l:=S) (by simp[h])];exact ih
theorem qDx{nm:Str}{t:Int}{te:List Te}:∀S:Kpt,jx (S.map λx=>if x.1=(nm,t)then ((nm,t),te)else x) nm=(jx S nm).map λx=>if x.1=t then (t,te)else x
 |[]=>rfl
 |((nm',t'),te')::S=>by
  have ih:=qDx (nm:=nm) (t:=t) (te:=te) S;rw[ZG];by_cases h:nm'=nm
  . subst h
    rw[xL,ZG];by_cases ht:t'=t
    . subst ht
      rw[YB rfl,YB rfl,xL,ih]
    . rw[YA (by simpa using ht),YA ht,xL,ih]
  . rw[YA (by intro q;exact h (Prod.mk.inj q).1),xW h,xW h,ih]
theorem qNk(nm:Str)(t:Int)(te:List Te):∀S:Kpt,jx (qB8 S (nm,t) te) nm=qB8 (jx S nm) t te
 |[]=>by unfold qB8 jx;simp
 |((nm',t'),te')::S=>by
  have ih:=qNk nm t te S;by_cases h:nm'=nm
  . subst h
    by_cases ht:t'=t
    . subst ht
      rw[vi,xL,xL,vi,qDx]
    . rw[xk (by intro q;exact ht (Prod.mk.inj q).2),xL,xL,xk ht,ih]
  . rw[xk (by intro q;exact h (Prod.mk.inj q).1),xW h,xW h,ih]
theorem qFx{nm nm':Str}(hn:nm'≠nm){t:Int}{te:List Te}:∀S:Kpt,jx (S.map λx=>if x.1=(nm,t)then ((nm,t),te)else x) nm'=jx S nm'
 |[]=>rfl
 |((m,t'),te')::S=>by
  have ih:=qFx hn (t:=t) (te:=te) S;rw[ZG];by_cases e:(m,t')=(nm,t)
  . obtain⟨rfl,rfl⟩:=Prod.mk.inj e
    rw[YB rfl,xW hn.symm,xW hn.symm,ih]
  . rw[YA e]
    by_cases z:m=nm'
    . subst z;rw[xL,xL,ih]
    . rw[xW z,xW z,ih]
theorem qL9(hn:nm'≠nm)(t:Int)(te:List Te)(S:Kpt):jx (qB8 S (nm,t) te) nm'=jx S nm':=by
 unfold qB8;split
 . exact qFx hn S
 . unfold jx
   rw[List.filter_append];simp[hn.symm]
noncomputable def qDl(S:Kpt)(nm:Str):Kpt:=S.filter λx=>decide (x.1.1≠nm)
theorem qJ0(h:nm'≠nm)(S:Kpt):jx (qDl S nm) nm'=jx S nm':=by
 unfold jx qDl;rw[List.filter_filter];congr 1;refine List.filter_congr λx _=>?_;by_cases q:x.1.1=nm'
 . simp[q,h]
 . simp[q]
theorem qRw:∀(S:Kpt) (ns:List Str),ns.Nodup->(∀x∈S,x.1.1∈ns)->(ns.map λn=>(jx S n).length).sum=S.length
 |[],ns,_,_=>by
  have:∀l:List Str,(l.map λn=>(jx [] n).length).sum=0:=λl=>by
   induction l with
   |nil=>rfl
   |cons a l ih=>rw[ZG,List.sum_cons,ih];rfl
  exact this ns
 |((nm,t),te)::S,ns,hn,hs=>by
  have ih:=qRw S ns hn λx hx=>hs x (by simp[hx]);have hm:nm∈ns:=hs ((nm,t),te) (by simp);have key:∀l:List Str,l.Nodup->(l.map λn=>(jx (((nm,t),te)::S) n).length).sum=(l.map λn=>(jx S n).length).sum+if nm∈l then 1 else 0:=λl=>by
   induction l with
   |nil=>intro _;rfl
   |cons a l ih2=>
    intro hl;obtain⟨h1,h2⟩:=List.nodup_cons.mp hl;rw[ZG,List.sum_cons,ZG,List.sum_cons,ih2 h2];by_cases q:nm=a
    . subst q
      rw[xL,YE,YA h1,YB (by simp)];omega
    . rw[xW q]
      by_cases z:nm∈l
      . rw[YB z,YB (by simp[z])];omega
      . rw[YA z,YA (by simp[z,q])];omega
  rw[key ns hn,ih,YB hm,YE]
section
variable{κ κ' α:Type} [DecidableEq κ] [DecidableEq κ'] {kf:κ->κ'}{R:α->V->Prop}
def AL(kf:κ->κ')(R:α->V->Prop):List (κ×α)->List (κ'×V)->Prop
 |[],[]=>True
 |(t,te)::l,(k,v)::ms=>(k=kf t/\R te v)/\AL kf R l ms
 |_,_=>False
theorem AL.imp{R':α->V->Prop}(f:∀te v,R te v->R' te v):∀{l:List (κ×α)} {ms:List (κ'×V)},AL kf R l ms->AL kf R' l ms
 |[],[],_=>trivial
 |(_,_)::_,(_,_)::_,h=>⟨⟨h.1.1,f _ _ h.1.2⟩,AL.imp f h.2⟩
theorem AL.len:∀{l:List (κ×α)} {ms:List (κ'×V)},AL kf R l ms->ms.length=l.length
 |[],[],_=>rfl
 |(_,_)::_,(_,_)::_,h=>by rw[YE,YE,AL.len h.2]
theorem AL.val(hk:∀x y,kf x=kf y->x=y)(t:κ):∀{l:List (κ×α)} {ms:List (κ'×V)},AL kf R l ms->(qA4 l t=none/\x6 ms (kf t)=none)\/∃te v,qA4 l t=some te/\x6 ms (kf t)=some v/\R te v
 |[],[],_=>.inl ⟨rfl,rfl⟩
 |(t',te)::l,(k,v)::ms,h=>by
  obtain⟨⟨rfl,h1⟩,h2⟩:=h;by_cases e:t'=t
  . subst e
    exact .inr ⟨te,v,by unfold qA4;simp,jZ rfl,h1⟩
  . have e':¬kf t'=kf t:=λq=>e (hk _ _ q)
    rw[jU e'];have:qA4 ((t',te)::l) t=qA4 l t:=by unfold qA4;rw[List.find?_cons_of_neg (by simpa using e)]
    rw[this];exact AL.val hk t h2
theorem AL.map(hk:∀x y,kf x=kf y->x=y){t:κ}{te:α}{v:V}(hv:R te v):∀{l:List (κ×α)} {ms:List (κ'×V)},AL kf R l ms->AL kf R (l.map λx=>if x.1=t then (t,te)else x) (ms.map λkv=>if kv.1=kf t then (kv.1,v)else kv)
 |[],[],_=>trivial
 |(t',te')::l,(k,u)::ms,h=>by
  obtain⟨⟨rfl,h1⟩,h2⟩:=h;rw[ZG,ZG];by_cases e:t'=t
  . subst e
    rw[YB rfl,YB rfl];exact⟨⟨O,hv⟩,AL.map hk hv h2⟩
  . rw[YA e,YA (λq=>e (hk _ _ q))]
    exact⟨⟨O,h1⟩,AL.map hk hv h2⟩
theorem AL.snoc{t:κ}{te:α}{v:V}(hv:R te v):∀{l:List (κ×α)} {ms:List (κ'×V)},AL kf R l ms->AL kf R (l++[(t,te)]) (ms++[(kf t,v)])
 |[],[],_=>⟨⟨rfl,hv⟩,trivial⟩
 |(_,_)::_,(_,_)::_,h=>⟨h.1,AL.snoc hv h.2⟩
theorem AL.any(hk:∀x y,kf x=kf y->x=y)(t:κ):∀{l:List (κ×α)} {ms:List (κ'×V)},AL kf R l ms->(l.any λx=>decide (x.1=t))=(ms.any λkv=>decide (kv.1=kf t))
 |[],[],_=>rfl
 |(t',te')::l,(k,u)::ms,h=>by obtain⟨⟨rfl,_⟩,h2⟩:=h;rw[List.any_cons,List.any_cons,AL.any hk t h2];congr 1;exact decide_eq_decide.mpr ⟨λq=>congrArg kf q,hk _ _⟩
theorem AL.put(hk:∀x y,kf x=kf y->x=y){t:κ}{te:α}(hv:R te v){l:List (κ×α)}{ms:List (κ'×V)}(h:AL kf R l ms):AL kf R (qB8 l t te) (zW ms (kf t) v):=by
 have ha:=AL.any hk t h;unfold qB8 zW;by_cases q:(ms.any λkv=>decide (kv.1=kf t))=true
 . rw[YB q,YB (by rw[ha];exact q)]
   exact AL.map hk hv h
 . rw[YA q,YA (by rw[ha];exact q)]
   exact AL.snoc hv h
end
def Kp1(K:W.Frag)(H:Hp)(G:List Te->D)(te:List Te)(v:V):Prop:=te.length<=2/\∃(q tl:Addr) (pv:V),v=.ref q/\H q=some (.tup [.ref tl,pv])/\TL K H tl te/\Rep K H (G te) pv
theorem Kp1.lt(e:LT H H')(hG:qAt G){te:List Te}(h:Kp1 K H G te v):Kp1 K H' G te v:=let ⟨h0,q,tl,pv,h1,h2,h3,h4⟩:=h;⟨h0,q,tl,pv,h1,e.t _ _ h2,e.tl h3,e.rep _ (hG.pc te h0) h4⟩
abbrev MsAt(K:W.Frag)(H:Hp)(G:List Te->D):List (Int×List Te)->List (Key×V)->Prop:=AL Sum.inl (Kp1 K H G)
theorem MsAt.lt{H H':Hp}(e:LT H H'){G:List Te->D}(hG:qAt G){l:List (Int×List Te)}{ms:List (Key×V)}(h:MsAt K H G l ms):MsAt K H' G l ms:=AL.imp (λ_ _ k=>k.lt e hG) h
theorem qZ1(x y:Int)(h:(Sum.inl x:Key)=Sum.inl y):x=y:=Sum.inl.inj h
structure PtS(K:W.Frag)(H:Hp)(C p kd:Addr)(pv:V)(G:List Te->D)(n:Int)(es:List (Str×Addr))(S:Kpt):Prop where
 ins:∃dx,H p=some (.ins C dx [("paint",pv),("calls",.int n),("kept",.ref kd)])
 k:H kd=some (.dK (es.map λe=>(Sum.inr e.1,V.ref e.2)))
 nd:(es.map (·.1)).Nodup
 ad:(kd::es.map (·.2)).Nodup
 ms:∀e∈es,∃ms,H e.2=some (.dK ms)/\MsAt K H G (jx S e.1) ms
 cov:∀x∈S,x.1.1∈es.map (·.1)
 few:S.length<=200
 sk:(S.map (·.1)).Nodup
 two:∀e∈es,e.1="under"\/e.1="above"
theorem PtS.off{p:Addr}{pv:V}{n:Int}(h:PtS K H C p kd pv G n es S)(hG:qAt G)(e:LT H H')(hs:∀b∈p::kd::es.map (·.2),H' b=H b):PtS K H' C p kd pv G n es S:=by
 refine⟨?_,(hs kd (by simp)).trans h.k,h.nd,h.ad,λx hx=>?_,h.cov,h.few,h.sk,h.two⟩
 . obtain⟨dx,q⟩:=h.ins
   exact⟨dx,(hs p (by simp)).trans q⟩
 . obtain⟨ms,h1,h2⟩:=h.ms x hx
   exact⟨ms,(hs x.2 (by simp only[YU,List.mem_map];exact .inr (.inr ⟨x,hx,O⟩))).trans h1,h2.lt e hG⟩
inductive qFi(C:Addr)(vs:List V)(H:Hp)(Q:VK)(_:XK):Prop
|mk (x dx:Addr) (fv:V) (_:vs=[.ref x,fv]) (_:H x=some (.ins C dx [])) (_:∀(kd:Addr) (H':Hp),H kd=none->SB x H H'->H' x=some (.ins C dx [("paint",fv),("calls",.int 0),("kept",.ref kd)])->H' kd=some (.dK [])->Q .non H')
theorem j5(T:Tx K mg a):FnOk P w K mg base CX0 1 a.A97 a.B97 ["self","paint"] (qFi a.k_Painter):=by
 refine oL T.D97.F qAd λ_ _ _ _ H vs Q _ hr h _ Y=>?_;obtain⟨x,dx,fv,rfl,hx,kk⟩:=h;apply Y;refine⟨_,(qD (qNa (pv 0) (pv 1) rfl)
  (qD (qNa (pv 0) qG rfl)
  (qF (qNa (pv 0) qHt rfl)))),?_⟩
 try dsimp only[jD,qc]
 refine⟨_,O,_,O,x,_,dx,_,O,hx,T.cl_Painter,T.na_Painter_paint,by decide,?_⟩;refine⟨_,O,x,_,dx,_,O,qC,T.cl_Painter,T.na_Painter_calls,Yd (zQ _ _ _) (by decide),?_⟩;refine λkd hk=>⟨_,O,x,_,dx,_,O,(by rw[qQ (qV qC hk)];exact qC),T.cl_Painter,T.na_Painter_kept,Yd (zQ _ _ _) (Yd (Nat.succ_le_succ (zQ _ _ _)) (by decide)),?_⟩;have hk0:kd≠x:=(qV (H:=upd (upd H x (.ins a.k_Painter dx (qD4 "paint" fv []))) x (.ins a.k_Painter dx (qD4 "calls" (.int 0) (qD4 "paint" fv [])))) qC hk).symm;have hk1:H kd=none:=by rw[qQ hk0,qQ hk0]at hk;exact hk
 refine kk kd _ hk1 (λb u hb h=>?_) qC ?_
 . have hbk:b≠kd:=qV h hk1
   rw[qQ hb,qQ hbk,qQ hb,qQ hb];exact h
 . rw[qQ hk0];exact qC
inductive qAz(C:Addr)(vs:List V)(H:Hp)(Q:VK)(_:XK):Prop
|mk (p dx kd:Addr) (fv:V) (n:Int) (_:vs=[.ref p]) (_:H p=some (.ins C dx [("paint",fv),("calls",.int n),("kept",.ref kd)])) (_:Q (.int n) H)
theorem jP(T:Tx K mg a):FnOk P w K mg base CX0 1 a.A99 a.B99 ["self"] (qAz a.k_Painter):=by refine oL T.D99.F qBl λ_ _ _ _ _ _ _ _ hr h _ Y=>?_;obtain⟨p,dx,kd,fv,n,rfl,hp,kk⟩:=h;apply Y;exact⟨_,(qF (qK (qJh (pv 0) rfl))),⟨_,O,p,_,dx,_,_,O,hp,T.cl_Painter,T.na_Painter_calls,O,kk⟩⟩
theorem qUp{l:List Str}(h:l.Nodup)(h2:∀x∈l,x="under"\/x="above"):l.length<=2:=by
 match l,h,h2 with
 |[],_,_=>exact ZP _
 |[_],_,_=>exact Nat.le_succ _
 |[_,_],_,_=>exact YI _
 |a::b::c::r,h,h2=>
  exfalso;obtain⟨n1,h⟩:=List.nodup_cons.mp h;obtain⟨n2,_⟩:=List.nodup_cons.mp h;simp only[YU,not_or]at n1 n2;have a2:=h2 a (by simp);have b2:=h2 b (by simp);have c2:=h2 c (by simp);rcases a2 with rfl|rfl <;> rcases b2 with rfl|rfl <;> rcases c2 with rfl|rfl <;> simp at n1 n2
theorem PtS.len2{p:Addr}{n:Int}(h:PtS K H C p kd fv G n es S):es.length<=2:=by
 have:=qUp h.nd λx hx=>by obtain⟨e,he,rfl⟩:=List.mem_map.mp hx;exact h.two e he
 rwa [YS]at this
inductive qDc(K:W.Frag)(C:Addr)(vs:List V)(H:Hp)(Q:VK)(_:XK):Prop
|mk (p kd:Addr) (fv:V) (G:List Te->D) (n:Int) (es:List (Str×Addr)) (S:Kpt) (_:vs=[.ref p]) (_:PtS K H C p kd fv G n es S) (_:∀H',Same H H'->Q (.int S.length) H')
theorem qM5:∀l:List Nat,(l.map λn:Nat=>(n:Int)).sum=((l.sum:Nat):Int)
 |[]=>rfl
 |n::l=>by rw[ZG,List.sum_cons,List.sum_cons,qM5 l];omega
theorem xo(T:Tx K mg a):FnOk P w K mg base CX0 1 a.A100 a.B100 ["self"] (qDc K a.k_Painter):=by
 refine oL T.D100.F qDf λ_ _ _ _ H vs Q _ hr h _ Y=>?_;obtain⟨p,kd,fv,G,n,es,S,rfl,hP,kk⟩:=h;apply Y;have hes:=hP.len2;refine⟨_,(qF (qK (qX (qJp rfl) rfl T.b_sum rfl (qA (qU8 (wU [] [] rfl (qPk (qJh (pv 0) rfl)) (λ_ _ _ _=>(qX qRn rfl T.b_len rfl (qA (pv 0) qB))))) qB)))),?_⟩
 try dsimp only[jD,qc]
 obtain⟨dx,hp⟩:=hP.ins;have hk:=hP.k;refine⟨kd,_,hk,_,O,p,_,dx,_,_,O,hp,T.cl_Painter,T.na_Painter_kept,O,kd,_,O,.inr ⟨hk,λo=>?_⟩⟩;have hne:∀e∈es,e.2≠kd:=λe he q=>(List.nodup_cons.mp hP.ad).1 (by rw[<-q];exact List.mem_map.mpr ⟨e,he,rfl⟩);refine qLf (λj acc H'=>acc=((es.take j).map λe=>((jx S e.1).length:Int)).map V.int/\H'=upd H kd (.frz o (.dK (es.map λe=>(Sum.inr e.1,V.ref e.2))))) ⟨O,O⟩ ?_ ?_ ?_
 . rintro j acc H' hj ⟨rfl,rfl⟩
   refine⟨qC,qj ?_⟩;rw[YS,YS,Yk];omega
 . rintro j k v acc H' hj hx ⟨rfl,rfl⟩
   rw[Yj]at hx;refine qS λ_ Y=>?_;obtain⟨e,he,q⟩:=Option.map_eq_some_iff.mp hx;cases q;have hm:=YF he;obtain⟨ms,h1,h2⟩:=hP.ms e hm;apply Y;refine⟨_,O,e.2,ms,O,by rw[qQ (hne e hm)];exact h1,Nxt.mk hj ⟨?_,O⟩⟩;rw[Ys,he,Yr,Yr,h2.len];rfl
 rintro acc H' ⟨rfl,rfl⟩ l hl;rw[YS,Yw];have nl:l≠kd:=λq=>by rw[q,qC]at hl;cases hl
 refine⟨o,_,by rw[qQ nl.symm];exact qC,?_⟩;have hsum:(es.map λe=>((jx S e.1).length:Int)).sum=S.length:=by have:=qRw S (es.map (·.1)) hP.nd hP.cov;rw[List.map_map]at this;rw[<-this,<-qM5,List.map_map];rfl
 refine⟨l,es.map λe=>((jx S e.1).length:Int),O,SqL.of (by rw[qQ nl];exact qC),?_⟩;rw[hsum];refine kk _ λb u hb=>?_;by_cases q:b=kd
 . subst q
   rw[qC];rw[hk]at hb;exact hb
 . have hbl:b≠l:=λz=>by rw[z]at hb;rw[qQ nl]at hl;rw[hl]at hb;cases hb
   rw[qQ q,qQ hbl,qQ q];exact hb
inductive qCt(K:W.Frag)(C:Addr)(vs:List V)(H:Hp)(Q:VK)(_:XK):Prop
|mk (p kd:Addr) (fv:V) (G:List Te->D) (n:Int) (es:List (Str×Addr)) (S:Kpt) (nm:Str) (_:vs=[.ref p,.str nm]) (_:PtS K H C p kd fv G n es S) (_:qAt G) (_:∀H',SB kd H H'->PtS K H' C p kd fv G n (es.filter λe=>decide (e.1≠nm)) (qDl S nm)->Q .non H')
theorem qCc(T:Tx K mg a):FnOk P w K mg base CX0 1 a.A101 a.B101 ["self","name"] (qCt K a.k_Painter):=by
 refine oL T.D101.F qB9 λ_ _ _ _ H _ _ _ hr h _ Y=>?_;obtain⟨p,kd,fv,G,n,es,S,nm,rfl,hP,hG,kk⟩:=h;apply Y;refine⟨_,(qF (jR (qSd (qJh (pv 0) rfl) (pv 1) vM ⟨O,O,O,O⟩))),?_⟩
 try dsimp only[jD,qc]
 obtain⟨dx,hp⟩:=hP.ins;have hk:=hP.k;have npk:p≠kd:=xC hp hk (by intro q;cases q);have hne:∀e∈es,e.2≠kd:=λe he q=>(List.nodup_cons.mp hP.ad).1 (by rw[<-q];exact List.mem_map.mpr ⟨e,he,rfl⟩);have ed:qAw (es.map λe=>((Sum.inr e.1:Key),V.ref e.2)) (Sum.inr nm)=(es.filter λe=>decide (e.1≠nm)).map λe=>(Sum.inr e.1,V.ref e.2):=by unfold qAw;rw[List.filter_map];congr 1;refine List.filter_congr λe _=>?_;simp
 have sub:∀{e:Str×Addr},e∈es.filter (λe=>decide (e.1≠nm))->e∈es/\e.1≠nm:=λh=>by obtain⟨h1,h2⟩:=List.mem_filter.mp h;exact⟨h1,ZK h2⟩
 have nds:((es.filter λe=>decide (e.1≠nm)).map (·.1)).Nodup/\(kd::(es.filter λe=>decide (e.1≠nm)).map (·.2)).Nodup:=
  ⟨hP.nd.sublist (List.filter_sublist.map _),hP.ad.sublist ((List.filter_sublist.map _).cons_cons _)⟩
 have cov:∀x∈qDl S nm,x.1.1∈(es.filter λe=>decide (e.1≠nm)).map (·.1):=λx hx=>by obtain⟨h1,h2⟩:=List.mem_filter.mp hx;obtain⟨e,he,q⟩:=List.mem_map.mp (hP.cov x h1);exact List.mem_map.mpr ⟨e,List.mem_filter.mpr ⟨he,by rw[q];exact h2⟩,q⟩
 have sk:((qDl S nm).map (·.1)).Nodup:=hP.sk.sublist (List.filter_sublist.map _);have few:(qDl S nm).length<=200:=ZC (List.length_filter_le _ _) hP.few;refine⟨_,O,p,_,dx,_,_,O,hp,T.cl_Painter,T.na_Painter_kept,O,kd,O,.inl ⟨_,.of hk⟩,_,O,_,Sum.inr nm,hk,O,λv hv=>?_,λhn=>?_⟩
 . have sb:SB kd H (upd H kd (.dK (qAw (es.map λe=>((Sum.inr e.1:Key),V.ref e.2)) (Sum.inr nm)))):=wT
   have lt:=qLn sb hk;refine kk _ sb ⟨⟨dx,by rw[qQ npk];exact hp⟩,by rw[qC,ed],nds.1,nds.2,λe he=>?_,cov,few,sk,λe he=>hP.two e (sub he).1⟩;refine qS λ_ Y=>?_;obtain⟨he,hn⟩:=sub he;obtain⟨ms,h1,h2⟩:=hP.ms e he;apply Y;exact⟨ms,by rw[qQ (hne e he)];exact h1,by rw[qJ0 hn];exact h2.lt lt hG⟩
 . have hnn:∀e∈es,e.1≠nm:=λe he q=>qM0 hn (by rw[List.map_map];exact List.mem_map.mpr ⟨e,he,by show (Sum.inr e.1:Key)=_;rw[q]⟩)
   have ef:(es.filter λe=>decide (e.1≠nm))=es:=List.filter_eq_self.mpr λe he=>YX (hnn e he);refine kk _ (vK (Same.refl _)) ⟨⟨dx,hp⟩,by rw[ef];exact hk,nds.1,nds.2,λe he=>?_,cov,few,sk,λe he=>hP.two e (sub he).1⟩;refine qS λ_ Y=>?_;obtain⟨he,hn'⟩:=sub he;obtain⟨ms,h1,h2⟩:=hP.ms e he;apply Y;exact⟨ms,h1,by rw[qJ0 hn'];exact h2⟩
noncomputable def eqT(ts us:List Te):Bool:=qAm (ts.map Te.d) (us.map Te.d)
theorem qU7{t u:Te}(h:eqD t.d u.d=true):t=u:=by obtain⟨n,k,p,q⟩:=t;obtain⟨n',k',p',q'⟩:=u;simpa[Te.d,eqD,qAm,eqV]using h
theorem qTz:∀{ts us:List Te},eqT ts us=true->ts=us
 |[],[],_=>rfl
 |[],_::_,h=>by simp[eqT,qAm]at h
 |_::_,[],h=>by simp[eqT,qAm]at h
 |t::ts,u::us,h=>by unfold eqT List.map qAm at h;rw[Yl]at h;rw[qU7 h.1,qTz (ts:=ts) (us:=us) h.2]
theorem qZ5{x y:Addr}{ts us:List Te}(h1:TL K H x ts)(h2:TL K H y us)(q:Q (.bl (!eqT ts us)) H):qT3 K true (.ref x) (.ref y) H Q:=by
 refine⟨_,_,h1.rep,h2.rep,rfl,by have:=qEu ts;unfold dep;omega,?_⟩;have e:eqD (.lst (ts.map Te.d)) (.lst (us.map Te.d))=eqT ts us:=by unfold eqD;rfl
 rw[e];exact q
noncomputable def qUa(o:Option (List Te))(ts:List Te):Int:=match o with|some us=>(if eqT us ts then 0 else 1)|none=>1
section
variable{κ α:Type} [DecidableEq κ]
theorem qBb{k:κ}{v:α}:∀{l:List (κ×α)},(l.map (·.1)).Nodup->qA4 l k=some v->qB8 l k v=l
 |[],_,h=>by cases h
 |(k',x)::l,hn,h=>by
  obtain⟨n1,n2⟩:=List.nodup_cons.mp hn;by_cases e:k'=k
  . subst e
    have:x=v:=by unfold qA4 at h;simpa using h
    subst this;rw[vi];congr 1;have:∀y∈l,(if y.1=k' then (k',x)else y)=y:=λy hy=>YA λq=>n1 (by rw[<-q];exact List.mem_map.mpr ⟨y,hy,rfl⟩);rw[List.map_congr_left this];exact List.map_id _
  . rw[xk e,qBb n2 (by unfold qA4 at h⊢;rwa [List.find?_cons_of_neg (by simpa using e)]at h)]
theorem qPe{l:List (κ×α)}{k:κ}{v:α}(hn:(l.map (·.1)).Nodup):((qB8 l k v).map (·.1)).Nodup:=by
 unfold qB8;split
 . rw[List.map_map]
   have:(l.map ((·.1) ∘ λx=>if x.1=k then (k,v)else x))=l.map (·.1):=List.map_congr_left λy _=>by
    show (if y.1=k then (k,v)else y).1=y.1;split
    . rename_i q;exact q.symm
    . rfl
   rw[this];exact hn
 . rename_i q
   rw[Yr];refine List.nodup_append.mpr ⟨hn,by simp,λx hx y hy e=>q ?_⟩;rw[List.map_singleton,YY]at hy;obtain⟨z,hz,rfl⟩:=List.mem_map.mp hx;exact List.any_eq_true.mpr ⟨z,hz,YX (e.trans hy)⟩
theorem qNt{l:List (κ×α)}{k:κ}{v:α}:(qB8 l k v).length<=l.length+1:=by
 unfold qB8;split
 . rw[YS];omega
 . rw[YN];exact YI _
end
theorem qSj(h:∀x∈S,x.1.1≠nm):jx S nm=[]:=by unfold jx;rw[List.filter_eq_nil_iff.mpr λx hx=>by simpa using h x hx];rfl
theorem VCall.mono{P:Program}{w:World}{K:W.Frag}{mg:Str->Option Value}{base:Heap}{k k':Nat}(h:k<=k'){x:V}(c:VCall P w K mg base k x Q vs H):VCall P w K mg base k' x Q vs H:=let ⟨f,j,fd,ps,sp,e,hj,F,b,q⟩:=c;⟨f,j,fd,ps,sp,e,ZC hj h,F,b,q⟩
theorem qM2{κ:Type} [DecidableEq κ] {k:κ}{v:V}:∀{kvs:List (κ×V)},x6 kvs k=some v->(k,v)∈kvs
 |[],h=>by cases h
 |(j,u)::r,h=>by
  by_cases e:j=k
  . rw[jZ e]at h
    cases h;rw[e];exact List.mem_cons_self
  . rw[jU e]at h
    exact List.mem_cons_of_mem _ (qM2 h)
theorem PtS.there{p:Addr}{n:Int}(h:PtS K H C p kd fv G n es S){b:Addr}(hb:b∈p::kd::es.map (·.2)):∃u,H b=some u:=by
 rcases YU.mp hb with rfl|hb
 . obtain⟨dx,q⟩:=h.ins;exact⟨_,q⟩
 rcases YU.mp hb with rfl|hb
 . exact⟨_,h.k⟩
 obtain⟨x,hx,rfl⟩:=List.mem_map.mp hb;obtain⟨ms,q,_⟩:=h.ms x hx;exact⟨_,q⟩
theorem PtS.same{p:Addr}{n:Int}(h:PtS K H C p kd fv G n es S)(hG:qAt G)(e:Same H H'):PtS K H' C p kd fv G n es S:=by refine h.off hG (LT.of e) λb hb=>?_;obtain⟨u,hu⟩:=h.there hb;rw[hu];exact e _ _ hu
theorem PtS.setd{p:Addr}{n:Int}(h:PtS K H C p kd fv G n es S)(hG:qAt G)(hn:nm="under"\/nm="above")
 (hv:x6 (es.map λe=>((Sum.inr e.1:Key),V.ref e.2)) (Sum.inr nm)=none) {d:Addr} (hd:H d=none):
 PtS K (upd (upd H d (.dK [])) kd (.dK (zW (es.map λe=>((Sum.inr e.1:Key),V.ref e.2)) (Sum.inr nm) (.ref d)))) C p kd fv G n (es++[(nm,d)]) S:=by
 have hk:=h.k;obtain⟨dx,hp⟩:=h.ins;have npk:p≠kd:=xC hp hk (by intro q;cases q);have ndk:d≠kd:=(qV hk hd).symm;have npd:p≠d:=qV hp hd;have hne:∀e∈es,e.2≠kd:=λe he q=>(List.nodup_cons.mp h.ad).1 (by rw[<-q];exact List.mem_map.mpr ⟨e,he,rfl⟩);have hnd:∀e∈es,e.2≠d:=λe he=>by obtain⟨ms,q,_⟩:=h.ms e he;exact qV q hd
 have hnn:∀e∈es,e.1≠nm:=λe he q=>qM0 hv (by rw[List.map_map];exact List.mem_map.mpr ⟨e,he,by show (Sum.inr e.1:Key)=_;rw[q]⟩);have ep:zW (es.map λe=>((Sum.inr e.1:Key),V.ref e.2)) (Sum.inr nm) (.ref d)=(es++[(nm,d)]).map λe=>((Sum.inr e.1:Key),V.ref e.2):=by unfold zW;rw[wH,hv,YA (by simp),Yr];rfl
 have lt:LT H (upd (upd H d (.dK [])) kd (.dK (zW (es.map λe=>((Sum.inr e.1:Key),V.ref e.2)) (Sum.inr nm) (.ref d)))):=
  (LT.of (qE hd _)).trans (qLn wT (by rw[qQ ndk.symm];exact hk))
 refine⟨⟨dx,by rw[qQ npk,qQ npd];exact hp⟩,by rw[qC,ep],?_,?_,λe he=>?_,λx hx=>?_,h.few,h.sk,λe he=>?_⟩
 . rw[Yr]
   refine List.nodup_append.mpr ⟨h.nd,by simp,λx hx y hy=>?_⟩;rw[List.map_singleton,YY]at hy;obtain⟨z,hz,rfl⟩:=List.mem_map.mp hx;rw[hy];exact hnn z hz
 . obtain⟨a1,a2⟩:=List.nodup_cons.mp h.ad
   rw[Yr];refine List.nodup_cons.mpr ⟨λq=>?_,List.nodup_append.mpr ⟨a2,by simp,λx hx y hy=>?_⟩⟩
   . rcases YO.mp q with q|q
     . exact a1 q
     . rw[List.map_singleton,YY]at q;exact ndk q.symm
   . rw[List.map_singleton,YY]at hy
     obtain⟨z,hz,rfl⟩:=List.mem_map.mp hx;rw[hy];exact hnd z hz
 . rcases YO.mp he with he|he
   . obtain⟨ms,q1,q2⟩:=h.ms e he
     exact⟨ms,by rw[qQ (hne e he),qQ (hnd e he)];exact q1,q2.lt lt hG⟩
   . obtain rfl:=YY.mp he
     refine⟨[],by rw[qQ ndk];exact qC,?_⟩;rw[qSj λx hx q=>?_]
     . trivial
     . obtain⟨z,hz,e⟩:=List.mem_map.mp (h.cov x hx)
       exact hnn z hz (e.trans q)
 . rw[Yr]
   exact Yp _ (h.cov x hx)
 . rcases YO.mp he with he|he
   . exact h.two e he
   . obtain rfl:=YY.mp he;exact hn
theorem qO6{α β:Type}{f:α->β}:∀{l:List α},(l.map f).Nodup->∀{a b:α},a∈l->b∈l->f a=f b->a=b
 |[],_,_,_,h,_,_=>by cases h
 |c::l,hn,a,b,ha,hb,e=>by
  obtain⟨n1,n2⟩:=List.nodup_cons.mp hn;rcases YU.mp ha with ha|ha
  . rcases YU.mp hb with hb|hb
    . rw[ha,hb]
    . exact YC (List.mem_map.mpr ⟨b,hb,by rw[<-e,ha]⟩) n1
  . rcases YU.mp hb with hb|hb
    . exact YC (List.mem_map.mpr ⟨a,ha,by rw[e,hb]⟩) n1
    . exact qO6 n2 ha hb e
theorem PtS.put{H H':Hp}{C p kd dx:Addr}{fv:V}{G:List Te->D}{n:Int}{es:List (Str×Addr)}{S:Kpt}(h:PtS K H C p kd fv G n es S)(hG:qAt G)(lt:LT H H'){nm:Str}{dm:Addr}(hm:(nm,dm)∈es){ms:List (Key×V)}(hms:H dm=some (.dK ms)){t:Int}{v:V}{TT:List Te}
 (h1:H' dm=some (.dK (zW ms (Sum.inl t) v))) {m:Int} (h2:H' p=some (.ins C dx [("paint",fv),("calls",.int m),("kept",.ref kd)])) (hs:∀b∈kd::es.map (·.2),b≠dm->H' b=H b) (hv:Kp1 K H' G TT v) (hS:S.length<200):PtS K H' C p kd fv G m es (qB8 S (nm,t) TT):=by
 have ndk:kd≠dm:=λq=>(List.nodup_cons.mp h.ad).1 (by rw[q];exact List.mem_map.mpr ⟨_,hm,rfl⟩);have inj:∀e∈es,e.1=nm->e=(nm,dm):=λe he q=>qO6 h.nd he hm q;have inj2:∀e∈es,e.2=dm->e=(nm,dm):=λe he q=>qO6 (List.nodup_cons.mp h.ad).2 he hm q;refine⟨⟨dx,h2⟩,(hs kd (by simp) ndk).trans h.k,h.nd,h.ad,λe he=>?_,λx hx=>?_,ZC qNt hS,qPe h.sk,h.two⟩
 . obtain⟨ms',q1,q2⟩:=h.ms e he
   by_cases q:e.1=nm
   . obtain rfl:=inj e he q
     rw[hms]at q1;cases q1;refine⟨_,h1,?_⟩;rw[qNk];exact AL.put qZ1 hv (q2.lt lt hG)
   . refine⟨ms',(hs e.2 (by simp only[YU,List.mem_map];exact .inr ⟨e,he,O⟩) λz=>q (by rw[inj2 e he z])).trans q1,?_⟩
     rw[qL9 q];exact q2.lt lt hG
 . rcases qTi hx with hx|rfl
   . exact h.cov x hx
   . exact List.mem_map.mpr ⟨_,hm,O⟩
theorem qGr(T:Tx K mg a):FnOk P w K mg base CX0 11 a.A45 a.B45 ["room","name","moment"] (zB K 2):=(qQz T 2).1
theorem qC2(T:Tx K mg a):FnOk P w K mg base CX0 5 a.A46 a.B46 ["thing"] (wI K 5):=qGj T 5
structure qYs(K:W.Frag)(H H':Hp)(C p kd:Addr)(fv:V)(G:List Te->D)(n:Int)(es es':List (Str×Addr))(S:Kpt)(k:Str×Int)(TT:List Te):Prop where
 lt:LT H H'
 pt:PtS K H' C p kd fv G (n+qUa (qA4 S k) TT) es' (qB8 S k TT)
 st:∀b u,b∉p::kd::es.map (·.2)->H b=some u->H' b=some u
 fr:∀e∈es',e∈es\/H e.2=none
def qCr(P:Program)(w:World)(K:W.Frag)(mg:Str->Option Value)(C N:Addr):Sp:=λvs H Q E=>
 (∃(pz:V) (nm:Str) (mt x:V) (rz td:Addr) (kvs:List (Key×V)),vs=[pz,.ref rz,.str nm,mt]/\H rz=some (.tup [x,.ref td])/\H td=some (.dK kvs)/\x6 kvs (Sum.inr nm)=none/\∀H',Same H H'->E (.ref N) none H')\/
 ∃(p kd:Addr) (fv:V) (G:List Te->D) (n:Int) (es:List (Str×Addr)) (S:Kpt) (nm:Str) (t:Int) (rz re td:Addr) (A:Rg) (M:Int) (c:Nat) (U Z:List (List Im)),vs=[.ref p,.ref rz,.str nm,.int t]/\PtS K H C p kd fv G n es S/\wt P w K mg fv G/\
  H rz=some (.tup [.ref re,.ref td])/\RoomS H re td A M c U Z/\M<=1000/\c<=300/\(nm="under"\/nm="above")/\0<=t/\t<2 ^ 60/\S.length<200/\
  ∀(y:V) (es':List (Str×Addr)) (H':Hp),qYs K H H' C p kd fv G n es es' S (nm,t) (qq (rm2 U Z) 2 nm t)->Rep K H' (G (qq (rm2 U Z) 2 nm t)) y->Q y H'
theorem kH(T:Tx K mg a):FnOk P w K mg base (CXR P w) 12 a.A98 a.B98 ["self","room","name","moment"] (qCr P w K mg a.k_Painter a.k_NoRoom):=by
 refine okX T.D98.F j4 (λvs H Q E h=>?_) (λcdv A outer s H vs Q E hr h=>?_)
 . rcases h with ⟨pz,nm,mt,x,rz,td,kvs,rfl,_⟩|⟨p,kd,fv,G,n,es,S,nm,t,rz,re,td,A,M,c,U,Z,rfl,_⟩
   . rfl
   . rfl
 have hu:=hr.units;have hu1:=qJ8 hr;refine⟨_,(qD (qZ (PW.pt (jv (jK (qr (qX jB rfl T.b_isinstance rfl (qA (pv 2) (qA (qDo rfl T.b_str rfl) qB))))) (jL (zV (qA5 hu1 (pv 2) (qJ (pv 1))))))) (qF (xV rfl rfl T.c_NoRoom T.x_NoRoom (qA qR qB))) qN)
  (qD (qW 4 j4.nd (qI T.D45 (qGr T) hr rfl (qA (pv 1) (qA (pv 2) (qA (pv 3) qB)))))
  (qD (qW 5 j4.nd (qTm (qJh (pv 0) rfl) (pv 2) qHt ⟨rfl,rfl,rfl,rfl⟩))
  (qD (kn (qZ (PW.pt (jv (zV (qA5 hu1 (pv 3) (pv 5))) (jL (qM (qMx hu) (qJ (kh hu1 (pv 5) (pv 3) (λ_ _=>rfl))) (pv 4) (qO _))))) (qD (qW 6 j4.nd (qS5 (pv 0) hr (qA (jw xh rfl T.b_list rfl (qA (pv 4) qB)) qB)))
  (qD (qNa (pv 0) (qP qk (qJh (pv 0) rfl) qG) rfl)
  (qF (qL5 hu1 (pv 5) (pv 3) (qY (qA (pv 4) (qA (qI T.D46 (qC2 T) hr rfl (qA (pv 6) qB)) qB))) rfl)))) qN))
  (qF (qK (qI T.D46 (qC2 T) hr rfl (qA (qJ (kh hu1 (pv 5) (pv 3) (λ_ _=>rfl))) qB)))))))),?_⟩
 try dsimp only[jD,qc]
 rcases h with ⟨pz,nm,mt,x,rz,td,kvs,rfl,hz,hd,hv,ke⟩|⟨p,kd,fv,G,n,es,S,nm,t,rz,re,td,A1,M,c,U,Z,rfl,hP,hF,hz,hR,hM,hc,hn,t0,t1,hS,kk⟩
 . refine⟨_,O,_,_,_,true,O,.str nm,⟨_,.inl ⟨O,by kernel_rfl⟩⟩,true,O,qv ?_⟩
   refine⟨_,O,ixO hz at1 ⟨td,none,O,.inl ⟨kvs,Sum.inr nm,.of hd,O,hv.symm⟩,true,O,jn ?_⟩⟩;exact⟨by decide,ke H (Same.refl H)⟩
 have hG:=hF.2.1;refine qS λ_ Y=>?_;obtain⟨tu,ta,hd,_,_⟩:=id hR.d;obtain⟨v0,hv⟩:∃v,x6 [((Sum.inr "under":Key),V.ref tu),(Sum.inr "above",.ref ta)] (Sum.inr nm)=some v:=by
  rcases hn with rfl|rfl
  . exact⟨_,jZ rfl⟩
  . exact⟨_,by rw[jU (λq=>nab (Sum.inr.inj q).symm)];exact jZ rfl⟩
 apply Y;refine⟨_,O,_,_,_,true,O,.str nm,⟨_,.inl ⟨O,by kernel_rfl⟩⟩,true,O,qv ?_⟩;refine⟨_,O,ixO hz at1 ⟨td,some v0,O,.inl ⟨_,Sum.inr nm,.of hd,O,hv.symm⟩,false,O,qv ?_⟩⟩;refine⟨_,O,_,O,_,O,rz,nm,t,rm2 U Z,O,hR.rm hz,hR.lv hM hc hn,t0,by omega,λl H1 e1 hl hTL=>?_⟩;have hTT:=kA (rm2 U Z) 2 nm t;generalize qq (rm2 U Z) 2 nm t=TT at kk hTL hTT;have hP1:=hP.same hG e1;obtain⟨dx,hp1⟩:=hP1.ins;have hk1:=hP1.k;refine⟨_,O,p,_,dx,_,_,O,hp1,T.cl_Painter,T.na_Painter_kept,O,kd,O,.inl ⟨_,.of hk1⟩,_,O,λd0 hd0=>?_⟩;have nk0:kd≠d0:=qV hk1 hd0;refine⟨_,Sum.inr nm,by rw[qQ nk0];exact hk1,rfl,by rw[YS];have:=hP1.len2;exact ZC (show es.length+1<=3 by omega) (by decide),?_⟩;have w3:Same H1 (upd H1 d0 (.dK [])):=qE hd0 _;refine qS λ_ Y=>?_;obtain⟨es2,dm,H2,hm,hP2,hT2,st2,lt2,fr2,hset⟩:∃(es2:List (Str×Addr)) (dm:Addr) (H2:Hp),(nm,dm)∈es2/\PtS K H2 a.k_Painter p kd fv G n es2 S/\TL K H2 l TT/\(∀b u,b∉p::kd::es.map (·.2)->H b=some u->H2 b=some u)/\LT H H2/\(∀e∈es2,e∈es\/H e.2=none)/\
  ((x6 (es.map λe=>((Sum.inr e.1:Key),V.ref e.2)) (Sum.inr nm)=some (.ref dm)/\H2=upd H1 d0 (.dK []))\/(x6 (es.map λe=>((Sum.inr e.1:Key),V.ref e.2)) (Sum.inr nm)=none/\V.ref dm=.ref d0/\H2=upd (upd H1 d0 (.dK [])) kd (.dK (zW (es.map λe=>((Sum.inr e.1:Key),V.ref e.2)) (Sum.inr nm) (.ref d0))))):=by
  have st1:∀b u,H b=some u->upd H1 d0 (.dK []) b=some u:=λb u h=>w3 _ _ (e1 _ _ h);cases hx:x6 (es.map λe=>((Sum.inr e.1:Key),V.ref e.2)) (Sum.inr nm)with
  |some u=>
   obtain⟨e,he,q⟩:=List.mem_map.mp (qM2 hx);obtain⟨q1,q2⟩:=Prod.mk.inj q;subst q2;obtain rfl:e.1=nm:=Sum.inr.inj q1;exact⟨es,e.2,_,he,hP1.same hG w3,hTL.same w3,λb u _ h=>st1 b u h,(LT.of e1).trans (LT.of w3),λe h=>.inl h,.inl ⟨O,O⟩⟩
  |none=>
   have lt3:LT (upd H1 d0 (.dK [])) (upd (upd H1 d0 (.dK [])) kd (.dK (zW (es.map λe=>((Sum.inr e.1:Key),V.ref e.2)) (Sum.inr nm) (.ref d0)))):=qLn wT (by rw[qQ nk0];exact hk1);refine⟨es++[(nm,d0)],d0,_,by simp,hP1.setd hG hn hx hd0,lt3.tl (hTL.same w3),λb u hb h=>?_,((LT.of e1).trans (LT.of w3)).trans lt3,λe he=>?_,.inr ⟨O,O,O⟩⟩
   . have hbk:b≠kd:=λq=>hb (by rw[q];simp)
     rw[qQ hbk];exact st1 b u h
   . rcases YO.mp he with he|he
     . exact .inl he
     . obtain rfl:=YY.mp he
       cases hh:H d0 with
       |none=>exact .inr rfl
       |some u=>rw[e1 _ _ hh]at hd0;cases hd0
 apply Y;refine⟨.ref dm,H2,hset,?_⟩;clear hset;refine⟨λσ H'=> ∃o,σ=[some (.ref p),some (.ref rz),some (.str nm),some (.int t),some (.ref l),some (.ref dm),o]/\qYs K H H' a.k_Painter p kd fv G n es es2 S (nm,t) TT/\∃ms v,H' dm=some (.dK ms)/\x6 ms (Sum.inl t)=some v/\Kp1 K H' G TT v,?_,?_⟩
 rotate_left
 . rintro σ H' ⟨o,rfl,hA,ms,v,h1,h2,_,q,tl,pc,rfl,hq,_,hrep⟩
   refine⟨_,O,_,O,dm,.ref q,O,.inl ⟨ms,Sum.inl t,.of h1,O,h2.symm⟩,ixT (SqT.of hq) at1 ?_⟩;exact⟨pc,G TT,O,hrep,hG.pc _ hTT,hG.dp _,λy H9 e9 hy=>kk y es2 H9 ⟨hA.lt.trans (LT.of e9),hA.pt.same hG e9,λb u n h=>e9 _ _ (hA.st b u n h),hA.fr⟩ hy⟩
 refine qS λ_ Y=>?_;obtain⟨ms,hms,hMs⟩:=hP2.ms (nm,dm) hm;apply Y;have hcond:∀Qc:Bool->Hp->Prop,(∀b,(b=true->qUa (qA4 S (nm,t)) TT=1)->(b=false->∃v,qA4 S (nm,t)=some TT/\qUa (qA4 S (nm,t)) TT=0/\x6 ms (Sum.inl t)=some v/\Kp1 K H2 G TT v)->Qc b H2)->(tOr (tB (qLs (qIn 3) (qIn 5))) (qSg (tOp (qT3 K true) (tOp (qVz K) (qUy (qIn 5) (qIn 3)) (tC (.int 0))) (qIn 4)))) [some (.ref p),some (.ref rz),some (.str nm),some (.int t),some (.ref l),some (.ref dm),none] H2 Qc:=by
  intro Qc hQ;rcases AL.val qZ1 t hMs with ⟨a1,a2⟩|⟨te,v,a1,a2,a3⟩
  . rw[qHc]at a1
    refine⟨_,O,_,O,dm,none,O,.inl ⟨ms,Sum.inl t,.of hms,O,a2.symm⟩,true,O,jn ?_⟩;exact hQ true (λ_=>by rw[a1];rfl) (λq=>by cases q)
  . rw[qHc]at a1
    obtain⟨_,q,tl,pc,rfl,hq,htl,_⟩:=id a3;refine⟨_,O,_,O,dm,some (.ref q),O,.inl ⟨ms,Sum.inl t,.of hms,O,a2.symm⟩,false,O,qv ?_⟩;refine⟨_,O,_,O,dm,.ref q,O,.inl ⟨ms,Sum.inl t,.of hms,O,a2.symm⟩,ixT (SqT.of hq) at0 ?_⟩;refine⟨_,O,qZ5 htl hT2 ?_⟩;refine⟨_,O,hQ _ (λz=>?_) λz=>?_⟩
    . have z:eqT te TT=false:=by simpa using z
      rw[a1];show (if eqT te TT then (0:Int)else 1)=1;rw[z];rfl
    . have z:eqT te TT=true:=by simpa using z
      obtain rfl:=qTz z;exact⟨_,a1,by rw[a1];show (if eqT te te then (0:Int)else 1)=0;rw[z];rfl,a2,a3⟩
 refine hcond _ λb hb1 hb2=>?_;cases b with
 |false=>
  refine qS λ_ Y=>?_;obtain⟨v,b1,b2,b3,b4⟩:=hb2 rfl;apply Y;exact qv ⟨none,O,⟨lt2,by rw[b2,qBb hP2.sk b1,Yc];exact hP2,st2,fr2⟩,ms,v,hms,b3,b4⟩
 |true=>
  refine jn ?_;have hN:=hb1 rfl;refine qS λ_ Y=>?_;obtain⟨dx2,hp2⟩:=hP2.ins;have hk2:=hP2.k;obtain⟨vs,hl2,hts2⟩:=id hT2;apply Y;refine⟨_,O,p,_,dx2,_,fv,O,hp2,T.cl_Painter,T.na_Painter_paint,O,hF.1,_,O,l,vs,O,.inl (SqL.of hl2),λl2 hn2=>?_⟩;have w4:Same H2 (upd H2 l2 (.lst vs)):=qE hn2 _;refine VCall.mono (show 1<=11 by decide) (hF.2.2 base _ l2 TT _ ⟨vs,qC,hts2.same w4⟩ hTT λy H4 sb4 hy=>?_);have e4:Same H2 H4:=λb u h=>sb4 b u (qV h hn2) (w4 b u h);have hp4:=e4 _ _ hp2;have hm4:=e4 _ _ hms;have npm:p≠dm:=xC hp2 hms (by intro q;cases q);refine⟨_,O,p,_,dx2,_,_,O,hp4,T.cl_Painter,T.na_Painter_calls,O,n,1,O,O,_,O,p,_,dx2,_,O,hp4,T.cl_Painter,T.na_Painter_calls,show 3<1000 by decide,?_⟩;have e5:∀b u,b≠p->H4 b=some u->upd H4 p (.ins a.k_Painter dx2 (qD4 "calls" (.int (n+1)) [("paint",fv),("calls",.int n),("kept",.ref kd)])) b=some u:=λb u hb h=>by rw[qQ hb];exact h
  have l5:LT H4 (upd H4 p (.ins a.k_Painter dx2 (qD4 "calls" (.int (n+1)) [("paint",fv),("calls",.int n),("kept",.ref kd)]))):=⟨λb xs h=>e5 _ _ (xC h hp4 (by intro q;cases q)) h,λb xs h=>e5 _ _ (xC h hp4 (by intro q;cases q)) h,λb o u h=>e5 _ _ (xC h hp4 (by intro q;cases q)) h⟩;have hp5:upd H4 p (.ins a.k_Painter dx2 (qD4 "calls" (.int (n+1)) [("paint",fv),("calls",.int n),("kept",.ref kd)])) p=some (.ins a.k_Painter dx2 [("paint",fv),("calls",.int (n+1)),("kept",.ref kd)]):=by rw[qC];rfl
  generalize upd H4 p (.ins a.k_Painter dx2 (qD4 "calls" (.int (n+1)) [("paint",fv),("calls",.int n),("kept",.ref kd)]))=H5 at e5 l5 hp5⊢;refine⟨_,O,_,O,y,G TT,O,l5.rep _ (hG.pc _ hTT) hy,hG.pc _ hTT,hG.dp _,λy2 H6 e6 hy2=>⟨sL2,λz hz6=>?_⟩⟩;have w7:=qE hz6 (.tup [.ref l,y2]);have hm7:=w7 _ _ (e6 _ _ (e5 _ _ npm.symm hm4));have hlen:ms.length<sizeLine:=by
   have:=hMs.len;have h3:(jx S nm).length<=S.length:=by unfold jx;rw[YS];exact List.length_filter_le _ _
   rw[this];exact Yd h3 (YR hS (by decide))
  refine⟨_,O,_,O,dm,_,O,DPut.k (k:=Sum.inl t) hm7 hlen,?_⟩;have key:∀b u,b≠p->b≠dm->H2 b=some u->upd (upd H6 z (.tup [.ref l,y2])) dm (.dK (zW ms (Sum.inl t) (.ref z))) b=some u:=λb u n1 n2 h=>by rw[qQ n2];exact w7 _ _ (e6 _ _ (e5 _ _ n1 (e4 _ _ h)))
  have l8:LT (upd H6 z (.tup [.ref l,y2])) (upd (upd H6 z (.tup [.ref l,y2])) dm (.dK (zW ms (Sum.inl t) (.ref z)))):=qLn wT hm7;have l58:LT H5 (upd (upd H6 z (.tup [.ref l,y2])) dm (.dK (zW ms (Sum.inl t) (.ref z)))):=((LT.of e6).trans (LT.of w7)).trans l8;have l28:=((LT.of e4).trans l5).trans l58;have hp8:upd (upd H6 z (.tup [.ref l,y2])) dm (.dK (zW ms (Sum.inl t) (.ref z))) p=some (.ins a.k_Painter dx2 [("paint",fv),("calls",.int (n+1)),("kept",.ref kd)]):=by rw[qQ npm];exact w7 _ _ (e6 _ _ hp5)
  have hv8:Kp1 K (upd (upd H6 z (.tup [.ref l,y2])) dm (.dK (zW ms (Sum.inl t) (.ref z)))) G TT (.ref z):=
   ⟨hTT,z,l,y2,rfl,l8.t _ _ qC,l28.tl hT2,((LT.of w7).trans l8).rep _ (hG.pc _ hTT) hy2⟩
  have hd8:upd (upd H6 z (.tup [.ref l,y2])) dm (.dK (zW ms (Sum.inl t) (.ref z))) dm=some (.dK (zW ms (Sum.inl t) (.ref z))):=qC;generalize upd (upd H6 z (.tup [.ref l,y2])) dm (.dK (zW ms (Sum.inl t) (.ref z)))=H8 at key l8 l58 l28 hp8 hv8 hd8⊢;have hsome:∀b∈kd::es2.map (·.2),b≠p/\∃u,H2 b=some u:=λb hb=>by
   rcases YU.mp hb with rfl|hb
   . exact⟨xC hk2 hp2 (by intro q;cases q),_,hk2⟩
   . obtain⟨x,hx,rfl⟩:=List.mem_map.mp hb
     obtain⟨m',q,_⟩:=hP2.ms x hx;exact⟨xC q hp2 (by intro q;cases q),_,q⟩
  refine⟨some y,O,⟨lt2.trans l28,?_,λb u hb h=>?_,fr2⟩,_,.ref z,hd8,?_,hv8⟩
  . rw[hN]
    exact hP2.put hG l28 hm hms hd8 hp8 (λb hb n2=>by obtain⟨n1,u,hu⟩:=hsome b hb;rw[hu];exact key b u n1 n2 hu) hv8 hS
  . refine key b u (λq=>hb (by rw[q];simp)) (λq=>?_) (st2 b u hb h)
    rcases fr2 _ hm with q2|q2
    . exact hb (by rw[q];simp only[YU,List.mem_map];exact .inr (.inr ⟨_,q2,O⟩))
    . rw[q]at h
      have q2:H dm=none:=q2;rw[q2]at h;cases h
  . rw[qSz,YB rfl]
theorem qTc{prog:Program}{w:World}{d:Addr}(hs:(d==sysModules)=false):
 MeetsIn prog w (Builtin.«dict.__len__» ⟨[.ref d],[]⟩) (λ_ R s=> ∃o es ep,s.heap.get? d=some o/\o.data=.dict es ep/\R (.ok (.ret (.int es.size s.toks))) {s with toks:=s.toks+1}):=
 .of_wp λ_ _ s k=>by obtain⟨o,es,ep,g1,g2,k⟩:=k;exact(show wpAny _ _ (dictSize d>>=_) _ _ s from by unfold dictSize;exact YJ (YJ (wpAny_dictEntries g1 g2 (YK (show wpAny _ _ (Builtin.Dict.pendingCount d>>=_) _ _ s from YJ (wpAny_pendingCount_other hs (wpAny_ret_mkInt (by rw[Nat.add_zero];exact k))))))))
theorem qJy{X:Cx}:zD X (.builtin "len") (λxs H Q=> ∃a kvs,xs=[V.ref a]/\H a=some (.dT kvs)/\Q (.int kvs.length) H):=by
 intro pins s σ H xs us Q I r h;obtain⟨d,kvs,rfl,ha,q⟩:=h;obtain⟨u,rfl,ru⟩:=qE9 r;cases ru;obtain⟨z,hs,xs,rel,hm⟩:=qSo I.hok ha;have ty:=hm.typeIs;obtain⟨o,es,ep,g1,_,g2,he,_,_⟩:=hm;have ez:es.size=kvs.length:=(PySem.size_of_entries he).trans rel.length.symm;rw[sizeLine_eq]at z;have n1:¬((kvs.length:Nat):Int)<0:=by omega
 have n2:¬((kvs.length:Nat):Int) ≥ 2 ^ 63:=by omega
 refine Calls.call_function_entry kind_len plain_len entry_len (args_len1 _) (by unfold Builtin.«len»;refine YJ (m:=oneArg "len" _) (YK (YJ (m:=callSpecial? (.ref d) "__len__") (wpAny_callSpecial?_slot (name:="__len__") ty F.slot_dict_len (call_meetsIn F.slot_dict_len ty F.entry_dict_len (F.args_dict_len_1 _) (qTc hs) ⟨o,es,ep,g1,g2,?_⟩))));rw[ez];refine(show wpAny _ _ _ _ _ {s with toks:=s.toks+1}from YJ (wpAny_holding (YK (YJ (wpAny_letGo ?_)))));refine(show wpAny _ _ (if ((kvs.length:Nat):Int)<0 then _ else _) _ _ _ from by rw[YA n1];exact(show wpAny _ _ (if ((kvs.length:Nat):Int) ≥ 2 ^ 63 then _ else _) _ _ _ from by rw[YA n2];exact YJ (wpAny_mkInt (YK ⟨_,O,.int kvs.length,H,I.tok _,⟨_,O⟩,q⟩)))))
noncomputable def kSe(k:Str×Int):List Key:=[Sum.inr k.1,Sum.inl k.2]
theorem qHy(x y:Str×Int)(h:kSe x=kSe y):x=y:=by obtain⟨a,b⟩:=x;obtain⟨c,d⟩:=y;unfold kSe at h;simp only[List.cons.injEq,Sum.inr.injEq,Sum.inl.injEq,and_true]at h;rw[h.1,h.2]
def Seen(K:W.Frag)(H:Hp)(sd:Addr)(S:Kpt):Prop:= ∃kvs,H sd=some (.dT kvs)/\AL kSe (λte v=> ∃tl,v=.ref tl/\TL K H tl te) S kvs
theorem qY7{P:Program}{w:World}{K:W.Frag}{mg:Str->Option Value}{base:Heap}{k:Nat}(F:FnOk P w K mg base (CXR P w) k f fd ps sp):FnOk P w K mg base CX0 k f fd ps (λvs H Q _=>sp vs H Q λ_ _ _=>False):=by
 refine⟨λvs H Q E h=>F.len _ _ _ _ h,λA outer s H args us vs Q E hr he hb hv hs=>codeAny_mono (F.run A outer s H args us vs Q (λ_ _ _=>False) hr he hb hv hs) λr s' hq=>?_⟩;cases r with
 |error e=>
  refine qS λ_ Y=>?_;obtain⟨_,_,_,_,_,_,_,_,_,q⟩:=hq;apply Y;exact q.elim
 |ok fl=>cases fl <;> exact hq
inductive qDi(P:Program)(w:World)(K:W.Frag)(mg:Str->Option Value)(C:Addr)(vs:List V)(H:Hp)(Q:VK)(_:XK):Prop
|mk (p kd:Addr) (fv:V) (G:List Te->D) (n:Int) (es:List (Str×Addr)) (S:Kpt) (nm:Str) (t:Int) (rz re td:Addr) (A:Rg) (M:Int) (c:Nat) (U Z:List (List Im)) (_:vs=[.ref p,.ref rz,.str nm,.int t]) (_:PtS K H C p kd fv G n es S) (_:wt P w K mg fv G) (_:H rz=some (.tup [.ref re,.ref td])) (_:RoomS H re td A M c U Z) (_:M<=1000) (_:c<=300) (_:(nm="under"\/nm="above")) (_:0<=t) (_:t<2 ^ 60) (_:S.length<200) (_:∀(y:V) (es':List (Str×Addr)) (H':Hp),qYs K H H' C p kd fv G n es es' S (nm,t) (qq (rm2 U Z) 2 nm t)->Rep K H' (G (qq (rm2 U Z) 2 nm t)) y->Q y H')
theorem vB(T:Tx K mg a):FnOk P w K mg base CX0 12 a.A98 a.B98 ["self","room","name","moment"] (qDi P w K mg a.k_Painter):=
 (qY7 (kH T)).imp λvs H Q E h=>by refine qS λ_ Y=>?_;obtain⟨p,kd,fv,G,n,es,S,nm,t,rz,re,td,A,M,c,U,Z,rfl,h1,h2,h3,h4,h5,h6,h7,h8,h9,h10,h11⟩:=h;apply Y;exact .inr ⟨p,kd,fv,G,n,es,S,nm,t,rz,re,td,A,M,c,U,Z,O,h1,h2,h3,h4,h5,h6,h7,h8,h9,h10,h11⟩
inductive qLv(P:Program)(w:World)(K:W.Frag)(mg:Str->Option Value)(C:Addr)(vs:List V)(H:Hp)(Q:VK)(_:XK):Prop
|mk (p kd sd:Addr) (fv:V) (n:Int) (es:List (Str×Addr)) (S:Kpt) (nm:Str) (t:Int) (rz re td:Addr) (A:Rg) (M:Int) (c:Nat) (U Z:List (List Im)) (_:vs=[.ref p,.ref rz,.ref sd,.str nm,.int t]) (_:PtS K H C p kd fv qAn n es S) (_:wt P w K mg fv qAn) (_:Seen K H sd S) (_:sd∉p::kd::es.map (·.2)) (_:H rz=some (.tup [.ref re,.ref td])) (_:RoomS H re td A M c U Z) (_:M<=1000) (_:c<=300) (_:(nm="under"\/nm="above")) (_:0<=t) (_:t<2 ^ 60) (_:S.length<200) (_:∀(n':Int) (es':List (Str×Addr)) (S':Kpt) (H':Hp),PtS K H' C p kd fv qAn n' es' S'->Seen K H' sd S'->sd∉p::kd::es'.map (·.2)->S'.length<=S.length+1->LT H H'->(∀b u,b∉p::kd::sd::es.map (·.2)->H b=some u->H' b=some u)->(∀e∈es',e∈es\/H e.2=none)->Q (.bl true) H')
theorem wj(T:Tx K mg a):FnOk P w K mg base CX0 13 a.A86 a.B86 ["_law_painter","_law_room","_law_seen","_law_name","_law_moment"] (qLv P w K mg a.k_Painter):=by
 refine oL T.D86.F xO λ_ _ _ _ H vs _ E hr h _ Y=>?_;obtain⟨p,kd,sd,fv,n,es,S,nm,t,rz,re,td,A1,M,c,U,Z,rfl,hP,hF,hSe,hsd,hz,hR,hM,hc,hn,t0,t1,hS,kk⟩:=h;apply Y;have hu:=hr.units;have hu1:=qJ8 hr;refine⟨_,(qD (qW 5 xO.nd (qI T.D45 (qGr T) hr rfl (qA (pv 1) (qA (pv 3) (qA (pv 4) qB)))))
  (qD (qW 6 xO.nd (qCv (pv 0) T.cl_Painter T.D99 (jP T) hr))
  (qD (qW 7 xO.nd (pv 6))
  (qD (kn (qZ (PW.pt (jv (zV (qA5 hu1 (qY (qA (pv 3) (qA (pv 4) qB))) (pv 2))) (jL (qM (qMx hu) (kh hu1 (pv 2) (qY (qA (pv 3) (qA (pv 4) qB))) (λ_ _=>rfl)) (pv 5) (qO _))))) (qF (qW 7 xO.nd (qP qk (pv 6) qG))) qN))
  (qD (qL5 hu1 (pv 2) (qY (qA (pv 3) (qA (pv 4) qB))) (pv 5) rfl)
  (qD (qW 8 xO.nd (qV2 (pv 0) T.cl_Painter T.D98 (vB T) hr (qA (pv 1) (qA (pv 3) (qA (pv 4) qB)))))
  (qF (qK (xy (jH (qXf hu) (pv 8) (qY (qA qR (qA (jw x8 rfl T.b_tuple rfl (qA (pv 5) qB)) qB))) (qO _)) (xy (jH jM (qCv (pv 0) T.cl_Painter T.D99 (jP T) hr) (pv 7) (qO _)) (kC (jH jM (qCv (pv 0) T.cl_Painter T.D100 (xo T) hr) (qX qJy rfl T.b_len rfl (qA (pv 2) qB)) (qO _))))))))))))),?_⟩
 try dsimp only[jD,qc]
 refine qS λ_ Y=>?_;obtain⟨kvs,hs0,hAL⟩:=hSe;apply Y;have nP:qAt qAn:=xq;refine⟨_,O,_,O,_,O,rz,nm,t,rm2 U Z,O,hR.rm hz,hR.lv hM hc hn,t0,by omega,λl H1 e1 hl hTL=>?_⟩;have hTT:=kA (rm2 U Z) 2 nm t;have hP1:=hP.same nP e1;refine qS λ_ Y=>?_;obtain⟨dx,hp1⟩:=hP1.ins;obtain⟨TT,eT⟩:∃TT,TT=qq (rm2 U Z) 2 nm t:=⟨_,rfl⟩;apply Y;rw[<-eT]at hTT hTL;refine⟨_,O,p,_,_,O,hp1,O,p,dx,kd,fv,n,O,hp1,?_⟩;refine⟨_,O,?_⟩;have hs1:=e1 _ _ hs0;have hcond:∀Qc:Bool->Hp->Prop,(∀b H',Same H1 H'->(b=true->qUa (qA4 S (nm,t)) TT=1)->(b=false->qUa (qA4 S (nm,t)) TT=0)->Qc b H')->(tOr (tB (qLs (qYm (qLq (qIn 3) (qLq (qIn 4) qWa))) (qIn 2))) (qSg (tOp (qT3 K true) (qUy (qIn 2) (qYm (qLq (qIn 3) (qLq (qIn 4) qWa)))) (qIn 5)))) [some (.ref p),some (.ref rz),some (.ref sd),some (.str nm),some (.int t),some (.ref l),some (.int n),some (.int n),none] H1 Qc:=by
  intro Qc hQ;rcases hAL.val qHy (nm,t)with ⟨a1,a2⟩|⟨te,v,a1,a2,tl,rfl,htl⟩
  . refine⟨_,O,_,O,sL2,λz1 hz1=>?_⟩
    have w1:=qE hz1 (.tup [.str nm,.int t]);refine⟨_,O,sd,none,O,.inr ⟨kvs,kSe (nm,t),z1,.of (w1 _ _ hs1),O,qC,a2.symm⟩,true,O,jn ?_⟩;exact hQ true _ w1 (λ_=>by rw[a1];rfl) (λq=>by cases q)
  . refine⟨_,O,_,O,sL2,λz1 hz1=>?_⟩
    have w1:=qE hz1 (.tup [.str nm,.int t]);refine⟨_,O,sd,some (.ref tl),O,.inr ⟨kvs,kSe (nm,t),z1,.of (w1 _ _ hs1),O,qC,a2.symm⟩,false,O,qv ?_⟩;refine⟨_,O,_,O,_,O,sL2,λz2 hz2=>?_⟩;have w2:=qE hz2 (.tup [.str nm,.int t]);refine⟨sd,.ref tl,O,.inr ⟨kvs,kSe (nm,t),z2,.of (w2 _ _ (w1 _ _ hs1)),O,qC,a2.symm⟩,?_⟩;refine⟨_,O,qZ5 (htl.same (e1.trans (w1.trans w2))) (hTL.same (w1.trans w2)) ?_⟩;refine⟨_,O,hQ _ _ (w1.trans w2) (λz=>?_) λz=>?_⟩
    . have z:eqT te TT=false:=by simpa using z
      rw[a1];show (if eqT te TT then (0:Int)else 1)=1;rw[z];rfl
    . have z:eqT te TT=true:=by simpa using z
      rw[a1];show (if eqT te TT then (0:Int)else 1)=0;rw[z];rfl
 refine⟨λσ H'=>σ=[some (.ref p),some (.ref rz),some (.ref sd),some (.str nm),some (.int t),some (.ref l),some (.int n),some (.int (n+qUa (qA4 S (nm,t)) TT)),none]/\Same H1 H',?_,?_⟩
 . refine hcond _ λb H' e' hb1 hb2=>?_
   cases b with
   |false=>exact qv ⟨by rw[hb2 rfl,Yc];rfl,e'⟩
   |true=>exact jn ⟨_,rfl,n,1,rfl,rfl,by rw[hb1 rfl];rfl,e'⟩
 rintro σ H2 ⟨rfl,e2⟩;refine⟨_,O,_,O,_,O,_,O,sL2,λz3 hz3=>?_⟩;have w3:=qE hz3 (.tup [.str nm,.int t]);have e3:=(e1.trans e2).trans w3;have hs3:=e3 _ _ hs0;have hlen:kvs.length<sizeLine:=by rw[hAL.len];exact YR hS (by decide)
 refine⟨sd,_,O,DPut.t (k:=kSe (nm,t)) hs3 qC hlen,?_⟩;have sb4:SB sd (upd H2 z3 (.tup [.str nm,.int t])) (upd (upd H2 z3 (.tup [.str nm,.int t])) sd (.dT (zW kvs (kSe (nm,t)) (.ref l)))):=wT;have hs4:upd (upd H2 z3 (.tup [.str nm,.int t])) sd (.dT (zW kvs (kSe (nm,t)) (.ref l))) sd=some (.dT (zW kvs (kSe (nm,t)) (.ref l))):=qC;have hu4:∀b,b≠sd->upd (upd H2 z3 (.tup [.str nm,.int t])) sd (.dT (zW kvs (kSe (nm,t)) (.ref l))) b=upd H2 z3 (.tup [.str nm,.int t]) b:=λb hb=>qQ hb;have hTL3:TL K (upd H2 z3 (.tup [.str nm,.int t])) l TT:=hTL.same (e2.trans w3);generalize upd (upd H2 z3 (.tup [.str nm,.int t])) sd (.dT (zW kvs (kSe (nm,t)) (.ref l)))=H4 at sb4 hs4 hu4⊢;generalize upd H2 z3 (.tup [.str nm,.int t])=H3 at e3 hs3 sb4 hu4 hTL3⊢;have lt34:LT H3 H4:=⟨λb xs h=>sb4 _ _ (xC h hs3 (by intro q;cases q)) h,λb xs h=>sb4 _ _ (xC h hs3 (by intro q;cases q)) h,λb o u h=>sb4 _ _ (xC h hs3 (by intro q;cases q)) h⟩;have lt04:LT H H4:=(LT.of e3).trans lt34;have hP4:PtS K H4 a.k_Painter p kd fv qAn n es S:=(hP.same nP e3).off nP lt34 λb hb=>hu4 b λq=>hsd (by rw[<-q];exact hb);refine qS λ_ Y=>?_;obtain⟨tu,ta,hd,_,_⟩:=id hR.d;have hR4:RoomS H4 re td A1 M c U Z:=(hR.same e3).lt lt34 (hu4 _ (qQ2 hR.re.1 hs0 (by intro q;cases q) (by intro x q;cases q))) (hu4 _ (xC hd hs0 (by intro q;cases q)));have hS4:AL kSe (λte v=> ∃tl,v=V.ref tl/\TL K H4 tl te) (qB8 S (nm,t) TT) (zW kvs (kSe (nm,t)) (.ref l)):=
  AL.put qHy ⟨l,rfl,lt34.tl hTL3⟩ (hAL.imp λte v ⟨tl,q,h⟩=>⟨tl,q,lt04.tl h⟩)
 obtain⟨dx4,hp4⟩:=hP4.ins;apply Y;refine⟨_,O,p,_,_,O,hp4,O,_,O,_,O,_,O,p,kd,fv,qAn,n,es,S,nm,t,rz,re,td,A1,M,c,U,Z,O,hP4,hF,lt04.t _ _ hz,hR4,hM,hc,hn,t0,t1,hS,λy es' H5 hA hy=>?_⟩;rw[<-eT]at hA hy;have hs5:=hA.st sd _ hsd hs4;refine qS λ_ Y=>?_;obtain⟨vs5,hl5,hts5⟩:=hA.lt.tl (lt34.tl hTL3);apply Y;refine⟨_,O,_,O,l,vs5,O,.inl ⟨SqL.of hl5,λq hq=>⟨sL2,λz hz6=>?_⟩⟩⟩;have w5:=qE hq (.tup vs5);have w6:=qE hz6 (.tup [.str "painted",.ref q]);have e6:=w5.trans w6;refine⟨qAn TT,qAn TT,Rep.same e6 _ hy,qAh qC (w6 _ _ qC) (hts5.same e6),rfl,by have:=nP.dp TT;omega,?_⟩;have eq1:eqD (qAn TT) (qAn TT)=true:=by unfold qAn;simp only[eqD,qAm,wC,eqV];simp
 refine⟨true,congrArg V.bl eq1,jn ?_⟩;have hP6:=hA.pt.same nP e6;obtain⟨dx6,hp6⟩:=hP6.ins;refine⟨_,O,p,_,_,O,hp6,O,p,dx6,kd,fv,_,O,hp6,_,O,O,true,congrArg V.bl (YX rfl),jn ?_⟩;refine⟨_,O,p,_,_,O,hp6,O,p,kd,fv,qAn,_,es',_,O,hP6,λH7 e7=>⟨_,O,sd,_,O,e7 _ _ (e6 _ _ hs5),O,?_⟩⟩;have ee:(V.bl (decide ((V.int ((qB8 S (nm,t) TT).length:Int))=V.int ((zW kvs (kSe (nm,t)) (V.ref l)).length:Int))))=V.bl true:=congrArg V.bl (YX (by rw[hS4.len]));have f2:sd∉p::kd::es'.map (·.2):=by
  intro hm;rcases YU.mp hm with q|hm
  . exact hsd (by rw[q];simp)
  rcases YU.mp hm with q|hm
  . exact hsd (by rw[q];simp)
  obtain⟨e,he,q⟩:=List.mem_map.mp hm;rcases hA.fr e he with h|h
  . exact hsd (by rw[<-q];simp only[YU,List.mem_map];exact .inr (.inr ⟨e,h,O⟩))
  . rw[q,hs4]at h;cases h
 have f3:∀b u,b∉p::kd::sd::es.map (·.2)->H b=some u->H7 b=some u:=λb u hb h=>by have hb':b∉p::kd::es.map (·.2):=λq=>hb (by simp only[YU]at q⊢;rcases q with q|q|q <;> simp[q]);exact e7 _ _ (e6 _ _ (hA.st b u hb' (by rw[hu4 b λq=>hb (by rw[q];simp)];exact e3 _ _ h)))
 have f4:∀e∈es',e∈es\/H e.2=none:=λe he=>by
  rcases hA.fr e he with h|h
  . exact .inl h
  . refine .inr ?_
    cases hh:H e.2 with
    |none=>rfl
    |some u=>
     have h3:=e3 _ _ hh;by_cases q:e.2=sd
     . rw[q,hs4]at h;cases h
     . rw[hu4 _ q,h3]at h;cases h
 have fin:=(kk _ es' (qB8 S (nm,t) TT) H7 (hP6.same nP e7) ⟨_,e7 _ _ (e6 _ _ hs5),hS4.imp λte v ⟨tl,q,h⟩=>⟨tl,q,(hA.lt.tl h).same (e6.trans e7)⟩⟩ f2 qNt (lt04.trans (hA.lt.trans (LT.of (e6.trans e7)))) (λb u hb h=>f3 b u hb h) (λe he=>f4 e he));rw[<-ee]at fin;exact fin
inductive qAg(N:Addr)(vs:List V)(H:Hp)(_:VK)(E:XK):Prop
|mk (pz:V) (nm:Str) (mt x:V) (rz td:Addr) (kvs:List (Key×V)) (_:vs=[pz,.ref rz,.str nm,mt]) (_:H rz=some (.tup [x,.ref td])) (_:H td=some (.dK kvs)) (_:x6 kvs (Sum.inr nm)=none) (_:∀H',Same H H'->E (.ref N) none H')
theorem wc(T:Tx K mg a):FnOk P w K mg base (CXR P w) 12 a.A98 a.B98 ["self","room","name","moment"] (qAg a.k_NoRoom):=
 (kH T).imp λvs H Q E h=>by refine qS λ_ Y=>?_;obtain⟨pz,nm,mt,x,rz,td,kvs,e,h1,h2,h3,h4⟩:=h;apply Y;exact .inl ⟨pz,nm,mt,x,rz,td,kvs,e,h1,h2,h3,h4⟩
inductive qFe(K:W.Frag)(C:Addr)(vs:List V)(H:Hp)(Q:VK)(_:XK):Prop
|mk (p kd:Addr) (fv:V) (G:List Te->D) (n:Int) (es:List (Str×Addr)) (S:Kpt) (x:V) (rz td:Addr) (kvs:List (Key×V)) (_:vs=[.ref p,.ref rz]) (_:PtS K H C p kd fv G n es S) (_:qAt G) (_:H rz=some (.tup [x,.ref td])) (_:H td=some (.dK kvs)) (_:x6 kvs (Sum.inr "nobody")=none) (_:∀H',Same H H'->Q (.bl true) H')
theorem vS(T:Tx K mg a):FnOk P w K mg base CX0 13 a.A87 a.B87 ["_law_painter","_law_room"] (qFe K a.k_Painter):=by
 refine oL T.D87.F ji λ_ _ _ _ H _ _ _ hr h _ Y=>?_;obtain⟨p,kd,fv,G,n,es,S,x,rz,td,kvs,rfl,hP,hG,hz,hd,hv,kk⟩:=h;obtain⟨dx,hp⟩:=hP.ins;obtain⟨Exn,hEx⟩:∃Exn:Value->Option Addr->L2.St->Hp->Prop,Exn=λB od σ H'=>Same H H'/\B=.ref a.k_NoRoom/\od=none/\σ=[some (.ref p),some (.ref rz),some (.int n),some (.bl false),none]:=⟨_,rfl⟩;apply Y;refine⟨_,(qD (qW 2 ji.nd (qCv (pv 0) T.cl_Painter T.D99 (jP T) hr))
  (qD (qW 3 ji.nd zH)
  (qD (qP6 (Exn) (.some (i:=4) rfl rfl) ji.nd rfl T.c_NoRoom (λ_=>(qF (jR (qUs (pv 0) T.cl_Painter T.D98 (wc T) hr (qA (pv 1) (qA qR (qA qG qB))))))) (λ_ _=>(qF (qW 3 ji.nd (qUi (qX (qIi (K:=K) rfl) rfl T.b_isinstance rfl (qA (pv 4) (qA (jQ (v:=.ref a.k_NoPlace) rfl T.c_NoPlace rfl) qB))))))))
  (qF (qK (xy (pv 3) (kC (jH jM (qCv (pv 0) T.cl_Painter T.D99 (jP T) hr) (pv 2) (qO _))))))))),?_⟩
 try dsimp only[jD,qc]
 subst hEx;refine⟨_,O,p,_,_,O,hp,O,p,dx,kd,fv,n,O,hp,?_⟩;refine⟨⟨_,O,p,_,_,O,hp,O,_,O,.ref p,"nobody",.int 3,x,rz,td,kvs,O,hz,hd,hv,λH' e=>⟨e,O,O,O⟩⟩,?_⟩;rintro ea ⟨B1,B2⟩ σ' H' ⟨sH,hB,hB2,hσ⟩ hn' hl';dsimp only at hB hB2;subst hB hB2 hσ;have w1:=qE hn' (qLz ea (.ref a.k_NoRoom,none));have hp':=w1 _ _ (sH _ _ hp);refine⟨T.yRR,?_⟩;refine⟨_,O,ea,_,_,_,false,O,qC,.inl rfl,T.e_NoRoom,.inr ⟨_,O,T.rP⟩,false,O,?_⟩;refine⟨_,O,true,O,jn ?_⟩;refine⟨_,O,p,_,_,O,hp',O,p,dx,kd,fv,n,O,hp',_,O,O,?_⟩;have ee:V.bl (decide (V.int n=V.int n))=V.bl true:=congrArg V.bl (YX rfl);have fin:=kk _ (sH.trans w1);rw[<-ee]at fin;exact fin
def qZx(K:W.Frag)(H:Hp)(y:V)(b:Bool):Prop:=(∃t,qK5 K H y t/\W.kitOne K t (.type "bool")=some b)\/(b=false/\∃p,y=.ref p/\SqT K H p [])
def OneP(G:List Te->D)(b:Bool):Prop:=(G=qO1 .non/\b=false)\/(G=qT4/\b=false)\/(G=qO1 (.bl false)/\b=true)
theorem OneP.is{b:Bool}(h:OneP G b){te:List Te}(r:Rep K H (G te) y):qZx K H y b:=by
 rcases h with ⟨rfl,rfl⟩|⟨rfl,rfl⟩|⟨rfl,rfl⟩
 . unfold qO1 Rep at r
   obtain⟨rfl,_⟩:=r;exact .inl ⟨_,.non,by kernel_rfl⟩
 . unfold qT4 Rep at r
   obtain⟨p,xs,rfl,hT,hs⟩:=r;cases xs with
   |nil=>exact .inr ⟨rfl,p,rfl,hT⟩
   |cons=>unfold Reps at hs;exact hs.elim
 . unfold qO1 Rep at r
   obtain⟨rfl,_⟩:=r;exact .inl ⟨_,.bl false,by kernel_rfl⟩
theorem OneP.ne{b:Bool}(h:OneP G b){te:List Te}{x:V}(r1:Rep K H (G te) x)(r2:Rep K H (G []) y)(q:Q (.bl false) H):rNe x y H Q\/qT3 K true x y H Q:=by
 rcases h with ⟨rfl,rfl⟩|⟨rfl,rfl⟩|⟨rfl,rfl⟩
 . unfold qO1 Rep at r1 r2
   obtain⟨rfl,_⟩:=r1;obtain⟨rfl,_⟩:=r2;exact .inl ⟨O,q⟩
 . exact .inr ⟨_,_,r1,r2,O,by unfold qT4;decide,q⟩
 . unfold qO1 Rep at r1 r2
   obtain⟨rfl,_⟩:=r1;obtain⟨rfl,_⟩:=r2;exact .inl ⟨O,q⟩
theorem qPw{σ:L2.St}{k:Nat}{b:Bool}(hk:∀R:VK,R y H->qIn k σ H R)(h:qZx K H y b)(q:Q (.bl b) H):tCB (λxs H Q=>(∃x c t b,xs=[x,c]/\qK5 K H x t/\(∃n,c=V.ty n/\W.kitOne K t (Value.type n)=some b\/∃a,c=V.ref a/\W.kitOne K t (Value.ref a)=some b)/\Q (V.bl b) H)\/
 ∃p n t b,xs=[V.ref p,V.ty n]/\((∃ys,SqT K H p ys/\t="tuple")\/∃kvs:List (Key×V),Rd H p (HO.dK kvs)/\t="dict")/\W.kitOne K (Value.type t) (Value.type n)=some b/\Q (V.bl b) H) (qLq (qIn k) (qLq (tC (V.ty "bool")) qWa)) σ H Q:=by
 refine hk _ ?_;rcases h with ⟨t,h1,h2⟩|⟨rfl,p,rfl,h⟩
 . exact .inl ⟨_,_,t,b,O,h1,⟨_,.inl ⟨O,h2⟩⟩,q⟩
 . exact .inr ⟨p,_,_,false,O,.inl ⟨_,h,O⟩,by kernel_rfl,q⟩
theorem qPl(h:v≠ .non->(∃b,v=.bl b)\/(∃i,v=.int i)\/∃z,v=.str z):qAt (qO1 v):=⟨λte _=>by unfold qO1 Pc;exact h,λte=>by unfold qO1;simp[L3.dep]⟩
noncomputable def smO(TA TU:List Te):Nat->Kpt
 |0=>[]
 |1=>[(("above",3),TA)]
 |_=>[(("above",3),TA),(("under",3),TU)]
theorem qMo(TT:List Te):qUa (some TT) TT=0:=by show (if eqT TT TT then (0:Int)else 1)=0;rw[show eqT TT TT=true from wC TT];rfl
theorem qTu(TA TU:List Te){i j:Nat}{TT:List Te}(h:(i=0/\nm="above"/\TT=TA)\/(i=1/\nm="under"/\TT=TU)):
 ((if j=0 then i else 2:Nat):Int)+qUa (qA4 (smO TA TU (if j=0 then i else 2)) (nm,3)) TT=((if j=0 then i+1 else 2:Nat):Int)/\qB8 (smO TA TU (if j=0 then i else 2)) (nm,3) TT=smO TA TU (if j=0 then i+1 else 2):=by
 have n1:¬((("above":Str),(3:Int)):Str×Int)=(("under":Str),(3:Int)):=λq=>nab (Prod.mk.inj q).1;have e1:smO TA TU 1=[((("above":Str),(3:Int)),TA)]:=rfl;have e2:smO TA TU 2=[((("above":Str),(3:Int)),TA),((("under":Str),(3:Int)),TU)]:=rfl;have v2:qA4 (smO TA TU 2) ("above",3)=some TA:=by unfold smO qA4;simp
 have v3:qA4 (smO TA TU 2) ("under",3)=some TU:=by unfold qA4;rw[e2,List.find?_cons_of_neg (by simpa using n1)];simp
 have nd:((smO TA TU 2).map (·.1)).Nodup:=by show [(("above":Str),(3:Int)),(("under":Str),(3:Int))].Nodup;simp only[List.nodup_cons,YY,ZD,not_false_eq_true,List.nodup_nil,and_true];exact n1
 rcases h with ⟨rfl,rfl,rfl⟩|⟨rfl,rfl,rfl⟩
 . by_cases hj:j=0
   . rw[YB hj,YB hj]
     exact⟨O,by unfold qB8 smO;simp⟩
   . rw[YA hj,YA hj,v2,qMo,qBb nd v2]
     exact⟨O,O⟩
 . by_cases hj:j=0
   . rw[YB hj,YB hj]
     have v1:qA4 (smO TA TT 1) ("under",3)=none:=by unfold qA4;rw[e1,List.find?_cons_of_neg (by simpa using n1)];rfl
     rw[v1];refine⟨O,?_⟩;rw[e1,xk n1];unfold qB8 smO;simp
   . rw[YA hj,YA hj,v3,qMo,qBb nd v3]
     exact⟨O,O⟩
theorem PtS.new{p dx:Addr}(hp0:H p=none)(hdx0:H dx=none)(hkd:upd (upd H dx (.own p)) p (.ins C dx []) kd=none)(sb:SB p (upd (upd H dx (.own p)) p (.ins C dx [])) H2)(hx2:H2 p=some (.ins C dx [("paint",fv),("calls",.int 0),("kept",.ref kd)]))(hk2:H2 kd=some (.dK [])):Same H H2/\H kd=none/\PtS K H2 C p kd fv G 0 [] []:=by
 refine⟨λb u hb=>sb b u (qV hb hp0) (by rw[qQ (qV hb hp0),qQ (qV hb hdx0)];exact hb),?_,⟨⟨dx,hx2⟩,hk2,List.nodup_nil,by simp,(λe he=>by cases he),(λx hx=>by cases hx),ZP _,List.nodup_nil,(λe he=>by cases he)⟩⟩;cases hh:H kd with
 |none=>rfl
 |some u=>
  rw[qQ (qV hh hp0),qQ (qV hh hdx0),hh]at hkd;cases hkd
inductive qIu(vs:List V)(H:Hp)(Q:VK)(_:XK):Prop
|mk (rz re td:Addr) (A:Rg) (M:Int) (c:Nat) (U Z:List (List Im)) (_:vs=[.ref rz]) (_:H rz=some (.tup [.ref re,.ref td])) (_:RoomS H re td A M c U Z) (_:M<=1000) (_:c<=300) (_:∀H',Same H H'->Q (.bl true) H')
theorem qKd(T:Tx K mg a):FnOk P w K mg base CX0 13 a.A95 a.B95 ["_law_room"] qIu:=by
 refine oL T.D95.F jh λ_ _ _ _ H _ _ _ hr h _ Y=>?_;obtain⟨rz,re,td,A1,M,c,U,Z,rfl,hz,hR,hM,hc,kk⟩:=h;apply Y;have hu:=hr.units;have hu1:=qJ8 hr;refine⟨_,(qD (xj PassesOwn.never rfl (jl (qo (qA (jQ (v:=.ref a.A92) rfl T.D92.m rfl) (qA (jQ (v:=.ref a.A93) rfl T.D93.m rfl) (qA (jQ (v:=.ref a.A94) rfl T.D94.m rfl) qB))))) (q8 (i:=1) jh.nd rfl (Or.inl rfl)) (qD (qW 2 jh.nd (qVq T.mk_Painter (j5 T) hr rfl T.c_Painter T.D97.b (qA (pv 1) qB)))
  (qD (qW 3 jh.nd (qTf (pv 1) hr (qA (qo qB) qB)))
  (qD (xj PassesOwn.never rfl (qE6 rfl T.b_range (qA qG qB)) (q8 (i:=4) jh.nd rfl (Or.inl rfl)) (qF (xj PassesOwn.never rfl (jl (qo (qA qR (qA qR qB)))) (q8 (i:=5) jh.nd rfl (Or.inl rfl)) (qD (qW 6 jh.nd (qV2 (pv 2) T.cl_Painter T.D98 (vB T) hr (qA (pv 0) (qA (pv 5) (qA qG qB)))))
  (qF (qZ (PW.pt (jv (qM (qW6 z7 (qMx hu)) (pv 6) (pv 3) (qO _)) (jL (qM z7 (qX (qBj jB xg) rfl T.b_isinstance rfl (qA (pv 6) (qA (qDo rfl T.b_bool rfl) qB))) (qX (qBj jB xg) rfl T.b_isinstance rfl (qA (pv 3) (qA (qDo rfl T.b_bool rfl) qB))) (qO _))))) (qF (qK zH)) qN))))))
  (qF (qZ (PW.pt (jv (qM z7 (qCv (pv 2) T.cl_Painter T.D99 (jP T) hr) qG (qO _)) (jL (qM z7 (qCv (pv 2) T.cl_Painter T.D100 (xo T) hr) qG (qO _))))) (qF (qK zH)) qN))))))
  (qF (qK zH))),?_⟩
 try dsimp only[jD,qc]
 refine⟨sL3,λl0 hl0=>?_⟩;have w0:=qE hl0 (.lst [.ref a.A92,.ref a.A93,.ref a.A94]);have hl1:upd H l0 (.lst [.ref a.A92,.ref a.A93,.ref a.A94]) l0=some (.lst [.ref a.A92,.ref a.A93,.ref a.A94]):=qC;change _;generalize upd H l0 _=J at w0 hl1⊢;have hzJ:=w0 _ _ hz;have hRJ:=hR.same w0;have hTA:=kA (rm2 U Z) 2 "above" 3;have hTU:=kA (rm2 U Z) 2 "under" 3;refine⟨l0,O,⟨_,SqL.of hl1⟩,j3 (K:=K) (a:=l0) (xs:=[.ref a.A92,.ref a.A93,.ref a.A94]) (λi σ H'=> ∃o1 o2 o3 o4 o5 o6:Option V,σ=[some (.ref rz),o1,o2,o3,o4,o5,o6]/\Same J H') ⟨none,none,none,none,none,none,O,Same.refl _⟩ ?_ ?_ ?_⟩
 . rintro i σ H' hi ⟨o1,o2,o3,o4,o5,o6,rfl,e⟩
   exact SqL.of (e _ _ hl1)
 . rintro i v σ H1 hv ⟨o1,o2,o3,o4,o5,o6,rfl,e1⟩
   refine qS λ_ Y=>?_;obtain⟨G,b,hF,hO⟩:∃G b,wt P w K mg v G/\OneP G b:=by
    have hm:=YF hv;simp only[YU,ZD,or_false]at hm;rcases hm with rfl|rfl|rfl
    . exact⟨_,_,qBc T.D92 (qPl λq=>YC rfl q) (λbase=>qBn T),.inl ⟨O,O⟩⟩
    . exact⟨_,_,qBc T.D93 qVp (λbase=>wb T),.inr (.inl ⟨O,O⟩)⟩
    . exact⟨_,_,qBc T.D94 (qPl λ_=>.inl ⟨_,O⟩) (λbase=>wn T),.inr (.inr ⟨O,O⟩)⟩
   apply Y;have hG:=hF.2.1;refine⟨_,O,λp dx hp0 hdx0 hne=>⟨p,dx,v,O,qC,λkd H2 hkd sb hx2 hk2=>⟨O,?_⟩⟩⟩;refine qS λ_ Y=>?_;obtain⟨e12,hkd1,hP2⟩:=PtS.new (K:=K) (G:=G) hp0 hdx0 hkd sb hx2 hk2;apply Y;clear sb hkd;refine⟨_,O,hF.1,sL0,λl1 hl1'=>VCall.mono (show 1<=12 by decide) (hF.2.2 base _ l1 [] _ ⟨[],qC,trivial⟩ (by decide) λy0 H3 sb3 hy0=>?_)⟩;have e23:Same H2 H3:=λb u h=>sb3 b u (qV h hl1') (qE hl1' _ b u h);have hP3:=hP2.same hG e23;have e13:=e12.trans e23;refine⟨3,rfl,by decide,by decide,qE1 (n:=3) (λj σ H'=> ∃(o4 o5 o6:Option V) (es:List (Str×Addr)),σ=[some (.ref rz),some v,some (.ref p),some y0,o4,o5,o6]/\Same H1 H'/\PtS K H' a.k_Painter p kd v G ((if j=0 then 0 else 2:Nat):Int) es (smO (qq (rm2 U Z) 2 "above" 3) (qq (rm2 U Z) 2 "under" 3) (if j=0 then 0 else 2))/\(∀e∈es,H1 e.2=none)/\Rep K H' (G []) y0) ⟨o4,o5,o6,[],rfl,e13,hP3,(λe he=>by cases he),hy0⟩ ?_ ?_⟩
   . rintro j σ H4 hj ⟨p4,p5,p6,es,rfl,e4,hP4,fr4,hy4⟩
     refine⟨sL2,λl2 hl2=>?_⟩;have w5:=qE hl2 (.lst [.str "above",.str "under"]);have k5:upd H4 l2 (.lst [.str "above",.str "under"]) l2=some (.lst [.str "above",.str "under"]):=qC;change _;generalize upd H4 l2 _=H5 at w5 k5⊢;refine⟨l2,O,⟨_,SqL.of k5⟩,j3 (K:=K) (a:=l2) (xs:=[.str "above",.str "under"]) (λi σ H'=> ∃(o5 o6:Option V) (es:List (Str×Addr)),σ=[some (.ref rz),some v,some (.ref p),some y0,some (.int (0+j)),o5,o6]/\Same H1 H'/\PtS K H' a.k_Painter p kd v G ((if j=0 then i else 2:Nat):Int) es (smO (qq (rm2 U Z) 2 "above" 3) (qq (rm2 U Z) 2 "under" 3) (if j=0 then i else 2))/\(∀e∈es,H1 e.2=none)/\Rep K H' (G []) y0/\H' l2=some (.lst [.str "above",.str "under"])) ⟨p5,p6,es,O,e4.trans w5,hP4.same hG w5,fr4,Rep.same w5 _ hy4,k5⟩ ?_ ?_ ?_⟩
     . rintro i σ H' hi ⟨q5,q6,es',rfl,_,_,_,_,k⟩
       exact SqL.of k
     . rintro i x σ H6 hx ⟨q5,q6,es6,rfl,e6,hP6,fr6,hy6,k6⟩
       refine qS λ_ Y=>?_;obtain⟨nm,TT,rfl,hn,eT,hst⟩:∃(nm:Str) (TT:List Te),x=.str nm/\(nm="under"\/nm="above")/\TT=qq (rm2 U Z) 2 nm 3/\((i=0/\nm="above"/\TT=qq (rm2 U Z) 2 "above" 3)\/(i=1/\nm="under"/\TT=qq (rm2 U Z) 2 "under" 3)):=by
        rcases i with _|_|i
        . cases hx;exact⟨_,_,rfl,.inr rfl,rfl,.inl ⟨rfl,rfl,rfl⟩⟩
        . cases hx;exact⟨_,_,rfl,.inl rfl,rfl,.inr ⟨rfl,rfl,rfl⟩⟩
        . cases hx
       have hlS:(smO (qq (rm2 U Z) 2 "above" 3) (qq (rm2 U Z) 2 "under" 3) (if j=0 then i else 2)).length<200:=by
        generalize (if j=0 then i else 2)=m
        match m with
        |0=>exact(show 0<200 by decide)
        |1=>exact(show 1<200 by decide)
        |_+2=>exact(show 2<200 by decide)
       obtain⟨s1,s2⟩:=qTu (qq (rm2 U Z) 2 "above" 3) (qq (rm2 U Z) 2 "under" 3) (j:=j) hst;obtain⟨dx6,hp6⟩:=hP6.ins;apply Y;have eJ6:=e1.trans e6;refine⟨_,O,p,_,_,O,hp6,O,_,O,_,O,p,kd,v,G,_,es6,_,nm,3,rz,re,td,A1,M,c,U,Z,O,hP6,hF,eJ6 _ _ hzJ,hRJ.same eJ6,hM,hc,hn,by decide,by decide,hlS,λy es' H7 hA hy=>?_⟩;rw[<-eT]at hA hy;have hP7:=hA.pt;rw[s1,s2]at hP7;have e7:Same H1 H7:=λb u hb=>by
        refine hA.st b u (λhm=>?_) (e6 _ _ hb);rcases YU.mp hm with rfl|hm
        . rw[hp0]at hb;cases hb
        rcases YU.mp hm with rfl|hm
        . rw[hkd1]at hb;cases hb
        obtain⟨e,he,rfl⟩:=List.mem_map.mp hm;rw[fr6 e he]at hb;cases hb
       have fr7:∀e∈es',H1 e.2=none:=λe he=>by
        rcases hA.fr e he with q|q
        . exact fr6 e q
        . exact e6.free q
       have hy7:Rep K H7 (G []) y0:=hA.lt.rep _ (hG.pc _ (by decide)) hy6;have k7:=hA.lt.l _ _ k6;refine⟨_,O,_,O,hO.ne hy hy7 ⟨false,O,qv ?_⟩⟩;unfold qSg tOp;refine qPw ?_ (hO.is hy) ?_
       . exact λR r=>⟨_,O,r⟩
       refine qPw ?_ (hO.is hy7) ?_
       . exact λR r=>⟨_,O,r⟩
       refine⟨O,false,congrArg V.bl (by simp),qv ?_⟩;exact⟨_,_,es',O,e7,hP7,fr7,hy7,k7⟩
     . rintro σ H' ⟨q5,q6,es',rfl,e',hP',fr',hy',_⟩
       refine⟨_,q5,q6,es',O,e',?_,fr',hy'⟩;have:(if j=0 then [V.str "above",V.str "under"].length else 2)=if j+1=0 then 0 else 2:=by rw[YA (Nat.succ_ne_zero j)];split <;> rfl
       rw[this]at hP';exact hP'
   . rintro σ H4 ⟨p4,p5,p6,es,rfl,e4,hP4,fr4,hy4⟩
     obtain⟨dx4,hp4⟩:=hP4.ins;refine⟨_,O,p,_,_,O,hp4,O,p,dx4,kd,v,_,O,hp4,O,false,O,qv ?_⟩;refine⟨_,O,p,_,_,O,hp4,O,p,kd,v,G,_,es,_,O,hP4,λH5 e5=>⟨O,false,O,qv ?_⟩⟩;exact⟨_,_,_,_,_,_,O,e1.trans (e4.trans e5)⟩
 . rintro σ H' ⟨o1,o2,o3,o4,o5,o6,rfl,e⟩
   exact kk _ (w0.trans e)
section
variable{κ κ' α:Type} [DecidableEq κ] [DecidableEq κ'] {kf:κ->κ'}{R:α->V->Prop}
theorem AL.drop(hk:∀x y,kf x=kf y->x=y)(t:κ):∀{l:List (κ×α)} {ms:List (κ'×V)},AL kf R l ms->AL kf R (l.filter λx=>decide (x.1≠t)) (qAw ms (kf t))
 |[],[],_=>trivial
 |(t',te)::l,(k,v)::ms,h=>by
  obtain⟨⟨rfl,h1⟩,h2⟩:=h;unfold qAw;by_cases e:t'=t
  . rw[List.filter_cons_of_neg (by simpa using e),List.filter_cons_of_neg (by simpa using congrArg kf e)]
    exact AL.drop hk t h2
  . rw[List.filter_cons_of_pos (by simpa using e),List.filter_cons_of_pos (by simpa using λq=>e (hk _ _ q))]
    exact⟨⟨O,h1⟩,AL.drop hk t h2⟩
theorem AL.get{l:List (κ×α)}{ms:List (κ'×V)}(h:AL kf R l ms):∀{j:Nat} {k:κ'} {v:V},ms[j]?=some (k,v)->∃t te,l[j]?=some (t,te)/\k=kf t:=by
 induction l generalizing ms with
 |nil=>intro j k v q;cases ms with
  |nil=>simp at q
  |cons=>exact h.elim
 |cons x l ih=>
  obtain⟨t,te⟩:=x;intro j k v q;cases ms with
  |nil=>exact h.elim
  |cons y ms=>
   obtain⟨k',v'⟩:=y;cases j with
   |zero=>
    cases q;exact⟨t,te,O,h.1.1⟩
   |succ j=>exact ih h.2 q
end
noncomputable def qRt(S:Kpt)(nm:Str)(i:Nat):Kpt:=qDl (S.take i) nm++S.drop i
theorem qSs(S:Kpt)(nm:Str):qRt S nm S.length=qDl S nm:=by unfold qRt;rw[Yw,ZH,Ye]
theorem qJf{α:Type}{l:List α}{i:Nat}{x:α}(h:l[i]?=some x):l.take (i+1)=l.take i++[x]:=by rw[Ys,h];rfl
theorem qDr{α:Type}:∀{l:List α} {i:Nat} {x:α},l[i]?=some x->l.drop i=x::l.drop (i+1)
 |[],_,_,h=>by simp at h
 |y::l,0,x,h=>by cases h;rfl
 |y::l,i+1,x,h=>qDr (l:=l) (by simpa using h)
theorem qQs{i:Nat}{x:(Str×Int)×List Te}(h:S[i]?=some x)(hx:x.1.1≠nm):qRt S nm (i+1)=qRt S nm i:=by unfold qRt qDl;rw[qJf h,qDr h,List.filter_append,List.filter_cons_of_pos (by simpa using hx),Yv];rfl
theorem qPi(hn:(S.map (·.1)).Nodup){i:Nat}{x:(Str×Int)×List Te}(h:S[i]?=some x)(hx:x.1.1=nm):qRt S nm (i+1)=(qRt S nm i).filter λy=>decide (y.1≠x.1):=by
 have hd:=qDr h;have nx:x.1∉(S.drop (i+1)).map (·.1):=by have:((S.drop i).map (·.1)).Nodup:=hn.sublist ((List.drop_sublist i S).map _);rw[hd]at this;exact(List.nodup_cons.mp this).1
 unfold qRt qDl;rw[qJf h,hd,List.filter_append,List.filter_append,List.filter_cons_of_neg (by simpa using hx),List.filter_cons_of_neg (by simp),List.filter_filter];congr 1
 . rw[List.filter_nil,Ye]
   refine List.filter_congr λy _=>?_;by_cases q:y.1.1=nm
   . simp[q]
   . have:y.1≠x.1:=λz=>q (by rw[z];exact hx)
     simp[q,this]
 . refine(List.filter_eq_self.mpr λy hy=>?_).symm
   have:y.1≠x.1:=λz=>nx (by rw[<-z];exact List.mem_map.mpr ⟨y,hy,rfl⟩);simpa using this
theorem qR9{i:Nat}{x:(Str×Int)×List Te}(h:S[i]?=some x):x∈qRt S nm i:=by unfold qRt;rw[qDr h];simp
theorem qTn{κ α:Type} [DecidableEq κ] {l:List (κ×α)}{x:κ×α}(h:x∈l):qA4 l x.1≠none:=λq=>by unfold qA4 at q;have:=List.find?_eq_none.mp (Option.map_eq_none_iff.mp q) x h;simp at this
structure StP(K:W.Frag)(H:Hp)(C p kd sd:Addr)(fv:V)(n:Int)(es:List (Str×Addr))(S:Kpt)(rz re td:Addr)(A:Rg)(M:Int)(c:Nat)(U Z:List (List Im)):Prop where
 pt:PtS K H C p kd fv qAn n es S
 se:Seen K H sd S
 nsd:sd∉p::kd::es.map (·.2)
 hz:H rz=some (.tup [.ref re,.ref td])
 rm:RoomS H re td A M c U Z
 nre:re∉p::kd::sd::es.map (·.2)
 ntd:td∉p::kd::sd::es.map (·.2)
theorem RE.some{H:Hp}{re:Addr}{A:Rg}(h:RE H re A):∃u,H re=some u:=by
 rcases h.1 with q|⟨o,q⟩
 . exact⟨_,q⟩
 . exact⟨_,q⟩
theorem StP.ask{p:Addr}{n n':Int}{es':List (Str×Addr)}{S':Kpt}{c:Nat}(h:StP K H C p kd sd fv n es S rz re td A M c U Z)
 (h1:PtS K H' C p kd fv qAn n' es' S') (h2:Seen K H' sd S') (h3:sd∉p::kd::es'.map (·.2)) (lt:LT H H') (st:∀b u,b∉p::kd::sd::es.map (·.2)->H b=some u->H' b=some u) (fr:∀e∈es',e∈es\/H e.2=none):StP K H' C p kd sd fv n' es' S' rz re td A M c U Z:=by
 obtain⟨tu,ta,hd,_,_⟩:=id h.rm.d;obtain⟨ur,hr⟩:=h.rm.re.some;have out:∀b u,H b=some u->b∉p::kd::sd::es.map (·.2)->b∉p::kd::sd::es'.map (·.2):=λb u hb hn hm=>by
  simp only[YU,not_or]at hn hm;obtain⟨n1,n2,n3,n4⟩:=hn;rcases hm with q|q|q|q
  . exact n1 q
  . exact n2 q
  . exact n3 q
  obtain⟨e,he,rfl⟩:=List.mem_map.mp q;rcases fr e he with z|z
  . exact n4 (List.mem_map.mpr ⟨e,z,O⟩)
  . rw[z]at hb;cases hb
 exact⟨h1,h2,h3,lt.t _ _ h.hz,h.rm.lt lt ((st _ _ h.nre hr).trans hr.symm) ((st _ _ h.ntd hd).trans hd.symm),out _ _ hr h.nre,out _ _ hd h.ntd⟩
theorem Seen.lt(e:LT H H')(h:Seen K H sd S)(k:H' sd=H sd):Seen K H' sd S:=let ⟨kvs,h1,h2⟩:=h;⟨kvs,k.trans h1,h2.imp λte v ⟨tl,q,t⟩=>⟨tl,q,e.tl t⟩⟩
theorem StP.same{H H':Hp}{C p kd sd:Addr}{fv:V}{n:Int}{es:List (Str×Addr)}{S:Kpt}{rz re td:Addr}{A:Rg}{M:Int}{c:Nat}{U Z:List (List Im)}(h:StP K H C p kd sd fv n es S rz re td A M c U Z)(e:Same H H'):StP K H' C p kd sd fv n es S rz re td A M c U Z:=
 ⟨h.pt.same xq e,h.se.lt (LT.of e) (let ⟨_,q,_⟩:=h.se;(e _ _ q).trans q.symm),h.nsd,e _ _ h.hz,h.rm.same e,h.nre,h.ntd⟩
theorem StP.mono{H:Hp}{C p kd sd:Addr}{fv:V}{n:Int}{es:List (Str×Addr)}{S:Kpt}{rz re td:Addr}{A:Rg}{M:Int}{c:Nat}{U Z:List (List Im)}(h:StP K H C p kd sd fv n es S rz re td A M c U Z):StP K H C p kd sd fv n es S rz re td A (M+14) (c+4) U Z:=
 ⟨h.pt,h.se,h.nsd,h.hz,⟨h.rm.d,h.rm.re,h.rm.u.mono (by omega) (by omega),h.rm.w.mono (by omega) (by omega)⟩,h.nre,h.ntd⟩
theorem StP.room{p:Addr}{n:Int}{rz':Addr}{c:Nat}(h:StP K H C p kd sd fv n es S rz re td A M c U Z)(hz:H rz'=some (.tup [.ref re,.ref td])):StP K H C p kd sd fv n es S rz' re td A M c U Z:=⟨h.pt,h.se,h.nsd,hz,h.rm,h.nre,h.ntd⟩
theorem StP.changed{p:Addr}{n:Int}{rz':Addr}{c:Nat}{U' W':List (List Im)}(h:StP K H C p kd sd fv n es S rz re td A M c U Z)(sb:SB td H H')(hz:H' rz'=some (.tup [.ref re,.ref td]))(hR:RoomS H' re td A M' c' U' W'):StP K H' C p kd sd fv n es S rz' re td A M' c' U' W'/\LT H H':=by
 obtain⟨tu,ta,hd,_,_⟩:=id h.rm.d;have lt:=qLn sb hd;have nt:∀b∈p::kd::sd::es.map (·.2),b≠td:=λb hb q=>h.ntd (by rw[<-q];exact hb);refine⟨⟨h.pt.off xq lt λb hb=>?_,h.se.lt lt ?_,h.nsd,hz,hR,h.nre,h.ntd⟩,lt⟩
 . obtain⟨u,hu⟩:=h.pt.there hb
   rw[hu];refine sb b u (nt b ?_) hu;simp only[YU]at hb⊢;rcases hb with q|q|q
   . exact .inl q
   . exact .inr (.inl q)
   . exact .inr (.inr (.inr q))
 . obtain⟨_,q,_⟩:=h.se
   rw[q];exact sb sd _ (nt sd (by simp)) q
theorem qNp{kvs:List (List Key×V)}(e:SB z H H')(hz:H z=some (.dT kvs)):LT H H':=⟨λb xs h=>e b _ (xC h hz (by intro q;cases q)) h,λb xs h=>e b _ (xC h hz (by intro q;cases q)) h,λb o u h=>e b _ (xC h hz (by intro q;cases q)) h⟩
inductive qKz(P:Program)(w:World)(K:W.Frag)(mg:Str->Option Value)(C:Addr)(vs:List V)(H:Hp)(Q:VK)(_:XK):Prop
|mk (p kd sd:Addr) (fv:V) (n:Int) (es:List (Str×Addr)) (S:Kpt) (rz re td:Addr) (A:Rg) (M:Int) (c:Nat) (U Z:List (List Im)) (g:Int) (_:vs=[.ref p,.ref rz,.ref sd,.int g]) (_:StP K H C p kd sd fv n es S rz re td A M c U Z) (_:wt P w K mg fv qAn) (_:24<=M) (_:M<=900) (_:c<=100) (_:S.length<=190) (_:∀(n':Int) (es':List (Str×Addr)) (S':Kpt) (U' W':List (List Im)) (H':Hp),StP K H' C p kd sd fv n' es' S' rz re td A (M+14) (c+4) U' W'->S'.length<=S.length+8->LT H H'->Q (.bl true) H')
theorem qJa(T:Tx K mg a):FnOk P w K mg base CX0 14 a.A89 a.B89 ["_law_painter","_law_room","_law_seen","_law_cell"] (qKz P w K mg a.k_Painter):=by
 refine oL T.D89.F j8 λ_ _ _ _ H _ _ _ hr h _ Y=>?_;obtain⟨p,kd,sd,fv,n,es,S,rz,re,td,A1,M,c,U,Z,g,rfl,hP,hF,M0,M1,hc,hS,kk⟩:=h;apply Y;have hu:=hr.units;have hu1:=qJ8 hr;refine⟨_,(qD (qW 4 j8.nd (qI T.D77 (qAo T) hr rfl (qA (pv 3) (qA qG qB))))
  (qD (kn (qZ (qM zM (qP qi (pv 3) qG) qG (qO _)) (qF (qW 1 j8.nd (qI T.D88 (qFs T) hr rfl (qA (pv 1) (qA (pv 3) (qA (jN qh (pv 4) qG (λ_ _=>rfl)) (qA (jN qh (pv 4) qG (λ_ _=>rfl)) qB))))))) qN))
  (qD (qZ (qM jM (qP qi (pv 3) qG) qG (qO _)) (qD (qW 5 j8.nd (jN qh (qo (qA qR (qA qR (qA qR qB)))) (qP qi (qP qf (pv 3) qG) qG) (λ_ _=>rfl)))
  (qD (jR (qV2 (pv 0) T.cl_Painter T.D101 (qCc T) hr (qA (pv 5) qB)))
  (qD (xj PassesOwn.never rfl (jl (jw (qKe rfl) rfl T.b_list rfl (qA (pv 2) qB))) (q8 (i:=6) j8.nd rfl (Or.inl rfl)) (qF (qZ (qM jM (qJ (pv 6)) (pv 5) (qO _)) (qF (jR (qVg hu1 (pv 2) (pv 6) ⟨rfl,rfl,rfl,rfl⟩))) qN)))
  (qF (qK (jH jM (qCv (pv 0) T.cl_Painter T.D100 (xo T) hr) (qX qJy rfl T.b_len rfl (qA (pv 2) qB)) (qO _))))))) qN)
  (qD (xj PassesOwn.never rfl (jl (x5 vV (pv 4) (zw qG) (zw (qP qk qG (qP qi (qP qf (pv 3) qG) qG))))) (q8 (i:=7) j8.nd rfl (Or.inl rfl)) (qF (qZ (jK (qr (qI T.D86 (wj T) hr rfl (qA (pv 0) (qA (pv 1) (qA (pv 2) (qA (jN qh (qo (qA qR (qA qR qB))) (qP qi (pv 7) qG) (λ_ _=>rfl)) (qA (qP qi (qP qf (pv 7) qG) qG) qB)))))))) (qF (qK zH)) qN)))
  (qF (qK zH)))))),?_⟩
 try dsimp only[jD,qc]
 refine⟨_,O,g,8,O,by decide,by decide,λxz xs hxz hxl hxs=>?_⟩;have w1:=qE hxz (.lst (xs.map V.int));have kx:upd H xz (.lst (xs.map V.int)) xz=some (.lst (xs.map V.int)):=qC;change _;generalize upd H xz _=H1 at w1 kx⊢;have hP1:=hP.same w1;have hz1:=w1 _ _ hP.hz;refine qS λ_ Y=>?_;obtain⟨tu,ta,hd1,_,_⟩:=id hP1.rm.d;apply Y;have atx:∀i:Int,0<=i->i<8->∃k:Int,atI (xs.map V.int) i=some (.int k)/\0<=k:=λi i0 i1=>by obtain⟨v,hv,hm⟩:=vF (xs:=xs.map V.int) (i:=i) i0 (by rw[YS,hxl];exact i1);obtain⟨k,hk,rfl⟩:=List.mem_map.mp hm;exact⟨k,hv,(hxs k hk).1⟩
 refine⟨λσ H'=> ∃(rz':Addr) (U' W':List (List Im)),σ=[some (.ref p),some (.ref rz'),some (.ref sd),some (.int g),some (.ref xz),none,none,none]/\StP K H' a.k_Painter p kd sd fv n es S rz' re td A1 (M+14) (c+4) U' W'/\LT H1 H'/\H' rz=some (.tup [.ref re,.ref td]),?_,?_⟩
 . refine⟨_,O,_,_,O,O,nz,_,_,O,O,_,O,ja (λ_=>?_) (λ_=>?_)⟩
   . obtain⟨x,hx,x0⟩:=atx 2 (by decide) (by decide)
     refine qS λ_ Y=>?_;obtain⟨y,hy,y0⟩:=atx 3 (by decide) (by decide);apply Y;refine⟨_,O,_,O,_,O,xz,_,_,_,O,O,SqL.of kx,hx,_,O,xz,_,_,_,O,O,SqL.of kx,hy,rz,re,td,g,x,y,A1,M,c,U,Z,O,hP1.hz,hP1.rm,x0,y0,M0,by omega,hc,λrz' U' W' H' sb hz' hR'=>?_⟩;obtain⟨q1,q2⟩:=hP1.changed sb hz' hR';exact⟨rz',U',W',O,q1,q2,q2.t _ _ hz1⟩
   . exact⟨rz,U,Z,O,hP1.mono,LT.of (Same.refl _),hz1⟩
 rintro σ H2 ⟨rz',U',W',rfl,hP2,lt2,hz2⟩;have kx2:=lt2.l _ _ kx;have lt02:=(LT.of w1).trans lt2;have hS':S.length<200:=by omega
 refine⟨_,O,_,_,O,O,nz,O,_,O,ja (λ_=>?_) (λ_=>?_)⟩
 . have f1:=fm (g.fdiv 7) (show (0:Int)<3 by decide)
   refine qS λ_ Y=>?_;obtain⟨v,hv,hmem⟩:=vF (xs:=[V.str "under",.str "above",.str "nobody"]) (i:=(g.fdiv 7).fmod 3) f1.1 (show _<((3:Nat):Int) by omega);obtain⟨nm,rfl⟩:∃nm:Str,v=.str nm:=by simp only[YU,ZD,or_false]at hmem;rcases hmem with rfl|rfl|rfl <;> exact⟨_,rfl⟩
   apply Y;refine⟨sL3,λl hl=>⟨_,O,_,_,O,O,cdB (by decide) (by decide),_,_,O,O,nz,l,_,_,_,O,O,SqL.of qC,hv,?_⟩⟩;have w3:=qE hl (.lst [.str "under",.str "above",.str "nobody"]);change _;generalize upd H2 l _=H3 at w3⊢;have hP3:=hP2.same w3;obtain⟨dx3,hp3⟩:=hP3.pt.ins;refine⟨_,O,p,_,_,O,hp3,O,_,O,p,kd,fv,qAn,n,es,S,nm,O,hP3.pt,xq,λH4 sb4 hP4=>?_⟩;have lt34:=qLn sb4 hP3.pt.k;refine qS λ_ Y=>?_;obtain⟨kvs,hs3,hAL⟩:=hP3.se;apply Y;have nsk:sd≠kd:=λq=>hP3.nsd (by rw[q];simp);have hs4:=sb4 _ _ nsk hs3;refine⟨_,O,sd,kvs,O,hs4,λl4 zs hl4 hzl hzs=>?_⟩;have w5:=qE hl4 (.lst (zs.map V.ref));have k5:upd H4 l4 (.lst (zs.map V.ref)) l4=some (.lst (zs.map V.ref)):=qC;change _;generalize upd H4 l4 _=H5 at w5 k5⊢;have hP5:=hP4.same xq w5;have hs5:=w5 _ _ hs4;have lt35:=lt34.trans (LT.of w5);have hsk:=hP3.pt.sk;have hlS:=hAL.len;have hAL5:=hAL.imp (R':=λte v=> ∃tl,v=V.ref tl/\TL K H5 tl te) λte v ⟨tl,q,t⟩=>⟨tl,q,lt35.tl t⟩;refine⟨l4,O,⟨_,SqL.of k5⟩,j3 (K:=K) (a:=l4) (xs:=zs.map V.ref) (λi σ H'=> ∃o6:Option V,σ=[some (.ref p),some (.ref rz'),some (.ref sd),some (.int g),some (.ref xz),some (.str nm),o6,none]/\SB sd H5 H'/\Seen K H' sd (qRt S nm i)) ⟨none,O,SB.refl _ _,kvs,hs5,hAL5⟩ ?_ ?_ ?_⟩
   . rintro i σ H' hi ⟨o6,rfl,sb,_⟩
     exact SqL.of ((qNp sb hs5).l _ _ k5)
   . rintro i x σ H6 hx ⟨o6,rfl,sb,kv6,hs6,hA6⟩
     rw[Yj]at hx;refine qS λ_ Y=>?_;obtain⟨z,hz,rfl⟩:=Option.map_eq_some_iff.mp hx;obtain⟨k,v',hkv,hzt⟩:=hzs i z hz;obtain⟨t,te,hSi,rfl⟩:=hAL.get hkv;obtain⟨nm',t'⟩:=t;apply Y;have hz6:H6 z=some (.tup [.str nm',.int t']):=(qNp sb hs5).t _ _ (w5 _ _ hzt);refine(ixO hz6 at0 ⟨_,O,O,_,O,ja (λq=>?_) (λq=>?_)⟩)
     . have q:V.str nm'=V.str nm:=ZK q
       obtain rfl:nm'=nm:=by cases q;rfl
       rcases hA6.val qHy (nm',t')with ⟨a1,_⟩|⟨te',v6,_,a2,_⟩
       . exact YC a1 (qTn (qR9 hSi))
       have lt6:LT H6 (upd H6 sd (.dT (qAw kv6 (kSe (nm',t'))))):=qNp wT hs6;refine⟨_,O,sd,O,.inr ⟨_,.inl hs6⟩,_,O,kv6,kSe (nm',t'),z,v6,hs6,O,hz6,a2,?_⟩;refine⟨_,O,sb.trans wT,_,qC,?_⟩;rw[qPi hsk hSi rfl];exact(AL.drop qHy (nm',t') hA6).imp λte v ⟨tl,q,t⟩=>⟨tl,q,lt6.tl t⟩
     . have q:¬nm'=nm:=λe=>by rw[e]at q;simp at q
       exact⟨_,O,sb,by rw[qQs hSi q];exact⟨kv6,hs6,hA6⟩⟩
   rintro σ H6 ⟨o6,rfl,sb,hse⟩;rw[YS,hzl,hlS,qSs]at hse;have lt56:=qNp sb hs5;have sub:∀b,b∈(es.filter λe=>decide (e.1≠nm)).map (·.2)->b∈es.map (·.2):=λb hb=>by obtain⟨e,he,rfl⟩:=List.mem_map.mp hb;exact List.mem_map.mpr ⟨e,(List.mem_filter.mp he).1,O⟩
   have sub3:∀b,b∉p::kd::sd::es.map (·.2)->b∉p::kd::sd::(es.filter λe=>decide (e.1≠nm)).map (·.2):=λb hb hm=>hb (by
    simp only[YU]at hm⊢;rcases hm with q|q|q|q
    . exact .inl q
    . exact .inr (.inl q)
    . exact .inr (.inr (.inl q))
    . exact .inr (.inr (.inr (sub b q))))
   have nsd':sd∉p::kd::(es.filter λe=>decide (e.1≠nm)).map (·.2):=λhm=>hP3.nsd (by
    simp only[YU]at hm⊢;rcases hm with q|q|q
    . exact .inl q
    . exact .inr (.inl q)
    . exact .inr (.inr (sub _ q)))
   have hP6:=hP5.off xq lt56 λb hb=>by obtain⟨u,hu⟩:=hP5.there hb;rw[hu];exact sb b u (λq=>nsd' (by rw[<-q];exact hb)) hu
   have lt36:=lt35.trans lt56;refine qS λ_ Y=>?_;obtain⟨ur,hre⟩:=hP3.rm.re.some;obtain⟨tu3,ta3,hd3,_,_⟩:=id hP3.rm.d;have keep:∀b u,b∉p::kd::sd::es.map (·.2)->H3 b=some u->H6 b=H3 b:=λb u hb h=>by rw[h];exact sb b u (λq=>hb (by rw[q];simp)) (w5 _ _ (sb4 b u (λq=>hb (by rw[q];simp)) h))
   have hR6:=hP3.rm.lt lt36 (keep _ _ hP3.nre hre) (keep _ _ hP3.ntd hd3);have hZ6:StP K H6 a.k_Painter p kd sd fv n _ _ rz re td A1 (M+14) (c+4) U' W':=⟨hP6,hse,nsd',lt36.t _ _ (w3 _ _ hz2),hR6,sub3 _ hP3.nre,sub3 _ hP3.ntd⟩;obtain⟨dx6,hp6⟩:=hP6.ins;obtain⟨kv6,hs6,hA6⟩:=id hse;apply Y;refine⟨_,O,p,_,_,O,hp6,O,p,kd,fv,qAn,n,_,_,O,hP6,λH7 e7=>⟨_,O,sd,kv6,O,e7 _ _ hs6,O,?_⟩⟩;have ee:(V.bl (decide ((V.int ((qDl S nm).length:Int))=V.int (kv6.length:Int))))=V.bl true:=congrArg V.bl (YX (by rw[hA6.len]));have fin:=kk _ _ (qDl S nm) U' W' H7 (hZ6.same e7) (ZC (List.length_filter_le _ _) (Nat.le_add_right _ _)) (lt02.trans ((LT.of w3).trans (lt36.trans (LT.of e7))));rw[<-ee]at fin;exact fin
 have f3:=fm (g.fdiv 7) (show (0:Int)<3 by decide);refine⟨_,O,2,O,_,O,_,_,O,O,cdB (by decide) (by decide),_,_,O,O,nz,_,_,O,O,_,O,xz,_,O,SqL.of kx2,λl5 hl5=>?_⟩;have hcv:∀v∈xl (xs.map V.int) (some 2) (some (3+(g.fdiv 7).fmod 3)),∃k:Int,v=.int k/\0<=k:=λv hv=>by
  have:v∈xs.map V.int:=by unfold xl at hv;exact List.mem_of_mem_drop (List.mem_of_mem_take hv)
  obtain⟨k,hk,rfl⟩:=List.mem_map.mp this;exact⟨k,O,(hxs k hk).1⟩
 have hcl:(xl (xs.map V.int) (some 2) (some (3+(g.fdiv 7).fmod 3))).length<=8:=by unfold xl;rw[Yk,ZR,YS,hxl];exact ZC (Nat.min_le_right _ _) (Nat.sub_le _ _)
 have w6:=qE hl5 (.lst (xl (xs.map V.int) (some 2) (some (3+(g.fdiv 7).fmod 3))));have k6:upd H2 l5 (.lst (xl (xs.map V.int) (some 2) (some (3+(g.fdiv 7).fmod 3)))) l5=some (.lst (xl (xs.map V.int) (some 2) (some (3+(g.fdiv 7).fmod 3)))):=qC;change _;generalize upd H2 l5 _=H6 at w6 k6⊢;generalize xl (xs.map V.int) (some 2) (some (3+(g.fdiv 7).fmod 3))=us at*;have hP6:=hP2.same w6;refine⟨l5,O,⟨_,SqL.of k6⟩,j3 (K:=K) (a:=l5) (xs:=us) (λi σ H'=> ∃(o7:Option V) (n':Int) (es':List (Str×Addr)) (S':Kpt),σ=[some (.ref p),some (.ref rz'),some (.ref sd),some (.int g),some (.ref xz),none,none,o7]/\StP K H' a.k_Painter p kd sd fv n' es' S' rz' re td A1 (M+14) (c+4) U' W'/\S'.length<=S.length+i/\LT H6 H') ⟨none,n,es,S,O,hP6,YI _,LT.of (Same.refl _)⟩ ?_ ?_ ?_⟩
 . rintro i σ H' hi ⟨o7,n',es',S',rfl,_,_,lt⟩
   exact SqL.of (lt.l _ _ k6)
 . rintro i v σ H7 hv ⟨o7,n',es',S',rfl,hP7,hS7,lt7⟩
   refine qS λ_ Y=>?_;obtain⟨k,rfl,k0⟩:=hcv v (YF hv);have hi:=(glt hv);have f2:=fm k (show (0:Int)<2 by decide);have f20:=fm (k.fdiv 2) (show (0:Int)<20 by decide);obtain⟨vn,hvn,hmem⟩:=vF (xs:=[V.str "under",.str "above"]) (i:=k.fmod 2) f2.1 (show _<((2:Nat):Int) by omega);obtain⟨nm,rfl,hn⟩:∃nm:Str,vn=.str nm/\(nm="under"\/nm="above"):=by simp only[YU,ZD,or_false]at hmem;rcases hmem with rfl|rfl <;> exact⟨_,rfl,by simp⟩
   apply Y;refine⟨_,O,_,O,_,O,sL2,λl8 hl8=>?_⟩;have w8:=qE hl8 (.lst [.str "under",.str "above"]);have hP8:=hP7.same w8;have t20:(2:Int) ^ 60=1152921504606846976:=by decide
   refine⟨_,O,_,_,O,O,nz,l8,_,_,_,O,O,SqL.of qC,hvn,_,O,_,_,O,O,cdB (by decide) (by decide),_,_,O,O,nz,p,kd,sd,fv,n',es',S',nm,_,rz',re,td,A1,M+14,c+4,U',W',O,hP8.pt,hF,hP8.se,hP8.nsd,hP8.hz,hP8.rm,by omega,by omega,hn,f20.1,by omega,by omega,λn9 es9 S9 H9 a1 a2 a3 a4 a5 a6 a7=>⟨true,O,qv ?_⟩⟩;exact⟨_,n9,es9,S9,O,hP8.ask a1 a2 a3 a5 a6 a7,by omega,lt7.trans ((LT.of w8).trans a5)⟩
 . rintro σ H' ⟨o7,n',es',S',rfl,hP',hS7,lt7⟩
   exact kk n' es' S' U' W' H' (hP'.room (lt7.t _ _ (w6 _ _ hz2))) (by omega) (lt02.trans ((LT.of w6).trans lt7))
theorem LT.sqL(e:LT H H'){s:Addr}(h:SqL K H s xs):SqL K H' s xs:=by
 rcases h with (h|⟨o,h⟩)|h
 . exact .inl (.inl (e.l _ _ h))
 . exact .inl (.inr ⟨o,e.f _ _ _ h⟩)
 . exact .inr h
theorem qWo(T:Tx K mg a):FnOk P w K mg base CX0 15 a.A96 a.B96 ["_law_script"] (qTl K):=by
 refine oL T.D96.F qGs λ_ _ _ _ H _ _ _ hr h _ Y=>?_;obtain⟨zs,ns,rfl,hS,hlen,kk⟩:=h;apply Y;have hu:=hr.units;refine⟨_,(qD (qW 1 qGs.nd (qVq T.mk_Painter (j5 T) hr rfl T.c_Painter T.D97.b (qA (jQ (v:=.ref a.A90) rfl T.D90.m rfl) qB)))
  (qD (kn (qZ (qM jM (qP qi (qP qf (qI T.D76 (ve T) hr rfl (qA (pv 0) (qA qG qB))) qG) qG) qG (qO _)) (qF (qW 1 qGs.nd (qVq T.mk_Painter (j5 T) hr rfl T.c_Painter T.D97.b (qA (jQ (v:=.ref a.A91) rfl T.D91.m rfl) qB)))) qN))
  (qD (qW 2 qGs.nd (qI T.D85 (qBk T) hr rfl (qA (qI T.D76 (ve T) hr rfl (qA (pv 0) (qA qG qB))) qB)))
  (qD (qZ (jK (qr (qI T.D95 (qKd T) hr rfl (qA (pv 2) qB)))) (qF (qK zH)) qN)
  (qD (qW 3 qGs.nd qTh)
  (qD (xj PassesOwn.never rfl (qQe rfl T.b_range (qA qG (qA (qX (zO rfl) rfl T.b_min rfl (qA qG (qA (qX jV rfl T.b_len rfl (qA (pv 0) qB)) qB))) qB))) (q8 (i:=4) qGs.nd rfl (Or.inl rfl)) (qF (qZ (jK (qr (qI T.D89 (qJa T) hr rfl (qA (pv 1) (qA (pv 2) (qA (pv 3) (qA (qP qk (jN qh (pv 0) (pv 4) (λ_ _=>rfl)) (qP jd qG (pv 4))) qB))))))) (qF (qK zH)) qN)))
  (qD (qZ (PW.pt (jv (jK (qr (qI T.D86 (wj T) hr rfl (qA (pv 1) (qA (pv 2) (qA (pv 3) (qA qR (qA qG qB)))))))) (jL (jK (qr (qI T.D86 (wj T) hr rfl (qA (pv 1) (qA (pv 2) (qA (pv 3) (qA qR (qA qG qB))))))))))) (qF (qK zH)) qN)
  (qF (qK (xy (qI T.D87 (vS T) hr rfl (qA (pv 1) (qA (pv 2) qB))) (kC (qI T.D87 (vS T) hr rfl (qA (pv 1) (qA (qY (qA (qJ (pv 2)) (qA qHt qB))) qB)))))))))))))),?_⟩
 try dsimp only[jD,qc]
 refine λp0 dx0 hp0 hdx0 hne0=>⟨p0,dx0,_,O,qC,λkd0 H1 hkd0 sb0 hx1 hk1=>⟨O,?_⟩⟩;refine qS λ_ Y=>?_;obtain⟨e1,_,hP1⟩:=PtS.new (K:=K) (G:=qAn) hp0 hdx0 hkd0 sb0 hx1 hk1;apply Y;clear sb0 hkd0;refine⟨λσ' H'=> ∃(p kd:Addr) (fv:V),σ'=[some (.ref zs),some (.ref p),none,none,none]/\Same H H'/\PtS K H' a.k_Painter p kd fv qAn 0 [] []/\wt P w K mg fv qAn,?_,?_⟩
 . refine⟨_,O,zs,ns,0,O,e1.seq hS,hlen,by decide,λc0=>⟨_,_,O,O,cdB (by decide) (by decide),_,_,O,O,nz,O,_,O,ja (λ_=>?_) (λ_=>?_)⟩⟩
   . refine λp1 dx1 hp2 hdx2 hne1=>⟨p1,dx1,_,O,qC,λkd1 H2 hkd1 sb1 hx2 hk2=>⟨O,?_⟩⟩
     refine qS λ_ Y=>?_;obtain⟨e2,_,hP2⟩:=PtS.new (K:=K) (G:=qAn) hp2 hdx2 hkd1 sb1 hx2 hk2;apply Y;exact⟨p1,kd1,_,O,e1.trans e2,hP2,qBc T.D91 xq λbase=>vG T⟩
   . exact⟨p0,kd0,_,O,e1,hP1,qBc T.D90 xq λbase=>qIg T⟩
 clear hP1 hx1 hk1 hp0 hdx0 hne0 e1;rintro σ H2 ⟨p,kd,fv,rfl,e2,hP2,hF⟩;refine⟨_,O,zs,ns,0,O,e2.seq hS,hlen,by decide,λc0=>⟨c0,O,λrz re td A1 U Z H3 e3 hz3 htd hR3=>?_⟩⟩;refine⟨_,O,rz,re,td,A1,94,20,U,Z,O,hz3,hR3,by decide,by decide,λH4 e4=>⟨true,O,qv ?_⟩⟩;refine λsd hsd=>?_;have w5:=qE hsd (.dT []);have k5:upd H4 sd (.dT []) sd=some (.dT []):=qC;change _;generalize upd H4 sd _=H5 at w5 k5⊢;have e25:=(e3.trans e4).trans w5;have e35:=e4.trans w5;have hS5:SqL K H5 zs (ns.map V.int):=(e2.trans e25).seq hS;have hP5:=hP2.same xq e25;have hR5:=hR3.same e35;have hz5:=e35 _ _ hz3;refine qS λ_ Y=>?_;obtain⟨dx5,hp5⟩:=hP5.ins;obtain⟨tu,ta,hd5,_,_⟩:=id hR5.d;have nkt:td≠kd:=λq=>by rw[q,hP2.k]at htd;cases htd
 have hZ:StP K H5 a.k_Painter p kd sd fv 0 [] [] rz re td A1 94 20 U Z:=by
  refine⟨hP5,⟨[],k5,trivial⟩,?_,hz5,hR5,?_,?_⟩
  . simp only[List.map_nil,YU,ZD,or_false,not_or]
    exact⟨xC k5 hp5 (by intro q;cases q),xC k5 hP5.k (by intro q;cases q)⟩
  . simp only[List.map_nil,YU,ZD,or_false,not_or]
    exact⟨qQ2 hR5.re.1 hp5 (by intro q;cases q) (by intro x q;cases q),qQ2 hR5.re.1 hP5.k (by intro q;cases q) (by intro x q;cases q),qQ2 hR5.re.1 k5 (by intro q;cases q) (by intro x q;cases q)⟩
  . simp only[List.map_nil,YU,ZD,or_false,not_or]
    exact⟨xC hd5 hp5 (by intro q;cases q),nkt,xC hd5 k5 (by intro q;cases q)⟩
 clear hP2 hR3 hz3 hP5 hR5 hz5 hp5 hd5;have hml:(ns.map V.int).length=ns.length:=YS _;have hmin:(if ((ns.map V.int).length:Int)<17 then ((ns.map V.int).length:Int)else 17)<=17/\(if ((ns.map V.int).length:Int)<17 then ((ns.map V.int).length:Int)else 17)<=ns.length:=by rw[hml];split <;> omega
 obtain⟨m,hm⟩:∃m,(if ((ns.map V.int).length:Int)<17 then ((ns.map V.int).length:Int)else 17)=m:=⟨_,rfl⟩;apply Y;rw[hm]at hmin;refine⟨_,O,zs,_,O,.inl hS5,17,_,O,1,m,by rw[<-hm],⟨by decide,by decide,?_,by omega⟩,qE1 (lo:=1) (n:=(m-1).toNat) (λi σ H'=> ∃(o4:Option V) (n:Int) (es:List (Str×Addr)) (S:Kpt) (U Z:List (List Im)),σ=[some (.ref zs),some (.ref p),some (.ref rz),some (.ref sd),o4]/\StP K H' a.k_Painter p kd sd fv n es S rz re td A1 (94+14*(i:Int)) (20+4*i) U Z/\S.length<=8*i/\LT H5 H') ⟨none,0,[],[],U,Z,O,hZ,YI 0,LT.of (Same.refl _)⟩ ?_ ?_⟩
 . rw[<-hm]
   split <;> omega
 . rintro i σ H6 hi ⟨o4,n,es,S,U6,W6,rfl,hZ6,hl6,lt6⟩
   have hi':i<16/\1+(i:Int)<ns.length:=by omega
   refine qS λ_ Y=>?_;obtain⟨v,hat,hmem⟩:=vF (xs:=ns.map V.int) (i:=1+(i:Int)) (by omega) (by rw[hml];exact hi'.2);obtain⟨k,_,rfl⟩:=List.mem_map.mp hmem;apply Y;refine⟨_,O,_,O,_,O,_,O,_,O,zs,_,_,_,O,O,lt6.sqL hS5,hat,_,O,_,_,O,O,cmL (by decide) (by decide),_,_,O,O,p,kd,sd,fv,n,es,S,rz,re,td,A1,_,_,U6,W6,_,O,hZ6,hF,by omega,by omega,by omega,by omega,λn' es' S' U' W' H7 hZ7 hl7 lt7=>⟨true,O,qv ?_⟩⟩;have eM:94+14*(i:Int)+14=94+14*((i+1:Nat):Int):=by omega
   rw[eM]at hZ7;exact⟨_,n',es',S',U',W',O,hZ7,by omega,lt6.trans lt7⟩
 rintro σ H6 ⟨o4,n,es,S,U6,W6,rfl,hZ6,hl6,lt6⟩;have hn6:(m-1).toNat<=16:=by omega
 have cp:(2:Int) ^ 60=1152921504606846976:=by decide
 refine⟨_,O,_,O,_,O,p,kd,sd,fv,n,es,S,"above",3,rz,re,td,A1,_,_,U6,W6,O,hZ6.pt,hF,hZ6.se,hZ6.nsd,hZ6.hz,hZ6.rm,by omega,by omega,.inr rfl,by decide,by decide,by omega,λn7 es7 S7 H7 a1 a2 a3 a4 a5 a6 a7=>⟨true,O,qv ?_⟩⟩;have hZ7:=hZ6.ask a1 a2 a3 a5 a6 a7;refine⟨_,O,_,O,_,O,p,kd,sd,fv,n7,es7,S7,"above",3,rz,re,td,A1,_,_,U6,W6,O,hZ7.pt,hF,hZ7.se,hZ7.nsd,hZ7.hz,hZ7.rm,by omega,by omega,.inr rfl,by decide,by decide,by omega,λn8 es8 S8 H8 b1 b2 b3 b4 b5 b6 b7=>⟨true,O,qv ?_⟩⟩;have hZ8:=hZ7.ask b1 b2 b3 b5 b6 b7;refine qS λ_ Y=>?_;obtain⟨tu8,ta8,hd8,_,_⟩:=id hZ8.rm.d;apply Y;have hv8:x6 [((Sum.inr ("under":Str):Key),V.ref tu8),(Sum.inr ("above":Str),V.ref ta8)] (Sum.inr ("nobody":Str))=none:=by rw[jU (by intro q;exact YC (Sum.inr.inj q) (by decide+kernel)),jU (by intro q;exact YC (Sum.inr.inj q) (by decide+kernel))];rfl
 refine⟨_,O,_,O,p,kd,fv,qAn,n8,es8,S8,.ref re,rz,td,_,O,hZ8.pt,xq,hZ8.hz,hd8,hv8,λH9 e9=>⟨true,O,jn ?_⟩⟩;have hZ9:=hZ8.same e9;refine⟨_,O,zf rfl (SqT.of hZ9.hz) at0 (λd0 hd0=>⟨sL2,λt ht=>?_⟩)⟩;have w10:=qE hd0 (.dK []);have w11:=qE ht (.tup [.ref re,.ref d0]);exact⟨p,kd,fv,qAn,n8,es8,S8,.ref re,t,d0,[],O,hZ9.pt.same xq (w10.trans w11),xq,qC,w11 _ _ qC,O,λH' e=>kk _⟩
end
structure DF(K:W.Frag)(x:Str)(st:Stmt)(f:Addr)(fd:FuncData):Prop where
 n:W.nsIn K mainGlobals x=some (some (.ref f))
 F:Fun K x x st f fd
theorem df_mk{K:W.Frag}{oc:Value}{od an:Option Addr}{osl:Array (Option Value)}{kV doc pm ct:Value}(n:W.nsIn K mainGlobals x=some (some (.ref f)))(l:K.lookup f=some ⟨oc,od,.func (W.fnOf x x (zT st) (j7 st) (qH st) .none kV doc pm an cdv ct),osl⟩)(c:W.codeIn K cdv x=true)(k:W.keepIn K (.ref f)=true):DF K x st f (W.fnOf x x (zT st) (j7 st) (qH st) .none kV doc pm an cdv ct):=⟨n,qRs l c k⟩
structure DM(K:W.Frag)(C:Addr)(m q:Str)(st:Stmt)(f:Addr)(fd:FuncData):Prop where
 F:Fun K m q st f fd
 t:qWf K C m f
theorem dm_mk{K:W.Frag}{m q:Str}{oc:Value}{od an:Option Addr}{osl:Array (Option Value)}{kV doc pm ct:Value}(n:W.findIn K (.ref C) m=some (some (.ref f)))(i:W.isFn K (.ref f)=true)(l:K.lookup f=some ⟨oc,od,.func (W.fnOf m q (zT st) (j7 st) (qH st) .none kV doc pm an cdv ct),osl⟩)(c:W.codeIn K cdv q=true)(k:W.keepIn K (.ref f)=true):DM K C m q st f (W.fnOf m q (zT st) (j7 st) (qH st) .none kV doc pm an cdv ct):=⟨qRs l c k,n,i,k⟩
structure CM(K:W.Frag)(C:Addr):Prop where
 c:Cls K C
 m:W.makesIn K C=true
 k:W.keepIn K (.ref C)=true
theorem cm_mk{K:W.Frag}(a:W.plainGet K C Str.empty=true)(b:W.hasDictIn K C=true)(c:W.plainOver K C=true)(d:W.findIn K (.ref C) "__setattr__"=some (some (.builtin "object.__setattr__")))(e:W.makesIn K C=true)(f:W.keepIn K (.ref C)=true):CM K C:=⟨⟨a,b,c,d⟩,e,f⟩
def GL(K:W.Frag)(x:Str)(v:Option Value):Prop:=W.nsIn K mainGlobals x=some v
theorem gl_mk{K:W.Frag}{v:Option Value}(h:W.nsIn K mainGlobals x=some v):GL K x v:=h
def Cur:List Str->(List Value->Prop)->Prop
 |[],F=>F []
 |_::ps,F=> ∀a,Cur ps λus=>F (a::us)
theorem Cur.all:∀{ps:List Str} {F:List Value->Prop},Cur ps F->∀us:List Value,us.length=ps.length->F us
 |[],_,h,[],_=>h
 |_::_,_,h,a::_,e=>Cur.all (h a) _ (Nat.succ.inj e)
theorem dG{K:W.Frag}{h:Heap}{mg:Str->Option Value}(X:K.In h)(G:h.Ns mainGlobals mg)(d:DF K x st f fd)
 (b:∀(kV doc pm:Value) (an:Option Addr) (cdv ct:Value),Cur ps λus=>bindArgs (W.fnOf x x (zT st) (j7 st) (qH st) .none kV doc pm an cdv ct) ⟨us,[]⟩=pure (ps.zip us):=by (repeat intro _);exact rfl):L3.Def K mg x st ps f fd:=⟨d.F,d.F.binds λk c p n v t=>(b k c p n v t).all,W.mg_of X G d.n⟩
theorem dM{K:W.Frag}{q:Str}(d:DM K C x q st f fd)
 (b:∀(kV doc pm:Value) (an:Option Addr) (cdv ct:Value),Cur ps λus=>bindArgs (W.fnOf x q (zT st) (j7 st) (qH st) .none kV doc pm an cdv ct) ⟨us,[]⟩=pure (ps.zip us):=by (repeat intro _);exact rfl):L3.MD K C x q st ps f fd:=⟨d.F,d.F.binds λk c p n v t=>(b k c p n v t).all,d.t⟩
theorem all_mk{l:W.OpenLaw}{w:World}{K:W.Frag}{h:Heap}{mg:Str->Option Value}{fa f0 f1 f2 f3 f4 f5 f6 f7 f8 f9 f10 f11 f12 f13 f14 f15 f16 f17 f18 f19 f20 f21 f22 f23 f24 f25 f26 f27 f28 f29 f30 f31 f32 f33 f34 f35 f36 f37 f38 f39 f40 f41 f42 f43 f44 f45 f46 f47 f48 f49 f50 f51 f52 f53 f54 f55 f56 f57 f58 f59 f60 f61 f62 f63 f64 f65 f66 f67 f68 f69 f70 f71 f72 f73 f74 f75 f76 f77 f78 f79 f80 f81 f82 f83 f84 f85 f86 f87 f88 f89 f90 f91 f92 f93 f94 f95 f96 f97 f98 f99 f100 f101 C0 C1 C2 C3 C4 C5 C6 C7 nNOUGHT nWHOLE_SHARE nROLLS nLAYS nPUSHES nCHANGES fmShort:Addr}{g0 g1 g2 g3 g4 g5 g6 g7 g8 g9 g10 g11 g12 g13 g14 g15 g16 g17 g18 g19 g20 g21 g22 g23 g24 g25 g26 g27 g28 g29 g30 g31 g32 g33 g34 g35 g36 g37 g38 g39 g40 g41 g42 g43 g44 g45 g46 g47 g48 g49 g50 g51 g52 g53 g54 g55 g56 g57 g58 g59 g60 g61 g62 g63 g64 g65 g66 g67 g68 g69 g70 g71 g72 g73 g74 g75 g76 g77 g78 g79 g80 g81 g82 g83 g84 g85 g86 g87 g88 g89 g90 g91 g92 g93 g94 g95 g96 g97 g98 g99 g100 g101:FuncData}(X:K.In h)(G:h.Ns mainGlobals mg)(hfa:mg "law"=some (.ref fa))
 {odNOUGHT odWHOLE_SHARE odROLLS odLAYS odPUSHES odCHANGES odmShort anmShort:Option Addr} {slNOUGHT slWHOLE_SHARE slROLLS slLAYS slPUSHES slCHANGES slmShort:Array (Option Value)} {ocmShort kVmShort dcmShort pmmShort cdmShort ctmShort:Value} {tLETTERS tLONGEST_NAME tMOST_ROOM tNOUGHT_0 tNOUGHT_1 tWHOLE_SHARE_0 tWHOLE_SHARE_1 tMOST_BY tROLLS_0 tROLLS_1 tROLLS_2 tLAYS_0 tLAYS_1 tPUSHES_0 tPUSHES_1 tPUSHES_2 tCHANGES_0 tCHANGES_1 tCHANGES_2 tCHANGES_3 tCHANGES_4 tCHANGES_5:Tok} {nnNOUGHT nnWHOLE_SHARE nnROLLS nnLAYS nnPUSHES nnCHANGES:Nat}
 (h0:DF K "is_whole" qB1 f0 g0)
 (h1:DF K "common_divisor" xp f1 g1)
 (h2:DF K "is_fraction" ka f2 g2)
 (h3:DF K "fraction" qB7 f3 g3)
 (h4:DF K "sum_of" qIl f4 g4)
 (h5:DF K "less_by" qFh f5 g5)
 (h6:DF K "times_of" qB6 f6 g6)
 (h7:DF K "quotient" qCk f7 g7)
 (h8:DF K "is_before" wm f8 g8)
 (h9:DF K "floor_of" qCg f9 g9)
 (h10:DF K "is_name" qFt f10 g10)
 (h11:DF K "has_clip_form" zN f11 g11)
 (h12:DF K "place_at" qB4 f12 g12)
 (h13:DF K "picture_at" vp f13 g13)
 (h14:DF K "is_there" qCb f14 g14)
 (h15:DF K "check_clip" vz f15 g15)
 (h16:DF K "clip_part" qAb f16 g16)
 (h17:DF K "goes_on" qEf f17 g17)
 (h18:DF K "moments_there" zJ f18 g18)
 (h19:DF K "head_room" wk f19 g19)
 (h20:DF K "tail_room" qAk f20 g20)
 (h21:DF K "is_length" qAe f21 g21)
 (h22:DF K "has_nest_form" zG f22 g22)
 (h23:DF K "moments_of" vq f23 g23)
 (h24:DF K "one_form" qB2 f24 g24)
 (h25:DF K "length_of" qAj f25 g25)
 (h26:DF K "item_at" qD3 f26 g26)
 (h27:DF K "kind_at" qD7 f27 g27)
 (h28:DF K "place_ahead" kO f28 g28)
 (h29:DF K "place_behind" zx f29 g29)
 (h30:DF K "neighbours_at" zF f30 g30)
 (h31:DF K "clips_at_border" xT f31 g31)
 (h32:DF K "lies_within" kR f32 g32)
 (h33:DF K "item_part" wg f33 g33)
 (h34:DF K "part_of_track" zS f34 g34)
 (h35:DF K "part_ahead" vw f35 g35)
 (h36:DF K "part_behind" kX f36 g36)
 (h37:DF K "mix_spans" wV f37 g37)
 (h38:DF K "mix_shares" vx f38 g38)
 (h39:DF K "mix_at" qH9 f39 g39)
 (h40:DF K "told_in_mix" kU f40 g40)
 (h41:DF K "taken_at_begin" xw f41 g41)
 (h42:DF K "taken_at_end" zy f42 g42)
 (h43:DF K "most_mix" qCp f43 g43)
 (h44:DF K "told_on" qE4 f44 g44)
 (h45:DF K "told_at" qA1 f45 g45)
 (h46:DF K "new_one" qEi f46 g46)
 (h47:DF K "check_place" kz f47 g47)
 (h48:DF K "check_by" qCl f48 g48)
 (h49:DF K "clip_there" vf f49 g49)
 (h50:DF K "clip_and_sides" xx f50 g50)
 (h51:DF K "places_named" zk f51 g51)
 (h52:DF K "has_mix" qFl f52 g52)
 (h53:DF K "check_short" kT f53 g53)
 (h54:DF K "most_slip" wp f54 g54)
 (h55:DF K "most_roll" we f55 g55)
 (h56:DF K "slipped" qEk f56 g56)
 (h57:DF K "with_rolled_ends" xE f57 g57)
 (h58:DF K "table_with" vd f58 g58)
 (h59:DF K "rolled" qH6 f59 g59)
 (h60:DF K "stretch_of" vP f60 g60)
 (h61:DF K "laid_by" qFj f61 g61)
 (h62:DF K "laid_on_tied" zt f62 g62)
 (h63:DF K "tracks_changed" xt f63 g63)
 (h64:DF K "check_numbers" zR f64 g64)
 (h65:DF K "touches_mix" kN f65 g65)
 (h66:DF K "check_mixes" kL f66 g66)
 (h67:DF K "check_change" zh f67 g67)
 (h68:DF K "nest_goes_on" zp f68 g68)
 (h69:DF K "can_heal" qBz f69 g69)
 (h70:DF K "healed" qHr f70 g70)
 (h71:DF K "mixed" qLi f71 g71)
 (h72:DF K "unmixed" qFc f72 g72)
 (h73:DF K "relaid" qIm f73 g73)
 (h74:DF K "changed" qE3 f74 g74)
 (h75:DF K "deed_done" wY f75 g75)
 (h76:DF K "_law_cell_at" zn f76 g76)
 (h77:DF K "_law_drawn" vh f77 g77)
 (h78:DF K "_law_reels" vX f78 g78)
 (h79:DF K "_law_clip" wZ f79 g79)
 (h80:DF K "_law_item" wX f80 g80)
 (h81:DF K "_law_deed" ww f81 g81)
 (h82:DF K "_law_table" vc f82 g82)
 (h83:DF K "_law_tried" vU f83 g83)
 (h84:DF K "_law_without" zz f84 g84)
 (h85:DF K "_law_first_room" xR f85 g85)
 (h86:DF K "_law_ask" qCj f86 g86)
 (h87:DF K "_law_refused" zq f87 g87)
 (h88:DF K "_law_changed" zo f88 g88)
 (h89:DF K "_law_step" wv f89 g89)
 (h90:DF K "_law_paint" vL f90 g90)
 (h91:DF K "_law_paint_clearing" jk f91 g91)
 (h92:DF K "_law_paint_none" xN f92 g92)
 (h93:DF K "_law_paint_empty" xH f93 g93)
 (h94:DF K "_law_paint_false" xI f94 g94)
 (h95:DF K "_law_once" wl f95 g95)
 (h96:DF K "law" qUq f96 g96)
 (h97:DM K C7 "__init__" "Painter.__init__" xF f97 g97)
 (h98:DM K C7 "asked" "Painter.asked" zE f98 g98)
 (h99:DM K C7 "painted" "Painter.painted" xP f99 g99)
 (h100:DM K C7 "known" "Painter.known" zP f100 g100)
 (h101:DM K C7 "forget" "Painter.forget" xr f101 g101)
 (xg0:GL K "CutError" (some (.ref C0)))
 (xg1:GL K "NoNumber" (some (.ref C1)))
 (xg2:GL K "NoClip" (some (.ref C2)))
 (xg3:GL K "NoPlace" (some (.ref C3)))
 (xg4:GL K "Mixed" (some (.ref C4)))
 (xg5:GL K "NoRoom" (some (.ref C5)))
 (xg6:GL K "Short" (some (.ref C6)))
 (xg7:GL K "Painter" (some (.ref C7)))
 (cmPainter:CM K C7) (naPainter_paint:W.findIn K (.ref C7) "paint"=some none) (naPainter_calls:W.findIn K (.ref C7) "calls"=some none) (naPainter_kept:W.findIn K (.ref C7) "kept"=some none)
 (x_NoPlace:L3.OwnX K C3)
 (x_Mixed:L3.OwnX K C4)
 (yPC:W.exmOne K (.ref C3) (.ref C0)=some true)
 (yMC:W.exmOne K (.ref C4) (.ref C0)=some true)
 (ySC:W.exmOne K (.ref C6) (.ref C0)=some true)
 (x_NoRoom:L3.OwnX K C5)
 (e_NoRoom:L3.ExcK K C5)
 (yRR:W.exmOne K (.ref C5) (.ref C5)=some true)
 (rP:W.kitOne K (.ref C5) (.ref C3)=some false)
 (xz0:GL K "isinstance" none)
 (xz1:GL K "int" none)
 (xz2:GL K "bool" none)
 (xz3:GL K "abs" none)
 (xz4:GL K "tuple" none)
 (xz5:GL K "len" none)
 (xz6:GL K "all" none)
 (xz7:GL K "str" none)
 (xz8:GL K "min" none)
 (xz9:GL K "sum" none)
 (xz10:GL K "enumerate" none)
 (xz11:GL K "max" none)
 (xz12:GL K "zip" none)
 (xz13:GL K "list" none)
 (xz14:GL K "dict" none)
 (xz15:GL K "any" none)
 (xz16:GL K "range" none)
 (xcLETTERS:GL K "LETTERS" (some (.str "abcdefghijklmnopqrstuvwxyz" tLETTERS)))
 (xcLONGEST_NAME:GL K "LONGEST_NAME" (some (.int 8 tLONGEST_NAME)))
 (xcMOST_ROOM:GL K "MOST_ROOM" (some (.int 1000000 tMOST_ROOM)))
 (xcNOUGHT:GL K "NOUGHT" (some (.ref nNOUGHT))) (xlNOUGHT:K.lookup nNOUGHT=some ⟨.type "tuple",odNOUGHT,.seq #[.int 0 tNOUGHT_0,.int 1 tNOUGHT_1] nnNOUGHT,slNOUGHT⟩)
 (xcWHOLE_SHARE:GL K "WHOLE_SHARE" (some (.ref nWHOLE_SHARE))) (xlWHOLE_SHARE:K.lookup nWHOLE_SHARE=some ⟨.type "tuple",odWHOLE_SHARE,.seq #[.int 1 tWHOLE_SHARE_0,.int 1 tWHOLE_SHARE_1] nnWHOLE_SHARE,slWHOLE_SHARE⟩)
 (xcMOST_BY:GL K "MOST_BY" (some (.int 1000000 tMOST_BY)))
 (xcROLLS:GL K "ROLLS" (some (.ref nROLLS))) (xlROLLS:K.lookup nROLLS=some ⟨.type "tuple",odROLLS,.seq #[.str "roll" tROLLS_0,.str "slip" tROLLS_1,.str "slide" tROLLS_2] nnROLLS,slROLLS⟩)
 (xcLAYS:GL K "LAYS" (some (.ref nLAYS))) (xlLAYS:K.lookup nLAYS=some ⟨.type "tuple",odLAYS,.seq #[.str "lay_in" tLAYS_0,.str "lay_over" tLAYS_1] nnLAYS,slLAYS⟩)
 (xcPUSHES:GL K "PUSHES" (some (.ref nPUSHES))) (xlPUSHES:K.lookup nPUSHES=some ⟨.type "tuple",odPUSHES,.seq #[.str "lay_in" tPUSHES_0,.str "open" tPUSHES_1,.str "close" tPUSHES_2] nnPUSHES,slPUSHES⟩)
 (xcCHANGES:GL K "CHANGES" (some (.ref nCHANGES))) (xlCHANGES:K.lookup nCHANGES=some ⟨.type "tuple",odCHANGES,.seq #[.str "cut" tCHANGES_0,.str "lay_in" tCHANGES_1,.str "open" tCHANGES_2,.str "close" tCHANGES_3,.str "lift" tCHANGES_4,.str "lay_over" tCHANGES_5] nnCHANGES,slCHANGES⟩)
 (iaShort:W.findIn K (.ref C6) "__init__"=some (some (.ref fmShort))) (ilShort:K.lookup fmShort=some ⟨ocmShort,odmShort,.func (W.fnOf "__init__" "Short.__init__" (zT wD) (j7 wD) (qH wD) .none kVmShort dcmShort pmmShort anmShort cdmShort ctmShort),slmShort⟩) (icShort:W.codeIn K cdmShort "Short.__init__"=true) (ikShort:W.keepIn K (.ref fmShort)=true) (ifShort:W.isFn K (.ref fmShort)=true)
 (ivShort:L3.exOver K C6 C0=true) (ihShort:W.hasDictIn K C6=true) (isShort:W.findIn K (.ref C6) "__setattr__"=some (some (.builtin "object.__setattr__"))) (ixShort:L3.excInitIn K C6 fmShort=true) (itShort:W.takerIn K C6 "most"=some none)
 :∃fd:FuncData,(∀(s:Shared) (v:Value),BindsTo s fd ⟨[v],[]⟩ [("_law_script",v)])/\∀base:Heap,K.In base->base.Ns mainGlobals mg->FnOk l.prog w K mg base CX0 15 fa fd ["_law_script"] (qTl K):=by
 have e:=hfa.symm.trans (W.mg_of X G h96.n);obtain rfl:f96=fa:=by cases e;rfl
 obtain⟨_,_,_,_,_,_,_,_,_,rfl,_,_⟩:=h96.F.ex;have FmShort:=qRs (st:=wD) ilShort icShort ikShort;have bmShort:=FmShort.binds (ps:=["self","most"]) λ_ _ _ _ _ _=>Cur.all (by (repeat intro _);exact rfl);have T:Tx K mg ⟨f0,_,f1,_,f2,_,f3,_,f4,_,f5,_,f6,_,f7,_,f8,_,f9,_,f10,_,f11,_,f12,_,f13,_,f14,_,f15,_,f16,_,f17,_,f18,_,f19,_,f20,_,f21,_,f22,_,f23,_,f24,_,f25,_,f26,_,f27,_,f28,_,f29,_,f30,_,f31,_,f32,_,f33,_,f34,_,f35,_,f36,_,f37,_,f38,_,f39,_,f40,_,f41,_,f42,_,f43,_,f44,_,f45,_,f46,_,f47,_,f48,_,f49,_,f50,_,f51,_,f52,_,f53,_,f54,_,f55,_,f56,_,f57,_,f58,_,f59,_,f60,_,f61,_,f62,_,f63,_,f64,_,f65,_,f66,_,f67,_,f68,_,f69,_,f70,_,f71,_,f72,_,f73,_,f74,_,f75,_,f76,_,f77,_,f78,_,f79,_,f80,_,f81,_,f82,_,f83,_,f84,_,f85,_,f86,_,f87,_,f88,_,f89,_,f90,_,f91,_,f92,_,f93,_,f94,_,f95,_,f96,_,f97,_,f98,_,f99,_,f100,_,f101,_,C0,C1,C2,C3,C4,C5,C6,C7,tLETTERS,tLONGEST_NAME,tMOST_ROOM,nNOUGHT,nWHOLE_SHARE,tMOST_BY,nROLLS,nLAYS,nPUSHES,nCHANGES,fmShort,_⟩:=⟨dG X G h0,dG X G h1,dG X G h2,dG X G h3,dG X G h4,dG X G h5,dG X G h6,dG X G h7,dG X G h8,dG X G h9,dG X G h10,dG X G h11,dG X G h12,dG X G h13,dG X G h14,dG X G h15,dG X G h16,dG X G h17,dG X G h18,dG X G h19,dG X G h20,dG X G h21,dG X G h22,dG X G h23,dG X G h24,dG X G h25,dG X G h26,dG X G h27,dG X G h28,dG X G h29,dG X G h30,dG X G h31,dG X G h32,dG X G h33,dG X G h34,dG X G h35,dG X G h36,dG X G h37,dG X G h38,dG X G h39,dG X G h40,dG X G h41,dG X G h42,dG X G h43,dG X G h44,dG X G h45,dG X G h46,dG X G h47,dG X G h48,dG X G h49,dG X G h50,dG X G h51,dG X G h52,dG X G h53,dG X G h54,dG X G h55,dG X G h56,dG X G h57,dG X G h58,dG X G h59,dG X G h60,dG X G h61,dG X G h62,dG X G h63,dG X G h64,dG X G h65,dG X G h66,dG X G h67,dG X G h68,dG X G h69,dG X G h70,dG X G h71,dG X G h72,dG X G h73,dG X G h74,dG X G h75,dG X G h76,dG X G h77,dG X G h78,dG X G h79,dG X G h80,dG X G h81,dG X G h82,dG X G h83,dG X G h84,dG X G h85,dG X G h86,dG X G h87,dG X G h88,dG X G h89,dG X G h90,dG X G h91,dG X G h92,dG X G h93,dG X G h94,dG X G h95,dG X G h96,dM h97,dM h98,dM h99,dM h100,dM h101,W.mg_of X G xg0,W.mg_of X G xg1,W.mg_of X G xg2,W.mg_of X G xg3,W.mg_of X G xg4,W.mg_of X G xg5,W.mg_of X G xg6,W.mg_of X G xg7,cmPainter.c,⟨cmPainter.m,h97.t.at_,h97.t.fn,cmPainter.k⟩,naPainter_paint,naPainter_calls,naPainter_kept,W.mg_none_of X G xz0,W.mg_none_of X G xz1,W.mg_none_of X G xz2,W.mg_none_of X G xz3,W.mg_none_of X G xz4,W.mg_none_of X G xz5,W.mg_none_of X G xz6,W.mg_none_of X G xz7,W.mg_none_of X G xz8,W.mg_none_of X G xz9,W.mg_none_of X G xz10,W.mg_none_of X G xz11,W.mg_none_of X G xz12,W.mg_none_of X G xz13,W.mg_none_of X G xz14,W.mg_none_of X G xz15,W.mg_none_of X G xz16,W.mg_of X G xcLETTERS,W.mg_of X G xcLONGEST_NAME,W.mg_of X G xcMOST_ROOM,W.mg_of X G xcNOUGHT,λH=>.inr ⟨_,_,_,xlNOUGHT,rfl,rfl,by show 2<=sizeLine;decide,.cons ⟨_,rfl⟩ (.cons ⟨_,rfl⟩ (.nil))⟩,W.mg_of X G xcWHOLE_SHARE,λH=>.inr ⟨_,_,_,xlWHOLE_SHARE,rfl,rfl,by show 2<=sizeLine;decide,.cons ⟨_,rfl⟩ (.cons ⟨_,rfl⟩ (.nil))⟩,W.mg_of X G xcMOST_BY,W.mg_of X G xcROLLS,λH=>.inr ⟨_,_,_,xlROLLS,rfl,rfl,by show 3<=sizeLine;decide,.cons ⟨_,rfl⟩ (.cons ⟨_,rfl⟩ (.cons ⟨_,rfl⟩ (.nil)))⟩,W.mg_of X G xcLAYS,λH=>.inr ⟨_,_,_,xlLAYS,rfl,rfl,by show 2<=sizeLine;decide,.cons ⟨_,rfl⟩ (.cons ⟨_,rfl⟩ (.nil))⟩,W.mg_of X G xcPUSHES,λH=>.inr ⟨_,_,_,xlPUSHES,rfl,rfl,by show 3<=sizeLine;decide,.cons ⟨_,rfl⟩ (.cons ⟨_,rfl⟩ (.cons ⟨_,rfl⟩ (.nil)))⟩,W.mg_of X G xcCHANGES,λH=>.inr ⟨_,_,_,xlCHANGES,rfl,rfl,by show 6<=sizeLine;decide,.cons ⟨_,rfl⟩ (.cons ⟨_,rfl⟩ (.cons ⟨_,rfl⟩ (.cons ⟨_,rfl⟩ (.cons ⟨_,rfl⟩ (.cons ⟨_,rfl⟩ (.nil))))))⟩,x_NoPlace,x_Mixed,yPC,yMC,ySC,x_NoRoom,e_NoRoom,yRR,rP,FmShort,bmShort,⟨ivShort,ihShort,isShort,ixShort,ifShort⟩,itShort⟩;exact⟨_,λs v=>.of_eq rfl,λbase _ _=>qWo T⟩
theorem walk{l:W.OpenLaw}{q:Program}{loose:List Str}{XP:(Str->Option Value)->Heap->Prop}{YP:World->Heap->Prop}{d:DefRec}{K:Params->W.Frag}(hn:l.most=some 63)(hdf:d.params.defaults=[])
 (hY:∀(w:World) (h:Heap),YP w h->(K w.params).In h)
 (F:∀(w:World) (mg:Str->Option Value) (fa:Addr) (h:Heap),(K w.params).In h->h.Ns mainGlobals mg->mg d.name=some (.ref fa)->
   ∃fd:FuncData,(∀(s:Shared) (u:Value),BindsTo s fd ⟨[u],[]⟩ [("_law_script",u)])/\∀base:Heap,(K w.params).In base->base.Ns mainGlobals mg->FnOk l.prog w (K w.params) mg base CX0 15 fa fd ["_law_script"] (qTl (K w.params))):
 W.WalkO q loose XP YP l.row.toRowW d [] (λf vs=>PySem.call f vs):=
 L2.walk_of (n:=63) (k:=15) (x:="_law_script") (CX:=λ_=>CX0) (sp:=λw=>qTl (K w.params)) hn (by decide) hdf ⟨rfl,by decide,by decide⟩ hY F (λ_ _ a ns hl _ hS=>⟨a,ns,rfl,hS,hl,λ_=>rfl⟩) λ_ _ _ _ _ z=>z
end Lw
set_option genInjectivity false in
set_option genSizeOf false in
structure PySem.W.Fast:Prop where
 (tw15499433180382291072 tw13123571168411608256 tw12117982855444441761 tw12812988903220032193 tw17335658805434951393 tw2663304425301597121 tw6403537753350799587 tw13069250473742365892 tw12716074459133522278 tw2723273238359065961 tw1907517190681291243 tw6218244973310542028 tw13285850024220557068 tw14315468632185757484 tw1118285800315835949 tw1061853273276033902 tw16716071933710962799 tw18325121833335984751 tw15401742498708010703 tw4044376890499957232 tw17771626264098066192 tw17898307893809239952 tw12769124842059081041 tw14501122620541346161 tw7535159718025240594 tw11610521232355050034 tw14047414847463318003 tw13271118975676594067 tw9051215883293697268 tw13459345692537540885 tw8609323840501531221 tw3376371391802306966 tw4044091729407203384 tw6122547945377997624 tw11923253984526826265 tw6397927541600710170 tw1668890917213066970 tw7656014064468263357 tw7758766415331035582 tw17098534803577422306 tw6016143866069474627 tw6707719600026346220 tw7165228367226475951 tw14257629468371805514 tw9176978938753782467 tw9493148299172910590 tw14337710263384613421 tw14965402627852079052 tw2074211582829364570 tw17313666299715372214 tw1010165953881487331 tw6460074378213156824 tw2156341765108665053 tw4246087783132908283 tw16355295387842760110 tw16690820853492493429 tw15505327653440237793 tw3290444556563830171 tw9439962739558533406 tw1986901969697093659 tw11255889287005480266 tw7742564908462001652 tw2703646846810856916 tw6595650572033814356 tw15759454787358134935 tw5308633709568985717 tw17979334418332108439 tw9736877344377487748 tw11665865177587936635 tw9418699849747744457 tw6049212345564016259 tw10130080215575069468 tw10119330987782923668 tw6947159479424351509 tw7199111721143720682 tw477135560536718264 tw16813890694004356343 tw3167427314567578939 tw7466285755480400049 tw7434346611793175030 tw16322569558026013140 tw8841853894540286888 tw13547637465289448148 tw10021260298116146537 tw239144615929280708 tw2977934558390786640 tw6026694688608184521 tw18428816619963822197 tw10053175718389510818 tw14607445154852944661 tw9183889840487670340 tw16829485279297220409 tw15191013597502995494 tw15304575771429777391 tw2035185317890335819 tw2446459184200650164 tw4948200813604439768 tw2046800097135016541 tw9659422269164678430 tw5981536000638257338 tw10884042955499809426 tw14625338778841128820 tw4233411685215295897 tw10492364541901075794 tw17526058542576943382 tw18335312401633177029 tw8152293993642459965 tw3576945152655984009 tw4494056938030724990 tw8772718599084438913 tw3062251198575344494 tw15672190145251007635 tw169861659222933477 tw6933388836449105612 tw7804111270533469033 tw998455652598835376 tw1513784564230321475 tw5305344235036838484 tw697493443888802690 tw1623009898759481070 tw8587494650507569355 tw210221757442127548 tw5247344971404222409 tw1332773116420924707 tw16091051490165224229 tw4448207525615804866 tw16481329542873067002 tw12427834086151251036 tw4912187431181006085 tw11926057335537455825 tw3586581016587519191 tw7845725367528006025 tw15719769343818451634 tw8418423661454308500 tw7305633978285558768 tw3199912706520560317 tw8811946947469361573 tw9263154093494590214 tw10136500852222863289 tw1258326591455736911 tw12387620084448887721 tw17662432928653805388 tw2616817412402923340 tw3888571456959357159 tw12205338467181835560 tw81082541940141373 tw8552395271030202873 tw3261325973495606620 tw6235622307096120900 tw9433923603651381059 tw4817819841884860056 tw7930022155288112804 tw2489302243629503062 tw11370949022048640288 tw1037397331091030337 tw854776282701305323 tw15014511694982615811 tw11802137934034556056 tw14667922708629571163 tw2315643655617086120 tw10110670296250206752 tw12704173000353639091 tw881959372904704926 tw11574217918636064339 tw4594398924256171328 tw12225258679304827845 tw6025891257106506655 tw3955194519995825468 tw15346719378448917772 tw17660140566437850804 tw2046534199041518675 tw1255592450413803568 tw16101911880746693861 tw13924047751678367586 tw4618775736165841155 tw1009924448245964351 tw6470595972524634516 tw11171192655163498406 tw8683702109963116616 tw8664068010882502786 tw14364912404753067868 tw5235710581808376134 tw9405026674698646728 tw17042185075895458201 tw7983795751196955261 tw16084410420009280393 tw14474024488326477760 tw1494545614527204670 tw7568981751759026993 tw9922175467600512120 tw2474088096701845029 tw10594174235325231034 tw4044689429431847901 tw119731288563282218 tw4778956426930670806 tw15820807085937920256 tw6698464079514093707 tw2727826532598148496 tw15907597871455629562 tw10294978634425985497 tw7881072154969086045 tw15804822478906665604 tw2081946638838283542 tw971669001617242807 tw11106342734568318345 tw11992261808352645127 tw5619068569179700077 tw16372474313956416411 tw16648795788111546720 tw6611813133383808556 tw575437944166544616 tw3636630767966247323 tw14285163480731979729 tw3876182659208834790 tw9694043300687325899 tw9692252849175737469 tw6402836334388520736 tw8124285040289641786 tw1759915045880243534 tw9113139656445459739 tw6194357469350972368 tw4190384954760123088 tw6838855211538114277 tw4421166929959414903 tw10160028222864780433 tw10292501637501493580 tw5973443364512030102 tw10594811056536506528 tw13036220813998283439 tw8527288641535925946 tw14810977160265082593 tw4285460771714593855 tw14999156278424706460 tw16958953280028436885 tw7759264354346447017 tw12177923859816307885 tw6715745692495258321 tw10038850627992427777 tw14477124127250582545 tw3101888620623572085 tw17736810961527337093 tw17758467398706578334 tw17011315253154174756 tw5452558535230442858 tw2994152553948126769 tw16773128710017208091 tw3173059851685986858 tw1843567908413197650 tw6742852269403824336 tw14528830227523877152 tw684778227585810472 tw15561671503159710222 tw8607251218140205508 tw843565892076489161 tw12513266950474131925 tw17519401845802091834 tw13780434935597136576 tw8494698006875061189 tw226724459597570105 tw9085242050584508879 tw10158038066910913341 tw13904794848505498069 tw6444014612818955176 tw6991342098879932714 tw3983895996931421499 tw12160678253442801123 tw976818743108894416 tw4538556081091119986 tw3373342057639955943 tw94031512785669372 tw5544043789071040575 tw13674341362426552243 tw12601099834269810728 tw7791253810579746960 tw8389452321704874462 tw15722668513458076033 tw9703312451429182935 tw7138830040497437518 tw10326509789690369492 tw9859488716953318191 tw17730997995435081592 tw6611970258041234551 tw18220362095103433697 tw378262067230016502 tw14879215832139358001 tw5959355813894351659 tw6887963883192552537 tw2397789860585553076 tw12449273792259064803 tw6334671507427681450 tw17261860739671529255 tw2461707528706189372 tw16578298422746226903 tw12954731169322669483 tw17846204770310793927 tw12006964267561512064 tw5554333869370472668 tw1694162905516742841 tw3342780643527693500 tw14000043945169080057 tw14856895705413072265 tw13308335772131918882 tw11080946521793026003 tw158009382945916083 tw13295520837208138925 tw7222686182061526586 tw14857706041898963933 tw3055187159188204268 tw7965188532632998373 tw5257455483548636674 tw3664647350647425236 tw1517077590521610152 tw25566600075376064 tw8249862676698742581 tw9665423878322343274 tw2199167933802701425 tw16000784192325379025 tw13770060682074551500 tw8541366464669830483 tw449161446264414079 tw16129522871393403513 tw7310510533284794183 tw6884081967631026230 tw14857363138854133463 tw14434544123744041455 tw5167574041649655766 tw10431525083431837032 tw3729460681203555827 tw17246462647196949738 tw16072103370682483914 tw14785812726363915008 tw5287491881160181579 tw17251235900987244136 tw3121713281446184457 tw13862256387061733123 tw2574578716107466537 tw12442482502264747065 tw4737212582677989391 tw3315886815295586831 tw12722950391956378859 tw6996250609881157532 tw13165484161282207832 tw7210575014093313510 tw17109995269462828510 tw7864430198727899196 tw10743874050735206338 tw15433716456820115206 tw9100075541552479537 tw6535187398560122364 tw12588503516235654951 tw5555152776829219044 tw6581867311372738238 tw8013696712702638940 tw9885118194738359641 tw10678072293064426044 tw11786764422566984722 tw1539480134393501792 tw4373942868334264012 tw9981069091990918431 tw672058669807993232 tw5845921715781035771 tw10567968527508095011 tw32814940194865897 tw16828831819767172474 tw6288859616477489590 tw9797462600519133732 tw17601978290700604341 tw10428971154682152827 tw329013231734788237 tw4452692327693585530 tw7658177606661290898 tw3664754721839978591 tw2653485329064866585 tw7486388466200118318 tw16349153585127076361 tw12581197408094274772 tw741430397041225751 tw2630706259337145975 tw17496712143109651258 tw7386752936002500948 tw8432334756845199661 tw10676041081763347506 tw7411105604406973449 tw3937565853329768195 tw5210896678503363832 tw12043076874767648822 tw11335786035990471796 tw4504542325031194081 tw2781667304550081876 tw11201897106818350726 tw13292538074976848598 tw7301554993026820056 tw1742313031190980412 tw8329278958296627529 tw7110891715321771717 tw14292246999147307170 tw1431751957664683263 tw4443915056893112503 tw8842663871718195829 tw11396163172923352136 tw7378239934883714728 tw16272145424085261551 tw902301405459831370 tw4101204210739479988 tw14641357055513104628 tw8266192765210389176 tw10552424994923273519 tw9281977547315999565 tw9775942691606905306 tw6311309780343479374 tw17658829441602459862 tw16846313679467914532 tw2322119534209029998 tw3613907645829018597 tw14151396266489672640 tw311100821297774647 tw12415033279960740577 tw1636910807152232911 tw10583143331392835615 tw5469231888161898724 tw1430457038605545222 tw6598345274902528923 tw12268682292784318758 tw3662396566458006500 tw3883340709911175601 tw166439290682686245 tw1385415961256269024 tw12461998517190646045 tw5929605430901850060 tw16754466366158037033 tw14472813392846731606 tw14708644999075037624 tw15208193163592814589 tw11810626473115079916 tw10705736896446147756 tw3886625794427936992 tw2698102934455685970 tw12626904246979526779 tw7025878398061219389 tw1176333869490889554 tw7797453590603730977 tw13081591877230306029 tw15621385045112890278 tw16706699463077303503 tw340929757917018429 tw16858334245744868493 tw12685593143232995507 tw9215296845750919147 tw334878395459861183 tw8119518906033345257 tw2019615392446511395 tw3424026771699781462 tw9358301065780679858 tw15009472451832857187 tw7499324872808119710 tw2978275009994256089 tw7074115200680208930 tw14207932508384845209 tw3180321629184133945 tw17721272259811234966 tw13989443378569111832 tw13211915545084408866 tw10188461858190675117:True)
open PySem PySem.W PyProof.Rows
set_option maxRecDepth 100000 in
set_option maxHeartbeats 0 in
theorem PySem.Challenge.cw_reelcut_k71_painted_anew_holds : PySem.Challenge.rw_reelcut_k71_painted_anew.Holds := by
 w_on;o_law;k_head;(case hw=>w_witness2)
 k_fill
 refine Lw.walk (l:=PySem.Challenge.rw_reelcut_k71_painted_anew) rfl rfl (λw h Y=>PySem.W.kIn_of Y) ?F
 case F=>
  intro w mg fa h KX G hmg
  refine' Lw.all_mk KX G hmg (Lw.df_mk ?a0 ?l0 ?c0 ?k0) (Lw.df_mk ?a1 ?l1 ?c1 ?k1) (Lw.df_mk ?a2 ?l2 ?c2 ?k2) (Lw.df_mk ?a3 ?l3 ?c3 ?k3) (Lw.df_mk ?a4 ?l4 ?c4 ?k4) (Lw.df_mk ?a5 ?l5 ?c5 ?k5) (Lw.df_mk ?a6 ?l6 ?c6 ?k6) (Lw.df_mk ?a7 ?l7 ?c7 ?k7) (Lw.df_mk ?a8 ?l8 ?c8 ?k8) (Lw.df_mk ?a9 ?l9 ?c9 ?k9) (Lw.df_mk ?a10 ?l10 ?c10 ?k10) (Lw.df_mk ?a11 ?l11 ?c11 ?k11) (Lw.df_mk ?a12 ?l12 ?c12 ?k12) (Lw.df_mk ?a13 ?l13 ?c13 ?k13) (Lw.df_mk ?a14 ?l14 ?c14 ?k14) (Lw.df_mk ?a15 ?l15 ?c15 ?k15) (Lw.df_mk ?a16 ?l16 ?c16 ?k16) (Lw.df_mk ?a17 ?l17 ?c17 ?k17) (Lw.df_mk ?a18 ?l18 ?c18 ?k18) (Lw.df_mk ?a19 ?l19 ?c19 ?k19) (Lw.df_mk ?a20 ?l20 ?c20 ?k20) (Lw.df_mk ?a21 ?l21 ?c21 ?k21) (Lw.df_mk ?a22 ?l22 ?c22 ?k22) (Lw.df_mk ?a23 ?l23 ?c23 ?k23) (Lw.df_mk ?a24 ?l24 ?c24 ?k24) (Lw.df_mk ?a25 ?l25 ?c25 ?k25) (Lw.df_mk ?a26 ?l26 ?c26 ?k26) (Lw.df_mk ?a27 ?l27 ?c27 ?k27) (Lw.df_mk ?a28 ?l28 ?c28 ?k28) (Lw.df_mk ?a29 ?l29 ?c29 ?k29) (Lw.df_mk ?a30 ?l30 ?c30 ?k30) (Lw.df_mk ?a31 ?l31 ?c31 ?k31) (Lw.df_mk ?a32 ?l32 ?c32 ?k32) (Lw.df_mk ?a33 ?l33 ?c33 ?k33) (Lw.df_mk ?a34 ?l34 ?c34 ?k34) (Lw.df_mk ?a35 ?l35 ?c35 ?k35) (Lw.df_mk ?a36 ?l36 ?c36 ?k36) (Lw.df_mk ?a37 ?l37 ?c37 ?k37) (Lw.df_mk ?a38 ?l38 ?c38 ?k38) (Lw.df_mk ?a39 ?l39 ?c39 ?k39) (Lw.df_mk ?a40 ?l40 ?c40 ?k40) (Lw.df_mk ?a41 ?l41 ?c41 ?k41) (Lw.df_mk ?a42 ?l42 ?c42 ?k42) (Lw.df_mk ?a43 ?l43 ?c43 ?k43) (Lw.df_mk ?a44 ?l44 ?c44 ?k44) (Lw.df_mk ?a45 ?l45 ?c45 ?k45) (Lw.df_mk ?a46 ?l46 ?c46 ?k46) (Lw.df_mk ?a47 ?l47 ?c47 ?k47) (Lw.df_mk ?a48 ?l48 ?c48 ?k48) (Lw.df_mk ?a49 ?l49 ?c49 ?k49) (Lw.df_mk ?a50 ?l50 ?c50 ?k50) (Lw.df_mk ?a51 ?l51 ?c51 ?k51) (Lw.df_mk ?a52 ?l52 ?c52 ?k52) (Lw.df_mk ?a53 ?l53 ?c53 ?k53) (Lw.df_mk ?a54 ?l54 ?c54 ?k54) (Lw.df_mk ?a55 ?l55 ?c55 ?k55) (Lw.df_mk ?a56 ?l56 ?c56 ?k56) (Lw.df_mk ?a57 ?l57 ?c57 ?k57) (Lw.df_mk ?a58 ?l58 ?c58 ?k58) (Lw.df_mk ?a59 ?l59 ?c59 ?k59) (Lw.df_mk ?a60 ?l60 ?c60 ?k60) (Lw.df_mk ?a61 ?l61 ?c61 ?k61) (Lw.df_mk ?a62 ?l62 ?c62 ?k62) (Lw.df_mk ?a63 ?l63 ?c63 ?k63) (Lw.df_mk ?a64 ?l64 ?c64 ?k64) (Lw.df_mk ?a65 ?l65 ?c65 ?k65) (Lw.df_mk ?a66 ?l66 ?c66 ?k66) (Lw.df_mk ?a67 ?l67 ?c67 ?k67) (Lw.df_mk ?a68 ?l68 ?c68 ?k68) (Lw.df_mk ?a69 ?l69 ?c69 ?k69) (Lw.df_mk ?a70 ?l70 ?c70 ?k70) (Lw.df_mk ?a71 ?l71 ?c71 ?k71) (Lw.df_mk ?a72 ?l72 ?c72 ?k72) (Lw.df_mk ?a73 ?l73 ?c73 ?k73) (Lw.df_mk ?a74 ?l74 ?c74 ?k74) (Lw.df_mk ?a75 ?l75 ?c75 ?k75) (Lw.df_mk ?a76 ?l76 ?c76 ?k76) (Lw.df_mk ?a77 ?l77 ?c77 ?k77) (Lw.df_mk ?a78 ?l78 ?c78 ?k78) (Lw.df_mk ?a79 ?l79 ?c79 ?k79) (Lw.df_mk ?a80 ?l80 ?c80 ?k80) (Lw.df_mk ?a81 ?l81 ?c81 ?k81) (Lw.df_mk ?a82 ?l82 ?c82 ?k82) (Lw.df_mk ?a83 ?l83 ?c83 ?k83) (Lw.df_mk ?a84 ?l84 ?c84 ?k84) (Lw.df_mk ?a85 ?l85 ?c85 ?k85) (Lw.df_mk ?a86 ?l86 ?c86 ?k86) (Lw.df_mk ?a87 ?l87 ?c87 ?k87) (Lw.df_mk ?a88 ?l88 ?c88 ?k88) (Lw.df_mk ?a89 ?l89 ?c89 ?k89) (Lw.df_mk ?a90 ?l90 ?c90 ?k90) (Lw.df_mk ?a91 ?l91 ?c91 ?k91) (Lw.df_mk ?a92 ?l92 ?c92 ?k92) (Lw.df_mk ?a93 ?l93 ?c93 ?k93) (Lw.df_mk ?a94 ?l94 ?c94 ?k94) (Lw.df_mk ?a95 ?l95 ?c95 ?k95) (Lw.df_mk ?a96 ?l96 ?c96 ?k96) (Lw.dm_mk ?a97 ?i97 ?l97 ?c97 ?k97) (Lw.dm_mk ?a98 ?i98 ?l98 ?c98 ?k98) (Lw.dm_mk ?a99 ?i99 ?l99 ?c99 ?k99) (Lw.dm_mk ?a100 ?i100 ?l100 ?c100 ?k100) (Lw.dm_mk ?a101 ?i101 ?l101 ?c101 ?k101) (Lw.gl_mk ?xg0) (Lw.gl_mk ?xg1) (Lw.gl_mk ?xg2) (Lw.gl_mk ?xg3) (Lw.gl_mk ?xg4) (Lw.gl_mk ?xg5) (Lw.gl_mk ?xg6) (Lw.gl_mk ?xg7) (Lw.cm_mk ?qPainter_0 ?qPainter_1 ?qPainter_2 ?qPainter_3 ?qPainter_4 ?qPainter_5) ?naPainter_paint ?naPainter_calls ?naPainter_kept ?x_NoPlace ?x_Mixed ?yPC ?yMC ?ySC ?x_NoRoom ?e_NoRoom ?yRR ?rP (Lw.gl_mk ?xz0) (Lw.gl_mk ?xz1) (Lw.gl_mk ?xz2) (Lw.gl_mk ?xz3) (Lw.gl_mk ?xz4) (Lw.gl_mk ?xz5) (Lw.gl_mk ?xz6) (Lw.gl_mk ?xz7) (Lw.gl_mk ?xz8) (Lw.gl_mk ?xz9) (Lw.gl_mk ?xz10) (Lw.gl_mk ?xz11) (Lw.gl_mk ?xz12) (Lw.gl_mk ?xz13) (Lw.gl_mk ?xz14) (Lw.gl_mk ?xz15) (Lw.gl_mk ?xz16) (Lw.gl_mk ?xcLETTERS) (Lw.gl_mk ?xcLONGEST_NAME) (Lw.gl_mk ?xcMOST_ROOM) (Lw.gl_mk ?xcNOUGHT) ?xlNOUGHT (Lw.gl_mk ?xcWHOLE_SHARE) ?xlWHOLE_SHARE (Lw.gl_mk ?xcMOST_BY) (Lw.gl_mk ?xcROLLS) ?xlROLLS (Lw.gl_mk ?xcLAYS) ?xlLAYS (Lw.gl_mk ?xcPUSHES) ?xlPUSHES (Lw.gl_mk ?xcCHANGES) ?xlCHANGES ?iaShort ?ilShort ?icShort ?ikShort ?ifShort ?ivShort ?ihShort ?isShort ?ixShort ?itShort
  (case xg0|xg1|xg2|xg3|xg4|xg5|xg6|xg7|a0|l0|c0|k0|a1|l1|c1|k1|a2|l2|c2|k2|a3|l3|c3|k3|a4|l4|c4|k4|a5|l5|c5|k5|a6|l6|c6|k6|a7|l7|c7|k7|a8|l8|c8|k8|a9|l9|c9|k9|a10|l10|c10|k10|a11|l11|c11|k11|a12|l12|c12|k12|a13|l13|c13|k13|a14|l14|c14|k14|a15|l15|c15|k15|a16|l16|c16|k16|a17|l17|c17|k17|a18|l18|c18|k18|a19|l19|c19|k19|a20|l20|c20|k20|a21|l21|c21|k21|a22|l22|c22|k22|a23|l23|c23|k23|a24|l24|c24|k24|a25|l25|c25|k25|a26|l26|c26|k26|a27|l27|c27|k27|a28|l28|c28|k28|a29|l29|c29|k29|a30|l30|c30|k30|a31|l31|c31|k31|a32|l32|c32|k32|a33|l33|c33|k33|a34|l34|c34|k34|a35|l35|c35|k35|a36|l36|c36|k36|a37|l37|c37|k37|a38|l38|c38|k38|a39|l39|c39|k39|a40|l40|c40|k40|a41|l41|c41|k41|a42|l42|c42|k42|a43|l43|c43|k43|a44|l44|c44|k44|a45|l45|c45|k45|a46|l46|c46|k46|a47|l47|c47|k47|a48|l48|c48|k48|a49|l49|c49|k49|a50|l50|c50|k50|a51|l51|c51|k51|a52|l52|c52|k52|a53|l53|c53|k53|a54|l54|c54|k54|a55|l55|c55|k55|a56|l56|c56|k56|a57|l57|c57|k57|a58|l58|c58|k58|a59|l59|c59|k59|a60|l60|c60|k60|a61|l61|c61|k61|a62|l62|c62|k62|a63|l63|c63|k63|a64|l64|c64|k64|a65|l65|c65|k65|a66|l66|c66|k66|a67|l67|c67|k67|a68|l68|c68|k68|a69|l69|c69|k69|a70|l70|c70|k70|a71|l71|c71|k71|a72|l72|c72|k72|a73|l73|c73|k73|a74|l74|c74|k74|a75|l75|c75|k75|a76|l76|c76|k76|a77|l77|c77|k77|a78|l78|c78|k78|a79|l79|c79|k79|a80|l80|c80|k80|a81|l81|c81|k81|a82|l82|c82|k82|a83|l83|c83|k83|a84|l84|c84|k84|a85|l85|c85|k85|a86|l86|c86|k86|a87|l87|c87|k87|a88|l88|c88|k88|a89|l89|c89|k89|a90|l90|c90|k90|a91|l91|c91|k91|a92|l92|c92|k92|a93|l93|c93|k93|a94|l94|c94|k94|a95|l95|c95|k95|a96|l96|c96|k96|a97|i97|l97|c97|k97|a98|i98|l98|c98|k98|a99|i99|l99|c99|k99|a100|i100|l100|c100|k100|a101|i101|l101|c101|k101|qPainter_0|qPainter_1|qPainter_2|qPainter_3|qPainter_4|qPainter_5|naPainter_paint|naPainter_calls|naPainter_kept=>k_is)
  (case x_NoPlace=>(unfold L3.OwnX;kernel_rfl))
  (case x_Mixed=>(unfold L3.OwnX;kernel_rfl))
  (case yPC=>kernel_rfl)
  (case yMC=>kernel_rfl)
  (case ySC=>kernel_rfl)
  (case x_NoRoom=>(unfold L3.OwnX;kernel_rfl))
  (case e_NoRoom=>exact⟨by k_is,by k_is,by k_is,by k_is,by k_is,by k_is,by k_is⟩)
  (case yRR=>kernel_rfl)
  (case rP=>kernel_rfl)
  (case xz0|xz1|xz2|xz3|xz4|xz5|xz6|xz7|xz8|xz9|xz10|xz11|xz12|xz13|xz14|xz15|xz16|xcLETTERS|xcLONGEST_NAME|xcMOST_ROOM|xcNOUGHT|xlNOUGHT|xcWHOLE_SHARE|xlWHOLE_SHARE|xcMOST_BY|xcROLLS|xlROLLS|xcLAYS|xlLAYS|xcPUSHES|xlPUSHES|xcCHANGES|xlCHANGES|iaShort|ilShort|icShort|ikShort|ifShort=>k_is)
  (case ivShort=>(unfold L3.exOver;kernel_rfl))
  (case ihShort|isShort=>k_is)
  (case ixShort=>(unfold L3.excInitIn;kernel_rfl))
  (case itShort=>k_is)

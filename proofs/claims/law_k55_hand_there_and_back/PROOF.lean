import PyProof.Rows.All
import Wide.All
import OpenK.AllK
import Wide.FinOn
import Lean
import PyProof.EqAt
import PyProof.EqKinds
import PyProof.TupleCall
import PyProof.StrLawsTight
import KE.KIntText
import KE.KxPart
import KE.KDictLaws
import KE.KMinKey
import PySem.Challenge.RW_reelcut_k55_hand_there_and_back
set_option maxRecDepth 100000
set_option maxHeartbeats 4000000
set_option Elab.async false
set_option linter.all false
set_option compiler.extract_closed false
set_option bootstrap.genMatcherCode false
set_option genSizeOfSpec false
noncomputable section
local macro_rules|`(tactic|trivial)=>`(tactic|first|exact Or.inl rfl|exact Or.inr rfl|exact Or.inr (Or.inl rfl)|exact Or.inr (Or.inr rfl)|assumption|exact⟨rfl,rfl,rfl,rfl,rfl,rfl,rfl,rfl,fun _=>rfl,by decide⟩|(intro _ _ _ _ h;cases h;subst_vars;rfl))
def O.{u}{α:Sort u}{a:α}:a=a:=rfl
abbrev YA:=@if_neg
abbrev YB:=@if_pos
abbrev YC:=@absurd
abbrev YD:=@List.getElem?_eq_getElem
abbrev YE:=@List.length_cons
abbrev YF:=@List.mem_of_getElem?
abbrev YG:=@List.size_toArray
abbrev YH:=@Int.le_refl
abbrev YI:=@Nat.le_refl
abbrev YJ:=@PySem.wpAny_bind
abbrev YK:=@PySem.wpAny_pure
abbrev YL:=@PySem.wpAny_mono
abbrev YM:=@PySem.Heap.get?_push_of_some
abbrev YN:=@List.length_append
abbrev YO:=@List.mem_append
abbrev YQ:=@Int.toNat_natCast
abbrev YR:=@Nat.lt_of_lt_of_le
abbrev YS:=@List.length_map
abbrev YT:=@List.cons_append
abbrev YU:=@List.mem_cons
abbrev YV:=@PySem.Heap.lt_size
abbrev YW:=@decide_eq_false
abbrev YX:=@decide_eq_true
abbrev YY:=@List.mem_singleton
abbrev YZ:=@Bool.false_ne_true
abbrev Ya:=@List.getElem?_eq_some_iff
abbrev Yb:=@Option.some.inj
abbrev Yc:=@Int.add_zero
abbrev Yd:=@Nat.lt_of_le_of_lt
abbrev Ye:=@List.append_nil
abbrev Yf:=@List.mem_append_right
abbrev Yg:=@List.nil_append
abbrev Yh:=@Nat.pow_le_pow_right
abbrev Yi:=@Int.mul_assoc
abbrev Yj:=@List.getElem?_map
abbrev Yk:=@List.length_take
abbrev Yl:=@Bool.and_eq_true
abbrev Ym:=@Int.mul_le_mul_of_nonneg_right
abbrev Yn:=@PySem.Heap.get?_push_size
abbrev Yo:=@Nat.ne_of_lt
abbrev Yp:=@Int.zero_add
abbrev Yq:=@List.mem_append_left
abbrev Yr:=@Int.lt_of_mul_lt_mul_right
abbrev Ys:=@List.map_append
abbrev Yt:=@List.take_add_one
abbrev Yu:=@Int.mul_pos
abbrev Yv:=@Bool.eq_iff_iff
abbrev Yw:=@List.append_assoc
abbrev Yx:=@List.take_length
abbrev Yy:=@List.length_singleton
abbrev Yz:=@List.getElem?_append_right
abbrev ZA:=@List.getElem?_set_self
abbrev ZB:=@PySem.Heap.get?_update_other
abbrev ZC:=@List.getElem?_append_left
abbrev ZD:=@Nat.le_trans
abbrev ZE:=@List.not_mem_nil
abbrev ZF:=@List.mem_iff_getElem
abbrev ZG:=@Ne.symm
abbrev ZH:=@List.map_cons
abbrev ZI:=@List.take_left'
abbrev ZJ:=@List.drop_length
abbrev ZK:=@Int.mul_comm
abbrev ZL:=@List.getElem?_set_ne
abbrev ZM:=@of_decide_eq_true
abbrev ZN:=@List.length_set
abbrev ZO:=@List.length_nil
abbrev ZP:=@List.drop_left'
abbrev ZQ:=@PySem.mem_of_lookup
abbrev ZR:=@List.getElem?_eq_none_iff
abbrev ZS:=@Array.getElem?_eq_some_iff
abbrev ZT:=@Nat.zero_le
abbrev ZU:=@Int.sub_zero
abbrev ZV:=@List.length_drop
abbrev ZW:=@Int.mul_ne_zero
abbrev ZX:=@Int.eq_of_mul_eq_mul_right
abbrev Fg:=PySem.W.Frag
abbrev Ba:=PySem.Value->PySem.Shared->Prop
abbrev SV:=PySem.Str->Option PySem.Value
abbrev LO:=List (PySem.Addr×PySem.Obj)
abbrev LW:=List PySem.Value
abbrev LS:=List PySem.Str
abbrev LN:=List Int
abbrev FD:=PySem.FuncData
abbrev XA:=@PySem.F.plainAttrs_list
abbrev XB:=@PySem.F.slot_list_append
abbrev XC:=@PySem.F.type_list_append
abbrev XD:=@False.elim
abbrev XF:=@congrArg
abbrev XG:=@Nat.lt_irrefl
section
local macro_rules|`(%[$x,*|0])=>`(List.toArray [$x,*])|`(~~~$x)=>`(by simpa using $x)|`(())=>`(by lia)|`(⋯)=>`(by decide+kernel)|`(#[])=>`(by first|decide|(simp;done))|`(#[$x,*])=>`(⟨$x,*⟩)
local macro_rules|`(tactic|let $d:letDecl)=>let n k a:=Lean.mkNode (`Lean.Parser.Tactic++k) a;let w x:=n `rcasesPatLo %[n `rcasesPatMed %[Lean.mkNullNode %[x|0]|0],Lean.mkNullNode|0];let d:=d.raw[0];let p:=d[0].rewriteBottomUp fun x=>if x.isIdent then w (n `rcasesPat.one %[x|0]) else if x.getKind==`Lean.Parser.Term.hole then w (n `rcasesPat.ignore x.getArgs) else if x.getKind==`«term#[_,]» then w (n `rcasesPat.tuple %[Lean.mkAtom "⟨",x[1],Lean.mkAtom "⟩"|0]) else x;if d[2].getNumArgs>0 then `(tactic|rcases ($(⟨d[4]⟩) : $(⟨d[2][0][1]⟩)) with $(⟨p⟩)) else `(tactic|rcases $(⟨d[4]⟩):term with $(⟨p⟩))
local macro_rules|`(tactic|show $t:term)=>`(tactic|refine $t)
set_option hygiene false
local macro_rules|`(tactic|ext)=>`(tactic|intro pins s σ H Q I h)
set_option hygiene true
namespace L2
open PySem PySem.Spec PyProof.Rows
abbrev Key:=Sum Int Str
noncomputable def qPp:Key->Value->Bool
 |.inl k,v=>Value.isInt k v
 |.inr x,v=>Value.isStrOf x v
noncomputable def jCi(w:World):Key->Int
 |.inl k=>hashInt k
 |.inr x=>hashStr w x
theorem jn:∀{k:Key} {v:Value},qPp k v=true->(∃i t,k=Sum.inl i/\v=Value.int i t)\/(∃x t,k=Sum.inr x/\v=Value.str x t)
 |.inl i,v,h=>by let#[t,e]:=Value.isInt_shape (k:=i) (v:=v) h;show .inl #[i,t,O,e]
 |.inr x,v,h=>by let#[t,e]:=Value.isStrOf_shape (x:=x) (v:=v) h;show .inr #[x,t,O,e]
def qSe(i:Int)(t:Tok):qPp (.inl i) (.int i t)=true:=by simp[qPp,Value.isInt]
def qRe(x:Str)(t:Tok):qPp (.inr x) (.str x t)=true:=by simp[qPp,Value.isStrOf]
def qYq(a b:Int):decide ((Sum.inl a:Key)=Sum.inl b)=(a==b):=by
 by_cases e:a=b
 . subst e;simp
 . have h:¬(Sum.inl a:Key)=Sum.inl b:=λq=>e (Sum.inl.inj q)
   rw[YW h];show(beq_eq_false_iff_ne.mpr e).symm
def qZl(a b:Str):decide ((Sum.inr a:Key)=Sum.inr b)=decide (a=b):=by
 by_cases e:a=b
 . subst e;simp
 . have h:¬(Sum.inr a:Key)=Sum.inr b:=λq=>e (Sum.inr.inj q)
   rw[YW h,YW e]
def qYg(a:Int)(b:Str):decide ((Sum.inl a:Key)=Sum.inr b)=false:=YW (λq=>nomatch q)
def qYx(a:Str)(b:Int):decide ((Sum.inr a:Key)=Sum.inl b)=false:=YW (λq=>nomatch q)
def xH(prog:Program)(w:World):PySem.KeyKind prog w Key where
 is:=qPp
 hash:=jCi w
 inj:=λv a b ha hb=>by
  rcases jn ha with ⟨i,t,rfl,rfl⟩|⟨x,t,rfl,rfl⟩
  . rcases jn hb with ⟨j,u,rfl,e⟩|⟨y,u,rfl,e⟩
    . injection e with e1 _;rw[e1]
    . show nomatch e
  . rcases jn hb with ⟨j,u,rfl,e⟩|⟨y,u,rfl,e⟩
    . show nomatch e
    . injection e with e1 _;rw[e1]
 byValue:=λk v h=>by rcases jn h with ⟨i,t,rfl,rfl⟩|⟨x,t,rfl,rfl⟩ <;> rfl
 pyHash:=λhv h=>by
  rcases jn hv with ⟨i,t,rfl,rfl⟩|⟨x,t,rfl,rfl⟩
  . show wpAny_pyHash_int h
  . show wpAny_pyHash_str h
 eqBool:=λhu hv h=>by
  rcases jn hu with ⟨i,t,rfl,rfl⟩|⟨x,t,rfl,rfl⟩
  . rcases jn hv with ⟨j,u,rfl,rfl⟩|⟨y,u,rfl,rfl⟩
    . rw[qYq]at h;show wpAny_eqBool_int h
    . rw[qYg]at h;show SeqAt.EqAt.int_str i t y u _ _ _ _ h
  . rcases jn hv with ⟨j,u,rfl,rfl⟩|⟨y,u,rfl,rfl⟩
    . rw[qYx]at h;show SeqAt.EqAt.str_int x t j u _ _ _ _ h
    . rw[qZl]at h;show wpAny_eqBool_str h
 «strs»:=λk x t v h=>by
  rcases jn h with ⟨i,u,rfl,e⟩|⟨y,u,rfl,e⟩
  . show nomatch e
  . injection e with e1 _
    subst e1;cases v <;> rfl
def qMs(prog:Program)(w:World)(i:Int)(t:Tok):(xH prog w).is (.inl i) (.int i t)=true:=qSe i t
def qM6(prog:Program)(w:World)(x:Str)(t:Tok):(xH prog w).is (.inr x) (.str x t)=true:=qRe x t
inductive V where
 |non|bl (b:Bool)|int (i:Int)|str (x:Str)|byt (b:Array UInt8)|flt (b:UInt64)|ref (a:Addr)|ty (n:String)
 deriving DecidableEq
abbrev LV:=List V
def RelV:V->Value->Prop
 |.non,u=>u=Value.none
 |.bl b,u=>u=Value.bool b
 |.int i,u=> ∃t,u=Value.int i t
 |.str x,u=> ∃t,u=Value.str x t
 |.byt b,u=> ∃t,u=Value.bytes b t
 |.flt b,u=> ∃t,u=Value.float b t
 |.ref a,u=>u=Value.ref a
 |.ty n,u=>u=Value.type n
abbrev Vals:LV->LW->Prop:=Paired RelV
theorem Vals.length{xs:LV}{us:LW}(r:Vals xs us):xs.length=us.length:=Paired.length r
theorem Vals.get:∀{xs:LV} {us:LW} {i:Nat} {x:V},Vals xs us->xs[i]?=some x->∃u,us[i]?=some u/\RelV x u
 |_,_,_,_,.nil,e=>by simp at e
 |_,_,0,_,.cons r _,e=>by simp at e;subst e;show#[_,rfl,r]
 |_,_,i+1,x,.cons _ t,e=>by let#[u,h1,h2]:=Vals.get (i:=i) (x:=x) t<| ~~~e;show#[u, ~~~h1,h2]
theorem Vals.set{x:V}{u:Value}(r:RelV x u):∀{xs:LV} {us:LW} (i:Nat),Vals xs us->Vals (xs.set i x) (us.set i u)
 |_,_,_,.nil=>.nil
 |_,_,0,.cons _ t=>.cons r t
 |_,_,i+1,.cons q t=>.cons q<|Vals.set r i t
theorem Vals.append:∀{xs ys:LV} {us F:LW},Vals xs us->Vals ys F->Vals (xs++ys) (us++F)
 |_,_,_,_,.nil,s=>s
 |_,_,_,_,.cons r t,s=>.cons r<|Vals.append t s
theorem Vals.take:∀{xs:LV} {us:LW} (n:Nat),Vals xs us->Vals (xs.take n) (us.take n)
 |_,_,0,_=>.nil
 |_,_,_+1,.nil=>.nil
 |_,_,n+1,.cons r t=>.cons r<|Vals.take n t
theorem Vals.drop:∀{xs:LV} {us:LW} (n:Nat),Vals xs us->Vals (xs.drop n) (us.drop n)
 |_,_,0,r=>r
 |_,_,_+1,.nil=>.nil
 |_,_,n+1,.cons _ t=>Vals.drop n t
def RelO:Option V->Option Value->Prop
 |some v,some u=>RelV v u
 |none,none=>True
 |_,_=>False
def KV{κ:Type}:List (κ×V)->List (κ×Value)->Prop:=Paired λ(p:κ×V) (q:κ×Value)=>p.1=q.1/\RelV p.2 q.2
noncomputable def kV:Key->V
 |.inl i=>.int i
 |.inr x=>.str x
inductive HO where
 |lst (xs:LV)
 |tup (xs:LV)
 |dK (kvs:List (Key×V))|dT (kvs:List (List Key×V))
 |set (S:Int->Bool) (n:Nat)
 |ins (C dx:Addr) (fs:List (Str×V))
 |own (x:Addr)
 |xd (fs:List (Str×V))
 |met (f x:Addr)
 |rng (lo hi:Int)
 |frz (o:Obj) (u:HO)
 |tbl (ps:Array Value)
 |ext (φ:Heap->Prop)
abbrev Hp:=Addr->Option HO
noncomputable def upd(H:Hp)(a:Addr)(o:HO):Hp:=λb=>if b=a then some o else H b
def qC{H:Hp}{a:Addr}{o:HO}:upd H a o a=some o:=by delta upd;rw[YB rfl]
def qS{H:Hp}{a b:Addr}{o:HO}(h:b≠a):upd H a o b=H b:=by delta upd;rw[YA h]
def qNm{H:Hp}{a:Addr}{o u:HO}:upd (upd H a o) a u=upd H a u:=by funext b;delta upd;split <;> rfl
def xt{H:Hp}{a b:Addr}{o u:HO}(h:H a=some o)(h':H b=some u)(d:o≠u):a≠b:=by intro e;subst e;rw[h]at h';show d<|Yb h'
def qW{H:Hp}{a b:Addr}{o:HO}(h:H a=some o)(h':H b=none):a≠b:=by intro e;subst e;rw[h]at h';cases h'
section
variable(P:Program)(w:World)
def ObjOk(H:Hp)(h:Heap)(a:Addr):HO->Prop
 |.lst xs=>xs.length<=sizeLine/\∃(its:LW) (n:Nat),Vals xs its/\h.get? a=some {cls:=.type "list",data:=.seq its.toArray n}
 |.tup xs=>xs.length<=sizeLine/\∃its:LW,Vals xs its/\IsTup h a its.toArray
 |.dK kvs=>kvs.length<=sizeLine/\(a==sysModules)=false/\∃vs,KV kvs vs/\h.DictOf (xH P w) a vs
 |.dT kvs=>kvs.length<=sizeLine/\(a==sysModules)=false/\∃xs:List<|List Key×Addr×Value,
  Paired (λ(p:List Key×V) (q:List Key×Addr×Value)=>p.1=q.1/\H q.2.1=some (.tup<|p.1.map kV)/\RelV p.2 q.2.2) kvs xs/\
  ∃o es ep,h.get? a=some o/\o.ExactDict/\o.data=.dict es ep/\es.toList=xs.map (entryOfKey (tupleKind<|xH P w))/\(xs.map (·.1)).Nodup
 |.set S n=>h.SetOf (intKind P w) a S n
 |.ins C dx fs=>H dx=some (.own a)/\fs.length<=1000/\dx≠a/\h.get? a=some (W.instObj C dx)/\
  ∃mA,h.Ns1 dx mA/\(∀f,RelO (fs.lookup f)<|mA f)/\PySem.Within mA (fs.map (·.1))
 |.own _=> ∃o,h.get? a=some o
 |.xd fs=> ∃mA,h.Ns1 a mA/\∀f,RelO (fs.lookup f) (mA f)
 |.rng lo hi=> ∃t u v,h.get? a=some {cls:=.type "range",data:=.fields %[.int lo t,.int hi u,.int 1 v|0]}
 |.frz o u=>h.get? a=some o/\ObjOk H h a u
 |.tbl ps=>h.get? a=some {cls:=.none,data:=.fields ps}
 |.met f x=>h.get? a=some (W.methodObj (.ref f)<|.ref x)
 |.ext φ=>φ h/\(∃o,h.get? a=some o)/\∀h1 h2:Heap,φ h1->(∀o,h1.get? a=some o->h2.get? a=some o)->φ h2
def HOk(H:Hp)(h:Heap):Prop:= ∀a o,H a=some o->ObjOk P w H h a o
end
section
variable{P:Program}{w:World}{H H':Hp}{h h':Heap}{a:Addr}{o:HO}
theorem ObjOk.lt(x:ObjOk P w H h a o):a<h.objs.size:=by
 cases o with
 |lst xs=>let#[_,_,_,_,e]:=x;show YV e
 |tup xs=>let#[_,_,_,p]:=x;show p.lt
 |dK kvs=>let#[_,_,_,_,o,_,_,e,_]:=x;show YV e
 |dT kvs=>let#[_,_,_,_,o,_,_,e,_]:=x;show YV e
 |set S n=>let#[o,_,_,_,e,_]:=x;show YV e
 |ins C dx fs=>let#[_,_,_,e,_]:=x;show YV e
 |own y=>let#[_,e]:=x;show YV e
 |xd fs=>let#[_,#[_,_,_,e,_],_]:=x;show YV e
 |rng lo hi=>let#[_,_,_,e]:=x;show YV e
 |frz ob u=>let#[e,_]:=x;show YV e
 |tbl ps=>show YV (show h.get? a=some _ from x)
 |met f y=>show YV (show h.get? a=some _ from x)
 |ext φ=>let#[_,#[_,e],_]:=x;show YV e
theorem Paired.mapP{α β:Type}{F G:α->β->Prop}:∀{aa:List α} {J:List β},Paired F aa J->(∀a b,F a b->G a b)->Paired G aa J
 |_,_,.nil,_=>.nil
 |_,_,.cons r t,f=>.cons (f _ _ r)<|Paired.mapP t f
def ObjOk.stay(x:ObjOk P w H h a o)(k:∀b u,(b=a\/H b=some (.own a))->h.get? b=some u->h'.get? b=some u)
 (ho:∀b,H b=some (.own a)->H' b=some (.own a)) (ht:∀b xs,H b=some (.tup xs)->H' b=some (.tup xs)):ObjOk P w H' h' a o:=by
 induction o with
 |lst xs=>let#[z,J,n,r,e]:=x;show#[z,J,n,r,k _ _ (.inl rfl) e]
 |tup xs=>let#[z,J,r,F,e,c]:=x;show#[z,J,r,F,k _ _ (.inl rfl) e,c]
 |dK kvs=>let#[z,y,vs,r,F,es,ep,e,c]:=x;show#[z,y,vs,r,F,es,ep,k _ _ (.inl rfl) e,c]
 |dT kvs=>
  let#[z,y,xs,r,F,es,ep,e,c]:=x;show#[z,y,xs,Paired.mapP r λp q z=>#[z.1,ht _ _ z.2.1,z.2.2],F,es,ep,k _ _ (.inl rfl) e,c]
 |set S n=>let#[F,es,ep,t,e,c]:=x;show#[F,es,ep,t,k _ _ (.inl rfl) e,c]
 |ins C dx fs=>
  let#[d,z,ne,e,mA,#[od,es,ep,e2,c],r]:=x;show#[ho _ d,z,ne,k _ _ (.inl rfl) e,mA,#[od,es,ep,k _ _ (.inr d) e2,c],r]
 |own y=>let#[F,e]:=x;show#[F,k _ _ (.inl rfl) e]
 |xd fs=>let#[mA,#[od,es,ep,e,c],r]:=x;show#[mA,#[od,es,ep,k _ _ (.inl rfl) e,c],r]
 |rng lo hi=>let#[t,u,v,e]:=x;show#[t,u,v,k _ _ (.inl rfl) e]
 |frz F u ih=>let#[e,q]:=x;show#[k _ _ (.inl rfl) e,ih q]
 |tbl ps=>
  have e:h.get? a=some {cls:=.none,data:=.fields ps}:=x;change h'.get? a=some {cls:=.none,data:=.fields ps};show k a _ (.inl rfl) e
 |met f y=>
  have e:h.get? a=some (W.methodObj (.ref f)<|.ref y):=x;change h'.get? a=some (W.methodObj (.ref f)<|.ref y);show k a _ (.inl rfl) e
 |ext φ=>let#[p,#[o,e],st]:=x;show#[st _ _ p λo q=>k _ _ (.inl rfl) q,#[o,k _ _ (.inl rfl) e],st]
theorem HOk.lt(x:HOk P w H h)(e:H a=some o):a<h.objs.size:=(x a o e).lt
def HOk.fresh(x:HOk P w H h)(e:h.objs.size<=a):H a=none:=by
 cases q:H a with
 |none=>rfl
 |some u=>show YC (YR (x.lt q) e)<|XG _
def HOk.kept(x:HOk P w H h)(k:∀b u,h.get? b=some u->h'.get? b=some u):HOk P w H h':=λa o e=>
 (x a o e).stay (λb u _ q=>k b u q) (λ_ q=>q) λ_ _ q=>q
def HOk.laid(x:HOk P w H h)(k:∀b u,h.get? b=some u->h'.get? b=some u)(hp:h.objs.size<=a)(F:ObjOk P w (upd H a o) h' a o):HOk P w (upd H a o) h':=λb u e=>by
 have hn:=x.fresh hp;by_cases J:b=a
 . subst J;rw[qC]at e;cases e;show F
 . rw[qS J]at e
   show(x b u e).stay (λc v _ q=>k c v q) (λc q=>by rw[qS<|qW q hn];show q) λc xs q=>by rw[qS<|qW q hn];show q
end
def Rd(H:Hp)(a:Addr)(u:HO):Prop:=H a=some u\/∃o,H a=some (.frz o u)
def Rd.of{H:Hp}{a:Addr}{u:HO}(h:H a=some u):Rd H a u:=.inl h
def Rd.ok{P:Program}{w:World}{H:Hp}{h:Heap}{a:Addr}{u:HO}(r:Rd H a u)(x:HOk P w H h):ObjOk P w H h a u:=by
 rcases r with r|⟨o,r⟩
 . show x a u r
 . let#[_,q]:=x a _ r
   show q
def Mut:Option HO->Prop
 |some (.lst _)=>True
 |some (.dK _)=>True
 |some (.dT _)=>True
 |some (.set _ _)=>True
 |some (.ins _ _ _)=>True
 |some (.ext _)=>True
 |_=>False
section
variable{P:Program}{w:World}{H:Hp}{h h':Heap}{x e:Addr}{o':HO}
def HOk.write(ok:HOk P w H h)(mu:Mut<|H x)(he:e=x\/H e=some (.own x))(k:∀b u,b≠e->h.get? b=some u->h'.get? b=some u)(ad:∃u,h'.get? e=some u)
 (ac:ObjOk P w (upd H x o') h' x o'):HOk P w (upd H x o') h':=λb u q=>by
 have J:∀c y,H c=some (.own y)->c≠x:=λc y r z=>by subst z;rw[r]at mu;show mu
 have aa:∀c xs,H c=some (.tup xs)->c≠x:=λc xs r z=>by subst z;rw[r]at mu;show mu
 by_cases hb:b=x
 . subst hb;rw[qC]at q;cases q;show ac
 . rw[qS hb]at q
   by_cases F:b=e
   . have q':H b=some (.own x):=by
      rcases he with z|z
      . show YC (F.trans z) hb
      . rw[F];show z
     rw[q]at q';cases q';let#[v,hv]:=ad;show#[v,by rw[F];show hv]
   . show(ok b u q).stay (λc v hc r=>k c v ?_ r) (λc r=>by rw[qS<|J c b r];show r) λc xs r=>by rw[qS<|aa c xs r];show r
     rcases hc with rfl|hc
     . show F
     . rintro rfl
       rcases he with z|z
       . show J c b hc z
       . rw[hc]at z;cases z;show hb rfl
end
structure Un(fs ex:List Addr)(H H':Hp)(h h':Heap):Prop where
 keep:∀b o,h.get? b=some o->H b=none->b∉fs->b∉ex->h'.get? b=some o
 slot:∀b o,h.get? b=some o->H b=none->b∈fs->b∉ex->∃sl,h'.get? b=some {o with slots:=sl}
 free:∀b o,h.get? b=some o->H b=none->b∉ex->H' b=none
 there:∀b o,h.get? b=some o->b∉ex->∃o',h'.get? b=some o'
 tups:∀b xs,H b=some (.tup xs)->H' b=some (.tup xs)
 frzs:∀b o u,H b=some (.frz o u)->H' b=some (.frz o u)
 tbls:∀b ps,H b=some (.tbl ps)->∃more,H' b=some (.tbl (ps++more))
section
variable{fs fs' ex ex':List Addr}{H H1 H2:Hp}{h h1 h2 h':Heap}{a x e:Addr}{o:HO}
def Un.any(u:Un fs ex H H1 h h1){b:Addr}{F:Obj}(q:h.get? b=some F)(n:H b=none)(J:b∉ex):∃sl,h1.get? b=some {F with slots:=sl}:=by
 by_cases hb:b∈fs
 . show u.slot b F q n hb J
 . show#[F.slots,u.keep b F q n hb J]
def Un.kept(k:∀b u,h.get? b=some u->h'.get? b=some u):Un fs ex H H h h':=
 #[λb F q _ _ _=>k b F q,λb F q _ _ _=>#[F.slots,k b F q],λ_ _ _ n _=>n,λb F q _=>#[F,k b F q],λ_ _ q=>q,λ_ _ _ q=>q,λ_ ps q=>#[%[|0],by rw[q];simp]]
def Un.refl:Un fs ex H H h h:=Un.kept λ_ _ q=>q
def Un.laid(k:∀b u,h.get? b=some u->h'.get? b=some u)(J:h.objs.size<=a)(F:H a=none):Un fs ex H (upd H a o) h h' where
 keep:=λb u q _ _ _=>k b u q
 slot:=λb u q _ _ _=>#[u.slots,k b u q]
 free:=λb u q n _=>by rw[qS (Yo<|YR (YV q) J)];show n
 there:=λb u q _=>#[u,k b u q]
 tups:=λb xs q=>by rw[qS<|qW q F];show q
 frzs:=λb u xs q=>by rw[qS<|qW q F];show q
 tbls:=λb ps q=>#[%[|0],by rw[qS<|qW q F,q];simp]
def Un.write(J:Mut<|H x)(he:e=x\/H e=some (.own x))(k:∀b u,b≠e->h.get? b=some u->h'.get? b=some u)(aa:∃u,h'.get? e=some u):Un fs ex H (upd H x o) h h':=by
 have hx:∀b,H b=none->b≠x:=λb n z=>by subst z;rw[n]at J;show J
 have hb:∀b,H b=none->b≠e:=λb n z=>by
  subst z;rcases he with r|r
  . show hx b n r
  . rw[n]at r;cases r
 have hm:∀b u,H b=some u->¬Mut (some u)->b≠x:=λb u q nm z=>by subst z;rw[q]at J;show nm J
 show#[λb u q n _ _=>k b u (hb b n) q,λb u q n _ _=>#[u.slots,k b u (hb b n) q],λb u q n _=>by rw[qS<|hx b n];show n,λb u q _=>?_,
  λb xs q=>by rw[qS (hm b _ q λz=>z)];show q,λb u xs q=>by rw[qS (hm b _ q λz=>z)];show q,λb ps q=>#[%[|0],by rw[qS (hm b _ q λz=>z),q];simp]]
 by_cases F:b=e
 . subst F;show aa
 . show#[u,k b u F q]
end
noncomputable def trk(h:Heap)(H:Hp):List Addr:=(List.range h.objs.size).filter λa=>(H a).isSome
def qU2(h:Heap)(H:Hp):Heap:=W.hideAll h<|trk h H
def qTo(h:Heap)(H:Hp):(qU2 h H).objs.size=h.objs.size:=W.hideAll_size _ _
def qVi{h:Heap}{H:Hp}{b:Addr}{o:Obj}(e:h.get? b=some o)(n:H b=none):(qU2 h H).get? b=some o:=
 W.hideAll_get _ e λF=>by have q:(H b).isSome=true:=(List.mem_filter.mp F).2;rw[n]at q;simp at q
def qW4{h:Heap}{H:Hp}{b:Addr}{o:Obj}(e:(qU2 h H).get? b=some o):h.get? b=some o/\H b=none:=by
 have F:h.get? b=some o:=W.of_hideAll (trk h H) e;show#[F,?_];cases q:H b with
 |none=>rfl
 |some x=>
  have J:b∈trk h H:=List.mem_filter.mpr #[List.mem_range.mpr<|YV F,by simp[q]];have z:(qU2 h H).get? b=none:=W.hideAll_none (trk h H) J;rw[z]at e;cases e
structure Mod(K:Fg)(mg:SV)(base:Heap):Prop where
 kin:K.In base
 glob:base.Ns mainGlobals mg
 blt:∃mb,base.Ns builtinsNs mb/\∀x:Str,x≠"__name__"->mb x=bootBuiltins x
 nolimit:base.NoLimit
structure Cx where
 prog:Program
 w:World
 K:Fg
 mg:SV
 base:Heap
 A:Around
 N:LS
 s₀:Shared
 H₀:Hp
 env:Env
 outer:List Env
 stack:List Env
 ex:List Addr
 fn:Str->Bool
 calm:Bool
 pn:LO
 xe:Ba
noncomputable def frs(l:List Env):List Addr:=l.filterMap (·.frame)
abbrev Cx.fs(X:Cx):List Addr:=frs X.outer
def Vis(sc:Scope)(x:Str):Prop:=sc.names.lookup x=some .local\/sc.names.lookup x=some .cell\/sc.names.lookup x=some .free
def Loc(sc:Scope)(x:Str):Prop:=sc.names.lookup x=some .local\/sc.names.lookup x=some .cell
def jB5(env:Env)(h:Heap)(m:SV)(x:Str)(u:Value):Prop:=
 (env.kindOf x=some .local/\m x=some u)\/((env.kindOf x=some .cell\/env.kindOf x=some .free)/\∃c,env.cells.lookup x=some c/\h.IsCell c (some u))
structure Cx.Ok(X:Cx):Prop where
 mod:Mod X.K X.mg X.base
 kind:X.env.scope.kind=.function
 glob:X.env.globals=mainGlobals
 blt:X.env.builtins=builtinsNs
 above:X.s₀.heap.objs.size<=X.env.locals
 inj:∀x y c,X.env.cells.lookup x=some c->X.env.cells.lookup y=some c->x=y
 has:∀x,(X.env.kindOf x=some .cell\/X.env.kindOf x=some .free)->∃c,X.env.cells.lookup x=some c
 cab:∀x c,X.fn x=true->X.env.cells.lookup x=some c->X.s₀.heap.objs.size<=c
 hd:X.calm=true->X.A.handled=none
 frames:X.A.frames=some X.stack
 stk:X.stack=X.outer\/(X.stack=X.env::X.outer/\X.env.frame=some X.env.locals)
 exf:∀b∈X.ex,b≠X.env.locals/\∀x c,X.env.cells.lookup x=some c->c≠b
 bs:∀b o,X.base.get? b=some o->X.s₀.heap.get? b=some o/\X.H₀ b=none
 bsz:X.base.objs.size<=X.s₀.heap.objs.size
 noex:∀b o,X.base.get? b=some o->b∉X.ex
 exfs:∀b∈X.ex,b∉X.fs
 funs:X.s₀.heap.FunFrames X.base X.outer
 frf:∀b∈X.fs,X.H₀ b=none
structure Inv(X:Cx)(pins:LO)(σ:List (Option V))(H:Hp)(s:Shared):Prop where
 ok:X.Ok
 os:s.os=X.s₀.os
 bare:AllBare s.gens
 base:Un X.fs X.ex X.H₀ H X.s₀.heap s.heap
 loc:∃m,s.heap.Ns X.env.locals m/\∀(i:Nat) (x:Str) (v:V),X.N[i]?=some x->σ[i]?=some (some v)->Vis X.env.scope x->∃u,RelV v u/\jB5 X.env s.heap m x u
 cell:∀x c,X.env.cells.lookup x=some c->∃v,s.heap.IsCell c v
 free:H X.env.locals=none
 freeC:∀x c,X.env.cells.lookup x=some c->H c=none
 pin:∀p∈X.pn++pins,s.heap.get? p.1=some p.2/\H p.1=none/\p.1≠X.env.locals/\p.1∉X.fs/\∀v,p.2.data≠ .cell v
 hok:HOk X.prog X.w H s.heap
 len:σ.length=X.N.length
section
variable{X:Cx}{pins:LO}{σ:List (Option V)}{H H':Hp}{s:Shared}{h':Heap}
def Cx.Ok.nofr(F:X.Ok){b:Addr}{o:Obj}(e:X.base.get? b=some o):b∉X.fs:=λJ=>by have:=(F.funs.mem J).1;rw[e]at this;cases this
theorem Inv.bs(I:Inv X pins σ H s):∀b o,X.base.get? b=some o->s.heap.get? b=some o/\H b=none:=λb o e=>
 #[I.base.keep b o (I.ok.bs b o e).1 (I.ok.bs b o e).2 (I.ok.nofr e)<|I.ok.noex b o e,I.base.free b o (I.ok.bs b o e).1 (I.ok.bs b o e).2<|I.ok.noex b o e]
def Inv.bk(I:Inv X pins σ H s):∀b o,X.base.get? b=some o->s.heap.get? b=some o:=λb o e=>(I.bs b o e).1
theorem Inv.mod(I:Inv X pins σ H s):Mod X.K X.mg X.base:=I.ok.mod
def Inv.kIn(I:Inv X pins σ H s):X.K.In s.heap:=I.ok.mod.kin.keeps I.bk
theorem Inv.lt(I:Inv X pins σ H s):X.env.locals<s.heap.objs.size:=let #[_,hn,_]:=I.loc;hn.lt
def Inv.sz(I:Inv X pins σ H s):X.s₀.heap.objs.size<=s.heap.objs.size:=ZD I.ok.above<|Nat.le_of_lt I.lt
def Inv.nofs(I:Inv X pins σ H s){a:Addr}(h:s.heap.objs.size<=a):a∉X.fs:=λJ=>by let#[_,o,F,_]:=I.ok.funs.mem J;show YC (YR (YV F)<|ZD I.sz h)<|XG _
def Inv.cne(I:Inv X pins σ H s):∀x c,X.env.cells.lookup x=some c->c≠X.env.locals:=λx c e z=>by let#[v,o,ho,hd]:=I.cell x c e;let#[m,#[o',es,ep,J,F,_],_]:=I.loc;rw[z,J]at ho;cases ho;rw[F]at hd;cases hd
theorem Inv.funs(I:Inv X pins σ H s):s.heap.FunFrames X.base X.outer:=by
 have F:∀(l:List Env),(∀b∈frs l,b∈X.fs)->X.s₀.heap.FunFrames X.base l->s.heap.FunFrames X.base l:=by
  intro l
  induction l with
  |nil=>intro _ _;trivial
  |cons env r ih=>
   intro hs hl;let#[hk,#[L,o,hf,hn,ho,hd],hr]:=hl;have J:L∈X.fs:=hs L (by delta frs;rw[List.filterMap_cons,hf];show List.mem_cons_self);let#[sl,e]:=I.base.slot L o ho (I.ok.frf L J) J λz=>I.ok.exfs L z J;show#[hk,#[L,_,hf,hn,e,hd],ih (λb hb=>hs b (by delta frs;rw[List.filterMap_cons,hf];show List.mem_cons_of_mem _ hb)) hr]
 show F X.outer (λ_ hb=>hb) I.ok.funs
theorem Inv.stack(I:Inv X pins σ H s):s.heap.FunFrames X.base X.stack:=by
 rcases I.ok.stk with e|⟨e,hf⟩
 . rw[e];show I.funs
 . rw[e]
   let#[m,F,_]:=I.loc;show .cons (by rw[I.ok.kind];decide) hf F ?_ I.funs;show Heap.get?_none_of_le<|ZD I.ok.bsz I.ok.above
def Inv.stkSub(I:Inv X pins σ H s):∀b∈frs X.stack,b∈X.env.locals::X.fs:=λb F=>by
 rcases I.ok.stk with e|⟨e,hf⟩
 . rw[e]at F;show List.mem_cons_of_mem _ F
 . rw[e]at F
   delta frs at F;rw[List.filterMap_cons,hf]at F;show F
def Inv.stkFree(I:Inv X pins σ H s):∀b∈frs X.stack,H b=none:=λb hb=>by
 rcases YU.mp (I.stkSub b hb)with e|hb
 . rw[e];show I.free
 . let#[_,o,F,_]:=I.ok.funs.mem hb
   show I.base.free b o F (I.ok.frf b hb) λz=>I.ok.exfs b z hb
def Inv.step{g':Array GenState}{t':Nat}{d':Drawn}{ch:List Addr}(I:Inv X pins σ H s)
 (ae:∀b∈ch,(b∈X.ex\/X.s₀.heap.objs.size<=b)/\b≠X.env.locals/\(∀x c,X.env.cells.lookup x=some c->c≠b)/\∀p∈X.pn++pins,p.1≠b)
 (aa:∀b o,b≠X.env.locals->b∉X.fs->b∉ch->s.heap.get? b=some o->H b=none->h'.get? b=some o)
 (ag:∀b o,b≠X.env.locals->b∈X.fs->b∉ch->s.heap.get? b=some o->H b=none->∃sl,h'.get? b=some {o with slots:=sl}) (J:∀b o,b∉ch->s.heap.get? b=some o->H b=none->H' b=none)
 (ah:∀b o,b∉ch->s.heap.get? b=some o->∃o',h'.get? b=some o')
 (am:∀b xs,H b=some (.tup xs)->H' b=some (.tup xs)) (al:∀b o u,H b=some (.frz o u)->H' b=some (.frz o u)) (aj:∀b ps,H b=some (.tbl ps)->∃ai,H' b=some (.tbl<|ps++ai))
 (ns:∀m,s.heap.Ns X.env.locals m->h'.Ns X.env.locals m) (ao:HOk X.prog X.w H' h') (hg:AllBare g'):
 Inv X pins σ H' {s with heap:=h',gens:=g',drawn:=d',toks:=t'}:=by
 have ak:∀b o,X.s₀.heap.get? b=some o->b≠X.env.locals:=λb o e=>Yo<|YR (YV e) I.ok.above;have af:∀b o,X.s₀.heap.get? b=some o->b∉X.ex->b∉ch:=λb o e F hb=>by
  rcases (ae b hb).1 with z|z
  . show F z
  . show YC (YR (YV e) z) (XG _)
 have ad:∀x c,X.env.cells.lookup x=some c->∀v,s.heap.IsCell c v->h'.IsCell c v:=λx c e v #[o,ho,hd]=>by
  have ac:c∉ch:=λz=>(ae c z).2.2.1 x c e rfl;by_cases hc:c∈X.fs
  . let#[sl,q]:=ag c o (I.cne x c e) hc ac ho (I.freeC x c e)
    show#[_,q,hd]
  . show#[o,aa c o (I.cne x c e) hc ac ho<|I.freeC x c e,hd]
 show#[I.ok,I.os,hg,#[λb o e n hb F=>?_,λb o e n hb F=>?_,λb o e n F=>?_,λb o e F=>?_,λb xs e=>am b xs<|I.base.tups b xs e,λb o xs e=>al b o xs<|I.base.frzs b o xs e,λb ps e=>?_],?_,λx c e=>?_,?_,λx c e=>?_,λp hp=>?_,ao,I.len]
 . show aa b o (ak b o e) hb (af b o e F) (I.base.keep b o e n hb F) (I.base.free b o e n F)
 . let#[sl,e1]:=I.base.slot b o e n hb F
   let#[an,e2]:=ag b _ (ak b o e) hb (af b o e F) e1<|I.base.free b o e n F;show#[an,e2]
 . let#[o',e1]:=I.base.there b o e F
   show J b o' (af b o e F) e1 (I.base.free b o e n F)
 . let#[o',e1]:=I.base.there b o e F
   show ah b o' (af b o e F) e1
 . let#[m1,e1]:=I.base.tbls b ps e
   let#[m2,e2]:=aj b _ e1;show#[m1++m2,by rw[e2,Array.append_assoc]]
 . let#[m,hn,hl]:=I.loc
   show#[m,ns m hn,λi x v e1 e2 e3=>?_];let#[u,r,l]:=hl i x v e1 e2 e3;show#[u,r,?_];rcases l with l|⟨k,c,e,z⟩
   . show .inl l
   . show .inr #[k,c,e,ad x c e _ z]
 . let#[v,z]:=I.cell x c e
   show#[v,ad x c e v z]
 . let#[m,#[o,_,_,ho,_],_]:=I.loc
   show J _ o (λz=>(ae _ z).2.1 rfl) ho I.free
 . let#[v,o,ho,hd]:=I.cell x c e
   show J c o (λz=>(ae c z).2.2.1 x c e rfl) ho (I.freeC x c e)
 . let#[e,n,ne,nf,d]:=I.pin p hp
   have ac:p.1∉ch:=λz=>(ae p.1 z).2.2.2 p hp rfl;show#[aa p.1 p.2 ne nf ac e n,J p.1 p.2 ac e n,ne,nf,d]
def Inv.un{t':Nat}(I:Inv X pins σ H s)(u:Un X.fs [] H H' s.heap h')(ac:HOk X.prog X.w H' h'):Inv X pins σ H' {s with heap:=h',toks:=t'}:=by
 let#[m,#[o,es,ep,ho,r],_]:=id I.loc;let#[sl,hL]:=u.any ho I.free #[];show I.step (g':=s.gens) (d':=s.drawn) (ch:=[]) (λ_ z=>nomatch z) (λb o _ hb _ e n=>u.keep b o e n hb #[]) (λb o _ hb _ e n=>u.slot b o e n hb #[]) (λb o _ e n=>u.free b o e n #[]) (λb o _ e=>u.there b o e #[]) u.tups u.frzs u.tbls (λm' hm=>by let#[o',J,aa,F,r']:=hm;rw[ho]at F;cases F;show#[_,J,aa,hL,r']) ac I.bare
def Inv.call{g':Array GenState}{t':Nat}{d':Drawn}{ch:List Addr}(I:Inv X pins σ H s)(u:Un (frs X.stack) ch H H' s.heap h')(ae:HOk X.prog X.w H' h')(hg:AllBare g')
 (J:∀b∈ch,(b∈X.ex\/X.s₀.heap.objs.size<=b)/\b≠X.env.locals/\(∀x c,X.env.cells.lookup x=some c->c≠b)/\∀p∈X.pn++pins,p.1≠b):
 Inv X pins σ H' {s with heap:=h',gens:=g',drawn:=d',toks:=t'}:=by
 let#[m,#[o,es,ep,ho,r],_]:=id I.loc;let#[sl,hL]:=u.any ho I.free λz=>(J _ z).2.1 rfl;show I.step (ch:=ch) J (λb o hL hb F e n=>u.keep b o e n (λz=>(YU.mp<|I.stkSub b z).elim hL hb) F) (λb o _ _ F e n=>u.any e n F) (λb o F e n=>u.free b o e n F) (λb o F e=>u.there b o e F) u.tups u.frzs u.tbls (λm' hm=>by let#[o',ac,ad,aa,r']:=hm;rw[ho]at aa;cases aa;show#[_,ac,ad,hL,r']) ae hg
def Inv.turned{t':Nat}{it:Addr}(I:Inv X pins σ H s)(k:∀b o,b≠it->s.heap.get? b=some o->h'.get? b=some o)(hn:H it=none)(hL:it≠X.env.locals)
 (h1:it∈X.ex\/X.s₀.heap.objs.size<=it) (h2:∀x c,X.env.cells.lookup x=some c->c≠it) (h3:∀p∈X.pn++pins,p.1≠it):Inv X pins σ H {s with heap:=h',toks:=t'}:=by
 have J:∀b u,H b=some u->b≠it:=λb u e z=>by rw[z,hn]at e;cases e
 show I.step (g':=s.gens) (d':=s.drawn) (ch:=[it]) (λb hb=>?_) (λb o _ _ F e _=>k b o (λz=>F (by simp[z])) e) (λb o _ _ F e _=>#[o.slots,k b o (λz=>F (by simp[z])) e]) (λ_ _ _ _ n=>n)
  (λb o F e=>#[o,k b o (λz=>F (by simp[z])) e]) (λ_ _ e=>e) (λ_ _ _ e=>e) (λb ps e=>#[%[|0],by rw[e];simp]) (λm hm=>?_) (λb u e=>?_) I.bare
 . have e:b=it:= ~~~hb
   subst e;show#[h1,hL,h2,h3]
 . let#[o,es,ep,ho,r]:=hm
   show#[o,es,ep,k _ o (ZG hL) ho,r]
 . show(I.hok b u e).stay (λc v F q=>k c v ?_ q) (λ_ q=>q) λ_ _ q=>q
   rcases F with z|z
   . rw[z];show J b u e
   . show J c _ z
def Inv.tok(I:Inv X pins σ H s)(t:Nat):Inv X pins σ H {s with toks:=t}:=I.un (h':=s.heap) (t':=t) Un.refl I.hok
theorem Inv.kept{t':Nat}(I:Inv X pins σ H s)(k:∀b u,s.heap.get? b=some u->h'.get? b=some u):Inv X pins σ H {s with heap:=h',toks:=t'}:=I.un (Un.kept k)<|I.hok.kept k
theorem Inv.laid{a:Addr}{o:HO}{t':Nat}(I:Inv X pins σ H s)(k:∀b u,s.heap.get? b=some u->h'.get? b=some u)(F:s.heap.objs.size<=a)(J:ObjOk X.prog X.w (upd H a o) h' a o):
 Inv X pins σ (upd H a o) {s with heap:=h',toks:=t'}:=I.un (Un.laid k F<|I.hok.fresh F)<|I.hok.laid k F J
theorem Inv.write{x e:Addr}{o:HO}{t':Nat}(I:Inv X pins σ H s)(mu:Mut<|H x)(he:e=x\/H e=some (.own x))(k:∀b u,b≠e->s.heap.get? b=some u->h'.get? b=some u)(F:∃u,h'.get? e=some u)
 (J:ObjOk X.prog X.w (upd H x o) h' x o):Inv X pins σ (upd H x o) {s with heap:=h',toks:=t'}:=I.un (Un.write mu he k F)<|I.hok.write mu he k F J
def Inv.weak{σ':List<|Option V}(I:Inv X pins σ H s)(J:σ'.length=σ.length)(w:∀(i:Nat) v,σ'[i]?=some (some v)->σ[i]?=some (some v)):Inv X pins σ' H s:=
 #[I.ok,I.os,I.bare,I.base,let #[m,hn,hl']:=I.loc;#[m,hn,λi x v F e2 e3=>hl' i x v F (w i v e2) e3],I.cell,I.free,I.freeC,I.pin,I.hok,J.trans I.len]
def Inv.pins_of{pins':LO}(I:Inv X pins σ H s)(h:∀p∈pins',s.heap.get? p.1=some p.2/\H p.1=none/\p.1≠X.env.locals/\p.1∉X.fs/\∀v,p.2.data≠ .cell v):Inv X pins' σ H s:=
 #[I.ok,I.os,I.bare,I.base,I.loc,I.cell,I.free,I.freeC,λp F=>(YO.mp F).elim (λz=>I.pin p<|Yq _ z)<|h p,I.hok,I.len]
def qI2{N:LS}(J:N.Nodup){i j:Nat}{x:Str}(a:N[i]?=some x)(b:N[j]?=some x):i=j:=by let#[h1,F]:=Ya.mp a;let#[h2,e2]:=Ya.mp b;show(List.getElem_inj J).mp (F.trans e2.symm)
def qMb{M:Model}{A:Around}{E:Ba}{i:Nat}{x:Str}{v:V}{u:Value}{Q:Unit->Shared->Prop}(I:Inv X pins σ H s)(hN:X.N.Nodup)(hi:X.N[i]?=some x)(hx:Loc X.env.scope x)(r:RelV v u)
 (h:∀s',Inv X pins (σ.set i<|some v) H s'->(∃a,Heap.SameBut a s.heap s'.heap/\(a=X.env.locals\/X.env.cells.lookup x=some a))->Q Unit.unit s') (hf:X.fn x=true\/X.env.scope.names.lookup x=some .local:=by trivial):wpAny M A (storeName X.env x u) Q E s:=by
 let#[m,hn,hl]:=id I.loc;have aj:(X.env.scope.kind== .class || (X.env.scope.kind== .module && X.env.locals != X.env.globals))=false:=by rw[I.ok.kind];rfl
 have ad:i<σ.length:=by rw[I.len];show(Ya.mp hi).1
 have af:=I.cne;have aa:∀{a:Addr} {h':Heap},(∃o,s.heap.get? a=some o/\H a=none)->Heap.SameBut a s.heap h'->HOk X.prog X.w H h':=λ{a h'} ha F b ob e=>by
  let#[_,_,ac]:=ha;show(I.hok b ob e).stay (λc w' hc q=>(F.2 c ?_).trans q) (λ_ q=>q) λ_ _ q=>q;rintro rfl;rcases hc with rfl|hc
  . rw[ac]at e;cases e
  . rw[ac]at hc;cases hc
 rcases hx with hk|hk
 . show wpAny_storeName_local hk hn (λh' am F=>?_) aj
   let#[oL,_,_,al,_]:=id hn;show h _ #[I.ok,I.os,I.bare,#[λb o e n hb hx=>?_,λb o e n hb hx=>?_,I.base.free,λb o e hx=>?_,I.base.tups,I.base.frzs,I.base.tbls],#[_,am,λj y v' J e2 e3=>?_],λy c e=>?_,I.free,I.freeC,λp hp=>?_,aa #[oL,al,I.free] F, ~~~I.len] #[_,F,.inl rfl]
   . show(F.2 b (Yo<|YR (YV e) I.ok.above)).trans (I.base.keep b o e n hb hx)
   . let#[sl,J]:=I.base.slot b o e n hb hx
     show#[sl,(F.2 b (Yo<|YR (YV e) I.ok.above)).trans J]
   . let#[o',J]:=I.base.there b o e hx
     show#[o',(F.2 b (Yo<|YR (YV e) I.ok.above)).trans J]
   . by_cases hj:j=i
     . subst hj
       rw[hi]at J;cases J;rw[ZA ad]at e2;cases e2;show#[u,r,.inl #[hk,#[]]]
     . rw[ZL<|ZG hj]at e2
       let#[u',r',q]:=hl j y v' J e2 e3;show#[u',r',?_];rcases q with ⟨k,e⟩|⟨k,c,e,z⟩
       . show .inl #[k,?_]
         have:y≠x:=λe=>hj (qI2 hN J (e ▸ hi));simp[this,e]
       . show .inr #[k,c,e,z.sameBut F<|af y c e]
   . let#[w',z]:=I.cell y c e
     show#[w',z.sameBut F<|af y c e]
   . let#[e,n,ne,nf,d]:=I.pin p hp
     show#[(F.2 p.1 ne).trans e,n,ne,nf,d]
 . have ae:X.fn x=true:=by
    rcases hf with z|z
    . show z
    . rw[z]at hk;cases hk
   let#[c,hc]:=I.ok.has x<|.inl hk;let#[w',z]:=I.cell x c hc;show wpAny_storeName_cell I.ok.kind hk hc z (λh' ag F=>?_);let#[oc,ah,ak]:=id z;show h {s with heap:=h'} #[I.ok,I.os,I.bare,#[λb o e n hb hx=>?_,λb o e n hb hx=>?_,I.base.free,λb o e hx=>?_,I.base.tups,I.base.frzs,I.base.tbls],#[m,hn.sameBut F (ZG<|af x c hc),λj y v' J e2 e3=>?_],λy c' e=>?_,I.free,I.freeC,λp hp=>?_,aa #[oc,ah,I.freeC x c hc] F, ~~~I.len] #[c,F,.inr hc]
   . show(F.2 b<|Yo (YR (YV e)<|I.ok.cab x c ae hc)).trans (I.base.keep b o e n hb hx)
   . let#[sl,J]:=I.base.slot b o e n hb hx
     show#[sl,(F.2 b<|Yo (YR (YV e)<|I.ok.cab x c ae hc)).trans J]
   . let#[o',J]:=I.base.there b o e hx
     show#[o',(F.2 b<|Yo (YR (YV e)<|I.ok.cab x c ae hc)).trans J]
   . by_cases hj:j=i
     . subst hj
       rw[hi]at J;cases J;rw[ZA ad]at e2;cases e2;show#[u,r,.inr #[.inl hk,c,hc,ag]]
     . rw[ZL<|ZG hj]at e2
       let#[u',r',q]:=hl j y v' J e2 e3;show#[u',r',?_];rcases q with q|⟨k,c',e,z'⟩
       . show .inl q
       . show .inr #[k,c',e,z'.sameBut F ?_]
         rintro rfl;show hj (qI2 hN J (I.ok.inj _ _ _ e hc ▸ hi))
   . by_cases ai:c'=c
     . subst ai;show#[_,ag]
     . let#[w2,z2]:=I.cell y c' e
       show#[w2,z2.sameBut F ai]
   . let#[e,n,ne,nf,d]:=I.pin p hp
     show#[(F.2 p.1 ?_).trans e,n,ne,nf,d];intro q;rw[q,ah]at e;have q':oc=p.2:=Yb e;show d w' (by rw[<-q'];show ak)
def qEk{M:Model}{A:Around}{E:Ba}{i:Nat}{x:Str}{v:V}{u:Value}{Q:Unit->Shared->Prop}(I:Inv X pins σ H s)(F:X.N.Nodup)(hi:X.N[i]?=some x)(J:Loc X.env.scope x)(r:RelV v u)
 (h:∀s',Inv X pins (σ.set i<|some v) H s'->Q Unit.unit s') (hf:X.fn x=true\/X.env.scope.names.lookup x=some .local:=by trivial):wpAny M A (storeName X.env x u) Q E s:=
 qMb I F hi J r (λs' I' _=>h s' I') hf
def Inv.call'{s':Shared}{ch:List Addr}(I:Inv X pins σ H s)(ho:s'.os=s.os)(u:Un (frs X.stack) ch H H' s.heap s'.heap)(J:HOk X.prog X.w H' s'.heap)(hg:AllBare s'.gens)
 (F:∀b∈ch,(b∈X.ex\/X.s₀.heap.objs.size<=b)/\b≠X.env.locals/\(∀x c,X.env.cells.lookup x=some c->c≠b)/\∀p∈X.pn++pins,p.1≠b):Inv X pins σ H' s':=by
 let#[h',g',d',t',o']:=s';have e:o'=s.os:=ho;subst e;show I.call (g':=g') (t':=t') (d':=d') u J hg F
end
abbrev XK:=Value->Option Addr->Hp->Prop
abbrev St:=List (Option V)
abbrev VK:=V->Hp->Prop
abbrev TE:=St->Hp->VK->Prop
abbrev TT:=St->Hp->(Bool->Hp->Prop)->Prop
abbrev TA:=St->Hp->(LV->Hp->Prop)->Prop
structure qPt where
 nx:St->Hp->Prop
 rt:VK
 bk:St->Hp->Prop:=λ_ _=>False
 ct:St->Hp->Prop:=λ_ _=>False
abbrev TS:=qPt->St->Hp->Prop
def EP(X:Cx)(pins:LO)(σ:St)(Q:VK)(u:Value)(s':Shared):Prop:= ∃v H',Inv X pins σ H' s'/\RelV v u/\Q v H'
def TP(X:Cx)(pins:LO)(σ:St)(Q:Bool->Hp->Prop)(b:Bool)(s':Shared):Prop:= ∃H',Inv X pins σ H' s'/\Q b H'
def AP(X:Cx)(pins:LO)(σ:St)(Q:LV->Hp->Prop)(us:LW)(s':Shared):Prop:= ∃vs H',Inv X pins σ H' s'/\Vals vs us/\Q vs H'
def SP(X:Cx)(pins:LO)(D:qPt)(f:Flow)(s':Shared):Prop:=
 match f with
 |.next=> ∃σ' H',Inv X pins σ' H' s'/\D.nx σ' H'
 |.brk=> ∃σ' H',Inv X pins σ' H' s'/\D.bk σ' H'
 |.cont=> ∃σ' H',Inv X pins σ' H' s'/\D.ct σ' H'
 |.ret u=> ∃v σ' H',Inv X pins σ' H' s'/\RelV v u/\D.rt v H'
def PE(X:Cx)(e:Expr)(t:TE):Prop:=
 ∀(pins:LO) (s:Shared) (σ:St) (H:Hp) (Q:VK),Inv X pins σ H s->t σ H Q->wpAny (model X.prog X.w) X.A (eval e X.env) (EP X pins σ Q) X.xe s
def PT(X:Cx)(e:Expr)(t:TT):Prop:=
 ∀(pins:LO) (s:Shared) (σ:St) (H:Hp) (Q:Bool->Hp->Prop),Inv X pins σ H s->t σ H Q->wpAny (model X.prog X.w) X.A (isTrue e X.env<|eval e X.env) (TP X pins σ Q) X.xe s
def PW(X:Cx)(e:Expr)(t:TT):Prop:=
 ∀(whole:Sem Value) (pins:LO) (s:Shared) (σ:St) (H:Hp) (Q:Bool->Hp->Prop),Inv X pins σ H s->t σ H Q->wpAny (model X.prog X.w) X.A (isTrue e X.env whole) (TP X pins σ Q) X.xe s
def PW.pt{X:Cx}{e:Expr}{t:TT}(h:PW X e t):PT X e t:=h _
def PA(X:Cx)(es:List Expr)(t:TA):Prop:=
 ∀(pos:Pos) (pins:LO) (s:Shared) (σ:St) (H:Hp) (Q:LV->Hp->Prop),Inv X pins σ H s->t σ H Q->wpAny (model X.prog X.w) X.A (spliced (backTo pos<|starEach es X.env)) (AP X pins σ Q) X.xe s
def PS(X:Cx)(st:Stmt)(t:TS):Prop:=
 ∀(pins:LO) (s:Shared) (σ:St) (H:Hp) (D:qPt),Inv X pins σ H s->t D σ H->wpAny (model X.prog X.w) X.A (exec st X.env) (SP X pins D) X.xe s
def PSs(X:Cx)(st:List Stmt)(t:TS):Prop:=
 ∀(pins:LO) (s:Shared) (σ:St) (H:Hp) (D:qPt),Inv X pins σ H s->t D σ H->wpAny (model X.prog X.w) X.A (execs st X.env) (SP X pins D) X.xe s
def thn{α:Type}{t:Sem α}{Q Q':α->Shared->Prop}{M:Model}{A:Around}{E:Ba}{s:Shared}(h:wpAny M A t Q E s)(F:∀a s,Q a s->Q' a s):wpAny M A t Q' E s:=YL h F λ_ _ x=>x
theorem tW{α β:Type}{t:Sem α}{p:Hp->Shared->Prop}{q:β->α->Prop}{r:β->Hp->Prop}{Q':α->Shared->Prop}{M:Model}{A:Around}{E:Value->Shared->Prop}{s:Shared}(h:wpAny M A t (λa s=> ∃x H,p H s/\q x a/\r x H) E s)(F:∀a s x H,p H s->q x a->r x H->Q' a s):wpAny M A t Q' E s:=thn h λa s #[x,H,i,j,k]=>F a s x H i j k
section
variable{X:Cx}
inductive qZ5(i:Nat)(σ:L2.St)(H:Hp)(Q:VK):Prop
|mk v (_:σ[i]?=some (some v)) (_:Q v H)
def tC(v:V):TE:=λ_ H Q=>Q v H
def qY3{i:Nat}{x:Str}{pos:Pos}(hN:X.N[i]?=some x)(hv:Vis X.env.scope x)(hd:(x==("__debug__":Str))=false:=by decide)(aa:(x==("__classdict__":Str))=false:=by decide):PE X (.Name x pos) (qZ5 i):=by
 ext;let#[v,e,h]:=h;let#[m,hn,hl]:=I.loc;let#[u,r,l]:=hl i x v hN e hv;have J:EP X pins σ Q u s:=#[v,H,I,r,h];rcases l with ⟨hk,hm⟩|⟨hk,c,hc,F⟩
 . show wpAny_Name (wpAny_loadName_local I.ok.kind hk hn hm J) hd
 . rcases hk with hk|hk
   . show wpAny_Name (wpAny_loadName_cell I.ok.kind hk hc F J) hd
   . show wpAny_Name (wpAny_loadName_free I.ok.kind hk hc F J aa) hd
def qH{i j pos}:PE X (.Constant (.int i) j pos) (tC<|.int i):=λ_ _ _ H _ I h=>wpAny_Constant_int #[.int i,H,I.tok _,#[_,rfl],h]
def vw{b j pos}:PE X (.Constant (.bool b) j pos) (tC<|.bl b):=λ_ _ _ H _ I h=>Constant_bool #[.bl b,H,I,rfl,h]
def xn{j pos}:PE X (.Constant .none j pos) (tC .non):=λ_ _ _ H _ I h=>Constant_none #[.non,H,I,rfl,h]
def qQ{x j pos}:PE X (.Constant (.str x) j pos) (tC<|.str x):=λ_ _ _ H _ I h=>Calls.Constant_str #[.str x,H,I.tok _,#[_,rfl],h]
def Gl(X:Cx)(x:Str):Prop:=X.env.kindOf x=some .globalImplicit
def vp{E:Ba}{pins:LO}{s:Shared}{σ:St}{H:Hp}{x:Str}{u:Value}{pos:Pos}{Q:Ba}(I:Inv X pins σ H s)(F:Gl X x)(J:X.mg x=some u)(h:Q u s)
 (hd:(x==("__debug__":Str))=false:=by decide):wpAny (model X.prog X.w) X.A (eval (.Name x pos) X.env) Q E s:=
 Calls.Name_function_global I.ok.kind F (Calls.loadGlobal_global (by rw[I.ok.glob];show I.mod.glob.keeps I.bk) J h) hd
def qDe{E:Ba}{pins:LO}{s:Shared}{σ:St}{H:Hp}{x:Str}{u:Value}{pos:Pos}{Q:Ba}(I:Inv X pins σ H s)(hg:Gl X x)(J:X.mg x=none)(F:bootBuiltins x=some u)(h:Q u s)
 (hn:x≠"__name__":=by decide) (hd:(x==("__debug__":Str))=false:=by decide):wpAny (model X.prog X.w) X.A (eval (.Name x pos) X.env) Q E s:=by
 let#[mb,h1,h2]:=I.mod.blt;show Calls.Name_function_global I.ok.kind hg (Calls.loadGlobal_builtin (by rw[I.ok.glob];show I.mod.glob.keeps I.bk) J (by rw[I.ok.blt];show h1.keeps I.bk) ((h2 x hn).trans F) h) hd
def jb{x:Str}{v:V}{u:Value}{pos:Pos}(F:Gl X x)(J:X.mg x=some u)(r:RelV v u)(hd:(x==("__debug__":Str))=false:=by decide):PE X (.Name x pos) (tC v):=
 λ_ _ _ H _ I h=>vp I F J #[v,H,I,r,h] hd
def qXh{x:Str}{v:V}{u:Value}{pos:Pos}(F:Gl X x)(hm:X.mg x=none)(J:bootBuiltins x=some u)(r:RelV v u)(hn:x≠"__name__":=by decide)(hd:(x==("__debug__":Str))=false:=by decide):PE X (.Name x pos) (tC v):=
 λ_ _ _ H _ I h=>qDe I F hm J #[v,H,I,r,h] hn hd
variable{a b:Expr}{ta tb:TE}{pos:Pos}
def PC(X:Cx)(op:CmpOp)(a b:Expr)(t:TE):Prop:=
 ∀(pins:LO) (s:Shared) (σ:St) (H:Hp) (Q:VK),Inv X pins σ H s->t σ H Q->
  wpAny (model X.prog X.w) X.A (eval a X.env) (λv s₁=>wpAny (model X.prog X.w) X.A (eval b X.env) (λu s₂=>wpAny (model X.prog X.w) X.A (compareOp op v u) (EP X pins σ Q) X.xe s₂) X.xe s₁) X.xe s
def qOd(b:Expr){F:CmpOp}(h:F≠ .In)(h2:F≠ .NotIn):behindInMarks F b=false:=by
 have J:(F==CmpOp.In)=false:=by cases F <;> first|rfl|show YC rfl h
 have e2:(F==CmpOp.NotIn)=false:=by cases F <;> first|rfl|show YC rfl h2
 cases b <;> simp[behindInMarks,J,e2]
def jB0(ta:TE):TE:=λσ H Q=>ta σ H λx H1=>Q (.bl (decide<|x=.non)) H1
def jAb(ta:TE):TE:=λσ H Q=>ta σ H λx H1=>Q (.bl<|!decide (x=.non)) H1
def RelV.none_iff{x:V}{v:Value}(r:RelV x v):(v==Value.none)=decide (x=.non):=by
 cases x with
 |non=>cases r;rfl
 |bl _=>cases r;rfl
 |int _=>let#[t,rfl]:=r;rfl
 |str _=>let#[t,rfl]:=r;rfl
 |byt _=>let#[t,rfl]:=r;rfl
 |flt _=>let#[t,rfl]:=r;rfl
 |ref _=>cases r;rfl
 |ty _=>cases r;rfl
def vX{j pos'}(F:PE X a ta):PC X .Is a (.Constant .none j pos') (jB0 ta):=by ext;show tW (F pins s σ H _ I h) λv s1 x H1 J r1 q1=>?_;show Constant_none (is_none_gen #[.bl _,H1,J,by rw[r1.none_iff];rfl,q1])
def qBa{j pos'}(F:PE X a ta):PC X .IsNot a (.Constant .none j pos') (jAb ta):=by ext;show tW (F pins s σ H _ I h) λv s1 x H1 J r1 q1=>?_;show Constant_none (isnot_none_gen #[.bl _,H1,J,by rw[r1.none_iff];rfl,q1])
inductive tBI(Q:Bool->Hp->Prop)(x:V)(H1:Hp):Prop
|mk c (_:x=.bl c) (_:Q c H1)
def tB(t:TE):TT:=λσ H Q=>t σ H λx H1=>tBI Q x H1
def qWd{F:CmpOp}{t:TE}(h:PC X F a b t)(h1:behindInMarks F b=false:=by first|show qOd _ (by decide) (by decide)|rfl):PE X (.Compare a [F] [b] pos) t:=λpins s σ H Q I J=>wpAny_Compare1 (h pins s σ H Q I J) h1
def xm{F:CmpOp}{t:TE}(h:PC X F a b t)(h1:behindInMarks F b=false:=by first|show qOd _ (by decide) (by decide)|rfl):PT X (.Compare a [F] [b] pos) (tB t):=by intro pins s σ H Q I hw;show wpAny_isTrue_Compare1 (thn (h pins s σ H _ I hw) λv s1 h1=>thn h1 λu s2 h2=>thn h2 λc s3 #[x,H1,J,r1,q1]=>?_) h1;let#[d,rfl,q]:=q1;cases r1;show wpAny_truthy_bool #[H1,J,q]
def jQ{e:Expr}{t:TE}(h:PE X e t)(J:∀F,isTrue e X.env F=(do let v<-F;standAt e.pos;holding [v]<|truthy v):=by intro _;rfl):PT X e (tB t):=by intro pins s σ H Q I hw;show isTrue_plain (tW (h pins s σ H _ I hw) λv s1 x H1 I1 r1 q1=>?_)<|J _;let#[d,rfl,q]:=q1;cases r1;show wpAny_truthy_bool #[H1,I1,q]
variable{tA tB':TT}{rest:List Expr}
def jBz(t u:TT):TT:=λσ H Q=>t σ H λc H1=>if c=true then u σ H1 Q else Q false H1
def tOr(t u:TT):TT:=λσ H Q=>t σ H λc H1=>if c=true then Q true H1 else u σ H1 Q
def jCg(t:TT):TT:=λσ H Q=>t σ H λc H1=>Q (!c) H1
def xW(F:PT X a tA):PW X (.BoolOp .And [a] pos) tA:=by
 intro J pins s σ H Q I h;show isTrue_and (thn (F pins s σ H Q I h) λc s1 e=>?_);cases c with
 |true=>show isTrue_and_nil e
 |false=>show e
def jf(F:PT X a tA):PW X (.BoolOp .Or [a] pos) tA:=by
 intro J pins s σ H Q I h;show isTrue_or (thn (F pins s σ H Q I h) λc s1 e=>?_);cases c with
 |false=>show isTrue_or_nil e
 |true=>show e
def zy(ha:PT X a tA)(hb:PW X (.BoolOp .And (b::rest) pos) tB'):PW X (.BoolOp .And (a::b::rest) pos) (jBz tA tB'):=by
 intro wh pins s σ H Q I h;show isTrue_and (thn (ha pins s σ H _ I h) λc s1 #[H1,F,J]=>?_);cases c with
 |true=>show hb wh pins s1 σ H1 Q F J
 |false=>show#[H1,F,J]
def xK(ha:PT X a tA)(hb:PW X (.BoolOp .Or (b::rest) pos) tB'):PW X (.BoolOp .Or (a::b::rest) pos) (tOr tA tB'):=by
 intro wh pins s σ H Q I h;show isTrue_or (thn (ha pins s σ H _ I h) λc s1 #[H1,F,J]=>?_);cases c with
 |true=>show#[H1,F,J]
 |false=>show hb wh pins s1 σ H1 Q F J
def jg(F:PT X a tA):PT X (.UnaryOp .Not a pos) (jCg tA):=by ext;show isTrue_not (F pins s σ H (λc H1=>Q (!c) H1) I h)
inductive qZa(tb:TE)(σ:L2.St)(Q:VK)(x:V)(H1:Hp):Prop
|mk c (_:x=.bl c) (_:if c=true then tb σ H1 Q else Q (.bl false) H1)
def qZ7(ta tb:TE):TE:=λσ H Q=>ta σ H λx H1=>qZa tb σ Q x H1
inductive jA7(tb:TE)(σ:L2.St)(Q:VK)(x:V)(H1:Hp):Prop
|mk c (_:x=.bl c) (_:if c=true then Q (.bl true) H1 else tb σ H1 Q)
def jCh(ta tb:TE):TE:=λσ H Q=>ta σ H λx H1=>jA7 tb σ Q x H1
inductive qZm(Q:VK)(x:V)(H1:Hp):Prop
|mk c (_:x=.bl c) (_:Q (.bl (!c)) H1)
def jBc(ta:TE):TE:=λσ H Q=>ta σ H λx H1=>qZm Q x H1
def vY{op}{t:TE}(h:PE X a t):PE X (.BoolOp op [a] pos) t:=λpins s σ H Q I F=>BoolOp_one<|h pins s σ H Q I F
def zf(ha:PE X a ta)(hb:PE X (.BoolOp .And (b::rest) pos) tb):PE X (.BoolOp .And (a::b::rest) pos) (qZ7 ta tb):=by
 ext;show BoolOp_and (tW (ha pins s σ H _ I h) λv s1 x H1 J r1 F=>?_);let#[c,rfl,F]:=F;cases r1;show wpAny_truthy_bool ?_;cases c with
 |true=>show hb pins s1 σ H1 Q J F
 |false=>show#[.bl false,H1,J,rfl,F]
def jA1(ha:PE X a ta)(hb:PE X (.BoolOp .Or (b::rest) pos) tb):PE X (.BoolOp .Or (a::b::rest) pos) (jCh ta tb):=by
 ext;show BoolOp_or (tW (ha pins s σ H _ I h) λv s1 x H1 J r1 F=>?_);let#[c,rfl,F]:=F;cases r1;show wpAny_truthy_bool ?_;cases c with
 |false=>show hb pins s1 σ H1 Q J F
 |true=>show#[.bl true,H1,J,rfl,F]
def qYo(J:PE X a ta):PE X (.UnaryOp .Not a pos) (jBc ta):=by ext;show UnaryOp_ (tW (J pins s σ H _ I h) λv s1 x H1 I1 r1 F=>?_);let#[c,rfl,F]:=F;cases r1;show not_of<|wpAny_truthy_bool #[.bl<|!c,H1,I1,O,F]
def tIf(t:TT)(ta tb:TE):TE:=λσ H Q=>t σ H λc H1=>if c=true then ta σ H1 Q else tb σ H1 Q
def zt{c:Expr}(hc:PT X c tA)(ha:PE X a ta)(hb:PE X b tb):PE X (.IfExp c a b pos) (tIf tA ta tb):=by
 ext;show wpAny_IfExp (thn (hc pins s σ H _ I h) λd s1 #[H1,F,J]=>?_);cases d with
 |true=>show ha pins s1 σ H1 Q F J
 |false=>show hb pins s1 σ H1 Q F J
end
def SqL(K:Fg)(H:Hp)(a:Addr)(xs:LV):Prop:=
 Rd H a (.lst xs)\/
  ∃(o:Obj) (its:Array Value) (n:Nat),K.lookup a=some o/\o.cls=.type "list"/\o.dict=none/\o.data=.seq its n/\its.size<=sizeLine/\Vals xs its.toList
def SqT(K:Fg)(H:Hp)(a:Addr)(xs:LV):Prop:=
 Rd H a (.tup xs)\/
  ∃(o:Obj) (its:Array Value) (n:Nat),K.lookup a=some o/\o.cls=.type "tuple"/\o.data=.seq its n/\its.size<=sizeLine/\Vals xs its.toList
noncomputable def jB1:Value->Option V
 |.none=>some .non
 |.bool b=>some (.bl b)
 |.int i _=>some (.int i)
 |.str x _=>some (.str x)
 |.bytes b _=>some (.byt b)
 |.float b _=>some (.flt b)
 |.ref a=>some (.ref a)
 |.type n=>some (.ty n)
 |_=>none
def RelV.abs{x:V}{u:Value}(r:RelV x u):jB1 u=some x:=by
 cases x with
 |non=>cases r;rfl
 |bl _=>cases r;rfl
 |int _=>let#[t,rfl]:=r;rfl
 |str _=>let#[t,rfl]:=r;rfl
 |byt _=>let#[t,rfl]:=r;rfl
 |flt _=>let#[t,rfl]:=r;rfl
 |ref _=>cases r;rfl
 |ty _=>cases r;rfl
def RelV.inj{x y:V}{u:Value}(r:RelV x u)(q:RelV y u):x=y:=Yb<|r.abs.symm.trans q.abs
theorem Vals.inj:∀{xs ys:LV} {us:LW},Vals xs us->Vals ys us->xs=ys
 |_,_,_,.nil,.nil=>rfl
 |_,_,_,.cons r t,.cons r' t'=>by rw[r.inj r',Vals.inj t t']
section
variable{X:Cx}{pins:LO}{σ:St}{H:Hp}{s:Shared}{a:Addr}{xs ys:LV}
def SqL.of{K:Fg}(h:H a=some (.lst xs)):SqL K H a xs:=.inl<|.inl h
def SqT.of{K:Fg}(h:H a=some (.tup xs)):SqT K H a xs:=.inl<|.inl h
def Inv.list(I:Inv X pins σ H s)(h:SqL X.K H a xs):∃F:LW,Vals xs F/\PlainL s.heap a F.toArray/\xs.length<=sizeLine:=by
 rcases h with h|⟨o,F,n,hk,hc,hd,J,hz,r⟩
 . let#[z,F,n,r,e]:=h.ok I.hok
   show#[F,r,#[_,n,e,O,O,O],z]
 . show#[F.toList,r,#[o,n,I.kIn a o hk,hc,hd, ~~~J],?_]
   have e:=r.length;simp only[Array.length_toList]at e;lia
def Inv.tuple(I:Inv X pins σ H s)(h:SqT X.K H a xs):∃F:LW,Vals xs F/\IsTup s.heap a F.toArray/\xs.length<=sizeLine:=by
 rcases h with h|⟨o,F,n,hk,hc,J,hz,r⟩
 . let#[z,F,r,p]:=h.ok I.hok
   show#[F,r,p,z]
 . show#[F.toList,r,#[o,I.kIn a o hk,hc,n, ~~~J],?_]
   have e:=r.length;simp only[Array.length_toList]at e;lia
def Inv.list_inj(I:Inv X pins σ H s)(h:SqL X.K H a xs)(h':SqL X.K H a ys):xs=ys:=by
 let#[J,r,#[o,n,e,_,_,d],_]:=I.list h;let#[F,r',#[o',n',e',_,_,d'],_]:=I.list h';rw[e]at e';cases e';rw[d]at d';injection d' with d1 _
 have:J=F:= ~~~XF Array.toList d1
 subst this;show r.inj r'
def Inv.tuple_inj(I:Inv X pins σ H s)(h:SqT X.K H a xs)(h':SqT X.K H a ys):xs=ys:=by
 let#[J,r,#[o,e,_,n,d],_]:=I.tuple h;let#[F,r',#[o',e',_,n',d'],_]:=I.tuple h';rw[e]at e';cases e';rw[d]at d';injection d' with d1 _
 have:J=F:= ~~~XF Array.toList d1
 subst this;show r.inj r'
end
abbrev Cx.wish(X:Cx)(E:Ba):Cx:={X with xe:=E}
abbrev Cx.nox(X:Cx):Cx:=X.wish λ_ _=>False
theorem Cx.Ok.wish{X:Cx}(F:X.Ok)(E:Ba):(X.wish E).Ok:=
 #[F.mod,F.kind,F.glob,F.blt,F.above,F.inj,F.has,F.cab,F.hd,F.frames,F.stk,F.exf,F.bs,F.bsz,F.noex,F.exfs,F.funs,F.frf]
def Cx.Ok.unwish{X:Cx}{E:Ba}(F:(X.wish E).Ok):X.Ok:=
 #[F.mod,F.kind,F.glob,F.blt,F.above,F.inj,F.has,F.cab,F.hd,F.frames,F.stk,F.exf,F.bs,F.bsz,F.noex,F.exfs,F.funs,F.frf]
section
variable{X:Cx}{pins:LO}{σ:St}{H:Hp}{s:Shared}{E:Ba}
theorem Inv.wish(I:Inv X pins σ H s)(E:Ba):Inv (X.wish E) pins σ H s:=#[I.ok.wish E,I.os,I.bare,I.base,I.loc,I.cell,I.free,I.freeC,I.pin,I.hok,I.len]
theorem Inv.unwish(I:Inv (X.wish E) pins σ H s):Inv X pins σ H s:=#[I.ok.unwish,I.os,I.bare,I.base,I.loc,I.cell,I.free,I.freeC,I.pin,I.hok,I.len]
theorem SP.unwish{D:qPt}{f:Flow}{s':Shared}(h:SP (X.wish E) pins D f s'):SP X pins D f s':=by
 cases f with
 |next=>let#[σ',H',I,q]:=h;show#[σ',H',I.unwish,q]
 |brk=>let#[σ',H',I,q]:=h;show#[σ',H',I.unwish,q]
 |cont=>let#[σ',H',I,q]:=h;show#[σ',H',I.unwish,q]
 |ret u=>let#[v,σ',H',I,r,q]:=h;show#[v,σ',H',I.unwish,r,q]
theorem PSs.nox{st:List Stmt}{t:TS}(h:PSs X.nox st t):PSs X st t:=λpins s σ H D I F=>
 YL (h pins s σ H D (I.wish _) F) (λ_ _ q=>q.unwish) λ_ _ z=>XD z
end
section
variable{X:Cx}{st:Stmt}{rest:List Stmt}{t u:TS}{e:Expr}{te:TE}{pos:Pos}
def jA4:TS:=λD σ H=>D.nx σ H
def qG6(t u:TS):TS:=λD σ H=>t {D with nx:=u D} σ H
def qO:PSs X [] jA4:=λ_ _ σ H _ I h=>wpAny_execs_nil #[σ,H,I,h]
def qD(h1:PS X st t)(h2:PSs X rest u):PSs X (st::rest) (qG6 t u):=by
 intro pins s σ H D I h;show wpAny_execs_cons (thn (h1 pins s σ H {D with nx:=u D} I h) λf s1 q=>?_);cases f with
 |next=>
  let#[σ',H',F,q]:=q;show h2 pins s1 σ' H' D F q
 |ret v=>show q
 |brk=>show q
 |cont=>show q
def qF(h1:PS X st t):PSs X [st] t:=by
 intro pins s σ H D I h;show wpAny_execs_cons (thn (h1 pins s σ H D I h) λf s1 q=>?_);cases f with
 |next=>show wpAny_execs_nil q
 |ret v=>show q
 |brk=>show q
 |cont=>show q
def Inv.quiet{pins:LO}{σ:St}{H:Hp}{s:Shared}(I:Inv X pins σ H s):interactive X.env=false:=by simp[interactive,I.ok.kind]
def jAg(te:TE):TS:=λD σ H=>te σ H λ_ H1=>D.nx σ H1
def qt(J:PE X e te)(F:swapsWith e none pos.line X.env=pure false:=by rfl):PS X (.Expr e pos) (jAg te):=by intro pins s σ H D I h;show wpAny_Expr_any (tW (J pins s σ H _ I h) λv s1 x H1 I1 r1 q1=>#[σ,H1,I1,q1]) I.quiet F
def jBy(te:TE):TS:=λD σ H=>te σ H D.rt
def qL(F:PE X e te):PS X (.Return (some e) pos) (jBy te):=by intro pins s σ H D I h;show wpAny_Return_some (tW (F pins s σ H _ I h) λv s1 x H1 J r1 q1=>#[x,σ,H1,J,r1,q1])
def jCm(c:TT)(t u:TS):TS:=λD σ H=>c σ H λb H1=>if b=true then t D σ H1 else u D σ H1
def qh{c:Expr}{a b:List Stmt}{tc:TT}(hc:PT X c tc)(ha:PSs X a t)(hb:PSs X b u):PS X (.If c a b pos) (jCm tc t u):=by
 intro pins s σ H D I h;show wpAny_If (thn (hc pins s σ H _ I h) λd s1 #[H1,F,J]=>?_);cases d with
 |true=>show ha pins s1 σ H1 D F J
 |false=>show hb pins s1 σ H1 D F J
def qYp:TS:=λ_ _ _=>False
def xF{F:List Stmt}:PSs X F qYp:=λ_ _ _ _ _ _ h=>h.elim
end
abbrev TG:=V->St->Hp->(St->Hp->Prop)->Prop
abbrev TGs:=LV->St->Hp->(St->Hp->Prop)->Prop
def PG(X:Cx)(target:Expr)(t:TG):Prop:=
 ∀(pins:LO) (s:Shared) (σ:St) (H:Hp) (v:V) (u:Value) (Q:St->Hp->Prop),Inv X pins σ H s->RelV v u->t v σ H Q->
  wpAny (model X.prog X.w) X.A (assign target X.env u) (λ_ s'=> ∃σ' H',Inv X pins σ' H' s'/\Q σ' H') X.xe s
def PGs(X:Cx)(ts:List Expr)(t:TGs):Prop:=
 ∀(pins:LO) (s:Shared) (σ:St) (H:Hp) (vs:LV) (us:LW) (Q:St->Hp->Prop),Inv X pins σ H s->Vals vs us->t vs σ H Q->
  wpAny (model X.prog X.w) X.A (assignInOrder ((assignEach ts X.env).map (·.2)) us) (λ_ s'=> ∃σ' H',Inv X pins σ' H' s'/\Q σ' H') X.xe s
abbrev qZ6:=V->V->V->Hp->(Hp->Prop)->Prop
def jBo(X:Cx)(t:qZ6):Prop:=
 ∀(pins:LO) (s:Shared) (σ:St) (H:Hp) (o i v:V) (ov iv u:Value) (Q:Hp->Prop),Inv X pins σ H s->RelV o ov->RelV i iv->RelV v u->t o i v H Q->
  wpAny (model X.prog X.w) X.A (setItem ov iv u) (λ_ s'=> ∃H',Inv X pins σ H' s'/\Q H') X.xe s
section
variable{X:Cx}{pos:Pos}
def qD5(i:Nat):TG:=λv σ H Q=>Q (σ.set i<|some v) H
def jB{i:Nat}{x:Str}(F:X.N.Nodup)(hi:X.N[i]?=some x)(J:Loc X.env.scope x)(hf:X.fn x=true\/X.env.scope.names.lookup x=some .local:=by trivial):PG X (.Name x pos) (qD5 i):=by intro pins s σ H v u Q I r h;show wpAny_assign_Name (qEk I F hi J r (λs' I'=>#[_,H,I',h]) hf)
noncomputable def jBq:TGs:=λvs σ H Q=>vs=[]/\Q σ H
inductive qQt(t:TG)(u:TGs)(vs:LV)(σ:L2.St)(H:Hp)(Q:L2.St->Hp->Prop):Prop
|mk v r (_:vs=v::r) (_:t v σ H λσ' H'=>u r σ' H' Q)
def qF7:PGs X [] jBq:=by intro pins s σ H vs F Q I r h;let#[e,h]:=h;subst e;cases r;show assignInOrder_nil #[σ,H,I,h]
def jr{e:Expr}{es:List Expr}{t:TG}{u:TGs}(h1:PG X e t)(h2:PGs X es u)
 (hs:(assignEach (e::es) X.env).map (·.2)=assign e X.env::(assignEach es X.env).map (·.2):=by rfl):PGs X (e::es) (qQt t u):=by
 intro pins s σ H vs us Q I r h;let#[v,vr,e1,h]:=h;subst e1;cases r with
 |cons r rr=>
  rw[hs];show assignInOrder_cons (thn (h1 pins s σ H _ _ _ I r h) λ_ s1 #[F,H1,J,q1]=>?_);show h2 pins s1 F H1 _ _ Q J rr q1
inductive jBn(K:Fg)(n:Nat)(t:TGs)(v:V)(σ:L2.St)(H:Hp)(Q:L2.St->Hp->Prop):Prop
|mk a xs (_:v=.ref a) (_:SqT K H a xs) (_:xs.length=n) (_:t xs σ H Q)
def qMc{es:List Expr}{k:Nat}{t:TGs}{n:Nat}(hc:X.calm=true)(h:PGs X es t)
 (hn:(assignEach es X.env).length=n:=by rfl) (J:(assignEach es X.env).findIdx? (·.1)=none:=by rfl):PG X (.Tuple es k pos) (jBn X.K n t):=by
 intro pins s σ H v u Q I r F;let#[a,xs,e1,hq,hl,F]:=F;subst e1;cases r;let#[aa,rv,ht,hz]:=I.tuple hq;show assign_Tuple_tuple (I.ok.hd hc) ht (by simp[hn,<-hl,rv.length]) J λh' hx=>?_;have I1:Inv X pins σ H {s with heap:=h'}:=I.kept (t':=s.toks) λb o e=>hx b o (Yo<|YV e) e;show h pins _ σ H xs _ Q I1 ( ~~~rv) F
def jCe(to ti:TE)(t:qZ6):TG:=λv σ H Q=>to σ H λo H1=>ti σ H1 λi H2=>t o i v H2 λH3=>Q σ H3
def qPj{o i:Expr}{to ti:TE}{t:qZ6}(ho:PE X o to)(hi:PE X i ti)(hs:jBo X t)
 (ha:∀v,assign (.Subscript o i pos) X.env v=(do
   let F<-holding [v] (eval o X.env)
   let J<-holding [v,F] (eval i X.env)
   standAt pos
   holding [v,F,J] (setItem F J v)
   release [v,F,J] []):=by intro _;rfl):PG X (.Subscript o i pos) (jCe to ti t):=by
 intro pins s σ H v u Q I r h;rw[ha];show YJ (wpAny_holding (tW (ho pins s σ H _ I h) λF s1 x H1 I1 r1 q1=>?_));show YJ (wpAny_holding (tW (hi pins s1 σ H1 _ I1 q1) λJ s2 y H2 I2 r2 q2=>?_));show YJ (wpAny_standAt (YJ (wpAny_holding (thn (hs pins s2 σ H2 x y v F J u _ I2 r1 r2 r q2) λ_ s3 #[H3,I3,q3]=>?_))));show wpAny_release #[σ,H3,I3,q3]
def qZo(te:TE)(g:TG):TS:=λD σ H=>te σ H λx H1=>g x σ H1 D.nx
def qDk{tg e:Expr}{te:TE}{g:TG}(F:PE X e te)(hg:PG X tg g)(hs:swapsWithSole [tg] e pos.line X.env=pure false:=by rfl)(hw:swappedStores [tg] e X.env=pure none:=by rfl)
 (h1:(assignEach [tg] X.env).map (·.2)=[assign tg X.env]:=by rfl):PS X (.Assign [tg] e pos) (qZo te g):=by
 intro pins s σ H D I h;show wpAny_Assign_stores (tW (F pins s σ H _ I h) λv s1 x H1 J r1 q1=>?_) hs hw;rw[h1];show thn (hg pins s1 σ H1 x v _ J r1 q1) λ_ s2 q=>q
def qSr{i:Nat}{x:Str}{e:Expr}{te:TE}{pos':Pos}(hN:X.N.Nodup)(hi:X.N[i]?=some x)(hx:Loc X.env.scope x)(F:PE X e te)(hs:swapsWith e (some<|.Name x pos') pos.line X.env=pure false:=by rfl)(hf:X.fn x=true\/X.env.scope.names.lookup x=some .local:=by trivial):
 PS X (.Assign [.Name x pos'] e pos) (qZo te<|qD5 i):=by
 intro pins s σ H D I h;show wpAny_Assign_Name (tW (F pins s σ H _ I h) λv s1 y H1 J r1 q1=>?_) hs;show qEk J hN hi hx r1 (λs2 I2=>#[_,H1,I2,q1]) hf
end
section
variable{X:Cx}{pos:Pos}
def qWa(c:TT)(tb:TS):TS:=λD σ H=> ∃W:Nat->St->Hp->Prop,(∃m,W m σ H)/\∀m σ H,W m σ H->
 c σ H λb H1=>if b=true then ∃N:St->Hp->Prop,(∀σ' H',N σ' H'->∃m',m'<m/\W m' σ' H')/\tb {D with nx:=N,ct:=N,bk:=D.nx} σ H1 else D.nx σ H1
def qHp{c:Expr}{aa:List Stmt}{tc:TT}{tb:TS}(hp:PassesOwn (model X.prog X.w) X.A X.env X.xe)(hc:PT X c tc)(hb:PSs X aa tb):PS X (.While c aa [] pos) (qWa tc tb):=by
 intro pins s σ H D I h;let#[W,#[m0,w0],ac]:=h;show wpAny_While (codeAny_whileLoop (λn s'=> ∃σ' H',Inv X pins σ' H' s'/\W n σ' H') ?_ m0 #[σ,H,I,w0]);rintro n s1 ⟨J,H1,I1,w1⟩;show wpAny_passesOwn hp (thn (hc pins s1 J H1 _ I1<|ac n J H1 w1) λb s2 #[H2,I2,q2]=>?_);cases b with
 |true=>
  let#[N,hN,q2]:=q2;rw[YB rfl];show wpAny_passesOwn hp (thn (hb pins s2 J H2 _ I2 q2) λf s3 q3=>?_);cases f with
  |next=>
   let#[F,H3,I3,n3]:=q3;let#[m',hm,w3]:=hN F H3 n3;show#[m',hm,F,H3,I3,w3]
  |cont=>
   let#[F,H3,I3,n3]:=q3;let#[m',hm,w3]:=hN F H3 n3;show#[m',hm,F,H3,I3,w3]
  |brk=>show q3
  |ret v=>show q3
 |false=>
  rw[YA YZ];show wpAny_execs_nil #[J,H2,I2,q2]
end
structure It where
 go:Nat->Hp->Prop
 yld:Nat->Hp->V->Hp->Prop
 stop:Nat->Hp->Prop
def qT1(X:Cx)(pins:LO)(H:Hp)(b:Addr):Prop:=
 H b=none/\b≠X.env.locals/\b∉X.fs/\(b∈X.ex\/X.s₀.heap.objs.size<=b)/\(∀x c,X.env.cells.lookup x=some c->c≠b)/\∀p∈X.pn++pins,p.1≠b
def Inv.fpOk{X:Cx}{pins:LO}{σ:St}{H H':Hp}{s:Shared}{b:Addr}(I:Inv X pins σ H s)(F:s.heap.objs.size<=b)(hn:H' b=none):qT1 X pins H' b:=by
 show#[hn,Nat.ne_of_gt<|YR I.lt F,I.nofs F,.inr<|ZD I.sz F,λx c e z=>?_,λp J z=>?_]
 . let#[v,q]:=I.cell x c e
   show YC (YR q.lt (by rw[z];show F)) (XG _)
 . show YC (YR (YV (I.pin p J).1) (by rw[z];show F)) (XG _)
structure qYc(P:Program)(w:World)(K:Fg)(tg:Expr)(J:It)(fp:List Addr)(it:Addr)(tn:Nat->Heap->Prop):Prop where
 mem:it∈fp
 obj:∀i h,tn i h->∀b∈fp,∃o,h.get? b=some o/\∀v,o.data≠ .cell v
 keep:∀i h h',tn i h->(∀b∈fp,∀o,h.get? b=some o->h'.get? b=some o)->tn i h'
 item:∀(X:Cx),X.prog=P->X.w=w->X.K=K->X.calm=true->∀(i:Nat) (pins:LO) (s:Shared) (σ:St) (H:Hp) (E:Ba),Inv X pins σ H s->(∀b∈fp,qT1 X pins H b)->tn i s.heap->J.go i H->
  wpAny (model P w) X.A (pyNext (.ref it)) (λr s1=> ∃u,r=some u/\
   wpAny (model P w) X.A (letOwnedTupleGo tg (.ref it) u) (λ_ s2=> ∃x H',Inv X pins σ H' s2/\RelV x u/\J.yld i H x H'/\tn (i+1) s2.heap/\∀b∈fp,H' b=none) E s1) E s
 done:∀(X:Cx),X.prog=P->X.w=w->X.K=K->X.calm=true->∀(i:Nat) (pins:LO) (s:Shared) (σ:St) (H:Hp) (E:Ba),Inv X pins σ H s->(∀b∈fp,qT1 X pins H b)->tn i s.heap->J.stop i H->
  wpAny (model P w) X.A (pyNext (.ref it)) (λr s1=>r=none/\Inv X pins σ H s1) E s
 self:∀(A:Around) (i:Nat) (s:Shared) (Q:Ba) (E:Ba),tn i s.heap->Q (.ref it) s->wpAny (model P w) A (pyIter (.ref it)) Q E s
abbrev TI:=St->Hp->(It->Hp->Prop)->Prop
def PIE(X:Cx)(pins:LO)(σ:St)(tg:Expr)(R:It->Hp->Prop)(itv:Value)(s2:Shared):Prop:=
 ∃(it:Addr) (fp:List Addr) (tn:Nat->Heap->Prop) (J:It) (H':Hp),itv=.ref it/\Inv X pins σ H' s2/\qYc X.prog X.w X.K tg J fp it tn/\tn 0 s2.heap/\(∀b∈fp,qT1 X pins H' b)/\R J H'
def PI(X:Cx)(tg iter:Expr)(wi:TI):Prop:=
 ∀(pins:LO) (s:Shared) (σ:St) (H:Hp) (R:It->Hp->Prop),Inv X pins σ H s->wi σ H R->
  wpAny (model X.prog X.w) X.A (eval iter X.env) (λv s1=>wpAny (model X.prog X.w) X.A (pyIter v) (PIE X pins σ tg R) X.xe s1) X.xe s
def qT9{M:Model}{A:Around}{E:Ba}{s:Shared}{tg:Expr}{it:Addr}{u:Value}{o:Obj}{n:String}{vs:Array Value}{Q:Unit->Shared->Prop}(J:s.heap.get? it=some o)(hc:o.cls=.type n)(hd:o.data=.fields vs)
 (hn:["enumerate","zip","dict_itemiterator","dict_reverseitemiterator","odict_iterator","itertools.zip_longest","itertools.pairwise"].contains n=false) (F:Q Unit.unit s):wpAny M A (letOwnedTupleGo tg (.ref it) u) Q E s:=by
 unfold letOwnedTupleGo;cases tg <;> first
  |show YK F
  |(cases u <;> first
     |show YK F
     |(show YJ (wpAny_load J ?_)
       rw[hc,hd];change wpAny M A (if (["enumerate","zip","dict_itemiterator","dict_reverseitemiterator","odict_iterator","itertools.zip_longest","itertools.pairwise"].contains n && vs[0]?==some (rawInt _))=true then _ else _) Q E s;rw[YA (by intro h;rw[hn,Bool.false_and]at h;cases h)];show YK F))
noncomputable def Itl(K:Fg)(a:Addr):It:=
 #[λi H=> ∃xs x,SqL K H a xs/\xs[i]?=some x,λi H x H'=>H'=H/\∀xs,SqL K H a xs->xs[i]?=some x,λi H=> ∃xs,SqL K H a xs/\xs.length<=i]
noncomputable def Itt(K:Fg)(a:Addr):It:=
 #[λi H=> ∃xs x,SqT K H a xs/\xs[i]?=some x,λi H x H'=>H'=H/\∀xs,SqT K H a xs->xs[i]?=some x,λi H=> ∃xs,SqT K H a xs/\xs.length<=i]
noncomputable def Itr(lo:Int)(n:Nat):It:=#[λi _=>i<n,λi H x H'=>H'=H/\x=.int (lo+i),λi _=>n<=i]
def qSk{P:Program}{w:World}{K:Fg}{tg:Expr}(a it:Addr):qYc P w K tg (Itl K a) [it] it (λi h=>h.IsListIter it a i) where
 mem:=#[]
 obj:=λi h st b F=>by
  have e:b=it:= ~~~F
  subst e;let#[o,e,c,d]:=st;show#[o,e,λv z=>by rw[d]at z;cases z]
 keep:=λi h h' st k=>st.at λo e=>k it #[] o e
 item:=by intro X hP hw hK hc i pins s σ H E I hf st hg;subst hP hw hK;let#[xs,x,hq,hx]:=hg;let#[aa,rv,p,hz]:=I.list hq;let#[u,hu,ru]:=rv.get hx;let#[f0,f1,f2,f3,f4,f5]:=hf it #[];show wpAny_pyNext_list_item st p.isList (x:=u) ( ~~~hu) λh' J sb=>?_;have I1:Inv X pins σ H {s with heap:=h'}:=I.turned (t':=s.toks) (λb o F e=>(sb.2 b F).trans e) f0 f1 f3 f4 f5;let#[o,e,c,d]:=id J;show#[u,O,qT9 (s:={s with heap:=h'}) e c d #[] #[x,H,I1,ru,#[O,λys hy=>by rw[I.list_inj hy hq];show hx],J,λb F=>(hf b F).1]]
 done:=by intro X hP hw hK hc i pins s σ H E I hf st hg;subst hP hw hK;let#[xs,hq,hx]:=hg;let#[aa,rv,p,hz]:=I.list hq;let#[f0,f1,f2,f3,f4,f5]:=hf it #[];have hl:=rv.length;show wpAny_pyNext_list_end (I.ok.hd hc) st p.isList (by simp;lia) λh' eb=>#[O,I.turned (t':=s.toks) (λb o F e=>eb b o F e) f0 f1 f3 f4 f5]
 self:=λ_ _ _ _ _ st h=>wpAny_pyIter_listiter st h
def qQi{P:Program}{w:World}{K:Fg}{tg:Expr}(a it:Addr):qYc P w K tg (Itt K a) [it] it (λi h=>h.IsTupleIter it a i) where
 mem:=#[]
 obj:=λi h st b J=>by
  have e:b=it:= ~~~J
  subst e;let#[o,e,c,d]:=st;show#[o,e,λv z=>by rw[d]at z;cases z]
 keep:=λi h h' st k=>st.at λo e=>k it #[] o e
 item:=by intro X hP hw hK hc i pins s σ H E I hf st hg;subst hP hw hK;let#[xs,x,hq,hx]:=hg;let#[F,rv,p,hz]:=I.tuple hq;let#[u,hu,ru]:=rv.get hx;let#[f0,f1,f2,f3,f4,f5]:=hf it #[];show wpAny_pyNext_tuple_item st (show s.heap.IsTuple a F.toArray from p) (x:=u) ( ~~~hu) λh' aa sb=>?_;have I1:Inv X pins σ H {s with heap:=h'}:=I.turned (t':=s.toks) (λb o J e=>(sb.2 b J).trans e) f0 f1 f3 f4 f5;let#[o,e,c,d]:=id aa;show#[u,O,qT9 (s:={s with heap:=h'}) e c d #[] #[x,H,I1,ru,#[O,λys hy=>by rw[I.tuple_inj hy hq];show hx],aa,λb J=>(hf b J).1]]
 done:=by intro X hP hw hK hc i pins s σ H E I hf st hg;subst hP hw hK;let#[xs,hq,hx]:=hg;let#[F,rv,p,hz]:=I.tuple hq;let#[f0,f1,f2,f3,f4,f5]:=hf it #[];have hl:=rv.length;show wpAny_pyNext_tuple_end (I.ok.hd hc) st (show s.heap.IsTuple a F.toArray from p) (by simp;lia) λh' eb=>#[O,I.turned (t':=s.toks) (λb o J e=>eb b o J e) f0 f1 f3 f4 f5]
 self:=λ_ _ _ _ _ st h=>wpAny_pyIter_tupleiter st h
def qQj{P:Program}{w:World}{K:Fg}{tg:Expr}(it:Addr)(lo:Int)(n:Nat):qYc P w K tg (Itr lo n) [it] it (λi h=>IsRangeIter h it (lo+(i:Nat)*1) ((n:Int)-(i:Nat)) 1) where
 mem:=#[]
 obj:=λi h st b F=>by
  have e:b=it:= ~~~F
  subst e;show#[_,st,λv z=>by have z':Data.fields _=Data.cell v:=z;cases z']
 keep:=λi h h' st k=>k it #[] _ st
 item:=by intro X hP hw hK hc i pins s σ H E I hf st hg;subst hP hw hK;let#[f0,f1,f2,f3,f4,f5]:=hf it #[];have W:=Walks.range (prog:=X.prog) (w:=X.w) (I.ok.hd hc) it lo 1 n;show W.item i s _ _ hg st λv h' tk hv J kk=>?_;let#[t,rfl]:=hv;have I1:Inv X pins σ H {s with heap:=h',toks:=tk}:=I.turned (λb o F e=>kk b o ( ~~~F) e) f0 f1 f3 f4 f5;show#[_,O,qT9 (s:={s with heap:=h',toks:=tk}) (n:="range_iterator") J rfl rfl #[] #[.int<|lo+i,H,I1,#[t,?_],#[O,O],J,λb F=>(hf b F).1]];rw[Int.mul_one]
 done:=by intro X hP hw hK hc i pins s σ H E I hf st hg;subst hP hw hK;let#[f0,f1,f2,f3,f4,f5]:=hf it #[];show wpAny_pyNext_range_end (I.ok.hd hc) st (by have:n<=i:=hg;lia) λh' eb=>#[rfl,I.turned (t':=s.toks) (λb o F e=>eb b o F e) f0 f1 f3 f4 f5]
 self:=λ_ _ _ _ _ st h=>wpAny_pyIter_rangeiter st h
section
variable{X:Cx}{tg:Expr}
inductive qZy(K:Fg)(R:It->Hp->Prop)(x:V)(H1:Hp):Prop
|mk a (_:x=.ref a) (_:(∃xs,SqL K H1 a xs)) (_:R (Itl K a) H1)
def jAf(K:Fg)(tl:TE):TI:=λσ H R=>tl σ H λx H1=>qZy K R x H1
inductive jAj(K:Fg)(R:It->Hp->Prop)(x:V)(H1:Hp):Prop
|mk a (_:x=.ref a) (_:(∃xs,SqT K H1 a xs)) (_:R (Itt K a) H1)
def jCa(K:Fg)(tl:TE):TI:=λσ H R=>tl σ H λx H1=>jAj K R x H1
def jh{l:Expr}{tl:TE}(hl:PE X l tl):PI X tg l (jAf X.K tl):=by
 intro pins s σ H R I h;show tW (hl pins s σ H _ I h) λv s1 x H1 F r1 q1=>?_;let#[a,e,#[xs,J],q]:=q1;subst e;cases r1;let#[aa,rv,p,hz]:=F.list J;show wpAny_pyIter_list p.isList ?_;show#[s1.heap.objs.size,[s1.heap.objs.size],_,_,H1,O,F.kept (t':=s1.toks) λb o e=>YM _ e,qSk a _,#[_,Yn _ rfl,O,O],λb hb=>?_,q];have e:b=s1.heap.objs.size:= ~~~hb
 subst e;show F.fpOk (YI _) (F.hok.fresh<|YI _)
def qV8{l:Expr}{tl:TE}(hl:PE X l tl):PI X tg l (jCa X.K tl):=by
 intro pins s σ H R I h;show tW (hl pins s σ H _ I h) λv s1 x H1 F r1 q1=>?_;let#[a,e,#[xs,hq],q]:=q1;subst e;cases r1;let#[J,rv,p,hz]:=F.tuple hq;show wpAny_pyIter_tuple (show s1.heap.IsTuple a J.toArray from p) ?_;show#[s1.heap.objs.size,[s1.heap.objs.size],_,_,H1,O,F.kept (t':=s1.toks) λb o e=>YM _ e,qQi a _,#[_,Yn _ rfl,O,O],λb hb=>?_,q];have e:b=s1.heap.objs.size:= ~~~hb
 subst e;show F.fpOk (YI _) (F.hok.fresh<|YI _)
def qOm{pins:LO}{σ:St}{H:Hp}{s:Shared}{R:It->Hp->Prop}{E:Ba}{lo hi:Int}{t u v:Tok}{J:Nat}(I:Inv X pins σ H s)(h1: -(2 ^ 62)<=lo)(h2:lo<2 ^ 62)(h3: -(2 ^ 62)<=hi)(h4:hi<2 ^ 62)
 (q:R (Itr lo (hi-lo).toNat) H):wpAny (model X.prog X.w) X.A (pyIter<|.ref s.heap.objs.size) (PIE X pins σ tg R) E {s with heap:=s.heap.push {cls:=.type "range",data:=.fields %[.int lo t,.int hi u,.int 1 v|0]},toks:=J}:=by
 show wpAny_pyIter_range (IsRange.new ..) (small_one h1 h2 h3 h4) ?_;have F:Inv X pins σ H {s with heap:=s.heap.push {cls:=.type "range",data:=.fields %[.int lo t,.int hi u,.int 1 v|0]},toks:=J}:=I.kept λb o e=>YM _ e;show#[(s.heap.push {cls:=.type "range",data:=.fields %[.int lo t,.int hi u,.int 1 v|0]}).objs.size,[(s.heap.push {cls:=.type "range",data:=.fields %[.int lo t,.int hi u,.int 1 v|0]}).objs.size],_,_,H,O,
  F.kept (t':=J) λb o e=>YM _ e,qQj _ lo (hi-lo).toNat,?_,λb hb=>?_,q]
 . have e1:lo+((0:Nat):Int)*1=lo:=#[]
   have e2:(((hi-lo).toNat:Nat):Int)-((0:Nat):Int)=Builtin.Range.rangeSize lo hi 1:=by rw[rangeSize_one];split <;> lia
   change IsRangeIter _ _ (lo+((0:Nat):Int)*1) ((((hi-lo).toNat:Nat):Int)-((0:Nat):Int)) 1;rw[e1,e2];show Yn _ rfl
 . have e:b=(s.heap.push {cls:=.type "range",data:=.fields %[.int lo t,.int hi u,.int 1 v|0]}).objs.size:= ~~~hb
   subst e;show F.fpOk (YI _) (F.hok.fresh<|YI _)
def jAq(ta:TA):TI:=λσ H R=>ta σ H λvs H1=> ∃j:Int,vs=[.int j]/\ -(2 ^ 62)<=j/\j<2 ^ 62/\R (Itr 0 j.toNat) H1
def jA9(ta:TA):TI:=λσ H R=>ta σ H λvs H1=> ∃i j:Int,vs=[.int i,.int j]/\(-(2 ^ 62)<=i/\i<2 ^ 62/\ -(2 ^ 62)<=j/\j<2 ^ 62)/\R (Itr i (j-i).toNat) H1
def qE0{a:Expr}{ta:TA}{p pos:Pos}(hg:Gl X "range")(hm:X.mg "range"=none)(J:PA X [a] ta)(hs:starEach [a] X.env=[(false,eval a X.env)]:=by rfl):PI X tg (.Call (.Name "range" p) [a] [] pos) (jAq ta):=by
 intro pins s σ H R I h;show Call_ (qDe I hg hm boot_range (PyProof.Rows.callWith_type1 (tW (J pos pins s σ H _ I h) λus s1 vs H1 I1 r1 F=>?_) hs rfl));let#[j,e,F,q2,q]:=F;subst e;cases r1 with
 |cons r rr=>
  cases rr;let#[t,rfl]:=r;show call_range_1 (qOm I1 () () F q2<| ~~~q)
def qSu{a b:Expr}{ta:TA}{p pos:Pos}(hg:Gl X "range")(hm:X.mg "range"=none)(ha:PA X [a,b] ta)(hs:starEach [a,b] X.env=[(false,eval a X.env),(false,eval b X.env)]:=by rfl)(F:starEach [b] X.env=[(false,eval b X.env)]:=by rfl):
 PI X tg (.Call (.Name "range" p) [a,b] [] pos) (jA9 ta):=by
 intro pins s σ H R I h;show Call_ (qDe I hg hm boot_range (PyProof.Rows.callWith_type1 (tW (ha pos pins s σ H _ I h) λus s1 vs H1 I1 r1 J=>?_) (by rw[hs,F]) (by rw[F];rfl)));let#[i,j,e,#[J,q2,q3,q4],q]:=J;subst e;cases r1 with
 |cons r rr=>
  cases rr with
  |cons r' rr=>
   cases rr;let#[t,rfl]:=r;let#[t',rfl]:=r';show call_range_2<|qOm I1 J q2 q3 q4 q
def jCf(wi:TI)(g:TG)(tb:TS):TS:=λD σ H=>wi σ H λJ H1=> ∃W:Nat->Nat->St->Hp->Prop,(∃m,W 0 m σ H1)/\∀i m σ H,W i m σ H->
 (J.stop i H/\D.nx σ H)\/(J.go i H/\∃N:St->Hp->Prop,(∀σ' H',N σ' H'->∃m',m'<m/\W (i+1) m' σ' H')/\∀x H',J.yld i H x H'->g x σ H' λσ2 H2=>tb {D with nx:=N,ct:=N,bk:=D.nx} σ2 H2)
noncomputable def qK0(fp:List Addr)(h:Heap):LO:=fp.filterMap λb=>(h.get? b).map λo=>(b,o)
def qCt{F:List Addr}{h:Heap}{b:Addr}{o:Obj}(J:b∈F)(e:h.get? b=some o):(b,o)∈qK0 F h:=List.mem_filterMap.mpr #[b,J,by rw[e];rfl]
def qRq{F:List Addr}{h:Heap}{p:Addr×Obj}(J:p∈qK0 F h):p.1∈F/\h.get? p.1=some p.2:=by
 let#[b,hb,e]:=List.mem_filterMap.mp J;cases q:h.get? b with
 |none=>rw[q]at e;cases e
 |some o=>
  rw[q]at e;have e':(b,o)=p:=Yb e;subst e';show#[hb,q]
def Inv.pinned{pins:LO}{σ:St}{H:Hp}{s:Shared}{F:List Addr}(I:Inv X pins σ H s)(hf:∀b∈F,qT1 X pins H b)(ho:∀b∈F,∃o,s.heap.get? b=some o/\∀v,o.data≠ .cell v):Inv X (pins++qK0 F s.heap) σ H s:=
 I.pins_of λp hp=>(YO.mp hp).elim (λz=>I.pin p<|Yf _ z) λz=>by let#[hb,e]:=qRq z;let#[f0,f1,f2,_]:=hf p.1 hb;let#[o,J,d]:=ho p.1 hb;rw[e]at J;cases J;show#[e,f0,f1,f2,d]
def Inv.unpinned{pins pl:LO}{σ:St}{H:Hp}{s:Shared}(I:Inv X (pins++pl) σ H s):Inv X pins σ H s:=I.pins_of λp F=>I.pin p (Yf _<|Yq _ F)
def zZ{ac:Expr}{af:List Stmt}{wi:TI}{g:TG}{tb:TS}{pos:Pos}(hp:PassesOwn (model X.prog X.w) X.A X.env X.xe)(hc:X.calm=true)(hi:PI X tg ac wi)(hg:PG X tg g)(hb:PSs X af tb)
 (hs:∀x,foldedSetIterable ac X.env x=pure x:=by intro _;rfl):PS X (.For tg ac af [] pos) (jCf wi g tb):=by
 intro pins s σ H D I h;show wpAny_For (thn (hi pins s σ H _ I h) λv s1 h1=>thn h1 λaq s2 h2=>?_) hs;let#[it,fp,tn,J,H2,e,I2,T,am,f2,W,#[m0,w0],al]:=h2;subst e;have ad:∀{H':Hp},(∀b∈fp,H' b=none)->∀b∈fp,qT1 X pins H' b:=λhn b hb=>#[hn b hb,(f2 b hb).2];show codeAny_forLoop_any (λn s'=> ∃i σ' H',Inv X pins σ' H' s'/\tn i s'.heap/\(∀b∈fp,H' b=none)/\W i n σ' H') ?_ m0 #[0,σ,H2,I2,am,λb hb=>(f2 b hb).1,w0];rintro n s3 ⟨i,ae,H3,I3,ak,ah,w3⟩;rcases al i n ae H3 w3 with ⟨aj,qn⟩|⟨go,N,hN,ai⟩
 . show wpAny_passesOwn hp (thn (T.done X rfl rfl rfl hc i pins s3 ae H3 X.xe I3 (ad ah) ak aj) λr s4 #[hr,I4]=>?_)
   subst hr;show wpAny_execs_nil #[ae,H3,I4,qn]
 . show wpAny_passesOwn hp (thn (T.item X rfl rfl rfl hc i pins s3 ae H3 X.xe I3 (ad ah) ak go) λr s4 #[u,hr,h4]=>?_)
   subst hr;show wpAny_passesOwn hp (thn h4 λ_ s5 #[x,H5,I5,r5,y5,ag,an]=>?_);have ap:=I5.pinned (ad an)<|T.obj _ _ ag;show wpAny_passesOwn hp (thn (hg _ s5 ae H5 x u _ ap r5<|ai x H5 y5) λ_ s6 #[ao,H6,I6,q6]=>?_);show wpAny_passesOwn hp (thn (hb _ s6 ao H6 _ I6 q6) λf s7 q7=>?_);have aa:∀{F:St} {H7:Hp},Inv X (pins++qK0 fp s5.heap) F H7 s7->N F H7->∃m,m<n/\∃i σ' H',Inv X pins σ' H' s7/\tn i s7.heap/\(∀b∈fp,H' b=none)/\W i m σ' H':=λ{F H7} I7 n7=>by let#[m',hm,w7]:=hN F H7 n7;show#[m',hm,i+1,F,H7,I7.unpinned,T.keep _ _ _ ag λb hb o e=>(I7.pin (b,o)<|Yf _ (Yf _<|qCt hb e)).1,λb hb=>?_,w7];let#[o,e,d]:=T.obj _ _ ag b hb;show(I7.pin (b,o)<|Yf _ (Yf _<|qCt hb e)).2.1
   cases f with
   |next=>let#[F,H7,I7,n7]:=q7;show aa I7 n7
   |cont=>let#[F,H7,I7,n7]:=q7;show aa I7 n7
   |brk=>let#[F,H7,I7,q7]:=q7;show#[F,H7,I7.unpinned,q7]
   |ret v=>let#[x7,F,H7,I7,r7,q7]:=q7;show#[x7,F,H7,I7.unpinned,r7,q7]
end
def xY{K:Fg}{a:Addr}{xs:LV}{g:TG}{tb:TS}{D:qPt}{σ:St}{H:Hp}(F:Nat->St->Hp->Prop)(h0:F 0 σ H)(hl:∀i σ H,i<=xs.length->F i σ H->SqL K H a xs)
 (hs:∀i x σ H,xs[i]?=some x->F i σ H->g x σ H λJ H2=>tb {D with nx:=F<|i+1,ct:=F<|i+1,bk:=D.nx} J H2) (hd:∀σ H,F xs.length σ H->D.nx σ H):
 ∃W:Nat->Nat->St->Hp->Prop,(∃m,W 0 m σ H)/\∀i m σ H,W i m σ H->
  ((Itl K a).stop i H/\D.nx σ H)\/((Itl K a).go i H/\∃N:St->Hp->Prop,(∀σ' H',N σ' H'->∃m',m'<m/\W (i+1) m' σ' H')/\∀x H',(Itl K a).yld i H x H'->g x σ H' λJ H2=>tb {D with nx:=N,ct:=N,bk:=D.nx} J H2):=by
 show#[λi m σ H=>m=xs.length-i/\i<=xs.length/\F i σ H,#[xs.length,#[],ZT _,h0],?_];rintro i m σ H ⟨rfl,hi,p⟩;have q:=hl i σ H hi p;by_cases aa:i<xs.length
 . show .inr #[#[xs,xs[i],q,by simp[aa]],F<|i+1,λσ' H' p'=>#[xs.length-(i+1),(),O,aa,p'],λx H' y=>?_]
   let#[e,y]:=y;subst e;show hs i x σ _ (y xs q) p
 . have e:i=xs.length:=()
   subst e;show .inl #[#[xs,q,YI _],hd σ H p]
def qF8{lo:Int}{n:Nat}{g:TG}{tb:TS}{D:qPt}{σ:St}{H:Hp}(F:Nat->St->Hp->Prop)(h0:F 0 σ H)
 (hs:∀i σ H,i<n->F i σ H->g (.int<|lo+i) σ H λJ H2=>tb {D with nx:=F<|i+1,ct:=F<|i+1,bk:=D.nx} J H2) (hd:∀σ H,F n σ H->D.nx σ H):
 ∃W:Nat->Nat->St->Hp->Prop,(∃m,W 0 m σ H)/\∀i m σ H,W i m σ H->
  ((Itr lo n).stop i H/\D.nx σ H)\/((Itr lo n).go i H/\∃N:St->Hp->Prop,(∀σ' H',N σ' H'->∃m',m'<m/\W (i+1) m' σ' H')/\∀x H',(Itr lo n).yld i H x H'->g x σ H' λJ H2=>tb {D with nx:=N,ct:=N,bk:=D.nx} J H2):=by
 show#[λi m σ H=>m=n-i/\i<=n/\F i σ H,#[n,#[],ZT _,h0],?_];rintro i m σ H ⟨rfl,hi,p⟩;by_cases aa:i<n
 . show .inr #[aa,F<|i+1,λσ' H' p'=>#[n-(i+1),(),O,aa,p'],λx H' y=>?_]
   let#[e,y]:=y;subst e y;show hs i σ _ aa p
 . have e:i=n:=()
   subst e;show .inl #[YI _,hd σ H p]
def qU0{c:TT}{tb:TS}{D:qPt}{σ:St}{H:Hp}(F:St->Hp->Prop)(μ:St->Hp->Nat)(h0:F σ H)
 (hs:∀σ H,F σ H->c σ H λb H1=>if b=true then tb {D with nx:=λσ' H'=>F σ' H'/\μ σ' H'<μ σ H,ct:=λσ' H'=>F σ' H'/\μ σ' H'<μ σ H,bk:=D.nx} σ H1 else D.nx σ H1)
 (J:∀σ H Q Q',(∀b H1,Q b H1->Q' b H1)->c σ H Q->c σ H Q'):qWa c tb D σ H:=by
 show#[λm σ H=>m=μ σ H/\F σ H,#[_,O,h0],?_];rintro m σ H ⟨rfl,p⟩;show J σ H _ _ (λb H1 q=>?_)<|hs σ H p;cases b with
 |true=>show#[_,λσ' H' #[p',l]=>#[_,l,rfl,p'],q]
 |false=>show q
abbrev R2:=V->V->Hp->VK->Prop
def OpR(X:Cx)(f:Value->Value->Sem Value)(r:R2):Prop:=
 ∀(pins:LO) (s:Shared) (σ:St) (H:Hp) (x y:V) (v u:Value) (Q:VK),Inv X pins σ H s->RelV x v->RelV y u->r x y H Q->
  wpAny (model X.prog X.w) X.A (f v u) (EP X pins σ Q) X.xe s
def UnR(X:Cx)(f:Value->Sem Value)(r:V->Hp->VK->Prop):Prop:=
 ∀(pins:LO) (s:Shared) (σ:St) (H:Hp) (x:V) (v:Value) (Q:VK),Inv X pins σ H s->RelV x v->r x H Q->
  wpAny (model X.prog X.w) X.A (f v) (EP X pins σ Q) X.xe s
def vM(X:Cx)(f:Value)(r:LV->Hp->VK->Prop):Prop:=
 ∀(pins:LO) (s:Shared) (σ:St) (H:Hp) (xs:LV) (us:LW) (Q:VK),Inv X pins σ H s->Vals xs us->r xs H Q->
  wpAny (model X.prog X.w) X.A (call f us) (EP X pins σ Q) X.xe s
def tOp(r:R2)(ta tb:TE):TE:=λσ H Q=>ta σ H λx H1=>tb σ H1 λy H2=>r x y H2 Q
def tUn(r:V->Hp->VK->Prop)(ta:TE):TE:=λσ H Q=>ta σ H λx H1=>r x H1 Q
inductive rI(C:Int->Int->Prop)(g:Int->Int->V)(x:V)(y:V)(H:Hp)(Q:VK):Prop
|mk i j (_:x=.int i) (_:y=.int j) (_:C i j) (_:Q (g i j) H)
inductive rI0(g:Int->Int->V)(x:V)(y:V)(H:Hp)(Q:VK):Prop
|mk i j (_:x=.int i) (_:y=.int j) (_:Q (g i j) H)
inductive rU(g:Int->V)(x:V)(H:Hp)(Q:VK):Prop
|mk i (_:x=.int i) (_:Q (g i) H)
section
variable{X:Cx}{a b c:Expr}{ta tb tc:TE}{pos:Pos}
def jAh(ha:PE X a ta)(hb:PE X b tb){pins:LO}{s:Shared}{σ:St}{H:Hp}{R:V->V->Hp->Prop}(I:Inv X pins σ H s)
 (h:ta σ H λx H1=>tb σ H1 λy H2=>R x y H2) {Q:Ba} {f:Value->Value->Sem Value}
 (hf:∀v u s2 x y H2,Inv X pins σ H2 s2->RelV x v->RelV y u->R x y H2->wpAny (model X.prog X.w) X.A (f v u) Q X.xe s2):
 wpAny (model X.prog X.w) X.A (eval a X.env) (λv J=>wpAny (model X.prog X.w) X.A (eval b X.env) (λu F=>wpAny (model X.prog X.w) X.A (f v u) Q X.xe F) X.xe J) X.xe s:=by
 show tW (ha pins s σ H _ I h) λv s1 x H1 I1 r1 q1=>?_;show tW (hb pins s1 σ H1 _ I1 q1) λu s2 y H2 I2 r2 q2=>?_;show hf v u s2 x y H2 I2 r1 r2 q2
def qR{F:Operator}{r:R2}(J:OpR X (binaryOp F) r)(ha:PE X a ta)(hb:PE X b tb):PE X (.BinOp a F b pos) (tOp r ta tb):=by ext;show wpAny_BinOp (jAh ha hb I h λv u s2 x y H2 I2 rx ry q=>J pins s2 σ H2 x y v u Q I2 rx ry q)
def qA0{F:UnaryOp}{r:V->Hp->VK->Prop}(J:UnR X (unaryOp F) r)(ha:PE X a ta):PE X (.UnaryOp F a pos) (tUn r ta):=by ext;show UnaryOp_ (tW (ha pins s σ H _ I h) λv s1 x H1 I1 r1 q1=>J pins s1 σ H1 x v Q I1 r1 q1)
def opI{f:Value->Value->Sem Value}{C:Int->Int->Prop}{g:Int->Int->Int}
 (F:∀(i j:Int) (t u:Tok) (s:Shared) (Q:Ba) (E:Ba),C i j->Q (.int (g i j) s.toks) {s with toks:=s.toks+1}->wpAny (model X.prog X.w) X.A (f (.int i t)<|.int j u) Q E s):
 OpR X f (rI C λi j=>.int<|g i j):=by
 intro pins s σ H x y v u Q I J ry h;let#[i,j,rfl,rfl,hc,q]:=h;let#[t,rfl]:=J;let#[t',rfl]:=ry;show F i j t t' s _ _ hc #[.int<|g i j,H,I.tok _,#[_,O],q]
def jBw{f:Value->Value->Sem Value}{g:Int->Int->Int}
 (F:∀(i j:Int) (t u:Tok) (s:Shared) (Q:Ba) (E:Ba),Q (.int (g i j) s.toks) {s with toks:=s.toks+1}->wpAny (model X.prog X.w) X.A (f (.int i t)<|.int j u) Q E s):
 OpR X f (rI0 λi j=>.int<|g i j):=by
 intro pins s σ H x y v u Q I J ry h;let#[i,j,rfl,rfl,q]:=h;let#[t,rfl]:=J;let#[t',rfl]:=ry;show F i j t t' s _ _ #[.int<|g i j,H,I.tok _,#[_,O],q]
def qZ2{f:Value->Value->Sem Value}{g:Int->Int->Bool}
 (F:∀(i j:Int) (t u:Tok) (s:Shared) (Q:Ba) (E:Ba),Q (.bool<|g i j) s->wpAny (model X.prog X.w) X.A (f (.int i t)<|.int j u) Q E s):
 OpR X f (rI0 λi j=>.bl<|g i j):=by
 intro pins s σ H x y v u Q I J ry h;let#[i,j,rfl,rfl,q]:=h;let#[t,rfl]:=J;let#[t',rfl]:=ry;show F i j t t' s _ _ #[.bl<|g i j,H,I,O,q]
def jBj(i j:Int):Prop:=0<=j/\j<=1000000/\i.natAbs<2 ^ 64
def CMul(i j:Int):Prop:=(-(2 ^ 64)<i/\i<2 ^ 64)\/(-(2 ^ 64)<j/\j<2 ^ 64)
def CMul.ok{i j:Int}(h:CMul i j):IntMulOk i j:=by
 rcases h with ⟨h1,h2⟩|⟨h1,h2⟩
 . show .of_left (intBits_le_64 h1 h2)
 . show .of_right (intBits_le_64 h1 h2)
def qx:OpR X (binaryOp .Add) (rI0 λi j=>.int<|i+j):=jBw λ_ _ _ _ _ _ _ q=>add_int q
def jU:OpR X (binaryOp .Sub) (rI0 λi j=>.int<|i-j):=jBw λ_ _ _ _ _ _ _ q=>sub_int q
def jF:OpR X (binaryOp .Mod) (rI (λ_ j=>j≠0) λi j=>.int<|i.fmod j):=opI λ_ _ _ _ _ _ _ F q=>mod_int' F q
def qWf:OpR X (binaryOp .Pow) (rI jBj λi j=>.int<|i ^ j.toNat):=opI λ_ _ _ _ _ _ _ F q=>pow_int_small F.1 F.2.1 F.2.2 q
def unI{f:Value->Sem Value}{g:Int->Int}
 (F:∀(i:Int) (t:Tok) (s:Shared) (Q:Ba) (E:Ba),Q (.int (g i) s.toks) {s with toks:=s.toks+1}->wpAny (model X.prog X.w) X.A (f<|.int i t) Q E s):
 UnR X f (rU λi=>.int<|g i):=by
 intro pins s σ H x v Q I J h;let#[i,rfl,q]:=h;let#[t,rfl]:=J;show F i t s _ _ #[.int<|g i,H,I.tok _,#[_,O],q]
def zX:UnR X (unaryOp .USub) (rU λi=>.int (-i)):=unI λ_ _ _ _ _ q=>neg_int q
end
noncomputable def jBx:V->V->Bool
 |.non,.non=>true|.non,.int _=>true|.int _,.non=>true|.non,.bl _=>true|.bl _,.non=>true|.non,.str _=>true|.str _,.non=>true
 |.int _,.int _=>true|.bl _,.bl _=>true|.str _,.str _=>true|.byt _,.byt _=>true
 |.int _,.str _=>true|.str _,.int _=>true|.bl _,.str _=>true|.str _,.bl _=>true
 |_,_=>false
inductive rEq(x:V)(y:V)(H:Hp)(Q:VK):Prop
|mk (_:jBx x y=true) (_:Q (.bl (decide (x=y))) H)
inductive rNe(x:V)(y:V)(H:Hp)(Q:VK):Prop
|mk (_:jBx x y=true) (_:Q (.bl (!decide (x=y))) H)
def qTk{i j:Int}:decide (V.int i=V.int j)=(i==j):=by rw[Yv];simp
def qVx{i j:Bool}:decide (V.bl i=V.bl j)=(i==j):=by rw[Yv];simp
def qTm{i j:Str}:decide (V.str i=V.str j)=(i==j):=by rw[Yv];simp
def qRn{i j:Array UInt8}:decide (V.byt i=V.byt j)=(i.toList==j.toList):=by rw[Yv];cases i;cases j;simp
section
variable{X:Cx}{a b c:Expr}{ta tb tc:TE}{pos:Pos}
def jS{pins:LO}{σ:St}{H:Hp}{s:Shared}{Q:VK}{k F:Bool}(I:Inv X pins σ H s)(q:Q (.bl k) H)(e:k=F):EP X pins σ Q (.bool F) s:=by subst e;show#[.bl k,H,I,O,q]
def jP:OpR X (compareOp .Eq) rEq:=by
 intro pins s σ H x y v u Q I rx F h;let#[hs,q]:=h;cases x with
 |non=>
  cases rx;cases y with
  |non=>cases F;show PySem.EqNone.eq_none_none (jS I q #[])
  |bl j=>cases F;show PySem.EqNone.eq_none_bool (jS I q #[])
  |int j=>let#[J,rfl]:=F;show PySem.EqNone.eq_none_int (jS I q #[])
  |str j=>let#[J,rfl]:=F;show PySem.EqNone.eq_none_str (jS I q #[])
  |_=>show YC (show false=true from hs) YZ
 |bl i=>
  cases rx;cases y with
  |non=>cases F;show PySem.EqNone.eq_bool_none (jS I q #[])
  |bl j=>cases F;show eq_bool (jS I q qVx)
  |str j=>let#[J,rfl]:=F;show PySem.EqMixed.eq_bool_str (jS I q #[])
  |_=>show YC (show false=true from hs) YZ
 |int i=>
  let#[t,rfl]:=rx;cases y with
  |non=>cases F;show PySem.EqNone.eq_int_none (jS I q #[])
  |int j=>let#[J,rfl]:=F;show eq_int (jS I q qTk)
  |str j=>let#[J,rfl]:=F;show PySem.EqMixed.eq_int_str (jS I q #[])
  |_=>show YC (show false=true from hs) YZ
 |str i=>
  let#[t,rfl]:=rx;cases y with
  |non=>cases F;show PySem.EqNone.eq_str_none (jS I q #[])
  |bl j=>cases F;show PySem.EqMixed.eq_str_bool (jS I q #[])
  |int j=>let#[J,rfl]:=F;show PySem.EqMixed.eq_str_int (jS I q #[])
  |str j=>let#[J,rfl]:=F;show eq_str (jS I q qTm)
  |_=>show YC (show false=true from hs) YZ
 |byt i=>
  let#[t,rfl]:=rx;cases y with
  |byt j=>let#[J,rfl]:=F;show W.eq_bytes (jS I q qRn)
  |_=>show YC (show false=true from hs) YZ
 |_=>cases y <;> show YC (show false=true from hs) YZ
def wH:OpR X (compareOp .NotEq) rNe:=by
 intro pins s σ H x y v u Q I rx F h;let#[hs,q]:=h;cases x with
 |non=>
  cases rx;cases y with
  |non=>cases F;show PySem.EqNone.ne_none_none (jS I q #[])
  |bl j=>cases F;show PySem.EqNone.ne_none_bool (jS I q #[])
  |int j=>let#[J,rfl]:=F;show PySem.EqNone.ne_none_int (jS I q #[])
  |str j=>let#[J,rfl]:=F;show PySem.EqNone.ne_none_str (jS I q #[])
  |_=>show YC (show false=true from hs) YZ
 |bl i=>
  cases rx;cases y with
  |non=>cases F;show PySem.EqNone.ne_bool_none (jS I q #[])
  |bl j=>cases F;show ne_bool (jS I q<|XF not qVx)
  |str j=>let#[J,rfl]:=F;show PySem.EqMixed.ne_bool_str (jS I q #[])
  |_=>show YC (show false=true from hs) YZ
 |int i=>
  let#[t,rfl]:=rx;cases y with
  |non=>cases F;show PySem.EqNone.ne_int_none (jS I q #[])
  |int j=>let#[J,rfl]:=F;show ne_int (jS I q<|XF not qTk)
  |str j=>let#[J,rfl]:=F;show PySem.EqMixed.ne_int_str (jS I q #[])
  |_=>show YC (show false=true from hs) YZ
 |str i=>
  let#[t,rfl]:=rx;cases y with
  |non=>cases F;show PySem.EqNone.ne_str_none (jS I q #[])
  |bl j=>cases F;show PySem.EqMixed.ne_str_bool (jS I q #[])
  |int j=>let#[J,rfl]:=F;show PySem.EqMixed.ne_str_int (jS I q #[])
  |str j=>let#[J,rfl]:=F;show ne_str (jS I q<|XF not qTm)
  |_=>show YC (show false=true from hs) YZ
 |byt i=>
  let#[t,rfl]:=rx;cases y with
  |byt j=>let#[J,rfl]:=F;show W.ne_bytes (jS I q<|XF not qRn)
  |_=>show YC (show false=true from hs) YZ
 |_=>cases y <;> show YC (show false=true from hs) YZ
def zV:OpR X (compareOp .Lt) (rI0 λi j=>.bl (decide<|i<j)):=qZ2 λ_ _ _ _ _ _ _ q=>lt_int q
def qU5:OpR X (compareOp .LtE) (rI0 λi j=>.bl (decide<|i<=j)):=qZ2 λ_ _ _ _ _ _ _ q=>le_int q
def qFd:OpR X (compareOp .Gt) (rI0 λi j=>.bl (decide<|j<i)):=qZ2 λ_ _ _ _ _ _ _ q=>gt_int q
def qNq:OpR X (compareOp .GtE) (rI0 λi j=>.bl (decide<|j<=i)):=qZ2 λ_ _ _ _ _ _ _ q=>ge_int q
def qP(b:Expr){F:CmpOp}(h:F≠ .In:=by decide)(h2:F≠ .NotIn:=by decide):behindInMarks F b=false:=by
 have J:(F==CmpOp.In)=false:=by cases F <;> first|rfl|show YC rfl h
 have e2:(F==CmpOp.NotIn)=false:=by cases F <;> first|rfl|show YC rfl h2
 cases b <;> simp[behindInMarks,J,e2]
def jR{F:CmpOp}{r:R2}(J:OpR X (compareOp F) r)(ha:PE X a ta)(hb:PE X b tb)(hm:behindInMarks F b=false):PE X (.Compare a [F] [b] pos) (tOp r ta tb):=by ext;show wpAny_Compare1 (jAh ha hb I h λv u s2 x y H2 I2 rx ry q=>J pins s2 σ H2 x y v u Q I2 rx ry q) hm
inductive qY4(Q:Bool->Hp->Prop)(x:V)(H':Hp):Prop
|mk k (_:x=.bl k) (_:Q k H')
def jAw(t:TE):TT:=λσ H Q=>t σ H λx H'=>qY4 Q x H'
def qM{F:CmpOp}{r:R2}(J:OpR X (compareOp F) r)(ha:PE X a ta)(hb:PE X b tb)(hm:behindInMarks F b=false):PT X (.Compare a [F] [b] pos) (jAw<|tOp r ta tb):=by
 ext;show wpAny_isTrue_Compare1 (tW (ha pins s σ H _ I h) λv s1 x H1 I1 r1 q1=>tW (hb pins s1 σ H1 _ I1 q1) λu s2 y H2 I2 r2 q2=>
  tW (J pins s2 σ H2 x y v u _ I2 r1 r2 q2) λc s3 z H3 I3 r3 zZ0=>?_) hm;let#[k,e,q3]:=zZ0
 subst e;cases r3;show wpAny_truthy_bool #[H3,I3,q3]
def qMi:(sizeLine:Nat)<2 ^ 63:=by rw[sizeLine_eq];decide
def qFw{x:V}{us:LW}(r:Vals [x] us):∃u,us=[u]/\RelV x u:=by
 cases r with
 |cons r1 r2=>cases r2;show#[_,rfl,r1]
def qQu{x y:V}{us:LW}(r:Vals [x,y] us):∃u F,us=[u,F]/\RelV x u/\RelV y F:=by
 cases r with
 |cons r1 r2=>
  cases r2 with
  |cons r3 r4=>cases r4;show#[_,_,rfl,r1,r3]
def qJe:vM X (.builtin "abs") (λxs H Q=> ∃i,xs=[.int i]/\Q (.int (if i<0 then-i else i)) H):=by intro pins s σ H xs F Q I r h;let#[i,rfl,q]:=h;let#[u,rfl,t,rfl]:=qFw r;show call_abs_int λu J=>#[.int (if i<0 then-i else i),H,I.tok _,#[_,O],q]
def qBu(J:X.calm=true):vM X (.builtin "max") (λxs H Q=> ∃i j,xs=[.int i,.int j]/\Q (.int (if j>i then j else i)) H):=by
 intro pins s σ H xs us Q I r h;let#[i,j,rfl,q]:=h;let#[u,w',rfl,#[t,rfl],#[t',rfl]]:=qQu r;show max_two_ints (I.ok.hd J) λh' tk k=>#[_,H,I.kept k,?_,q];by_cases F:j>i
 . rw[YB F,YB F];show#[_,rfl]
 . rw[YA F,YA F];show#[_,rfl]
def zm(J:X.calm=true):vM X (.builtin "min") (λxs H Q=> ∃i j,xs=[.int i,.int j]/\Q (.int (if j<i then j else i)) H):=by
 intro pins s σ H xs us Q I r h;let#[i,j,rfl,q]:=h;let#[u,w',rfl,#[t,rfl],#[t',rfl]]:=qQu r;show min_two_ints (I.ok.hd J) λh' tk k=>#[_,H,I.kept k,?_,q];by_cases F:j<i
 . rw[YB F,YB F];show#[_,rfl]
 . rw[YA F,YA F];show#[_,rfl]
def qL8:vM X (.type "int") (λxs H Q=>(∃i,xs=[.int i]/\Q (.int i) H)\/∃k,xs=[.bl k]/\Q (.int (if k then 1 else 0)) H):=by
 intro pins s σ H xs J Q I r h;rcases h with ⟨i,rfl,q⟩|⟨k,rfl,q⟩
 . let#[u,rfl,t,rfl]:=qFw r
   show call_int_int #[.int i,H,I,#[_,O],q]
 . let#[u,rfl,F]:=qFw r
   cases F;show call_int_bool #[.int (if k then 1 else 0),H,I.tok _,#[_,O],q]
end
structure ObjM(h:Heap)(x dx C:Addr)(mA:SV):Prop where
 obj:h.get? x=some (W.instObj C dx)
 ns:h.Ns1 dx mA
 ne:dx≠x
def qRj{h:Heap}{dx:Addr}{mA:SV}(n:h.Ns1 dx mA):∃od,h.get? dx=some od/\∀name,W.lookIn name od=some (mA name):=by
 let#[o,es,ep,J,hd,hk,_,hm]:=n;show#[o,J,λname=>?_];have e:=hm name;unfold nsFind findBy at e;rw[<-Array.find?_toList]at e;unfold W.lookIn;rw[hd];dsimp only;split
 . rename_i y q
   rw[q]at e;show XF some e
 . rename_i q
   rw[q]at e;have a:es.toList.any (·.refKey)=false:=by rw[List.any_eq_false];intro y hy;let#[z,t,F]:=hk y<|Array.mem_toList_iff.mp hy;simp[DictEntry.refKey,F]
   have a':¬es.toList.any (·.refKey)=true:=by rw[a];show YZ
   rw[YA a'];show XF some e
def ObjM.look{h:Heap}{x dx C:Addr}{mA:SV}(I:ObjM h x dx C mA):∃od,W.InstAt h x (W.instObj C dx) C (some od)/\∀name,W.lookIn name od=some (mA name):=
 let #[od,ho,hl]:=qRj I.ns
 #[od,#[I.obj,rfl,rfl,ho],hl]
section
variable{prog:Program}{w:World}{A:Around}{E:Ba}{s:Shared}{K:Fg}{x dx C f:Addr}{mA:SV}{name:Str}{v:Value}
def qXb{F:Bool}{Q:Ba}(X:K.In s.heap)(I:ObjM s.heap x dx C mA)(hg:W.plainGet K C name=true)(hh:W.hasDictIn K C=true)
 (ha:W.findIn K (.ref C) name=some none) (hv:mA name=some v) (aa:W.handedIn v=true) (h:Q v {s with toks:=s.toks+1}):
 wpAny (model prog w) A (getAttr (.ref x) name F) Q E s:=by
 let#[od,J,hl]:=I.look;show W.get_value X J (W.plainGet_of hg).1 (W.findObj_own hh ha rfl (by rw[hl,hv])) aa h
def qUy{pl:Sem Bool}{Q:Value×LW->Shared->Prop}(X:K.In s.heap)(I:ObjM s.heap x dx C mA)(F:W.plainGet K C name=true)
 (hf:W.findIn K (.ref C) name=some (some<|.ref f)) (ht:W.isFn K (.ref f)=true) (hv:mA name=none) (h:Q (.ref f,[.ref x]) s):
 wpAny (model prog w) A (getMethod (.ref x) name pl) Q E s:=by
 let#[od,J,hl]:=I.look;show W.method_fn X J (W.plainGet_of F).1 (W.plainGet_of F).2 hf (beq_iff_eq.mp ht) (by change (W.lookIn name od).map (·.isSome)=some false;rw[hl,hv];rfl) h
def qX5{ns:LS}{Q:Unit->Shared->Prop}(X:K.In s.heap)(I:ObjM s.heap x dx C mA)
 (hs:W.findIn K (.ref C) "__setattr__"=some (some<|.builtin "object.__setattr__")) (hp:W.plainOver K C=true) (ht:W.takerIn K C name=some none) (hh:W.hasDictIn K C=true)
 (hw:PySem.Within mA ns) (ag:ns.length<=sizeLine)
 (h:∀h',ObjM h' x dx C (λy=>if y=name then some v else mA y)->Heap.SameBut dx s.heap h'->Q Unit.unit {s with heap:=h',toks:=s.toks+2}):
 wpAny (model prog w) A (setAttr (.ref x) name v) Q E s:=by
 let#[od,J,hl]:=I.look;show W.set_plain X J hs (W.osa_open (s:={s with toks:=s.toks+1}) (r:=none) X J hp ht λb=>?_);let#[cd,hc,ad]:=W.any_some hh;have hx:s.heap.get? x=some #[.ref C,some dx,.plain,%[|0]]:=I.obj;show YJ (YK<|YJ (YJ<|wpAny_loadPart hx (YJ<|W.Looks.here (s:={s with toks:=s.toks+1}) (W.looks_clsIn X hc) ?_)));rw[ad];show YK (a:=some dx)<|YJ (YK<|YJ ?_);show wpAny_nsSet1 (s:={s with toks:=s.toks+1}) I.ns λh' aa F=>?_;let#[oD,ah,ai,ae,af,ac]:=aa.count<|PySem.Within.cons name v hw;show YJ (wpAny_lookBehind ae (by rw[af];show pastItsLine_dict (ZD ac (by rw[YE];lia))) ?_);show YK<|h _ #[(F.2 _<|ZG I.ne).trans I.obj,aa,I.ne] F
def qVr{R:Result->Shared->Prop}{vs:LW}{J:List<|Str×Value}(X:K.In s.heap)(hm:W.makesIn K C=true)
 (hi:W.findIn K (.ref C) "__init__"=some (some<|.ref f)) (hf:W.typeIn K (.ref f)=some (.type "function"))
 (h:codeAny (model prog w) (A.under<|.builtin "type.__call__" #[.ref C::vs,J]) (.call (.ref f) #[.ref (s.heap.objs.size+1)::vs,J]) (W.InitBack (s.heap.objs.size+1) R)
   {s with heap:=(s.heap.push W.emptyDict).push<|W.instObj C s.heap.objs.size}):
 codeAny (model prog w) A (.call (.ref C) #[vs,J]) R s:=by
 let#[hh,g,d,t,os]:=s;show W.make_core (W.makes_of X hm) (W.looks_findIn X hi) (λF=>W.bind_fn X F hf) (.inl rfl) h
end
noncomputable def kj(f:Str)(v:V):List (Str×V)->List (Str×V)
 |[]=>[(f,v)]
 |(g,x)::r=>if g=f then (g,v)::r else (g,x)::kj f v r
theorem qFs(f g:Str)(v:V):∀fs:List<|Str×V,(kj f v fs).lookup g=if g=f then some v else fs.lookup g
 |[]=>by
  change List.lookup g [(f,v)]=_;by_cases h:g=f
  . have F:(g==f)=true:=beq_iff_eq.mpr h
    simp only[List.lookup,F,YB h]
  . have F:(g==f)=false:=beq_eq_false_iff_ne.mpr h
    simp only[List.lookup,F,YA h]
 |(k,x)::r=>by
  have ih:=qFs f g v r;rw[show kj f v ((k,x)::r)=(if k=f then (k,v)::r else (k,x)::kj f v r)from rfl];by_cases J:k=f
  . rw[YB J]
    by_cases h:g=k
    . have F:(g==k)=true:=beq_iff_eq.mpr h
      simp only[List.lookup,F,YB<|h.trans J]
    . have F:(g==k)=false:=beq_eq_false_iff_ne.mpr h
      simp only[List.lookup,F,YA (λe:g=f=>h<|e.trans J.symm)]
  . rw[YA J]
    by_cases h:g=k
    . have F:(g==k)=true:=beq_iff_eq.mpr h
      simp only[List.lookup,F,YA (λe:g=f=>J<|h.symm.trans e)]
    . have F:(g==k)=false:=beq_eq_false_iff_ne.mpr h
      simp only[List.lookup,F];show ih
theorem qFe(f:Str)(v:V):∀fs:List<|Str×V,f∈(kj f v fs).map (·.1)/\∀g,g∈fs.map (·.1)->g∈(kj f v fs).map (·.1)
 |[]=>#[by simp[kj],λg h=>by simp at h]
 |(k,x)::r=>by
  let#[J,i2]:=qFe f v r;rw[show kj f v ((k,x)::r)=(if k=f then (k,v)::r else (k,x)::kj f v r)from rfl];by_cases F:k=f
  . rw[YB F]
    subst F;show#[#[],λg h=> ~~~h]
  . rw[YA F]
    show#[?_,λg h=>?_]
    . rw[ZH]
      show List.mem_cons_of_mem _ J
    . rw[ZH]at h⊢
      rcases YU.mp h with e|e
      . show YU.mpr (.inl e)
      . show List.mem_cons_of_mem _ (i2 g e)
theorem qGf(f:Str)(v:V):∀fs:List<|Str×V,(kj f v fs).length<=fs.length+1
 |[]=>by simp[kj]
 |(k,x)::r=>by
  have J:=qGf f v r;rw[show kj f v ((k,x)::r)=(if k=f then (k,v)::r else (k,x)::kj f v r)from rfl];by_cases F:k=f
  . rw[YB F,YE,YE];lia
  . rw[YA F,YE,YE];lia
def RelO.some_of{v:V}{o:Option Value}(r:RelO (some v) o):∃u,o=some u/\RelV v u:=by
 cases o with
 |none=>show(show False from r).elim
 |some u=>show#[u,rfl,r]
def RelO.none_of{o:Option Value}(r:RelO none o):o=none:=by
 cases o with
 |none=>rfl
 |some u=>show(show False from r).elim
def qR7{v:V}{u:Value}(r:RelV v u):W.handedIn u=true:=by
 cases v with
 |non=>cases (show u=Value.none from r);rfl
 |bl b=>cases (show u=Value.bool b from r);rfl
 |int i=>let#[t,e]:=(show ∃t,u=Value.int i t from r);cases e;rfl
 |str x=>let#[t,e]:=(show ∃t,u=Value.str x t from r);cases e;rfl
 |byt b=>let#[t,e]:=(show ∃t,u=Value.bytes b t from r);cases e;rfl
 |flt b=>let#[t,e]:=(show ∃t,u=Value.float b t from r);cases e;rfl
 |ref a=>cases (show u=Value.ref a from r);rfl
 |ty n=>cases (show u=Value.type n from r);rfl
section
variable{P:Program}{w:World}{H H':Hp}{h h':Heap}{a C dx:Addr}{fs fs':List (Str×V)}
def qJb(F:HOk P w H h)(e:H a=some (.ins C dx fs)):∃mA,ObjM h a dx C mA/\(∀f,RelO (fs.lookup f)<|mA f)/\PySem.Within mA (fs.map (·.1))/\fs.length<=1000/\H dx=some (.own a):=by let#[d,z,J,ob,mA,n,r,q]:=(show ObjOk P w H h a (.ins C dx fs)from F a _ e);show#[mA,#[ob,n,J],r,q,z,d]
end
structure Cls(K:Fg)(C:Addr):Prop where
 pg:W.plainGet K C Str.empty=true
 hd:W.hasDictIn K C=true
 po:W.plainOver K C=true
 sa:W.findIn K (.ref C) "__setattr__"=some (some (.builtin "object.__setattr__"))
def Cls.get{K:Fg}{C:Addr}(c:Cls K C)(f:Str):W.plainGet K C f=true:=c.pg
def NoAttr(K:Fg)(C:Addr)(f:Str):Prop:=W.findIn K (.ref C) f=some none
def NoAttr.taker{K:Fg}{C:Addr}{f:Str}(n:NoAttr K C f):W.takerIn K C f=some none:=by unfold W.takerIn;rw[show W.findIn K (.ref C) f=some none from n];rfl
structure qZs(K:Fg)(C:Addr)(m:Str)(f:Addr):Prop where
 at_:W.findIn K (.ref C) m=some (some (.ref f))
 fn:W.isFn K (.ref f)=true
 kp:W.keepIn K (.ref f)=true
section
variable{X:Cx}{pins:LO}{σ:St}{H:Hp}{s:Shared}{a C dx:Addr}{fs:List (Str×V)}{f:Str}{v:V}{A:Around}{E:Ba}
def qP1{b:Bool}{Q:Ba}(I:Inv X pins σ H s)(e:H a=some (.ins C dx fs))(c:Cls X.K C)(n:NoAttr X.K C f)(l:fs.lookup f=some v)
 (h:∀u s',Inv X pins σ H s'->RelV v u->Q u s'):wpAny (model X.prog X.w) A (getAttr (.ref a) f b) Q E s:=by
 let#[mA,O9,r,_,_,_]:=qJb I.hok e;let#[u,J,F]:=RelO.some_of (v:=v) (o:=mA f) (by rw[<-l];show r f);show qXb I.kIn O9 (c.get f) c.hd n J (qR7 F)<|h u _ (I.tok _) F
def wj{m:Str}{g:Addr}{pl:Sem Bool}{Q:Value×LW->Shared->Prop}(I:Inv X pins σ H s)(e:H a=some (.ins C dx fs))(c:Cls X.K C)(k:qZs X.K C m g)(l:fs.lookup m=none)
 (h:Q (.ref g,[.ref a]) s):wpAny (model X.prog X.w) A (getMethod (.ref a) m pl) Q E s:=by
 let#[mA,O9,r,_,_,_]:=qJb I.hok e;have F:mA m=none:=RelO.none_of (by rw[<-l];show r m);show qUy I.kIn O9 (c.get m) k.at_ k.fn F h
def qQn{y:V}{u:Value}{Q:Unit->Shared->Prop}(I:Inv X pins σ H s)(e:H a=some (.ins C dx fs))(c:Cls X.K C)(n:NoAttr X.K C f)(hl:fs.length<1000)(ry:RelV y u)
 (h:∀s',Inv X pins σ (upd H a (.ins C dx<|kj f y fs)) s'->Q Unit.unit s'):wpAny (model X.prog X.w) A (setAttr (.ref a) f u) Q E s:=by
 let#[mA,O9,r,wi,_,J]:=qJb I.hok e;have hz:(fs.map (·.1)).length<=sizeLine:=by rw[YS,sizeLine_eq];lia
 show qX5 I.kIn O9 c.sa c.po n.taker c.hd wi hz λh' F sb=>h _ ?_;have hd:∃o,h'.get? dx=some o:=let #[o,_,_,e',_]:=F.ns;#[o,e']
 show I.write (x:=a) (e:=dx) (by rw[e];show True.intro) (.inr J) (λb q hb z=>(sb.2 b hb).trans z) hd ?_;show#[by rw[qS O9.ne];show J,?_,O9.ne,F.obj,_,F.ns,λg=>?_,λg hg=>?_]
 . have:=qGf f y fs;lia
 . change RelO ((kj f y fs).lookup g) (if g=f then some u else mA g)
   rw[qFs];by_cases q:g=f
   . rw[YB q,YB q];show ry
   . rw[YA q,YA q];show r g
 . by_cases q:g=f
   . rw[q];show(qFe f y fs).1
   . show(qFe f y fs).2 g (wi g λz=>hg ?_)
     change (if g=f then some u else mA g)=none;rw[YA q];show z
def Inv.made(I:Inv X pins σ H s):Inv X pins σ (upd (upd H s.heap.objs.size (.own<|s.heap.objs.size+1)) (s.heap.objs.size+1)<|.ins C s.heap.objs.size [])
 {s with heap:=(s.heap.push W.emptyDict).push<|W.instObj C s.heap.objs.size}:=by
 have F:(s.heap.push W.emptyDict).get? s.heap.objs.size=some W.emptyDict:=Yn s.heap rfl;have e2:((s.heap.push W.emptyDict).push<|W.instObj C s.heap.objs.size).get? (s.heap.objs.size+1)=some (W.instObj C s.heap.objs.size):=by
  have:=Yn (s.heap.push W.emptyDict) (o:=W.instObj C s.heap.objs.size) rfl
  rwa [Heap.size_push]at this
 have e3:(s.heap.push W.emptyDict).Ns s.heap.objs.size (λ_=>none):=#[W.emptyDict,%[|0],_,F,rfl,(λe he=>YC he #[]),λ_=>rfl];have I1:=I.laid (a:=s.heap.objs.size) (o:=.own<|s.heap.objs.size+1) (h':=s.heap.push W.emptyDict) (t':=s.toks) (λb u q=>YM _ q) (YI _) #[_,F];show I1.laid (a:=s.heap.objs.size+1) (o:=.ins C s.heap.objs.size []) (t':=s.toks) (λb u q=>YM _ q) (Nat.le_of_eq<|Heap.size_push _ _) ?_;have J:s.heap.objs.size≠s.heap.objs.size+1:=Yo<|Nat.lt_succ_self _;show#[by rw[qS J,qC],ZT _,J,e2,λ_=>none,(Heap.Ns1.of_empty e3).at λo q=>YM _ q,λ_=>True.intro,λy hy=>YC rfl hy]
def qXa{prog:Program}{w:World}{env:Env}{e:Expr}{f:Str}{pos:Pos}{s:Shared}{Q:Ba}(J:attributeBase e f env (eval e env)=eval e env)
 (h:wpAny (model prog w) A (eval e env) (λo F=>wpAny (model prog w) A (getAttr o f true) Q E F) E s):wpAny (model prog w) A (eval (.Attribute e f pos) env) Q E s:=
 Attribute_any_ h (by rw[arm_eval_Attribute,J])
end
def jCl(K:Fg)(ta:TE)(f:Str):TE:=λσ H Q=>ta σ H λx H1=> ∃a C dx fs v,x=.ref a/\H1 a=some (.ins C dx fs)/\Cls K C/\NoAttr K C f/\fs.lookup f=some v/\Q v H1
def jCd(K:Fg)(ta tv:TE)(f:Str):TS:=λD σ H=>tv σ H λy H1=>ta σ H1 λx H2=> ∃a C dx fs,x=.ref a/\H2 a=some (.ins C dx fs)/\Cls K C/\NoAttr K C f/\fs.length<1000/\
 D.nx σ (upd H2 a (.ins C dx<|kj f y fs))
section
variable{X:Cx}{o e value:Expr}{f:Str}{pos pos' tpos:Pos}{ta tv:TE}
def x8(F:PE X e ta)(hb:attributeBase e f X.env (eval e X.env)=eval e X.env):PE X (.Attribute e f pos) (jCl X.K ta f):=by ext;show qXa hb (tW (F pins s σ H _ I h) λu s1 x H1 J rx zZ0=>?_);let#[a,C,dx,fs,v,ex,ea,c,n,l,q]:=zZ0;subst ex;obtain rfl:u=Value.ref a:=rx;show qP1 J ea c n l λu' s2 I2 ru=>#[v,H1,I2,ru,q]
def qFx(F:PE X o ta)(hv:PE X value tv)(hs:swapsWith value (some<|.Attribute o f pos') pos.line X.env=pure false):PS X (.Assign [.Attribute o f pos'] value pos) (jCd X.K ta tv f):=by intro pins s σ H D I h;show plainObj_wpAny_Assign_Attribute (tW (hv pins s σ H _ I h) λu s1 y H1 I1 ry q=>tW (F pins s1 σ H1 _ I1 q) λov s2 x H2 I2 rx zZ0=>?_) hs;let#[a,C,dx,fs,ex,ea,c,n,l,q2]:=zZ0;subst ex;obtain rfl:ov=Value.ref a:=rx;show qQn I2 ea c n l ry λs3 J=>#[σ,_,J,q2]
end
section
variable{X:Cx}{pins:LO}{σ:St}{H:Hp}{s:Shared}{A:Around}{E:Ba}{Q:Ba}{c:Value}{b:Bool}
inductive qQl(K:Fg)(H:Hp):V->Value->Prop where
 |non:qQl K H .non (.type "NoneType")
 |bl (x:Bool):qQl K H (.bl x) (.type "bool")
 |int (i:Int):qQl K H (.int i) (.type "int")
 |str (x:Str):qQl K H (.str x) (.type "str")
 |flt (x:UInt64):qQl K H (.flt x) (.type "float")
 |lst {a:Addr} {xs:LV} (e:H a=some (.lst xs)):qQl K H (.ref a) (.type "list")
 |frz {a:Addr} {o:Obj} {xs:LV} (e:H a=some (.frz o (.lst xs))):qQl K H (.ref a) (.type "list")
 |tup {a:Addr} {xs:LV} (e:H a=some (.tup xs)):qQl K H (.ref a) (.type "tuple")
 |dK {a:Addr} {kvs:List (Key×V)} (e:H a=some (.dK kvs)):qQl K H (.ref a) (.type "dict")
 |dT {a:Addr} {kvs:List (List Key×V)} (e:H a=some (.dT kvs)):qQl K H (.ref a) (.type "dict")
 |ins {a C dx:Addr} {fs:List (Str×V)} (e:H a=some (.ins C dx fs)) (cl:Cls K C) (ha:W.findIn K (.ref C) "__class__"=some (some (.builtin "object.__class__")))
  (hn:W.specialIn K (.builtin "object.__class__") "__get__"=some (some (.builtin "getset_descriptor.__get__"))) (htk:W.takesIn K (.builtin "object.__class__")=some true)
  (hm:W.mroIn K C (.type "object")=some true):qQl K H (.ref a) (.ref C)
def qLm{x:V}{u t:Value}(I:Inv X pins σ H s)(F:RelV x u)(ty:qQl X.K H x t)(e:W.kitOne X.K t c=some b)(h:∀tk,Q (.bool b) {s with toks:=tk}):
 wpAny (model X.prog X.w) A (call (.builtin "isinstance") [u,c]) Q E s:=by
 cases ty with
 |non=>cases (show u=Value.none from F);show W.kia_one W.kitx_none I.kIn True.intro e (λz=>nomatch z) h
 |bl y=>cases (show u=Value.bool y from F);show W.kia_one W.kitx_bool I.kIn True.intro e (λz=>nomatch z) h
 |int i=>let#[t,q]:=(show ∃t,u=Value.int i t from F);cases q;show W.kia_one W.kitx_int I.kIn True.intro e (λz=>nomatch z) h
 |str y=>let#[t,q]:=(show ∃t,u=Value.str y t from F);cases q;show W.kia_one W.kitx_str I.kIn True.intro e (λz=>nomatch z) h
 |flt y=>let#[t,q]:=(show ∃t,u=Value.float y t from F);cases q;show W.kia_one W.kitx_float I.kIn True.intro e (λz=>nomatch z) h
 | @lst a xs ea=>
  cases (show u=Value.ref a from F);let#[_,_,n,_,h1]:=(show ObjOk X.prog X.w H s.heap a (.lst xs)from I.hok a _ ea);show W.kia_one W.kitx_list I.kIn #[_,h1,O] e (λz=>nomatch z) h
 | @frz a ob xs ea=>
  cases (show u=Value.ref a from F);let#[_,_,_,n,_,h1]:=(show ObjOk X.prog X.w H s.heap a (.frz ob<|.lst xs)from I.hok a _ ea);show W.kia_one W.kitx_list I.kIn #[_,h1,O] e (λz=>nomatch z) h
 | @tup a xs ea=>
  cases (show u=Value.ref a from F);let#[_,_,_,p]:=(show ObjOk X.prog X.w H s.heap a (.tup xs)from I.hok a _ ea);let#[o,h1,h2,_]:=p;show W.kia_one W.kitx_tuple I.kIn #[o,h1,h2] e (λz=>nomatch z) h
 | @dK a kvs ea=>
  cases (show u=Value.ref a from F);let#[_,_,vs,_,p]:=(show ObjOk X.prog X.w H s.heap a (.dK kvs)from I.hok a _ ea);let#[o,es,ep,h1,h2,_]:=p;show W.kia_one W.kitx_dict I.kIn #[o,h1,h2.1] e (λz=>nomatch z) h
 | @dT a kvs ea=>
  cases (show u=Value.ref a from F);let#[_,_,xs,_,o,es,ep,h1,h2,_]:=(show ObjOk X.prog X.w H s.heap a (.dT kvs)from I.hok a _ ea);show W.kia_one W.kitx_dict I.kIn #[o,h1,h2.1] e (λz=>nomatch z) h
 | @ins a C dx fs ea cl ha hn htk hm=>
  cases (show u=Value.ref a from F);let#[mA,O9,_]:=qJb I.hok ea;let#[od,J,_]:=O9.look;show W.kia_one (W.kitx_own (cl.get _) cl.hd ha hn htk hm) I.kIn J e (λz=>nomatch z) h
end
structure Room(k:Nat)(A:Around):Prop where
 hd:A.handled=none
 dp:A.depth+3*k+5<recursionLimit
 un:A.units+16*k+200<cLine
def Room.mono{j k:Nat}{A:Around}(r:Room k A)(h:j<=k):Room j A:=#[r.hd,by have:=r.dp;lia,by have:=r.un;lia]
theorem Room.deeper{k:Nat}{A:Around}(r:Room (k+1) A)(env:Env):Room k (A.deeper env):=
 #[r.hd,by have:=r.dp;change A.depth+1+3*k+5<_;lia,by have:=r.un;change A.units+3+16*k+200<_;lia]
def qQz{A:Around}{C:Addr}{us:LW}{F:List<|Str×Value}:(A.under<|.builtin "type.__call__" #[.ref C::us,F]).depth=A.depth+1:=by
 first|rfl|simp[Around.under,Code.weight,Code.isCreation,Code.isGuard,Code.isCaller,Code.frames,Code.isFrame,guardIds]
def qQw{A:Around}{C:Addr}{us:LW}{F:List<|Str×Value}:(A.under<|.builtin "type.__call__" #[.ref C::us,F]).units=A.units+1:=by
 first|rfl|simp[Around.under,Code.cUnits,Code.frames,Code.isFrame]
def Room.make{k:Nat}{A:Around}(r:Room (k+1) A)(C:Addr)(us:LW)(F:List<|Str×Value):Room k (A.under<|.builtin "type.__call__" #[.ref C::us,F]):=
 #[r.hd,by have:=r.dp;rw[qQz];lia,by have:=r.un;rw[qQw];lia]
theorem Room.depth{k:Nat}{A:Around}(r:Room k A):A.depth<recursionLimit:=by have:=r.dp;lia
theorem Room.units{k:Nat}{A:Around}(r:Room k A):A.units+64<cLine:=by have:=r.un;lia
def Room.units0{k:Nat}{A:Around}(r:Room k A):A.units<cLine:=by have:=r.un;lia
def qYb:TA:=λ_ H Q=>Q [] H
def jAa(ta:TE)(tr:TA):TA:=λσ H Q=>ta σ H λx H1=>tr σ H1 λxs H2=>Q (x::xs) H2
section
variable{X:Cx}{e:Expr}{es:List Expr}{te:TE}{t:TA}{pos:Pos}
def qB:PA X [] qYb:=λ_ _ _ _ H Q I h=>Calls.spliced_nil #[[],H,I,.nil,h]
def qA(F:PE X e te)(hr:PA X es t)(hs:starEach (e::es) X.env=(false,eval e X.env)::starEach es X.env:=by rfl):PA X (e::es) (jAa te t):=by intro pos pins s σ H Q I h;rw[hs];change wpAny _ _ (spliced ((false,eval e X.env)::backTo pos (starEach es X.env))) _ _ s;show Calls.spliced_cons (tW (F pins s σ H _ I h) λu s1 x H1 J r1 q1=>?_);show tW (hr pos pins s1 σ H1 _ J q1) λus s2 xs H2 I2 r2 q2=>#[x::xs,H2,I2,.cons r1 r2,q2]
inductive jBe(Q:VK)(xs:LV)(H1:Hp):Prop
|mk (_:xs.length<=sizeLine) (_:∀p,H1 p=none->Q (.ref p) (upd H1 p (.tup xs)))
def jB8(t:TA):TE:=λσ H Q=>t σ H λxs H1=>jBe Q xs H1
inductive qZ9(Q:VK)(xs:LV)(H1:Hp):Prop
|mk (_:xs.length<=sizeLine) (_:∀p,H1 p=none->Q (.ref p) (upd H1 p (.lst xs)))
def jB3(t:TA):TE:=λσ H Q=>t σ H λxs H1=>qZ9 Q xs H1
def qZ{x1}(h:PA X es t):PE X (.Tuple es x1 pos) (jB8 t):=by intro pins s σ H Q I J;show wpAny_Tuple_spliced (tW (h pos pins s σ H _ I J) λus s1 xs H1 F r #[z,q]=>#[by rw[<-r.length];show z,?_]);have hf:H1 s1.heap.objs.size=none:=F.hok.fresh<|YI _;show#[.ref s1.heap.objs.size,upd H1 s1.heap.objs.size<|.tup xs,F.laid (t':=s1.toks) (λb u e=>YM _ e) (YI _) ?_,O,q _ hf];show#[z,us,r,#[_,Yn _ rfl,O,_,O]]
def qr(h:PA X es t):PE X (.List es pos) (jB3 t):=by intro pins s σ H Q I J;show wpAny_List_spliced (tW (h pos pins s σ H _ I J) λus s1 xs H1 F r #[z,q]=>#[by rw[<-r.length];show z,?_]);have hf:H1 s1.heap.objs.size=none:=F.hok.fresh<|YI _;show#[.ref s1.heap.objs.size,upd H1 s1.heap.objs.size<|.lst xs,F.laid (t':=s1.toks) (λb u e=>YM _ e) (YI _) ?_,O,q _ hf];show#[z,us,0,r,Yn _ rfl]
end
abbrev Sp:=LV->Hp->VK->XK->Prop
abbrev CXT:=List Env->Hp->Shared->XK->Ba
structure Env0(P:Program)(w:World)(K:Fg)(mg:SV)(base:Heap)(A:Around)(outer:List Env)(s:Shared)(H:Hp):Prop where
 frames:A.frames=some outer
 mod:Mod K mg base
 bs:∀b o,base.get? b=some o->s.heap.get? b=some o/\H b=none
 bsz:base.objs.size<=s.heap.objs.size
 funs:s.heap.FunFrames base outer
 frf:∀b∈frs outer,H b=none
 hok:HOk P w H s.heap
 bare:AllBare s.gens
def CE(outer:List Env)(P:Program)(w:World)(H:Hp)(s:Shared)(Q:VK)(u:Value)(s':Shared):Prop:=
 ∃v H',s'.os=s.os/\AllBare s'.gens/\Un (frs outer) [] H H' s.heap s'.heap/\HOk P w H' s'.heap/\RelV v u/\Q v H'
def CR(CX:CXT)(outer:List Env)(P:Program)(w:World)(H:Hp)(s:Shared)(Q:VK)(E:XK)(r:Result)(s':Shared):Prop:=
 match r with
 |.ok (.ret u)=>CE outer P w H s Q u s'
 |.ok _=>False
 |.error e=>CX outer H s E e s'
structure FnOk(P:Program)(w:World)(K:Fg)(mg:SV)(base:Heap)(CX:CXT)(k:Nat)(f:Addr)(fd:FD)(ps:LS)(sp:Sp):Prop where
 len:∀vs H Q E,sp vs H Q E->vs.length=ps.length
 run:∀(A:Around) (outer:List Env) (s:Shared) (H:Hp) (args:Args) (us:LW) (vs:LV) (Q:VK) (E:XK),Room k A->Env0 P w K mg base A outer s H->BindsTo s fd args (ps.zip us)->Vals vs us->sp vs H Q E->
  codeAny (model P w) A (.call (.ref f) args) (CR CX outer P w H s Q E) s
def FnOk.imp{P:Program}{w:World}{K:Fg}{mg:SV}{base:Heap}{CX:CXT}{k:Nat}{f:Addr}{fd:FD}{ps:LS}{sp aa:Sp}(F:FnOk P w K mg base CX k f fd ps sp)
 (h:∀vs H Q E,aa vs H Q E->sp vs H Q E):FnOk P w K mg base CX k f fd ps aa:=
 #[λvs H Q E q=>F.len vs H Q E<|h _ _ _ _ q,λA J s H ac us vs Q E hr he hb hv hs=>F.run A J s H ac us vs Q E hr he hb hv<|h _ _ _ _ hs]
def Env0.make{P:Program}{w:World}{K:Fg}{mg:SV}{base:Heap}{A:Around}{outer:List Env}{s:Shared}{H:Hp}(e:Env0 P w K mg base A outer s H)(C:Addr)(us:LW)(F:List<|Str×Value):
 Env0 P w K mg base (A.under<|.builtin "type.__call__" #[.ref C::us,F]) outer s H:=#[by first|show e.frames|(simpa[Around.under,Code.envs,Code.isFrame,pushEnvs]using e.frames),e.mod,e.bs,e.bsz,e.funs,e.frf,e.hok,e.bare]
section
variable{X:Cx}{pins:LO}{σ:St}{H:Hp}{s s':Shared}
def Inv.env0(I:Inv X pins σ H s):Env0 X.prog X.w X.K X.mg X.base X.A X.stack s H:=
 #[I.ok.frames,I.ok.mod,I.bs,ZD I.ok.bsz I.sz,I.stack,I.stkFree,I.hok,I.bare]
def Inv.after{Q:VK}{u:Value}(I:Inv X pins σ H s)(h:CE X.stack X.prog X.w H s Q u s'):EP X pins σ Q u s':=by let#[v,H',os,F,un,aa,r,q]:=h;let#[hh,g,d,t,J]:=s';obtain rfl:J=s.os:=os;show#[v,H',I.call (h':=hh) (g':=g) (d':=d) (t':=t) (ch:=[]) un aa F (λb z=>YC z #[]),r,q]
end
def qVq(sp:Sp)(dvs:LV)(E:XK)(t:TA):TE:=λσ H Q=>t σ H λvs H1=>sp (vs++dvs) H1 Q E
def qU6(C:Addr)(m:Str)(sp:Sp)(dvs:LV)(E:XK)(ta:TE)(t:TA):TE:=λσ H Q=>ta σ H λx H1=> ∃a dx fs,x=.ref a/\H1 a=some (.ins C dx fs)/\fs.lookup m=none/\
 t σ H1 λvs H2=>sp (x::(vs++dvs)) H2 Q E
def qYz(C:Addr)(sp:Sp)(dvs:LV)(E:XK)(t:TA):TE:=λσ H Q=>t σ H λvs H1=> ∀x dx,H1 x=none->H1 dx=none->dx≠x->
 sp (.ref x::(vs++dvs)) (upd (upd H1 dx<|.own x) x<|.ins C dx []) (λv H2=>v=.non/\Q (.ref x) H2) E
def Binds(K:Fg)(fd:FD)(ps:LS)(ds:LW):Prop:=
 ∀(s:Shared) (us:LW),K.In s.heap->(us++ds).length=ps.length->BindsTo s fd #[us,[]] (ps.zip<|us++ds)
def Binds.all{K:Fg}{fd:FD}{ps:LS}(h:∀F:LW,F.length=ps.length->bindArgs fd #[F,[]]=pure (ps.zip F)):Binds K fd ps []:=λs F _ J=>by rw[Ye]at J⊢;show .of_eq<|h F J
def qDr(CX:CXT)(X:Cx)(E:XK):Prop:= ∀(pins:LO) (σ:St) (H:Hp) (s:Shared) (e:Value) (s':Shared),Inv X pins σ H s->CX X.stack H s E e s'->X.xe e s'
section
variable{X:Cx}{CX:CXT}{k:Nat}{f C:Addr}{fd:FD}{ps:LS}{sp:Sp}{dvs:LV}{ds:LW}{E:XK}{x m:Str}{p pos apos:Pos}{e o:Expr}{es:List Expr}{ta:TE}{t:TA}
def qRc{pins:LO}{σ:St}{H:Hp}{s:Shared}{Q:VK}{us:LW}{vs:LV}(F:FnOk X.prog X.w X.K X.mg X.base CX k f fd ps sp)(hr:Room k X.A)(hb:Binds X.K fd ps ds)(hd:Vals dvs ds)(hx:qDr CX X E)
 (I:Inv X pins σ H s) (r:Vals vs us) (h:sp (vs++dvs) H Q E):wpAny (model X.prog X.w) X.A (call (.ref f) us) (EP X pins σ Q) X.xe s:=by
 have r2:Vals (vs++dvs) (us++ds):=r.append hd;have hl:(us++ds).length=ps.length:=by rw[<-r2.length];show F.len _ _ _ _ h
 show wpAny_call (codeAny_mono (F.run X.A X.stack s H #[us,[]] (us++ds) (vs++dvs) Q E hr I.env0 (hb s us I.kIn hl) r2 h) λr s' J=>?_);cases r with
 |error e=>show hx pins σ H s e s' I J
 |ok fl=>
  cases fl with
  |ret u=>show I.after J
  |next=>show XD J
  |brk=>show XD J
  |cont=>show XD J
def qTu(F:FnOk X.prog X.w X.K X.mg X.base CX k f fd ps sp)(hr:Room k X.A)(hg:Gl X x)(hm:X.mg x=some (.ref f))(hk:W.keepIn X.K (.ref f)=true)(hb:Binds X.K fd ps ds)(hd:Vals dvs ds)(hx:qDr CX X E)
 (ha:PA X (e::es) t) (aa:(x==("__debug__":Str))=false:=by decide) (he:starEach (e::es) X.env=(false,eval e X.env)::starEach es X.env:=by rfl) (J:(backTo pos<|starEach es X.env).any (·.1)=false:=by rfl):
 PE X (.Call (.Name x p) (e::es) [] pos) (qVq sp dvs E t):=by
 ext;show wpAny_Call_Name_kw<|vp I hg hm ?_ aa;show W.callWith_K (h₀:=X.base) I.ok.mod.kin hk (tW (ha pos pins s σ H _ I h) λus s1 vs H1 I1 r q=>#[I1.kIn,?_]) he J;show qRc F hr hb hd hx I1 r q
def qWv{pl:Sem Bool}(he:PE X o ta)(c:Cls X.K C)(hm:qZs X.K C m f)(F:FnOk X.prog X.w X.K X.mg X.base CX k f fd ps sp)(hr:Room k X.A)(hb:Binds X.K fd ps ds)(hd:Vals dvs ds)(hx:qDr CX X E)(ha:PA X (e::es) t)
 (aa:starEach (e::es) X.env=(false,eval e X.env)::starEach es X.env:=by rfl) (J:(backTo pos<|starEach es X.env).any (·.1)=false:=by rfl)
 (ht:eval (.Call (.Attribute o m apos) (e::es) [] pos) X.env=(do
   let ov<-eval o X.env
   standAt apos.atName
   let (f,first)<-holding [ov] (getMethod ov m pl)
   callWith pos f first (backTo pos<|starEach (e::es) X.env) (backToKw pos<|keywordEach [] X.env)):=by rfl):
 PE X (.Call (.Attribute o m apos) (e::es) [] pos) (qU6 C m sp dvs E ta t):=by
 ext;show W.methodCall_KW (pl:=pl) (tW (he pins s σ H _ I h) λu s1 x H1 I1 rx zZ0=>?_) ht;let#[a,dx,fs,ex,ea,l,q]:=zZ0;subst ex;obtain rfl:u=Value.ref a:=rx;show wj I1 ea c hm l ?_;show W.callWith_K (first:=[.ref a]) (h₀:=X.base) I.ok.mod.kin hm.kp (tW (ha pos pins s1 σ H1 _ I1 q) λus s2 vs H2 I2 r q2=>#[I2.kIn,?_]) aa J;show qRc (us:=.ref a::us) (vs:=.ref a::vs) F hr hb hd hx I2 (.cons rfl r) q2
def qTy{pl:Sem Bool}(he:PE X o ta)(c:Cls X.K C)(hm:qZs X.K C m f)(F:FnOk X.prog X.w X.K X.mg X.base CX k f fd ps sp)(hr:Room k X.A)(hb:Binds X.K fd ps ds)(hd:Vals dvs ds)(hx:qDr CX X E)
 (ht:eval (.Call (.Attribute o m apos) [] [] pos) X.env=(do
   let ov<-eval o X.env
   standAt apos.atName
   let (f,first)<-holding [ov] (getMethod ov m pl)
   callWith pos f first (backTo pos<|starEach [] X.env) (backToKw pos<|keywordEach [] X.env)):=by rfl):
 PE X (.Call (.Attribute o m apos) [] [] pos) (qU6 C m sp dvs E ta qYb):=by
 ext;show W.methodCall_KW (pl:=pl) (tW (he pins s σ H _ I h) λu s1 x H1 J rx zZ0=>?_) ht;let#[a,dx,fs,ex,ea,l,q]:=zZ0;subst ex;obtain rfl:u=Value.ref a:=rx;show wj J ea c hm l ?_;show W.callWith_K0 (first:=[.ref a]) J.kIn hm.kp<|qRc (us:=[.ref a]) (vs:=[.ref a]) F hr hb hd hx J (.cons rfl .nil) q
structure Mk(K:Fg)(C f:Addr):Prop where
 makes:W.makesIn K C=true
 init:W.findIn K (.ref C) "__init__"=some (some (.ref f))
 fn:W.isFn K (.ref f)=true
 kp:W.keepIn K (.ref C)=true
def qVn{pins:LO}{σ:St}{H:Hp}{s:Shared}{Q:VK}{us:LW}{vs:LV}(M:Mk X.K C f)(F:FnOk X.prog X.w X.K X.mg X.base CX k f fd ps sp)(hr:Room (k+1) X.A)(hb:Binds X.K fd ps ds)(hd:Vals dvs ds)
 (hx:qDr CX X E) (I:Inv X pins σ H s) (r:Vals vs us)
 (h:∀x dx,H x=none->H dx=none->dx≠x->sp (.ref x::(vs++dvs)) (upd (upd H dx<|.own x) x<|.ins C dx []) (λv H2=>v=.non/\Q (.ref x) H2) E):
 wpAny (model X.prog X.w) X.A (call (.ref C) us) (EP X pins σ Q) X.xe s:=by
 have hq:=h (s.heap.objs.size+1) s.heap.objs.size (I.hok.fresh<|Nat.le_succ _) (I.hok.fresh<|YI _) (Yo<|Nat.lt_succ_self _);have I2:=Inv.made (C:=C) I;have r2:Vals (V.ref (s.heap.objs.size+1)::(vs++dvs)) (Value.ref (s.heap.objs.size+1)::(us++ds)):=.cons rfl<|r.append hd;have hl:(Value.ref (s.heap.objs.size+1)::us++ds).length=ps.length:=by have e:=r2.length;rw[F.len _ _ _ _ hq]at e;show e.symm
 show wpAny_call (qVr (f:=f) I.kIn M.makes M.init (beq_iff_eq.mp M.fn) (codeAny_mono (F.run _ X.stack _ _ #[Value.ref (s.heap.objs.size+1)::us,[]] (Value.ref (s.heap.objs.size+1)::(us++ds)) _ _ E (hr.make C us [])
  (I2.env0.make C us []) (hb _ (Value.ref (s.heap.objs.size+1)::us) I2.kIn hl) r2 hq) λr s' J=>?_))
 cases r with
 |error e=>show hx pins σ _ _ e s' I2 J
 |ok fl=>
  cases fl with
  |ret u=>
   let#[v,H',I3,rv,ev,q3]:=I2.after J;subst ev;show#[rv,#[V.ref<|s.heap.objs.size+1,H',I3,O,q3]]
  |next=>show XD J
  |brk=>show XD J
  |cont=>show XD J
def qXf(M:Mk X.K C f)(F:FnOk X.prog X.w X.K X.mg X.base CX k f fd ps sp)(hr:Room (k+1) X.A)(hg:Gl X x)(hm:X.mg x=some (.ref C))(hb:Binds X.K fd ps ds)(hd:Vals dvs ds)(hx:qDr CX X E)
 (ha:PA X (e::es) t) (aa:(x==("__debug__":Str))=false:=by decide) (he:starEach (e::es) X.env=(false,eval e X.env)::starEach es X.env:=by rfl) (J:(backTo pos<|starEach es X.env).any (·.1)=false:=by rfl):
 PE X (.Call (.Name x p) (e::es) [] pos) (qYz C sp dvs E t):=by
 ext;show wpAny_Call_Name_kw<|vp I hg hm ?_ aa;show W.callWith_K (h₀:=X.base) I.ok.mod.kin M.kp (tW (ha pos pins s σ H _ I h) λus s1 vs H1 I1 r q=>#[I1.kIn,?_]) he J;show qVn M F hr hb hd hx I1 r q
end
structure qN(N P:LS)(sc:Scope):Prop where
 kind:sc.kind=.function
 co:sc.isCoroutine=false
 gen:sc.isGenerator=false
 nd:N.Nodup
 pre:N.take P.length=P
 par:∀x∈P,sc.names.lookup x=some .local\/sc.names.lookup x=some .cell
 nofree:∀y∈sc.names,y.2≠ .free
theorem qL1{J:Str->Option NameKind}{x:Str}:∀{F:List<|Str×Value} {m:SV},(∀v,(x,v)∉F)->bindL J F m x=m x
 |[],_,_=>rfl
 |(n,v)::r,m,h=>by
  unfold bindL;rw[qL1 λw hw=>h w<|List.mem_cons_of_mem _ hw];split
  . have:x≠n:=by rintro rfl;show h v List.mem_cons_self
    simp[this]
  . rfl
theorem qKl{J:Str->Option NameKind}{x:Str}:∀{F:List<|Str×Value} {m:SV},(∀v,(x,v)∉F)->bindC J F m x=m x
 |[],_,_=>rfl
 |(n,v)::r,m,h=>by
  unfold bindC;rw[qKl λw hw=>h w<|List.mem_cons_of_mem _ hw];split
  . rfl
  . have:x≠n:=by rintro rfl;show h v List.mem_cons_self
    simp[this]
theorem qLj{F:Str->Option NameKind}{x:Str}{v:Value}:∀{P:LS} {vs:LW} {i:Nat} {m:SV},P.Nodup->P[i]?=some x->vs[i]?=some v->F x=some .local->
 bindL F (P.zip vs) m x=some v
 |[],_,_,_,_,h,_,_=>by simp at h
 |_::_,[],_,_,_,_,h,_=>by simp at h
 |p::P,w::vs,0,m,nd,h1,h2,hk=>by simp at h1 h2;subst h1;subst h2;change bindL F ((p,w)::P.zip vs) m p=_;unfold bindL;rw[qL1 λv J=>(List.nodup_cons.mp nd).1 (List.of_mem_zip J).1,YB hk];simp
 |p::P,w::vs,i+1,m,nd,h1,h2,hk=>by change bindL F ((p,w)::P.zip vs) m x=_;unfold bindL;show qLj (i:=i) (List.nodup_cons.mp nd).2 ( ~~~h1) ( ~~~h2) hk
theorem qLw{F:Str->Option NameKind}{x:Str}{v:Value}:∀{P:LS} {vs:LW} {i:Nat} {m:SV},P.Nodup->P[i]?=some x->vs[i]?=some v->F x≠some .local->
 bindC F (P.zip vs) m x=some v
 |[],_,_,_,_,h,_,_=>by simp at h
 |_::_,[],_,_,_,_,h,_=>by simp at h
 |p::P,w::vs,0,m,nd,h1,h2,hk=>by simp at h1 h2;subst h1;subst h2;change bindC F ((p,w)::P.zip vs) m p=_;unfold bindC;rw[qKl λv J=>(List.nodup_cons.mp nd).1 (List.of_mem_zip J).1,YA hk];simp
 |p::P,w::vs,i+1,m,nd,h1,h2,hk=>by change bindC F ((p,w)::P.zip vs) m x=_;unfold bindC;show qLw (i:=i) (List.nodup_cons.mp nd).2 ( ~~~h1) ( ~~~h2) hk
noncomputable def qBr(N:LS)(vs:LV):St:=vs.map some++List.replicate (N.length-vs.length) none
noncomputable def qMj(CX:CXT)(P:Program)(w:World)(K:Fg)(mg:SV)(base:Heap)(N:LS)(qual:Str)(scope:Scope)(f:Addr)(cd:Value)(A:Around)(outer:List Env)(s:Shared)(H:Hp)(E:XK):Cx where
 prog:=P
 w:=w
 K:=K
 mg:=mg
 base:=base
 A:=A.deeper (envOfC qual scope s.heap.objs.size f cd)
 N:=N
 s₀:=s
 H₀:=H
 env:=envOfC qual scope s.heap.objs.size f cd
 outer:=outer
 stack:=envOfC qual scope s.heap.objs.size f cd::outer
 ex:=[]
 calm:=true
 fn:=λ_=>true
 pn:=[]
 xe:=λe s'=>wpAny (model P w) (A.deeper (envOfC qual scope s.heap.objs.size f cd)) (leaving (envOfC qual scope s.heap.objs.size f cd) e) (λ_ s''=>CX outer H s E e s'') (λe' s''=>CX outer H s E e' s'') s'
def qPb{sc:Scope}{n:Nat}{x:Str}(h:sc.names.lookup x=some .cell):∃c,(cellsFrom n sc.names []).lookup x=some c:=by have q:=W.cellsFrom_some sc.names n []<|.inl h;show Option.isSome_iff_exists.mp q
def qKa{CX:CXT}{P:Program}{w:World}{K:Fg}{mg:SV}{base:Heap}{N ps:LS}{qual:Str}{F:Scope}{f:Addr}{cd:Value}{A:Around}{outer:List Env}{s s1:Shared}{H:Hp}{E:XK}{us:LW}{vs:LV}
 (S:qN N ps F) (hd:A.handled=none) (J:Env0 P w K mg base A outer s H) (hl:vs.length=ps.length) (r:Vals vs us)
 (x:InCallC s s.heap.objs.size (bindL (envOfC qual F s.heap.objs.size f cd).kindOf (ps.zip us) λ_=>none) (cellsFrom (s.heap.objs.size+1) F.names []) (bindC (envOfC qual F s.heap.objs.size f cd).kindOf (ps.zip us) λ_=>none) s1):
 Inv (qMj CX P w K mg base N qual F f cd A outer s H E) [] (qBr N vs) H s1:=by
 have ad:ps.length<=N.length:=by have:=XF List.length S.pre;rw[Yk]at this;lia
 let#[h1,tk,rfl,hk]:=x.done;have aa:∀b:Addr,b∉(qMj CX P w K mg base N qual F f cd A outer s H E).ex:=λb z=>YC (show b∈([]:List Addr)from z) #[];show#[#[J.mod,S.kind,O,O,YI _,λy z c h1 h2=>?_,λy hy=>?_,λy c _ h=>?_,λ_=>hd,Around.frames_deeper J.frames,.inr #[O,O],λb z=>YC z<|aa b,J.bs,J.bsz,λb _ _=>aa b,λb z=>YC z<|aa b,J.funs,J.frf],
  rfl,J.bare,Un.kept hk,#[_,x.toInCall.ns,λi y v h1 h2 h3=>?_],λy c h=>#[_,x.cell y c h],J.hok.fresh<|YI _,λy c h=>?_,λp hp=>YC (show p∈([]:LO)from hp) #[],J.hok.kept hk,?_]
 . show name_of_addr x.apart (ZQ h1) (ZQ h2)
 . have hy:F.names.lookup y=some .cell\/F.names.lookup y=some .free:=hy
   rcases hy with hy|hy
   . show qPb hy
   . show YC rfl (S.nofree _<|ZQ hy)
 . show Nat.le_of_lt (x.above y c<|ZQ h)
 . have hi:i<vs.length:=by
    unfold qBr at h2;by_cases hi:i<vs.length
    . show hi
    . rw[Yz<| ~~~hi]at h2
      rw[List.getElem?_replicate]at h2;split at h2 <;> cases h2
   have ha:vs[i]?=some v:=by
    unfold qBr at h2;rw[ZC<| ~~~hi,Yj]at h2;cases e:vs[i]? with
    |none=>rw[e]at h2;cases h2
    |some a=>rw[e]at h2;cases h2;rfl
   let#[u,hu,rv]:=r.get ha;have hp:ps[i]?=some y:=by rw[<-S.pre,List.getElem?_take_of_lt ()];show h1
   have ac:ps.Nodup:=by rw[<-S.pre];show S.nd.sublist (List.take_sublist _ _)
   show#[u,rv,?_];rcases S.par y (YF hp)with k|k
   . show .inl #[k,qLj ac hp hu k]
   . let#[c,e]:=qPb (n:=s.heap.objs.size+1) k
     show .inr #[.inl k,c,e,?_];have q:=x.cell y c e;rw[qLw ac hp hu (by change F.names.lookup y≠_;rw[k];decide)]at q;show q
 . show J.hok.fresh (Nat.le_of_lt (x.above y c<|ZQ h))
 . unfold qBr
   change _=N.length;rw[YN,YS,List.length_replicate];lia
def qZz{CX:CXT}{P:Program}{w:World}{K:Fg}{mg:SV}{base:Heap}{k:Nat}{f:Addr}{name qual:Str}{aa:Arguments}{ac:List Stmt}{F:Scope}{dV kV af pm cdv ct oc:Value}{an od:Option Addr}
 {aj:Array<|Option Value} {N ps:LS} {sp:Sp} (lk:K.lookup f=some #[oc,od,.func<|W.fnOf name qual aa ac F dV kV af pm an cdv ct,aj]) (al:W.codeIn K cdv qual=true) (S:qN N ps F)
 (ah:∀vs H Q E,sp vs H Q E->vs.length=ps.length)
 (ae:∀(A:Around) (outer:List Env) (s:Shared) (H:Hp) (vs:LV) (Q:VK) (E:XK),Room k (A.deeper<|envOfC qual F s.heap.objs.size f cdv)->sp vs H Q E->
   ∃t,PSs (qMj CX P w K mg base N qual F f cdv A outer s H E) ac t/\t {nx:=λ_ H'=>Q .non H',rt:=Q} (qBr N vs) H):
 FnOk P w K mg base CX (k+1) f (W.fnOf name qual aa ac F dV kV af pm an cdv ct) ps sp:=by
 show#[ah,λA outer s H am us vs Q E hr e0 hb r ag=>?_];have hl:=ah _ _ _ _ ag;have KX:K.In s.heap:=e0.mod.kin.keeps λb o e=>(e0.bs b o e).1;have ak:s.heap.NoLimit:=e0.mod.nolimit.keeps λb o e=>(e0.bs b o e).1;have ad:∀y∈ps.zip us,F.names.lookup y.1=some .local\/(F.names.lookup y.1=some .cell/\((cellsFrom (s.heap.objs.size+1) F.names []).lookup y.1).isSome=true):=λ#[n,v] hy=>by
  rcases S.par n (List.of_mem_zip hy).1 with q|q
  . show .inl q
  . show .inr #[q,W.cellsFrom_some _ _ _<|.inl q]
 show codeAny_call_function hr.depth (KX _ _ lk) rfl S.co S.gen rfl (W.codeRec_of KX al)<|hb _ _ _ _ ?_;show wpAny_newFunctionEnv_cells S.kind ad λenv he s1 x=>?_;subst he;show#[ak.keeps x.toInCall.keep,codeAny_func ?_];let#[t,ht,hq]:=ae A outer s H vs Q E (hr.deeper _) ag;have I:Inv (qMj CX P w K mg base N qual F f cdv A outer s H E) [] (qBr N vs) H s1:=qKa S hr.hd e0 hl r x;show YL (ht [] s1 (qBr N vs) H _ I hq) (λfl s' hs=>?_) λe s' hs=>hs;have ai:∀{σ':St} {H':Hp} {v:V} {u:Value},Inv (qMj CX P w K mg base N qual F f cdv A outer s H E) [] σ' H' s'->RelV v u->Q v H'->CE outer P w H s Q u s':=
  λ{σ' H' v u} J rv q=>#[v,H',J.os,J.bare,J.base,J.hok,rv,q]
 cases fl with
 |ret u=>
  let#[v,σ',H',J,rv,q]:=hs;show ai J rv q
 |next=>
  let#[σ',H',J,q]:=hs;show ai (v:=V.non) (u:=Value.none) J rfl q
 |brk=>
  let#[_,_,_,q]:=hs;show XD q
 |cont=>
  let#[_,_,_,q]:=hs;show XD q
section
variable{X:Cx}{x:Str}{p pos:Pos}{e:Expr}{es:List Expr}{t:TA}{id T:String}{r:LV->Hp->VK->Prop}
def tCB(r:LV->Hp->VK->Prop)(t:TA):TE:=λσ H Q=>t σ H λvs H1=>r vs H1 Q
def qg(hc:vM X (.builtin id) r)(hg:Gl X x)(hm:X.mg x=none)(hv:bootBuiltins x=some (.builtin id))(ha:PA X (e::es) t)(hn:x≠"__name__":=by decide)(J:(x==("__debug__":Str))=false:=by decide)
 (he:starEach (e::es) X.env=(false,eval e X.env)::starEach es X.env:=by rfl) (F:(backTo pos<|starEach es X.env).any (·.1)=false:=by rfl):PE X (.Call (.Name x p) (e::es) [] pos) (tCB r t):=by
 ext;show wpAny_Call_Name_kw<|qDe I hg hm hv ?_ hn J;show PyProof.Rows.callWith_builtin1 (tW (ha pos pins s σ H _ I h) λus s1 vs H1 I1 r1 q1=>hc pins s1 σ H1 vs us Q I1 r1 q1) he F
def jp(hc:vM X (.type T) r)(hg:Gl X x)(hm:X.mg x=none)(hv:bootBuiltins x=some (.type T))(ha:PA X (e::es) t)(hn:x≠"__name__":=by decide)(J:(x==("__debug__":Str))=false:=by decide)
 (he:starEach (e::es) X.env=(false,eval e X.env)::starEach es X.env:=by rfl) (F:(backTo pos<|starEach es X.env).any (·.1)=false:=by rfl):PE X (.Call (.Name x p) (e::es) [] pos) (tCB r t):=by
 ext;show wpAny_Call_Name_kw<|qDe I hg hm hv ?_ hn J;show PyProof.Rows.callWith_type1 (tW (ha pos pins s σ H _ I h) λus s1 vs H1 I1 r1 q1=>hc pins s1 σ H1 vs us Q I1 r1 q1) he F
end
end L2
namespace HT
open PySem PyProof.Rows
section
variable{prog:Program}{w:World}{A:Around}{E:Ba}{s:Shared}
def cat_tup{t b:Addr}{vs F:LW}{Q:Ba}(ht:IsTup s.heap t vs.toArray)(hb:IsTup s.heap b F.toArray)(hv:vs≠[])
 (h1:F=[]->Q (.ref t) s) (h2:F≠[]->Q (.ref s.heap.objs.size) {s with heap:=s.heap.push {cls:=.type "tuple",data:=.seq (vs++F).toArray}})
 (af:vs.length+F.length<=sizeLine):wpAny (model prog w) A (binaryOp .Add (.ref t)<|.ref b) Q E s:=by
 let#[#[cls,dd,data,sl],ho,hc,n,hd]:=id ht;let#[#[ah,aa,ag,ad],J,ac,n2,ae]:=id hb;simp only at hc hd ac ae;subst hc hd ac ae;have e:vs.toArray++F.toArray=(vs++F).toArray:=#[]
 by_cases hw:F=[]
 . show concat_meets #[_,ho,O] #[_,J,O] noFill_tuple_add seq_tuple_add PySem.F.slot_tuple_add PySem.F.entry_tuple_add (PySem.F.args_tuple_add_2 _ _)
    (tuple_addW1 t b vs.toArray F.toArray n n2 dd aa sl ad ( ~~~hv) (by simp[hw])) #[ho,J,h1 hw]
 . show concat_meets #[_,ho,O] #[_,J,O] noFill_tuple_add seq_tuple_add PySem.F.slot_tuple_add PySem.F.entry_tuple_add (PySem.F.args_tuple_add_2 _ _)
    (tuple_addW2 t b vs.toArray F.toArray n n2 dd aa sl ad ( ~~~hv) ( ~~~hw) (by rw[YG,YG];show af)) #[ho,J,?_]
   rw[e];show h2 hw
noncomputable def sIx(n d:Nat):Option Int->Nat
 |none=>d
 |some v=>if v<0 then (v+(n:Int)).toNat else min v.toNat n
def sIx_none(n d:Nat):sIx n d none=d:=rfl
def sIx_nat(n d k:Nat):sIx n d (some (k:Int))=min k n:=by change (if (k:Int)<0 then ((k:Int)+(n:Int)).toNat else min (k:Int).toNat n)=min k n;rw[YA (),YQ]
def qZw(n d:Nat)(hd:d<=n)(o:Option Int):sIx n d o<=n:=by
 cases o with
 |none=>show hd
 |some v=>
  change (if v<0 then (v+(n:Int)).toNat else min v.toNat n)<=n;by_cases F:v<0
  . rw[YB F];lia
  . rw[YA F];show Nat.min_le_right _ _
def qTl(v:Int)(n d:Nat):(if v<0 then max (v+(n:Int)) 0 else min v (n:Int))=((sIx n d (some v):Nat):Int):=by
 change (if v<0 then max (v+(n:Int)) 0 else min v (n:Int))=(((if v<0 then (v+(n:Int)).toNat else min v.toNat n):Nat):Int);by_cases F:v<0
 . simp only[YB F];lia
 . simp only[YA F];lia
def qPr(lo hi:Option Int)(n:Nat):Builtin.Slice.sliceAdjust lo hi 1 (n:Int)=(((sIx n 0 lo:Nat):Int),((sIx n n hi:Nat):Int)):=by
 have h1:¬((1:Int)<0):=()
 unfold Builtin.Slice.sliceAdjust;simp only[h1,if_false];show Prod.ext ?_ ?_
 . cases lo with
   |none=>rfl
   |some v=>show qTl v n 0
 . cases hi with
   |none=>rfl
   |some v=>show qTl v n n
def qQh(i j:Nat):Builtin.Slice.slicePlaces (i:Int) (j:Int) 1=j-i:=by
 unfold Builtin.Slice.slicePlaces;have h1:(1:Int)>0:=()
 simp only[h1,if_true,Int.ediv_one];split <;> lia
def qHm{v:Value}{o:Option Int}{Q:Option Int->Shared->Prop}(p:IsPart v o)(h:Q o s):wpAny (model prog w) A (Builtin.Slice.slicePartIndex v) Q E s:=by
 cases p with
 |none=>show slicePart_none h
 |int i t=>show slicePart_int h
def qD2{sl:Addr}{vl vu:Value}{lo hi:Option Int}{n:Nat}{Q:Int×Int×Nat->Shared->Prop}(hs:s.heap.IsSliceOf sl vl vu .none)(pl:IsPart vl lo)(pu:IsPart vu hi)
 (h:Q (((sIx n 0 lo:Nat):Int),1,sIx n n hi-sIx n 0 lo) s):wpAny (model prog w) A (Builtin.Slice.sliceApplied (.ref sl)<|pure (n:Int)) Q E s:=by
 let#[os,J,aa,F]:=id hs;unfold Builtin.Slice.sliceApplied Builtin.Slice.sliceFields;show YJ<|YJ (wpAny_field J F (x:=vl) rfl<|YJ (wpAny_field J F (x:=vu) rfl<|YJ (wpAny_field J F (x:=.none) rfl<|YK ?_)));show YJ<|slicePart_none ?_;change wpAny _ _ (if ((1:Int)==0)=true then _ else _) _ _ s;rw[YA #[]];show YJ<|qHm pl (YJ<|qHm pu (YJ<|YK ?_));change wpAny _ _ (match Builtin.Slice.sliceAdjust lo hi 1 (n:Int)with|(lo,hi)=>pure (lo,(1:Int),Builtin.Slice.slicePlaces lo hi 1)) _ _ s;rw[qPr lo hi n];change wpAny _ _ (pure (((sIx n 0 lo:Nat):Int),(1:Int),Builtin.Slice.slicePlaces ((sIx n 0 lo:Nat):Int) ((sIx n n hi:Nat):Int) 1)) _ _ s;rw[qQh];show YK h
def qU3(xs:Array Value)(i k:Nat):((List.range k).filterMap λ(m:Nat)=>xs[((i:Int)+(m:Int)*1).toNat]?).toArray=((xs.toList.drop i).take k).toArray:=by
 have e:(λ(m:Nat)=>xs[((i:Int)+(m:Int)*1).toNat]?)=λm=>xs[i+m]?:=by
  funext m;have:((i:Int)+(m:Int)*1).toNat=i+m:=()
  rw[this]
 rw[e];have:=pick_run xs i k;rw[List.filterMap_map]at this;have F:((λx=>xs[x]?) ∘ λx=>i+x)=λm=>xs[i+m]?:=rfl;rw[F]at this;rw[this]
def getItem_tuple_cut{t sl:Addr}{items:Array Value}{vl vu:Value}{lo hi:Option Int}{Q:Ba}(J:IsTup s.heap t items)(hs:s.heap.IsSliceOf sl vl vu .none)(pl:IsPart vl lo)(pu:IsPart vu hi)
 (hw:¬(sIx items.size 0 lo=0/\sIx items.size items.size hi=items.size))
 (h:Q (.ref s.heap.objs.size) {s with heap:=s.heap.push {cls:=.type "tuple",data:=.seq ((items.toList.drop<|sIx items.size 0 lo).take<|sIx items.size items.size hi-sIx items.size 0 lo).toArray}})
 (ag:items.size<=sizeLine):wpAny (model prog w) A (getItem (.ref t)<|.ref sl) Q E s:=by
 have F:sizeOk (.seq ((items.toList.drop<|sIx items.size 0 lo).take<|sIx items.size items.size hi-sIx items.size 0 lo).toArray):=by change ((items.toList.drop<|sIx items.size 0 lo).take<|sIx items.size items.size hi-sIx items.size 0 lo).toArray.size<=sizeLine;rw[YG,Yk,ZV,Array.length_toList];lia
 have hj:sIx items.size items.size hi<=items.size:=qZw _ _ (YI _) hi;let#[os,ae,aa,af]:=id hs;have ac:s.TypeIs (.ref sl) "slice":=#[os,ae,aa];unfold getItem
 try with_reducible show wpAny_holding ?_
 first|show YJ (YK ?_)|skip
 show YJ<|wpAny_sequenceKey J.typeIs #[] ?_;show YJ (wpAny_callSpecial?_slot (name:=Str.ofString "__getitem__") J.typeIs PyProof.Rows.slot_tuple_getitem
  (wpAny_call_entry PyProof.Rows.slot_tuple_getitem J.typeIs entry_tuple_getitem ?_<|args_tuple_getitem _ _))
 change wpAny _ _ (Builtin.Tuple.tupleItemsOf (.ref t)>>=_) _ _ s;show YJ<|tupleItemsOf_ J ?_;show YJ<|wpAny_typeOf ac ?_;rw[YB #[]];show YJ<|qD2 hs pl pu ?_;have ad:¬((((sIx items.size 0 lo:Nat):Int)==0 && (1:Int)==1 && (sIx items.size items.size hi-sIx items.size 0 lo)==items.size)=true):=by intro q;rw[Yl,Yl]at q;have q1:((sIx items.size 0 lo:Nat):Int)=0:=eq_of_beq q.1.1;have q2:sIx items.size items.size hi-sIx items.size 0 lo=items.size:=eq_of_beq q.2;show hw #[(),()]
 change wpAny _ _ (if (((sIx items.size 0 lo:Nat):Int)==0 && (1:Int)==1 && (sIx items.size items.size hi-sIx items.size 0 lo)==items.size)=true then _ else _) _ _ s;rw[YA ad,qU3]
 first
  |show YJ (m:=Builtin.Tuple.tupleExact _) (wpAny_newObj_type (YK #[_,rfl,YK h]) F)
  |show YJ (m:=Builtin.Tuple.tupleExact _) (wpAny_newObj_type (YJ (YK<|YK #[_,rfl,YK h])) F)
  |show YJ (YJ (m:=Builtin.Tuple.tupleExact _)<|wpAny_newObj_type (YK<|YK #[_,rfl,YK h]) F)
  |show YJ (YJ (m:=Builtin.Tuple.tupleExact _)<|wpAny_newObj_type (YK #[_,rfl,YK h]) F)
end
end HT
namespace L2
open PySem PySem.Spec PyProof.Rows
abbrev TO:=St->Hp->(Option Int->Hp->Prop)->Prop
def PO(X:Cx)(e:Option Expr)(t:TO):Prop:=
 ∀(pins:LO) (s:Shared) (σ:St) (H:Hp) (Q:Option Int->Hp->Prop),Inv X pins σ H s->t σ H Q->
  wpAny (model X.prog X.w) X.A (evalPart e X.env) (λu s'=> ∃o H',Inv X pins σ H' s'/\IsPart u o/\Q o H') X.xe s
noncomputable def qW5:TO:=λ_ H Q=>Q none H
inductive qZx(Q:Option Int->Hp->Prop)(x:V)(H1:Hp):Prop
|mk i (_:x=.int i) (_:Q (some i) H1)
noncomputable def jAr(t:TE):TO:=λσ H Q=>t σ H λx H1=>qZx Q x H1
section
variable{X:Cx}{e:Expr}{te:TE}{lo hi:Option Expr}{tl th:TO}{pos p2:Pos}
def zT:PO X none qW5:=by ext;rw[evalPart_none];show YK #[none,H,I,.none,h]
def zh(h:PE X e te):PO X (some e) (jAr te):=by intro pins s σ H Q I hw;rw[evalPart_some];show tW (h pins s σ H _ I hw) λu s1 x H1 F J q1=>?_;let#[i,rfl,q]:=q1;let#[t,rfl]:=J;show#[some i,H1,F,.int i t,q]
def SlR(X:Cx)(r:V->Option Int->Option Int->Hp->VK->Prop):Prop:=
 ∀(pins:LO) (s:Shared) (σ:St) (H:Hp) (x:V) (v vl vu:Value) (lo hi:Option Int) (sl:Addr) (Q:VK),Inv X pins σ H s->RelV x v->s.heap.IsSliceOf sl vl vu .none->IsPart vl lo->IsPart vu hi->r x lo hi H Q->
  ∃T id,typeLookup (.type T) "__getitem__"=pure (some<|.builtin id)/\s.TypeIs v T/\wpAny (model X.prog X.w) X.A (getItem v<|.ref sl) (EP X pins σ Q) X.xe s
def tSl(r:V->Option Int->Option Int->Hp->VK->Prop)(te:TE)(tl th:TO):TE:=λσ H Q=>te σ H λx H1=>tl σ H1 λl H2=>th σ H2 λu H3=>r x l u H3 Q
def xP{r:V->Option Int->Option Int->Hp->VK->Prop}(hr:SlR X r)(he:PE X e te)(hl:PO X lo tl)(hu:PO X hi th):PE X (.Subscript e (.Slice lo hi none p2) pos) (tSl r te tl th):=by ext;show Subscript_ (tW (he pins s σ H _ I h) λv s1 x H1 I1 r1 q1=>?_);show wpAny_Slice (tW (hl pins s1 σ H1 _ I1 q1) λJ s2 l H2 I2 pl q2=>tW (hu pins s2 σ H2 _ I2 q2) λvu F u H3 I3 pu q3=>?_);rw[evalPart_none];show YK ?_;have I4:Inv X pins σ H3 {F with heap:=F.heap.push {cls:=.type "slice",data:=.fields %[J,vu,.none|0]}}:=I3.kept (t':=F.toks) λb ob q=>YM _ q;let#[T,id,hT,ht,hg]:=hr pins {F with heap:=F.heap.push {cls:=.type "slice",data:=.fields %[J,vu,.none|0]}} σ H3 x v J vu l u F.heap.objs.size Q I4 r1 (Heap.IsSliceOf.new ..) pl pu q3;change wpAny (model X.prog X.w) X.A (subscriptTail e (.Slice lo hi none p2) v<|.ref F.heap.objs.size) (EP X pins σ Q) X.xe {F with heap:=F.heap.push {cls:=.type "slice",data:=.fields %[J,vu,.none|0]}};show tail_any (ops:=[.ref F.heap.objs.size,v]) ht hT hg (by with_unfolding_all rfl)
noncomputable def vP(xs:LV)(lo hi:Option Int):LV:=(xs.drop (HT.sIx xs.length 0 lo)).take (HT.sIx xs.length xs.length hi-HT.sIx xs.length 0 lo)
def vB(xs:LV)(lo hi:Option Int):(vP xs lo hi).length<=xs.length:=by delta vP;rw[Yk,ZV];lia
inductive jCc(K:Fg)(x:V)(lo:Option Int)(hi:Option Int)(H:Hp)(Q:VK):Prop
|mk a xs (_:x=.ref a) (_:SqT K H a xs) (_:¬(HT.sIx xs.length 0 lo=0/\HT.sIx xs.length xs.length hi=xs.length)) (_:∀p,H p=none->Q (.ref p) (upd H p (.tup (vP xs lo hi))))
def qYe:SlR X (jCc X.K):=by
 intro pins s σ H x v vl vu lo hi sl Q I rx hs pl pu h;let#[a,xs,rfl,hx,hw,q]:=h;cases rx;let#[J,r,ht,hz]:=I.tuple hx;have F:J.toArray.size=xs.length:=by rw[YG];show r.length.symm
 show#["tuple",_,PyProof.Rows.slot_tuple_getitem.lookup,ht.typeIs,?_];show HT.getItem_tuple_cut ht hs pl pu (by rw[F];show hw) ?_ (by rw[F];show hz);rw[F];show#[.ref s.heap.objs.size,_,I.laid (t':=s.toks) (o:=.tup<|vP xs lo hi) (λb ob q=>YM _ q) (YI _) ?_,O,q _ (I.hok.fresh<|YI _)];show#[ZD (vB xs lo hi) hz,_,(r.drop<|HT.sIx xs.length 0 lo).take<|HT.sIx xs.length xs.length hi-HT.sIx xs.length 0 lo,IsTup.new _ _]
def jAm(K:Fg):R2:=λx y H Q=> ∃a b xs ys,x=.ref a/\y=.ref b/\SqT K H a xs/\SqT K H b ys/\xs≠[]/\xs.length+ys.length<=sizeLine/\
 (ys=[]->Q (.ref a) H)/\(ys≠[]->∀p,H p=none->Q (.ref p) (upd H p (.tup<|xs++ys)))
def Vals.nil_iff{xs:LV}{us:LW}(r:Vals xs us):us=[]↔xs=[]:=by
 cases r with
 |nil=>simp
 |cons _ _=>simp
def qWr:OpR X (binaryOp .Add) (jAm X.K):=by intro pins s σ H x y v u Q I rx ry h;let#[a,b,xs,ys,rfl,rfl,ha,hb,hx,hz,q1,q2]:=h;cases rx;cases ry;let#[ac,J,p1,_]:=I.tuple ha;let#[aa,F,p2,_]:=I.tuple hb;show HT.cat_tup p1 p2 (λz=>hx<|J.nil_iff.mp z) (λz=>#[.ref a,H,I,O,q1<|F.nil_iff.mp z]) (λz=>?_) (by rw[<-J.length,<-F.length];show hz);show#[.ref s.heap.objs.size,_,I.laid (t':=s.toks) (o:=.tup<|xs++ys) (λb ob q=>YM _ q) (YI _) ?_,O,q2 (λw=>z<|F.nil_iff.mpr w) _ (I.hok.fresh<|YI _)];show#[by rw[YN];show hz,_,J.append F,IsTup.new _ _]
end
noncomputable def ixN(n:Nat)(i:Int):Option Nat:=if 0<=i then (if i<n then some i.toNat else none)else if-(n:Int)<=i then some (i+n).toNat else none
def atI{α:Type}(xs:List α)(i:Int):Option α:=(ixN xs.length i).bind λj=>xs[j]?
def qQ8{n:Nat}{i:Int}{j:Nat}(h:ixN n i=some j):seqIndex? i n=some j/\j<n/\ -(n:Int)<=i/\i<n:=by
 delta ixN at h;by_cases F:0<=i
 . rw[YB F]at h
   by_cases h1:i<n
   . rw[YB h1]at h
     have e:i.toNat=j:=Yb h;show#[by rw[seqIndex_of F h1,e],(),(),h1]
   . rw[YA h1]at h;cases h
 . rw[YA F]at h
   by_cases h1: -(n:Int)<=i
   . rw[YB h1]at h
     have e:(i+n).toNat=j:=Yb h;show#[by rw[seqIndex_neg () h1,e],(),h1,()]
   . rw[YA h1]at h;cases h
def qRb{α:Type}{xs:List α}{i:Int}{v:α}(h:atI xs i=some v):∃j,seqIndex? i xs.length=some j/\xs[j]?=some v/\j<xs.length/\ -(xs.length:Int)<=i/\i<xs.length:=by
 delta atI at h;cases e:ixN xs.length i with
 |none=>rw[e]at h;cases h
 |some j=>
  rw[e]at h;let#[h1,h2,J,F]:=qQ8 e;show#[j,h1,h,h2,J,F]
def jC{α:Type}{xs:List α}{j:Nat}{v:α}(h:xs[j]?=some v):atI xs (j:Int)=some v:=by
 have F:j<xs.length:=(Ya.mp h).1;have e:ixN xs.length (j:Int)=some j:=by delta ixN;rw[YB (),YB ()];simp
 delta atI;rw[e];show h
def qOe{α:Type}(xs:List α)(v:α):atI (xs++[v]) (-1)=some v:=by
 have F:(xs++[v]).length=xs.length+1:=#[]
 have e:ixN (xs++[v]).length (-1)=some xs.length:=by delta ixN;rw[F,YA #[],YB ()];congr 1;lia
 delta atI;rw[e];change (xs++[v])[xs.length]?=some v;simp
def qX6(b:Expr):Prop:= ∀o i,subscripted b false o i=operate [o,i] (getItem o i)
def IxR(X:Cx)(r:R2):Prop:=
 ∀(value slice:Expr) (pins:LO) (s:Shared) (σ:St) (H:Hp) (x y:V) (v u:Value) (Q:VK),Inv X pins σ H s->RelV x v->RelV y u->r x y H Q->
  subscripted slice false v u=operate [v,u] (getItem v u)->wpAny (model X.prog X.w) X.A (subscriptTail value slice v u) (EP X pins σ Q) X.xe s
def MtR(X:Cx)(id:String)(r:V->LV->Hp->VK->Prop):Prop:=
 ∀(pins:LO) (s:Shared) (σ:St) (H:Hp) (x:V) (xs:LV) (v:Value) (us:LW) (Q:VK),Inv X pins σ H s->RelV x v->Vals xs us->r x xs H Q->
  wpAny (model X.prog X.w) X.A (call (.builtin id) (v::us)) (EP X pins σ Q) X.xe s
section
variable{X:Cx}{a b:Expr}{ta tb:TE}{pos:Pos}
def IxR.or{r r':R2}(h:IxR X r)(h':IxR X r'):IxR X (λx y H Q=>r x y H Q\/r' x y H Q):=by
 intro value F pins s σ H x y v u Q I J ry q hs;rcases q with q|q
 . show h value F pins s σ H x y v u Q I J ry q hs
 . show h' value F pins s σ H x y v u Q I J ry q hs
def jI{r:R2}(hr:IxR X r)(F:PE X a ta)(hb:PE X b tb)(hs:qX6 b):PE X (.Subscript a b pos) (tOp r ta tb):=by ext;show Subscript_ (jAh F hb I h λv u s2 x y H2 I2 J ry q=>hr a b pins s2 σ H2 x y v u Q I2 J ry q<|hs _ _)
inductive jBp(K:Fg)(x:V)(y:V)(H:Hp)(Q:VK):Prop
|mk p xs i v (_:x=.ref p) (_:y=.int i) (_:SqL K H p xs) (_:atI xs i=some v) (_:Q v H)
inductive qYd(K:Fg)(x:V)(y:V)(H:Hp)(Q:VK):Prop
|mk p xs i v (_:x=.ref p) (_:y=.int i) (_:SqT K H p xs) (_:atI xs i=some v) (_:Q v H)
def qk:IxR X (jBp X.K):=by
 intro value aa pins s σ H x y v u Q I rx ry h hs;let#[p,xs,i,z,rfl,rfl,hq,he,q]:=h;cases rx;let#[t,rfl]:=ry;let#[ad,r,pl,hz]:=I.list hq;let#[j,h1,h2,h3,h4,h5]:=qRb he;let#[w,ew,ac]:=r.get h2;have hl:=r.length;have hn:=qMi;have F:EP X pins σ Q w s:=#[z,H,I,ac,q];by_cases h0:0<=i
 . have J:i.toNat=j:=by rw[seqIndex_of h0 h5]at h1;show Yb h1
   show item_listR pl.isList h0 () (by rw[J];simpa using ew) F hs
 . have J:(i+(ad.toArray.size:Int)).toNat=j:=by rw[seqIndex_neg () h4]at h1;rw[YG,<-hl];show Yb h1
   show subscriptTail_builtinR (x:=w) pl.isList.typeIs slot_list_getitem.lookup
    (wpAny_getItem_list_neg (Q:=λr s'=>r=w/\EP X pins σ Q r s') pl.isList () (by rw[YG] <;> lia) () (by rw[J];simpa using ew) #[rfl,F]) hs
def qHk:IxR X (qYd X.K):=by
 intro value F pins s σ H x y v u Q I rx ry h hs;let#[p,xs,i,z,rfl,rfl,hq,he,q]:=h;cases rx;let#[t,rfl]:=ry;let#[ac,r,pl,hz]:=I.tuple hq;let#[j,h1,h2,h3,h4,h5]:=qRb he;let#[w,ew,J]:=r.get h2;have hl:=r.length;have hn:=qMi;have aa:EP X pins σ Q w s:=#[z,H,I,J,q];show subscriptTail_builtinR (x:=w) pl.typeIs slot_tuple_getitem.lookup
  (getItem_tuple (j:=j) (Q:=λr s'=>r=w/\EP X pins σ Q r s') pl () () (by rw[YG,<-hl];show h1) ( ~~~ew) #[rfl,aa]) hs
def qQf(F:LW)(n j:Nat)(u:Value):Obj.mapSeq (·.setIfInBounds j u) {cls:=.type "list",data:=.seq F.toArray n}={cls:=.type "list",data:=.seq (F.set j u).toArray n}:=by simp[Obj.mapSeq]
theorem Inv.lst{pins:LO}{σ:St}{H:Hp}{s:Shared}{p:Addr}{xs:LV}(I:Inv X pins σ H s)(h:H p=some (.lst xs)):
 ∃(F:LW) (n:Nat),Vals xs F/\s.heap.get? p=some {cls:=.type "list",data:=.seq F.toArray n}/\xs.length<=sizeLine:=by
 let#[z,F,n,r,e]:=I.hok p _ h;show#[F,n,r,e,z]
def Inv.lstUpd{pins:LO}{σ:St}{H:Hp}{s:Shared}{p:Addr}{xs ys:LV}{F its':LW}{n n':Nat}{f:Obj->Obj}(I:Inv X pins σ H s)(h:H p=some (.lst xs))
 (J:s.heap.get? p=some {cls:=.type "list",data:=.seq F.toArray n}) (hf:f {cls:=.type "list",data:=.seq F.toArray n}={cls:=.type "list",data:=.seq its'.toArray n'}) (r:Vals ys its') (hz:ys.length<=sizeLine) (t:Nat):
 Inv X pins σ (upd H p<|.lst ys) {s with heap:=s.heap.update p f,toks:=t}:=by
 have e:(s.heap.update p f).get? p=some {cls:=.type "list",data:=.seq its'.toArray n'}:=by rw[Heap.get?_update_self f J (by rw[hf] <;> rfl),hf]
 show I.write (x:=p) (e:=p) (by rw[h];trivial) (.inl rfl) (λb u hb q=>(ZB _ _<|ZG hb).trans q) #[_,e] ?_;show#[hz,its',n',r,e]
def jBd:V->V->V->Hp->(Hp->Prop)->Prop:=λo i v H Q=> ∃p xs k j,o=.ref p/\i=.int k/\H p=some (.lst xs)/\ixN xs.length k=some j/\Q (upd H p (.lst<|xs.set j v))
def qEl:jBo X jBd:=by
 intro pins s σ H o i v ov iv u Q I ro ri rv h;let#[p,xs,k,j,rfl,rfl,hp,hj,q]:=h;cases ro;let#[t,rfl]:=ri;let#[F,n,r,J,hz]:=I.lst hp;let#[h1,h2,h3,h4]:=qQ8 hj;have hl:=r.length;have hn:=qMi;have I':Inv X pins σ (upd H p (.lst<|xs.set j v)) {s with heap:=s.heap.update p<|Obj.mapSeq (·.setIfInBounds j u)}:=
  I.lstUpd hp J (qQf F n j u) (r.set rv j) (by rw[ZN];show hz) s.toks
 by_cases h0:0<=k
 . have hk:k.toNat=j:=by rw[seqIndex_of h0 h4]at h1;show Yb h1
   show W.ki_setAt J h0 () (by rw[YG,<-hl];show h4) (by rw[hk];show#[_,I',q])
 . have hk:(k+(F.toArray.size:Int)).toNat=j:=by rw[seqIndex_neg () h3]at h1;rw[YG,<-hl];show Yb h1
   show W.ki_setBack J () (by rw[YG,<-hl];show h3) () (by rw[hk];show#[_,I',q])
def qLf(lo hi:Option Int)(n:Nat):(sliceBounds lo hi none n).1=((HT.sIx n 0 lo:Nat):Int)/\(sliceBounds lo hi none n).2.1=((HT.sIx n n hi:Nat):Int)/\(sliceBounds lo hi none n).2.2=1:=by
 show#[?_,?_,O]
 . cases lo with
   |none=>simp[sliceBounds,HT.sIx]
   |some i=>
    simp only[sliceBounds,HT.sIx,Option.getD_none,show (1:Int)>0 by decide,if_true];by_cases h:i<0
    . simp only[h,if_true] <;> lia
    . simp only[h,if_false] <;> lia
 . cases hi with
   |none=>simp[sliceBounds,HT.sIx]
   |some i=>
    simp only[sliceBounds,HT.sIx,Option.getD_none,show (1:Int)>0 by decide,if_true];by_cases h:i<0
    . simp only[h,if_true] <;> lia
    . simp only[h,if_false] <;> lia
def qIs(F:LW)(lo hi:Option Int):slicePick F.toArray lo hi none=((F.drop<|HT.sIx F.length 0 lo).take<|HT.sIx F.length F.length hi-HT.sIx F.length 0 lo).toArray:=by let#[h1,h2,J]:=qLf lo hi F.toArray.size;unfold slicePick;rw[h1,h2,J];simp only[sliceRange_one,pick_run,YG] <;> rfl
inductive jB6(K:Fg)(x:V)(lo:Option Int)(hi:Option Int)(H:Hp)(Q:VK):Prop
|mk a xs (_:x=.ref a) (_:SqL K H a xs) (_:∀p,H p=none->Q (.ref p) (upd H p (.lst (vP xs lo hi))))
def kD:SlR X (jB6 X.K):=by intro pins s σ H x v vl vu lo hi sl Q I rx hs pl pu h;let#[a,xs,rfl,hx,q]:=h;cases rx;let#[aa,r,J,hz]:=I.list hx;have F:=r.length;show#["list",_,slot_list_getitem.lookup,J.isList.typeIs,?_];show wpAny_getItem_list_slice J.isList hs pl pu .none #[] ?_ (by rw[YG] <;> lia);rw[qIs,<-F];show#[.ref s.heap.objs.size,_,I.laid (t':=s.toks) (o:=.lst<|vP xs lo hi) (λb ob q=>YM _ q) (YI _) ?_,O,q _ (I.hok.fresh<|YI _)];show#[ZD (vB xs lo hi) hz,_,0,(r.drop<|HT.sIx xs.length 0 lo).take<|HT.sIx xs.length xs.length hi-HT.sIx xs.length 0 lo,Yn _ rfl]
noncomputable def kL:V->Bool
 |.non=>true
 |.bl _=>true
 |.int _=>true
 |.str _=>true
 |_=>false
noncomputable def eqV:V->V->Bool
 |.non,.non=>true
 |.bl a,.bl b=>a==b
 |.bl a,.int b=>(if a then 1 else 0)==b
 |.int a,.bl b=>a==(if b then 1 else 0)
 |.int a,.int b=>a==b
 |.str a,.str b=>a==b
 |_,_=>false
def qOh{A:Around}{s:Shared}{y x:V}{u v:Value}(ry:RelV y u)(F:RelV x v)(fy:kL y=true)(fx:kL x=true):SeqAt.EqAt A s u v (eqV y x):=by
 cases y with
 |non=>
  cases ry;cases x with
  |non=>cases F;show SeqAt.EqAt.same _
  |bl b=>cases F;show SeqAt.EqAt.none_bool b
  |int b=>let#[t,rfl]:=F;show SeqAt.EqAt.none_int b t
  |str b=>let#[t,rfl]:=F;show SeqAt.EqAt.none_str b t
  |_=>show YC (show false=true from fx) YZ
 |bl a=>
  cases ry;cases x with
  |non=>cases F;show SeqAt.EqAt.bool_none a
  |bl b=>cases F;show SeqAt.EqAt.bool_bool a b
  |int b=>let#[t,rfl]:=F;show SeqAt.EqAt.bool_int a b t
  |str b=>let#[t,rfl]:=F;show SeqAt.EqAt.bool_str a b t
  |_=>show YC (show false=true from fx) YZ
 |int a=>
  let#[J,rfl]:=ry;cases x with
  |non=>cases F;show SeqAt.EqAt.int_none a J
  |bl b=>cases F;show SeqAt.EqAt.int_bool a J b
  |int b=>let#[t,rfl]:=F;show SeqAt.EqAt.int_int a J b t
  |str b=>let#[t,rfl]:=F;show SeqAt.EqAt.int_str a J b t
  |_=>show YC (show false=true from fx) YZ
 |str a=>
  let#[J,rfl]:=ry;cases x with
  |non=>cases F;show SeqAt.EqAt.str_none a J
  |bl b=>cases F;show SeqAt.EqAt.str_bool a J b
  |int b=>let#[t,rfl]:=F;show SeqAt.EqAt.str_int a J b t
  |str b=>let#[t,rfl]:=F;show SeqAt.EqAt.str_str a J b t
  |_=>show YC (show false=true from fx) YZ
 |_=>show YC (show false=true from fy) YZ
def eqU(x:V)(u:Value):Bool:=match u with
 |.none=>eqV .non x
 |.bool b=>eqV (.bl b) x
 |.int i _=>eqV (.int i) x
 |.str z _=>eqV (.str z) x
 |_=>false
def qV2{x y:V}{u:Value}(r:RelV y u)(f:kL y=true):eqU x u=eqV y x:=by
 cases y with
 |non=>cases r;rfl
 |bl b=>cases r;rfl
 |int i=>let#[t,rfl]:=r;rfl
 |str z=>let#[t,rfl]:=r;rfl
 |_=>show YC (show false=true from f) YZ
theorem qFu{x:V}:∀{xs:LV} {us:LW},Vals xs us->xs.all kL=true->us.any (eqU x)=xs.any λy=>eqV y x
 |_,_,.nil,_=>rfl
 |y::xs,u::us,.cons r t,f=>by rw[List.all_cons,Yl]at f;rw[List.any_cons,List.any_cons,qV2 r f.1,qFu t f.2]
theorem qB2{A:Around}{s:Shared}{x:V}{v:Value}(F:RelV x v)(J:kL x=true):∀{xs:LV} {us:LW},Vals xs us->xs.all kL=true->∀u∈us,SeqAt.EqAt A s u v (eqU x u)
 |_,_,.nil,_=>λu hu=>by cases hu
 |y::xs,u::us,.cons r t,f=>λu' hu=>by
  rw[List.all_cons,Yl]at f;rcases YU.mp hu with rfl|hu
  . rw[qV2 r f.1];show qOh r F f.1 J
  . show qB2 F J t f.2 u' hu
def inV(x:V)(xs:LV):Bool:=xs.any λy=>eqV y x
inductive rIn(K:Fg)(neg:Bool)(x:V)(y:V)(H:Hp)(Q:VK):Prop
|mk p xs (_:y=.ref p) (_:(SqL K H p xs\/SqT K H p xs)) (_:kL x=true) (_:xs.all kL=true) (_:Q (.bl (if neg then !inV x xs else inV x xs)) H)
def j2:OpR X (compareOp .In) (rIn X.K false):=by
 intro pins s σ H x y v u Q I rx ry h;let#[p,xs,rfl,hq,fx,fs,q]:=h;cases ry;rcases hq with hq|hq
 . let#[F,r,pl,hz]:=I.list hq
   show SeqAt.in_listAt (eqU x) pl.isList (λw J=>qB2 rx fx r fs w<| ~~~J) #[.bl _,H,I,O,?_];rw[show F.toArray.any (eqU x)=F.any (eqU x) by simp,qFu r fs];show q
 . let#[F,r,pl,hz]:=I.tuple hq
   show SeqAt.in_tupleAt (eqU x) pl (λw J=>qB2 rx fx r fs w<| ~~~J) #[.bl _,H,I,O,?_];rw[show F.toArray.any (eqU x)=F.any (eqU x) by simp,qFu r fs];show q
def wS:OpR X (compareOp .NotIn) (rIn X.K true):=by
 intro pins s σ H x y v u Q I rx ry h;let#[p,xs,rfl,hq,fx,fs,q]:=h;cases ry;rcases hq with hq|hq
 . let#[F,r,pl,hz]:=I.list hq
   show SeqAt.notIn_listAt (eqU x) pl.isList (λw J=>qB2 rx fx r fs w<| ~~~J) #[.bl _,H,I,O,?_];rw[show F.toArray.any (eqU x)=F.any (eqU x) by simp,qFu r fs];show q
 . let#[F,r,pl,hz]:=I.tuple hq
   show SeqAt.notIn_tupleAt (eqU x) pl (λw J=>qB2 rx fx r fs w<| ~~~J) #[.bl _,H,I,O,?_];rw[show F.toArray.any (eqU x)=F.any (eqU x) by simp,qFu r fs];show q
def jE:vM X (.builtin "len") (λxs H Q=> ∃p ys,xs=[.ref p]/\(SqL X.K H p ys\/SqT X.K H p ys)/\Q (.int ys.length) H):=by
 intro pins s σ H xs us Q I r h;let#[p,ys,rfl,hq,q]:=h;let#[u,rfl,rx]:=qFw r;cases rx;have hn:=qMi;rcases hq with hq|hq
 . let#[J,r',pl,hz]:=I.list hq
   have F:=r'.length;show Calls.call_len_list pl.isList (by simp only[YG] <;> lia) #[.int ys.length,H,I.tok _,#[s.toks+1,by rw[YG,F]],q]
 . let#[J,r',pl,hz]:=I.tuple hq
   have F:=r'.length;show len_tuple pl (by simp only[YG] <;> lia) #[.int ys.length,H,I.tok _,#[s.toks+1,by rw[YG,F]],q]
def qDd:vM X (.builtin "len") (λxs H Q=> ∃z,xs=[.str z]/\z.length<=sizeLine/\Q (.int z.length) H):=by intro pins s σ H xs us Q I r h;let#[z,rfl,F,q]:=h;let#[u,rfl,t,rfl]:=qFw r;have J:=qMi;show len_str () #[.int z.length,H,I.tok _,#[_,O],q]
def xI:vM X (.type "list") (λxs H Q=> ∃p ys,xs=[.ref p]/\(SqL X.K H p ys\/SqT X.K H p ys)/\∀l,H l=none->Q (.ref l) (upd H l<|.lst ys)):=by
 intro pins s σ H xs us Q I r h;let#[p,ys,rfl,hq,q]:=h;let#[u,rfl,rx]:=qFw r;cases rx;have ac:∀(F:LW),Vals ys F->ys.length<=sizeLine->∀(h':Heap) (c':Nat),(∀b o',s.heap.get? b=some o'->h'.get? b=some o')->
  h'.get? s.heap.objs.size=some {cls:=.type "list",dict:=none,data:=.seq F.toArray c',slots:= %[|0]}->EP X pins σ Q (.ref s.heap.objs.size) {s with heap:=h'}:=λF r' hz h' c' J e=>
  #[.ref s.heap.objs.size,_,I.laid (t':=s.toks) J (YI _) (show ObjOk X.prog X.w _ h' _ (.lst ys)from #[hz,F,c',r',e]),rfl,q _ (I.hok.fresh<|YI _)]
 rcases hq with hq|hq
 . let#[F,r',pl,hz]:=I.list hq
   have aa:=r'.length;let#[o,ho,hc,n,hd]:=pl.isList;show call_list_seq p (.inl rfl) ho hc hd (λh' c' J e=>ac F r' hz h' c' J e) (by simp only[YG] <;> lia)
 . let#[F,r',pl,hz]:=I.tuple hq
   have aa:=r'.length;let#[o,ho,hc,n,hd]:=pl;show call_list_seq p (.inr rfl) ho hc hd (λh' c' J e=>ac F r' hz h' c' J e) (by simp only[YG] <;> lia)
def tyV(K:Fg)(T:String)(x:V)(H:Hp):Prop:=match x with
 |.str _=>T="str"
 |.int _=>T="int"
 |.ref p=>(T="list"/\∃xs,SqL K H p xs)\/(T="tuple"/\∃o,K.lookup p=some o/\o.cls=.type "tuple"/\o.dict=none)\/
  (T="dict"/\((∃kvs,H p=some (.dK kvs))\/∃kvs,H p=some (.dT kvs)))\/(T="set"/\∃S n,H p=some (.set S n))
 |_=>False
def qVw{pins:LO}{σ:St}{H:Hp}{s:Shared}{T:String}{x:V}{v:Value}(I:Inv X pins σ H s)(r:RelV x v)(ty:tyV X.K T x H):
 s.TypeIs v T/\∀a,v=.ref a->∃ob,s.heap.get? a=some ob/\ob.dict=none:=by
 cases x with
 |str z=>
  let#[t,rfl]:=r;cases (show T="str" from ty);show#[typeIs_str s z t,λ_ e=>nomatch e]
 |int i=>
  let#[t,rfl]:=r;cases (show T="int" from ty);show#[typeIs_int s i t,λ_ e=>nomatch e]
 |ref p=>
  cases r;rcases ty with ⟨rfl,xs,hq⟩|⟨rfl,o,F,hc,hd⟩|⟨rfl,F⟩|⟨rfl,S,n,F⟩
  . let#[aa,_,pl,_]:=I.list hq
    show#[pl.isList.typeIs,λa e=>?_];cases e;let#[o,n,e,c,hd,_]:=pl;show#[o,e,hd]
  . show#[#[o,I.kIn p o F,hc],λa e=>?_]
    cases e;show#[o,I.kIn _ o F,hd]
  . have z:∃o,s.heap.get? p=some o/\o.ExactDict:=by
     rcases F with ⟨kvs,F⟩|⟨kvs,F⟩
     . let#[_,_,_,_,o,_,_,e,ex,_]:=I.hok p _ F
       show#[o,e,ex]
     . let#[_,_,_,_,o,_,_,e,ex,_]:=I.hok p _ F
       show#[o,e,ex]
    let#[o,e,ex]:=z;show#[#[o,e,ex.1],λa J=>?_];cases J;show#[o,e,ex.2.1]
  . let#[o,_,_,_,e,ex,_]:=I.hok p _ F
    show#[#[o,e,ex.1],λa J=>?_];cases J;show#[o,e,ex.2.1]
 |_=>show XD ty
def jB9(K:Fg)(T:String)(r:V->LV->Hp->VK->Prop)(to:TE):TE:=λσ H Q=>to σ H λx H1=>tyV K T x H1/\r x [] H1 Q
def tBM(K:Fg)(T:String)(r:V->LV->Hp->VK->Prop)(to:TE)(t:TA):TE:=λσ H Q=>to σ H λx H1=>tyV K T x H1/\t σ H1 λxs H2=>r x xs H2 Q
variable{o e:Expr}{es:List Expr}{to:TE}{t:TA}{name:Str}{apos cpos:Pos}{T id:String}{r:V->LV->Hp->VK->Prop}
def qO6(pa:PlainAttrs T)(aa:Slot T name id)(ac:typeOf (.builtin id)=pure (.type "method_descriptor"))(hm:MtR X id r)(ho:PE X o to)
 (J:attributeBase o name X.env (eval o X.env)=eval o X.env:=by rfl) (F:(apos.endLine==cpos.line)=true:=by rfl):PE X (.Call (.Attribute o name apos) [] [] cpos) (jB9 X.K T r to):=by
 ext;show wpAny_Call_method0_late J F (tW (ho pins s σ H _ I h) λv s1 x H1 I1 r1 zZ0=>?_);let#[ty,q1]:=zZ0;let#[h1,h2]:=qVw I1 r1 ty;show#[T,id,pa,aa,ac,h1,h2,Calls.callWith_builtin rfl (PySem.evalArgs_none<|hm pins s1 σ H1 x [] v [] Q I1 r1 .nil q1)]
def vd(pa:PlainAttrs T)(ac:Slot T name id)(ae:typeOf (.builtin id)=pure (.type "method_descriptor"))(hm:MtR X id r)(ho:PE X o to)(ha:PA X (e::es) t)
 (aa:attributeBase o name X.env (eval o X.env)=eval o X.env:=by rfl)
 (ad:((backTo cpos<|starEach (e::es) X.env).all (λx=>!x.1) && (backToKw cpos<|keywordEach [] X.env).all (λx=>x.1.isSome)
   && decide ((e::es).length+([]:List Keyword).length+(if ([]:List Keyword).isEmpty then 0 else 1)<30))=true:=by rfl)
 (J:(apos.endLine==cpos.line)=true:=by rfl) (hs:starEach (e::es) X.env=(false,eval e X.env)::starEach es X.env:=by rfl) (F:(backTo cpos<|starEach es X.env).any (·.1)=false:=by rfl):
 PE X (.Call (.Attribute o name apos) (e::es) [] cpos) (tBM X.K T r to t):=by
 ext;show wpAny_Call_method_late aa ad J rfl (tW (ho pins s σ H _ I h) λv s1 x H1 I1 r1 zZ0=>?_);let#[ty,q1]:=zZ0;let#[h1,h2]:=qVw I1 r1 ty;show#[T,id,pa,ac,ae,h1,h2,?_];have hA:=ha cpos pins s1 σ H1 _ I1 q1;rw[hs]at hA⊢;show Calls.callWith_builtin (by change (false || (backTo cpos<|starEach es X.env).any (·.1))=false;rw[F] <;> rfl)<|Calls.evalArgs_plain ?_;show thn hA λus s2 #[vs,H2,I2,r2,q2]=>hm pins s2 σ H2 x vs v us Q I2 r1 r2 q2
end
def MtM(X:Cx)(id:String)(r:V->LV->Hp->VK->Prop):Prop:=
 ∀(pins:LO) (s:Shared) (σ:St) (H:Hp) (x:V) (xs:LV) (v:Value) (us:LW) (Q:VK),Inv X pins σ H s->RelV x v->Vals xs us->r x xs H Q->
  wpAny (model X.prog X.w) X.A (call (.builtin id) (v::us)) (EP X pins σ Q) X.xe s
theorem Vals.one:∀{x:V} {us:LW},Vals [x] us->∃u,us=[u]/\RelV x u
 |_,_,.cons r .nil=>#[_,rfl,r]
theorem Vals.zero:∀{us:LW},Vals [] us->us=[]
 |_,.nil=>rfl
theorem Vals.dropLast{xs:LV}{us:LW}(h:Vals xs us):Vals xs.dropLast us.dropLast:=by
 induction h with
 |nil=>show .nil
 |cons r t ih=>
  cases t with
  |nil=>show .nil
  |cons q t'=>show .cons r ih
def qP8{α:Type}(l:List α):l.eraseIdx (l.length-1)=l.dropLast:=by
 induction l with
 |nil=>rfl
 |cons a r ih=>
  cases r with
  |nil=>rfl
  |cons b r=>
   have e:(a::b::r).length-1=((b::r).length-1)+1:=by have h1:(a::b::r).length=r.length+2:=rfl;have h2:(b::r).length=r.length+1:=rfl;lia
   rw[e,List.eraseIdx_cons_succ,ih]
   all_goals rfl
section
variable{X:Cx}{pins:LO}{σ:St}{H:Hp}{s:Shared}{l b:Addr}{xs ys zs:LV}
def Inv.lset{F its':LW}{n:Nat}{f:Array Value->Array Value}{t':Nat}(I:Inv X pins σ H s)(hH:H l=some (.lst xs))
 (e:s.heap.get? l=some {cls:=.type "list",data:=.seq F.toArray n}) (hf:f F.toArray=its'.toArray) (J:Vals ys its') (hz:ys.length<=sizeLine):
 Inv X pins σ (upd H l<|.lst ys) {s with heap:=s.heap.update l<|Obj.mapSeq f,toks:=t'}:=by
 have q:=PySem.IsL.update e f;rw[hf]at q;show I.write (x:=l) (e:=l) (by rw[hH];show trivial) (.inl rfl) (λb' u hb hu=>(ZB s.heap (Obj.mapSeq f)<|ZG hb).trans hu) #[_,q] ?_;show#[hz,its',_,J,q]
def Inv.lnew{F:LW}{t':Nat}(I:Inv X pins σ H s)(J:Vals ys F)(hz:ys.length<=sizeLine):
 Inv X pins σ (upd H s.heap.objs.size<|.lst ys) {s with heap:=s.heap.push {cls:=.type "list",data:=.seq F.toArray},toks:=t'}:=
 I.laid (λ_ _ q=>YM _ q) (YI _) #[hz,F,0,J,Yn _ rfl]
theorem Inv.fresh(I:Inv X pins σ H s):H s.heap.objs.size=none:=I.hok.fresh<|YI _
def Inv.lstM(I:Inv X pins σ H s)(J:H l=some (.lst xs)):xs.length<=sizeLine/\∃(F:LW) (n:Nat),Vals xs F/\xs.length=F.length/\s.heap.get? l=some {cls:=.type "list",data:=.seq F.toArray n}:=by let#[z,F,n,r,e]:=I.hok l _ J;show#[z,F,n,r,r.length,e]
def qUh{n:Nat}(h:n<=sizeLine):Builtin.List.listTooLong n=false:=by unfold Builtin.List.listTooLong;show YW ()
end
section
variable{X:Cx}
inductive qW6(x:V)(vs:LV)(H:Hp)(Q:VK):Prop
|mk l xs y (_:x=.ref l) (_:vs=[y]) (_:H l=some (.lst xs)) (_:xs.length<sizeLine) (_:Q .non (upd H l (.lst (xs++[y]))))
def jN:MtM X "list.append" qW6:=by intro pins s σ H x vs v us Q I rx rv h;let#[l,xs,y,rfl,rfl,hH,hz,q]:=h;cases rx;let#[u,rfl,ru]:=rv.one;let#[z,J,n,r,hl,e]:=I.lstM hH;show call_meets XB #[_,e,O] F.entry_list_append (F.args_list_append_2 _ _) (PySem.list_append l J.toArray n u (by rw[YG];lia)) #[e,?_];show#[.non,_,I.lset (its':=J++[u]) hH e #[] (r.append<|.cons ru .nil) ?_,O,q];rw[YN,Yy];lia
inductive qWk(x:V)(vs:LV)(H:Hp)(Q:VK):Prop
|mk l b xs zs (_:x=.ref l) (_:vs=[.ref b]) (_:H l=some (.lst xs)) (_:H b=some (.lst zs)) (_:xs.length+zs.length<=sizeLine) (_:Q .non (upd H l (.lst (xs++zs))))
def qLl:MtM X "list.extend" qWk:=by
 intro pins s σ H x vs v us Q I rx rv h;let#[l,b,xs,zs,rfl,rfl,hH,hB,hz,q]:=h;cases rx;let#[u,rfl,ru]:=rv.one;cases ru;let#[z,aa,n,r,hl,e]:=I.lstM hH;let#[z2,J,n2,r2,ae,e2]:=I.lstM hB;have ad:aa.toArray.size+J.toArray.size<=sizeLine:=by rw[YG,YG];lia
 have ac:¬(!aa.toArray.isEmpty && Builtin.List.listTooLong (aa.toArray.size+J.toArray.size))=true:=by rw[qUh ad,Bool.and_false];show YZ
 show call_meets F.slot_list_extend #[_,e,O] F.entry_list_extend (F.args_list_extend_2 _ _)
  (AutoSeq1.list_extend_list_list_0 l aa.toArray n b J.toArray n2 ac (by rw[YG];lia) ()) #[e,e2,?_]
 show#[.non,_,I.lset (its':=aa++J) hH e #[] (r.append r2) ?_,O,q];rw[YN];lia
def jCn:V->LV->Hp->VK->Prop:=λx vs H Q=> ∃l xs y,x=.ref l/\vs=[]/\H l=some (.lst xs)/\xs[xs.length-1]?=some y/\Q y (upd H l<|.lst xs.dropLast)
def qV7:MtM X "list.pop" jCn:=by
 intro pins s σ H x vs v us Q I rx rv h;let#[l,xs,y,rfl,rfl,hH,hy,q]:=h;cases rx;have aa:=rv.zero;subst aa;let#[z,J,n,r,hl,e]:=I.lstM hH;let#[u,hu,ru]:=r.get hy;have ac:J.toArray[J.toArray.size-1]?=some u:=by change J.toArray[J.length-1]?=some u;rw[<-Array.getElem?_toList,<-hl];show hu
 show call_meets F.slot_list_pop #[_,e,O] F.entry_list_pop (F.args_list_pop_1 _) (MeetsSeq.list_pop_last l J.toArray n u ac (by rw[YG];lia)) #[e,?_];show#[y,_,I.lset (its':=J.dropLast) hH e ?_ r.dropLast ?_,ru,q]
 . change J.toArray.eraseIdxIfInBounds (J.toArray.size-1)=J.dropLast.toArray
   rw[YG,List.eraseIdxIfInBounds_toArray,qP8]
 . rw[List.length_dropLast]
   lia
def qZf:V->LV->Hp->VK->Prop:=λx vs H Q=> ∃l xs,x=.ref l/\vs=[]/\H l=some (.lst xs)/\Q .non (upd H l<|.lst [])
def qUz:MtM X "list.clear" qZf:=by intro pins s σ H x vs v us Q I rx rv h;let#[l,xs,rfl,rfl,hH,q]:=h;cases rx;have J:=rv.zero;subst J;let#[z,aa,n,r,hl,e]:=I.lstM hH;show call_meets F.slot_list_clear #[_,e,O] F.entry_list_clear (F.args_list_clear_1 _) (AutoSeq1.list_clear_list_0 l aa.toArray n (by rw[YG];lia)) #[e,?_];show#[.non,_,I.lset (its':=[]) (ys:=[]) hH e rfl .nil<|ZT _,O,q]
inductive jB4(x:V)(y:V)(H:Hp)(Q:VK):Prop
|mk l b xs zs (_:x=.ref l) (_:y=.ref b) (_:H l=some (.lst xs)) (_:H b=some (.lst zs)) (_:xs.length+zs.length<=sizeLine) (_:∀p,H p=none->Q (.ref p) (upd H p (.lst (xs++zs))))
def vW:OpR X (binaryOp .Add) jB4:=by
 intro pins s σ H x y v u Q I rx ry h;let#[l,b,xs,zs,rfl,rfl,hH,hB,hz,q]:=h;cases rx;cases ry;let#[z,J,n,r,hl,e]:=I.lstM hH;let#[z2,F,n2,r2,aa,e2]:=I.lstM hB;show PySem.P.add_list e e2 ?_ (by rw[YG,YG];lia);have ea:J.toArray++F.toArray=(J++F).toArray:=#[]
 rw[ea];show#[.ref _,_,I.lnew (t':=s.toks) (r.append r2) (by rw[YN];lia),O,q _ I.fresh]
end
end L2
namespace Att
open PySem PySem.W PySem.Calls PyProof.Rows
def qFh{P:Params}{h:Heap}:∀(ns:LN) (vs:LW),WellAll P h vs (ns.map WData.int)->IntsAre vs ns:=by
 intro ns
 induction ns with
 |nil=>
  intro vs w;rw[List.map_nil]at w;cases w;show .nil
 |cons n ns ih=>
  intro vs w;rw[ZH]at w;cases w with
  |cons a b=>
   cases a;show .cons _ _<|ih _ b
def qRv{l:OpenLaw}{n:Nat}(hn:l.most=some n){P:Params}{h:Heap}{args:List WData}{J:LW}
 (F:l.row.toRowW.claim.pre args=true) (ac:WellAll P h J args):
 ∃a vs ns,J=[Value.ref a]/\args=[WData.list<|ns.map WData.int]/\h.get? a=some {cls:=.type "list",data:=.seq vs.toArray}/\IntsAre vs ns/\ns.length<=n:=by
 have ad:WShape.hasAll [] args [.list .int]=true:=(pre_splitW F).1;have hc:l.pre.holds [] {args:=args}=true:=(pre_splitW F).2;let#[d,r,rfl,h1,h2]:=hasAllW_cons ad;obtain rfl:=hasAllW_nil h2;let#[xs,rfl,h3]:=hasW_list h1;let#[ns,rfl]:=items_int h3;have aa:ns.length<=n:=by
  unfold OpenLaw.pre at hc;have h4:(WTm.not<|.lt (.lit<|.int (n:Int)) (.len<|.arg 0)).holds [] {args:=[.list<|ns.map .int]}=true:=by have h4:=(holds_andW hc).1;rw[hn]at h4;show h4
  have h5:=condW_of h4 (w_not<|w_lt w_lit (w_len_list<|w_arg rfl));rw[YS]at h5;show Nat.le_of_not_lt λq=>?_;have q':(n:Int)<((ns.length:Nat):Int):=()
  first
   |(rw[YX q']at h5;show YC h5 #[])
   |(simp at h5;lia)
 cases ac with
 |cons w1 w2=>
  cases w2;cases w1 with
  |list ho hall=>show#[_,_,ns,rfl,rfl,ho,qFh ns _ hall,aa]
def qRf(l:OpenLaw)(args:List WData):l.row.toRowW.claim.post args (.bool true) args=true:=
 postW_of (r:=l.row.toRowW) (X:=(true==true))
  (show WShape.has [] (.bool true) .bool=true by first|rfl|decide|simp[WShape.has,WShape.arms,WShape.armsAll])
  (show (WTm.eq .res (.lit<|.bool true)).value [] {args:=args,res:=some<|.bool true,after:=args}=some (.bool<|true==true)from w_eq_bool (w_res rfl) w_lit) rfl
def attach_call{l:OpenLaw}{n:Nat}{q:Program}{J:LS}{XP:(SV)->Heap->Prop}{YP:World->Heap->Prop}{d:DefRec}
 (hn:l.most=some n) (al:d.params.defaults=[])
 (ah:∀(w:World) (aa F:Shared) (mg mb:SV) (fa:Addr) (o:Obj) (pm cd ac:Value) (a:Addr) (vs:LW) (ns:LN),
   Ground q J [] XP w aa mg mb F.heap->YP w F.heap->
   F.heap.get? fa=some o->o.data=.func (docDef d.name d.params d.body d.scope pm cd ac)->F.heap.CodeRec cd d.name->mg d.name=some (.ref fa)->
   F.heap.get? a=some {cls:=.type "list",data:=.seq vs.toArray}->IntsAre vs ns->ns.length<=n->F.gens= %[|0]->
   codeAny (model l.prog w) callerA (.call (.ref fa) #[[.ref a],[]]) (λr s'=>r=.ok (.ret<|.bool true)/\OldK F.heap s'.heap/\s'.os=F.os/\AllBare s'.gens) F):
 WalkO q J XP YP l.row.toRowW d [] (λf vs=>PySem.call f vs):=by
 intro w aa F mg mb G Y fa o pm cd ac dV kV ho hd ak hD aj hg ao an as ae am aq ai ap;obtain rfl:dV=.none:=Dflts.none hD al;obtain rfl:kV=.none:=Dflts.noKw hD;let#[a,vs,ns,rfl,rfl,af,ad,ag]:=qRv hn ae ai;show enter_call (codeAny_mono (ah w aa F mg mb fa o pm cd ac a vs ns G Y ho (fd_plain hd) ak aj af ad ag hg) λr s' hq=>?_);let#[rfl,h2,h3,h4]:=hq;show#[.inl #[.bool true,.bool true,[],O,λ_=>rfl,.bool true,qRf l _,λ_=>#[List.Pairwise.nil,λ_ hm=>(nomatch hm)]],h2,h3,h4]
end Att
namespace L2
open PySem PySem.Spec PyProof.Rows
theorem qKv:∀{vs:LW} {ns:LN},IntsAre vs ns->Vals (ns.map V.int) vs
 |_,_,.nil=>.nil
 |_,_,.cons n t h=>.cons #[t,rfl]<|qKv h
def qZ8(H:Hp):Prop:= ∀b,H b=none\/∃o xs,H b=some (.frz o<|.lst xs)
def qU7{P:Program}{w:World}{K:Fg}{mg mb:SV}{CX:CXT}{k:Nat}{fa a:Addr}{fd:FD}{x:Str}{sp:Sp}{J:Shared}{vs:LW}{ns:LN}
 (KX:K.In J.heap) (al:J.heap.Ns mainGlobals mg) (hb:J.heap.Ns builtinsNs mb) (an:∀x:Str,x≠"__name__"->mb x=bootBuiltins x) (ag:J.heap.NoLimit) (hg:J.gens= %[|0])
 (ha:J.heap.get? a=some {cls:=.type "list",data:=.seq vs.toArray}) (hi:IntsAre vs ns) (hl:ns.length<=sizeLine) (hr:Room k callerA)
 (F:∀base:Heap,K.In base->base.Ns mainGlobals mg->FnOk P w K mg base CX k fa fd [x] sp) (ae:∀(s:Shared) (u:Value),BindsTo s fd #[[u],[]] [(x,u)])
 (ap:∀H:Hp,qZ8 H->SqL K H a (ns.map V.int)->sp [.ref a] H (λv _=>v=.bl true) λ_ _ _=>False)
 (am:∀H e s',CX [] H J (λ_ _ _=>False) e s'->False):
 codeAny (model P w) callerA (.call (.ref fa) #[[.ref a],[]]) (λr s'=>r=.ok (.ret<|.bool true)/\OldK J.heap s'.heap/\s'.os=J.os/\AllBare s'.gens) J:=by
 have rv:=qKv hi;have ai:=hi.length;have ad:∀H:Hp,qZ8 H->SqL K H a (ns.map V.int)->HOk P w H J.heap->(∀b,H b≠none->b=a)->(H a≠none->K.lookup a=none)->
  codeAny (model P w) callerA (.call (.ref fa) #[[.ref a],[]]) (λr s'=>r=.ok (.ret<|.bool true)/\OldK J.heap s'.heap/\s'.os=J.os/\AllBare s'.gens) J:=by
  intro H hO hS ak hA hK;have aa:∀{b:Addr} {o:Obj},J.heap.get? b=some o->H b=none->(qU2 J.heap H).get? b=some o:=λe n=>qVi e n;have ao:∀{b:Addr} {o:Obj} {es:Array DictEntry} {ep:Nat},J.heap.get? b=some o->o.data=.dict es ep->H b=none:=λ{b o es ep} e d=>by
   cases q:H b with
   |none=>rfl
   |some u=>
    have e':b=a:=hA b (by rw[q];simp);subst e';rw[ha]at e;cases e;have d':Data.seq vs.toArray _=Data.dict es ep:=d;cases d'
  have ac:∀{b:Addr} {m:SV},J.heap.Ns b m->(qU2 J.heap H).Ns b m:=λ{b m} #[o,es,ep,e,d,r]=>#[o,es,ep,aa e<|ao e d,d,r];have ah:K.In (qU2 J.heap H):=λb o e=>aa (KX b o e) (by
   cases q:H b with
   |none=>rfl
   |some u=>
    have e':b=a:=hA b (by rw[q];simp);subst e';rw[hK (by rw[q];simp)]at e;cases e)
  have hM:Mod K mg (qU2 J.heap H):=#[ah,ac al,#[mb,ac hb,an],let #[mc,h1,h2]:=ag;#[mc,ac h1,h2]];have e0:Env0 P w K mg (qU2 J.heap H) callerA [] J H:=#[rfl,hM,λb o e=>qW4 e,Nat.le_of_eq<|qTo _ _,trivial,λb hb=>YC (show b∈([]:List Addr)from hb) #[],ak,.of_eq hg];show codeAny_mono ((F _ ah<|ac al).run callerA [] J H #[[.ref a],[]] [.ref a] [.ref a] _ _ hr e0 (ae J<|.ref a) (.cons rfl .nil)<|ap H hO hS) λr s' h=>?_;cases r with
  |error e=>show(am H e s' h).elim
  |ok fl=>
   cases fl with
   |next=>show XD h
   |brk=>show XD h
   |cont=>show XD h
   |ret u=>
    let#[v,H',os,af,un,aj,r',q]:=h;have q':v=.bl true:=q;subst q';obtain rfl:u=Value.bool true:=r';show#[O,OldK.of_keep λb o e=>?_,os,af];cases q:H b with
    |none=>show un.keep b o e q (by intro z;show YC (show b∈([]:List Addr)from z) #[]) #[]
    |some u=>
     rcases hO b with z|⟨ob,xs,z⟩
     . rw[q]at z;cases z
     . have z2:=un.frzs b ob _ z
       let#[e1,_]:=ak b _ z;let#[e2,_]:=aj b _ z2;rw[e]at e1;cases e1;show e2
 cases hk:K.lookup a with
 |some o=>
  have e:=KX a o hk;rw[ha]at e;cases e;show ad (λ_=>none) (λ_=>.inl rfl) (.inr #[_,vs.toArray,_,hk,rfl,rfl,rfl,by rw[YG,ai];show hl, ~~~rv]) (λb u z=>by have z':(none:Option HO)=some u:=z;cases z') (λb z=>YC rfl z) λz=>YC rfl z
 |none=>
  show ad (λb=>if b=a then some (.frz {cls:=.type "list",data:=.seq vs.toArray} (.lst<|ns.map V.int))else none) (λb=>?_) (.inl<|.inr #[{cls:=.type "list",data:=.seq vs.toArray},YB rfl]) (λb u z=>?_) (λb z=>?_) λ_=>hk
  . by_cases hb:b=a
    . show .inr #[_,_,YB hb]
    . show .inl (YA hb)
  . by_cases hb:b=a
    . have z':=(YB hb).symm.trans z
      cases z';subst hb;show#[ha,by rw[YS];show hl,vs,_,rv,ha]
    . have z':=(YA hb).symm.trans z
      cases z'
  . by_cases hb:b=a
    . show hb
    . show YC (YA hb) z
def walk_of{l:W.OpenLaw}{n k:Nat}{q:Program}{aa:LS}{XP:(SV)->Heap->Prop}{YP:World->Heap->Prop}{d:DefRec}{K:Params->Fg}{CX:World->CXT}{sp:World->Sp}{x:Str}
 (hn:l.most=some n) (ai:n<=sizeLine) (aj:d.params.defaults=[]) (hr:Room k callerA)
 (hY:∀(w:World) (h:Heap),YP w h->(K w.params).In h)
 (F:∀(w:World) (mg:SV) (fa:Addr) (h:Heap),(K w.params).In h->h.Ns mainGlobals mg->mg d.name=some (.ref fa)->
   ∃fd:FD,(∀(s:Shared) (u:Value),BindsTo s fd #[[u],[]] [(x,u)])/\
    ∀base:Heap,(K w.params).In base->base.Ns mainGlobals mg->FnOk l.prog w (K w.params) mg base (CX w) k fa fd [x] (sp w))
 (ag:∀(w:World) (H:Hp) (a:Addr) (ns:LN),ns.length<=n->qZ8 H->SqL (K w.params) H a (ns.map V.int)->sp w [.ref a] H (λv _=>v=.bl true) λ_ _ _=>False)
 (af:∀(w:World) (H:Hp) (s:Shared) (e:Value) (s':Shared),CX w [] H s (λ_ _ _=>False) e s'->False):
 W.WalkO q aa XP YP l.row.toRowW d [] (λf vs=>PySem.call f vs):=by
 show Att.attach_call hn aj λw ak ae mg mb fa o pm cd al a vs ns G Y ho hd am ah ad ac J hg=>?_;have KX:=hY w _ Y;let#[fd,hb,hF]:=F w mg fa _ KX G.T.g ah;show qU7 KX G.T.g G.T.b G.T.builtins G.T.nolimit hg ad ac (ZD J ai) hr hF hb (λH hO hS=>ag w H a ns J hO hS) λH e s'=>af w H ae e s'
noncomputable def vN(s:Stmt)(j:Nat):Stmt:=match s with
 |.ClassDef _ _ _ body _ _ _ _ _ _ _=>body.getD j (.Pass #[0,0,0,0])
 |_=>.Pass #[0,0,0,0]
noncomputable def zl(s:Stmt):Arguments:=match s with
 |.FunctionDef _ a _ _ _ _ _ _ _ _=>a
 |_=>{posonlyargs:=[],args:=[],vararg:=none,kwonlyargs:=[],kw_defaults:=[],kwarg:=none,defaults:=[]}
noncomputable def j9(s:Stmt):List Stmt:=match s with
 |.FunctionDef _ _ b _ _ _ _ _ _ _=>b
 |_=>[]
noncomputable def qG(s:Stmt):Scope:=match s with
 |.FunctionDef _ _ _ _ _ _ sc _ _ _=>sc
 |_=>{kind:=.function,names:=[],isGenerator:=false,isCoroutine:=false}
abbrev CX0:CXT:=λ_ _ _ _ _ _=>False
abbrev E0:XK:=λ_ _ _=>False
def qXz{X:Cx}:qDr CX0 X E0:=λ_ _ _ _ _ _ _ h=>h.elim
structure Fun(K:Fg)(x qual:Str)(st:Stmt)(f:Addr)(fd:FD):Prop where
 ex:∃(oc:Value) (od:Option Addr) (kV doc pm:Value) (an:Option Addr) (cdv ct:Value) (osl:Array (Option Value)),
  fd=W.fnOf x qual (zl st) (j9 st) (qG st) .none kV doc pm an cdv ct/\K.lookup f=some #[oc,od,.func fd,osl]/\W.codeIn K cdv qual=true
 kp:W.keepIn K (.ref f)=true
section
variable{P:Program}{w:World}{K:Fg}{mg:SV}{base:Heap}
def Fun.ok{x qual:Str}{st:Stmt}{f:Addr}{fd:FD}{N ps:LS}{k:Nat}{sp:Sp}(F:Fun K x qual st f fd)(S:qN N ps<|qG st)(ad:∀vs H Q E,sp vs H Q E->vs.length=ps.length)
 (J:∀(cdv:Value) (A:Around) (outer:List Env) (s:Shared) (H:Hp) (vs:LV) (Q:VK) (E:XK),Room k (A.deeper<|envOfC qual (qG st) s.heap.objs.size f cdv)->sp vs H Q E->
   ∃t,PSs (qMj CX0 P w K mg base N qual (qG st) f cdv A outer s H E).nox (j9 st) t/\t {nx:=λ_ H'=>Q .non H',rt:=Q} (qBr N vs) H):FnOk P w K mg base CX0 (k+1) f fd ps sp:=by
 let#[oc,od,kV,af,pm,an,cdv,ct,ae,rfl,lk,ac]:=F.ex;show qZz lk ac S ad λA outer s H vs Q E hr aa=>?_;let#[t,h,q]:=J cdv A outer s H vs Q E hr aa;show#[t,h.nox,q]
def Fun.binds{x qual:Str}{st:Stmt}{f:Addr}{fd:FD}{ps:LS}(F:Fun K x qual st f fd)
 (h:∀(kV J pm:Value) (an:Option Addr) (cdv ct:Value) (us:LW),us.length=ps.length->bindArgs (W.fnOf x qual (zl st) (j9 st) (qG st) .none kV J pm an cdv ct) #[us,[]]=pure (ps.zip us)):Binds K fd ps []:=by
 let#[oc,od,kV,J,pm,an,cdv,ct,aa,rfl,lk,ac]:=F.ex;show .all<|h kV J pm an cdv ct
def qTe{x qual:Str}{st:Stmt}{f:Addr}{oc:Value}{od an:Option Addr}{J:Array<|Option Value}{kV F pm cdv ct:Value}(l:K.lookup f=some #[oc,od,.func<|W.fnOf x qual (zl st) (j9 st) (qG st) .none kV F pm an cdv ct,J])
 (c:W.codeIn K cdv qual=true) (k:W.keepIn K (.ref f)=true):Fun K x qual st f (W.fnOf x qual (zl st) (j9 st) (qG st) .none kV F pm an cdv ct):=#[#[oc,od,kV,F,pm,an,cdv,ct,J,rfl,l,c],k]
end
def qXy{A:Around}{k:Nat}(F:Room k A):A.units+1<cLine:=Yd (Nat.add_le_add_left (by decide:1<=64) _) F.units
def qf{n:Nat}(h:n<=1000):n<sizeLine:=Yd h #[]
section
variable{X:Cx}
def pv(i:Nat){x:Str}{pos:Pos}(hN:X.N[i]?=some x:=by rfl)(J:Vis X.env.scope x:=by trivial)(hd:(x==("__debug__":Str))=false:=by decide)
 (F:(x==("__classdict__":Str))=false:=by decide):PE X (.Name x pos) (qZ5 i):=qY3 hN J hd F
end
def jH{A B:Prop}(h:B):if false=true then A else B:=by rw[YA YZ];show h
def ju{A B:Prop}(h:A):if true=true then A else B:=by rw[YB rfl];show h
def jw{c A B:Prop} [Decidable c] (h1:c->A)(h2:¬c->B):if c then A else B:=by
 by_cases h:c
 . rw[YB h]
   show h1 h
 . rw[YA h]
   show h2 h
def qZq{c A B:Prop} [Decidable c] (F:c)(h:B):if (!decide c)=true then A else B:=by rw[YX F];show jH h
def Same(H H':Hp):Prop:= ∀b o,H b=some o->H' b=some o
def Same.refl(H:Hp):Same H H:=λ_ _ h=>h
def Same.trans{H H1 H2:Hp}(a:Same H H1)(b:Same H1 H2):Same H H2:=λc o h=>b c o<|a c o h
def Same.free{H H':Hp}(e:Same H H'){l:Addr}(h:H' l=Option.none):H l=Option.none:=by
 cases q:H l with
 |none=>rfl
 |some o=>
  rw[e l o q]at h;cases h
def Same.seq{K:Fg}{H H':Hp}{a:Addr}{xs:LV}(e:Same H H')(h:SqL K H a xs):SqL K H' a xs:=by
 rcases h with (h|⟨o,h⟩)|h
 . show .inl (.inl<|e _ _ h)
 . show .inl (.inr #[o,e _ _ h])
 . show .inr h
section
variable{κ:Type} [DecidableEq κ]
noncomputable def qTx(kvs:List (κ×V))(k:κ):Option V:=(kvs.find? λkv=>decide (kv.1=k)).map (·.2)
noncomputable def qVv(kvs:List (κ×V))(k:κ)(v:V):List (κ×V):=
 if (kvs.any λkv=>decide (kv.1=k))=true then kvs.map (λkv=>if kv.1=k then (kv.1,v)else kv)else kvs++[(k,v)]
def qPm{p:κ×V}{r:List<|κ×V}{k:κ}(e:p.1=k):qTx (p::r) k=some p.2:=by simp[qTx,List.find?_cons,e]
def qOr{p:κ×V}{r:List<|κ×V}{k:κ}(e:¬p.1=k):qTx (p::r) k=qTx r k:=by simp[qTx,List.find?_cons,e]
def qMk(kvs:List<|κ×V)(k:κ)(v:V):(qVv kvs k v).length<=kvs.length+1:=by
 delta qVv;split
 . rw[YS];lia
 . rw[YN,YE,ZO];lia
def RelO.isSome_eq{o:Option V}{u:Option Value}(r:RelO o u):o.isSome=u.isSome:=by
 cases o with
 |none=>cases u with
  |none=>rfl
  |some _=>show(show False from r).elim
 |some _=>cases u with
  |none=>show(show False from r).elim
  |some _=>rfl
def KV.val{kvs:List<|κ×V}{vs:List<|κ×Value}(r:KV kvs vs)(k:κ):RelO (qTx kvs k) (valueAt vs k):=by
 delta KV at r
 induction r with
 |nil=>show True.intro
 | @cons p q ps qs h t ih=>
  let#[h1,h2]:=h;by_cases e:p.1=k
  . have F:q.1=k:=h1.symm.trans e
    have b:valueAt (q::qs) k=some q.2:=by simp[valueAt,List.find?_cons,F]
    rw[qPm e,b];show h2
  . have F:¬q.1=k:=λz=>e (h1.trans z)
    have b:valueAt (q::qs) k=valueAt qs k:=by simp[valueAt,List.find?_cons,F]
    rw[qOr e,b];show ih
theorem KV.any{kvs:List<|κ×V}{vs:List<|κ×Value}(r:KV kvs vs)(k:κ):(kvs.any λF=>decide<|F.1=k)=vs.any λF=>decide (F.1=k):=by
 delta KV at r
 induction r with
 |nil=>rfl
 |cons h t ih=>rw[List.any_cons,List.any_cons,ih,h.1]
def KV.repl{kvs:List<|κ×V}{vs:List<|κ×Value}(r:KV kvs vs)(k:κ){y:V}{u:Value}(J:RelV y u):
 KV (kvs.map λF=>if F.1=k then (F.1,y)else F) (vs.map λF=>if F.1=k then (F.1,u)else F):=by
 delta KV at r⊢
 induction r with
 |nil=>show .nil
 | @cons p q ps qs h t ih=>
  rw[ZH,ZH];show .cons ?_ ih;let#[h1,h2]:=h;by_cases e:p.1=k
  . rw[YB e,YB<|h1.symm.trans e];show#[h1,J]
  . rw[YA e,YA (λz=>e<|h1.trans z)];show#[h1,h2]
def KV.put{kvs:List<|κ×V}{vs:List<|κ×Value}(r:KV kvs vs)(k:κ){y:V}{u:Value}(F:RelV y u):KV (qVv kvs k y) (stored vs k u):=by
 unfold qVv stored;rw[r.any k];by_cases e:(vs.any λJ=>decide<|J.1=k)=true
 . rw[YB e,YB e];show r.repl k F
 . rw[YA e,YA e];show Paired.snoc r #[rfl,F]
theorem KV.length{kvs:List<|κ×V}{vs:List<|κ×Value}(r:KV kvs vs):kvs.length=vs.length:=Paired.length r
end
def qVk{P:Program}{w:World}{k:Key}{u:Value}(r:RelV (kV k) u):(xH P w).is k u=true:=by
 cases k with
 |inl i=>let#[t,e]:=(show ∃t,u=Value.int i t from r);subst e;show qMs P w i t
 |inr x=>let#[t,e]:=(show ∃t,u=Value.str x t from r);subst e;show qM6 P w x t
theorem qK7{P:Program}{w:World}:∀{F:List Key} {us:LW},Vals (F.map kV) us->ItemsAre (xH P w) F us
 |[],_,r=>by rw[List.map_nil]at r;cases r;show .nil
 |k::F,_,r=>by
  rw[ZH]at r;cases r with
  |cons h t=>show .cons (qVk h)<|qK7 t
abbrev KT(H:Hp):List (List Key×V)->List (List Key×Addr×Value)->Prop:=Paired λp q=>p.1=q.1/\H q.2.1=some (.tup (p.1.map kV))/\RelV p.2 q.2.2
def KT.val{H:Hp}{kvs:List<|List Key×V}{xs:List<|List Key×Addr×Value}(r:KT H kvs xs)(k:List Key):RelO (qTx kvs k) ((atKey xs k).map (·.2)):=by
 induction r with
 |nil=>show True.intro
 | @cons p q ps qs h t ih=>
  let#[h1,_,h2]:=h;by_cases e:p.1=k
  . have F:q.1=k:=h1.symm.trans e
    have b:atKey (q::qs) k=some q.2:=by simp[atKey,List.find?_cons,F]
    rw[qPm e,b];show h2
  . have F:¬q.1=k:=λz=>e (h1.trans z)
    have b:atKey (q::qs) k=atKey qs k:=by simp[atKey,List.find?_cons,F]
    rw[qOr e,b];show ih
section
variable{P:Program}{w:World}{H:Hp}{h:Heap}{a:Addr}
def qYj{u:HO}(F:HOk P w H h)(e:Rd H a u):ObjOk P w H h a u:=e.ok F
def qSy{kvs:List<|Key×V}(F:HOk P w H h)(e:Rd H a<|.dK kvs):kvs.length<=sizeLine/\(a==sysModules)=false/\∃vs,KV kvs vs/\h.DictOf (xH P w) a vs:=
 show ObjOk P w H h a (.dK kvs)from qYj F e
def qYh{kvs:List<|Key×V}(F:HOk P w H h)(e:H a=some (.dK kvs)):kvs.length<=sizeLine/\(a==sysModules)=false/\∃vs,KV kvs vs/\h.DictOf (xH P w) a vs:=qSy F<|.inl e
def qSz{J:List Key}(ok:HOk P w H h)(e:H a=some (.tup<|J.map kV)):(tupleKind<|xH P w).is h J a:=by let#[_,F,r,o,h1,h2,n,h3]:=(show ObjOk P w H h a (.tup<|J.map kV)from ok a _ e);show#[o,F.toArray,n,h1,h2,h3, ~~~qK7 r]
def qXp{kvs:List<|List Key×V}(J:HOk P w H h)(e:Rd H a<|.dT kvs):kvs.length<=sizeLine/\(a==sysModules)=false/\
 ∃xs,KT H kvs xs/\h.DictOfH (tupleKind<|xH P w) a xs:=by
 let#[z,y,xs,r,o,es,ep,h1,h2,h3,h4,h5]:=(show ObjOk P w H h a (.dT kvs)from qYj J e);show#[z,y,xs,r,o,es,ep,h1,h2,h3,h4,λx hx=>?_,h5];have F:∀{l:List<|List Key×V} {m:List<|List Key×Addr×Value},KT H l m->∀x∈m,(tupleKind<|xH P w).is h x.1 x.2.1:=by
  intro l m q
  induction q with
  |nil=>intro x hx;show nomatch hx
  | @cons p q ps qs hq t ih=>
   intro x hx;rcases YU.mp hx with e|hx
   . subst e
     show qSz J (by rw[<-hq.1];show hq.2.1)
   . show ih x hx
 show F r x hx
end
def qX9(H:Hp)(a:Addr)(y:V)(r:Option V):Prop:=
 (∃kvs k,Rd H a (.dK kvs)/\y=kV k/\r=qTx kvs k)\/∃kvs k b,Rd H a (.dT kvs)/\y=.ref b/\H b=some (.tup<|k.map kV)/\r=qTx kvs k
section
variable{X:Cx}{pins:LO}{σ:St}{H:Hp}{s:Shared}{a:Addr}{y v:V}{u r:Value}{o:Option V}{A:Around}{E:Ba}
def Inv.big(I:Inv X pins σ H s):sysModules<s.heap.objs.size:=by have h:mainGlobals<s.heap.objs.size:=(I.mod.glob.keeps I.bk).lt;show Nat.lt_trans #[] h
def qS8{Q:Ba}(hu:A.units+1<cLine)(I:Inv X pins σ H s)(g:qX9 H a y<|some v)(ry:RelV y u)(h:∀w' s',Inv X pins σ H s'->RelV v w'->Q w' s'):
 wpAny (model X.prog X.w) A (getItem (.ref a) u) Q E s:=by
 rcases g with ⟨kvs,k,e,ey,l⟩|⟨kvs,k,b,e,ey,eb,l⟩
 . subst ey
   let#[z,hd,vs,F,dd]:=qSy I.hok e;let#[w',hw,J]:=RelO.some_of (v:=v) (o:=valueAt vs k) (by rw[l];show F.val k);show wpAny_getItem_of (qVk ry) dd.mapOf hw (h w' _ (I.tok _) J)
 . subst ey
   cases (show u=Value.ref b from ry);let#[z,hd,xs,F,dd]:=qXp I.hok e;let#[w',hw,J]:=RelO.some_of (v:=v) (o:=(atKey xs k).map (·.2)) (by rw[l];show F.val k);let#[p,hp,aa]:=Option.map_eq_some_iff.mp hw;show wpAny_getItem_heap (tupleKind_room_in1 hu) (qSz I.hok eb) dd hp ?_;rw[aa];show h w' _ (I.tok _) J
def qXm{Q:Ba}(hu:A.units+1<cLine)(I:Inv X pins σ H s)(g:qX9 H a y o)(ry:RelV y u)(h:∀s',Inv X pins σ H s'->Q (.bool<|!o.isSome) s'):
 wpAny (model X.prog X.w) A (compareOp .NotIn u<|.ref a) Q E s:=by
 rcases g with ⟨kvs,k,e,J,l⟩|⟨kvs,k,b,e,J,eb,l⟩
 . subst J
   let#[z,hd,vs,F,dd]:=qSy I.hok e;show wpAny_notIn_of (qVk ry) hd dd.mapOf ?_;rw[<-(F.val k).isSome_eq,<-l];show h _ (I.tok _)
 . subst J
   cases (show u=Value.ref b from ry);let#[z,hd,xs,F,dd]:=qXp I.hok e;show wpAny_notIn_heap (tupleKind_room_in1 hu) (qSz I.hok eb) hd dd ?_;have q:=(F.val k).isSome_eq;rw[Option.isSome_map]at q;rw[<-q,<-l];show h _<|I.tok _
def qSb{h':Heap}{t':Nat}{F:HO}(I:Inv X pins σ H s)(mu:Mut<|H a)(hs:Heap.SameBut a s.heap h')(he:∃q,h'.get? a=some q)(J:ObjOk X.prog X.w (upd H a F) h' a F):
 Inv X pins σ (upd H a F) {s with heap:=h',toks:=t'}:=
 I.write (x:=a) (e:=a) mu (.inl rfl) (λb q hb z=>(hs.2 b hb).trans z) he J
def qRx{P:Program}{w:World}{H':Hp}{h':Heap}{kvs:List<|Key×V}{vs:List<|Key×Value}(z:kvs.length<=sizeLine)(hd:(a==sysModules)=false)(F:KV kvs vs)(dd:h'.DictOf (xH P w) a vs):
 ObjOk P w H' h' a (.dK kvs):=#[z,hd,vs,F,dd]
end
section
variable{X:Cx}{pins:LO}{σ:St}{H:Hp}{s:Shared}{a:Addr}{kvs:List (Key×V)}{k:Key}{u:Value}{A:Around}{E:Ba}
def qXq{Q:Ba}(I:Inv X pins σ H s)(e:H a=some (.dK kvs))(h:∀s',Inv X pins σ (upd H a<|.dK []) s'->Q .none s'):wpAny (model X.prog X.w) A (call (.builtin "dict.clear") [.ref a]) Q E s:=by
 let#[z,hd,vs,J,dd]:=qYh I.hok e;show call_meetsIn PySem.F.slot_dict_clear dd.typeIs PySem.F.entry_dict_clear (PySem.F.args_dict_clear_1 _) (meets_dict_clear (xH X.prog X.w) a) #[vs,dd,by rw[<-J.length];show z,λh' F hs=>h _ ?_];have he:∃q,h'.get? a=some q:=let #[q,_,_,hq,_]:=F;#[q,hq]
 show qSb (t':=s.toks) I (by rw[e];show True.intro) hs he<|qRx (ZT _) hd .nil F
end
def jBs(i:Expr):Prop:= ∀ov iv,subscripted i false ov iv=operate [ov,iv] (getItem ov iv)
def qWn{prog:Program}{w:World}{A:Around}{E:Ba}{s:Shared}{env:Env}{value F:Expr}{pos:Pos}{T id:String}{Q:Ba}
 (hl:typeLookup (.type T) "__getitem__"=pure (some<|.builtin id)) (hs:jBs F)
 (h:wpAny (model prog w) A (eval value env) (λo ad=>wpAny (model prog w) A (eval F env) (λi J=>J.TypeIs o T/\wpAny (model prog w) A (getItem o i) Q E J) E ad) E s):
 wpAny (model prog w) A (eval (.Subscript value F pos) env) Q E s:=by
 show Subscript_ (YL h (λo ad af=>YL af (λi J aa=>?_) λ_ _ x=>x) λ_ _ x=>x);let#[hT,aa]:=aa;unfold subscriptTail;show YJ ?_;rw[getitemInPython_of_ne hT.not_modules];show YJ<|wpAny_specialOf hT hl ?_;have ae:wpAny (model prog w) A (subscripted F false o i) (λr ac=>wpAny (model prog w) A (letTemporaryGo value o r>>=λ_=>pure r) Q E ac) E J:=by rw[hs o i];show wpAny_operating (YL aa (λr ac ag=>YJ (wpAny_letTemporaryGo<|YK ag)) λ_ _ x=>x)
 first
  |show YK (YJ ae)
  |show YJ (YK<|YJ ae)
  |show YJ ae
def qMz{X:Cx}{pins:LO}{σ:St}{H:Hp}{s:Shared}{a:Addr}{y:V}{o:Option V}(I:Inv X pins σ H s)(g:qX9 H a y o):s.TypeIs (.ref a) "dict":=by
 rcases g with ⟨kvs,k,e,_,_⟩|⟨kvs,k,b,e,_,_,_⟩
 . let#[_,_,vs,_,dd]:=qSy I.hok e
   show dd.typeIs
 . let#[_,_,xs,_,dd]:=qXp I.hok e
   show dd.typeIs
def jA2(td ty:TE):TE:=λσ H Q=>td σ H λx H1=>ty σ H1 λy H2=> ∃a v,x=.ref a/\qX9 H2 a y (some v)/\Q v H2
def qXn(ty td:TE):TE:=λσ H Q=>ty σ H λy H1=>td σ H1 λx H2=> ∃a o,x=.ref a/\qX9 H2 a y o/\Q (.bl<|!o.isSome) H2
section
variable{X:Cx}{o i e value:Expr}{pos pos' tpos:Pos}{td ty tv:TE}
def qNv(hu:X.A.units+1<cLine)(ho:PE X o td)(hi:PE X i ty)(hs:jBs i):PE X (.Subscript o i pos) (jA2 td ty):=by ext;show qWn PySem.F.slot_dict_getitem.lookup hs (tW (ho pins s σ H _ I h) λu s1 x H1 I1 rx q1=>tW (hi pins s1 σ H1 _ I1 q1) λiv s2 y H2 J ry zZ0=>?_);let#[a,v,ex,g,q2]:=zZ0;subst ex;obtain rfl:u=Value.ref a:=rx;show#[qMz J g,qS8 hu J g ry λw' s3 I3 F=>#[v,H2,I3,F,q2]]
def qTr(hu:X.A.units+1<cLine)(hi:PE X i ty)(F:PE X o td):PC X .NotIn i o (qXn ty td):=by ext;show tW (hi pins s σ H _ I h) λiv s1 y H1 I1 ry q1=>tW (F pins s1 σ H1 _ I1 q1) λu s2 x H2 I2 rx zZ0=>?_;let#[a,ov,ex,g,q2]:=zZ0;subst ex;obtain rfl:u=Value.ref a:=rx;show qXm hu I2 g ry λs3 J=>#[.bl<|!ov.isSome,H2,J,O,q2]
end
def qUq{P:Program}{w:World}{H:Hp}(h:Heap)(F:sysModules<h.objs.size):ObjOk P w H (h.push {cls:=.type "dict",data:=.dict %[|0]}) h.objs.size (.dK []):=
 #[ZT _,beq_eq_false_iff_ne.mpr (ZG<|Yo F),[],.nil,Heap.DictOf.new h]
def qSj:List (TE×TE)->St->Hp->(List (V×V)->Hp->Prop)->Prop
 |[],_,H,Q=>Q [] H
 |(tk,tv)::r,σ,H,Q=>tk σ H λx H1=>tv σ H1 λy H2=>qSj r σ H2 λps H3=>Q ((x,y)::ps) H3
abbrev VV:List (V×V)->List (Value×Value)->Prop:=Paired λp q=>RelV p.1 q.1/\RelV p.2 q.2
def PPs(X:Cx)(pos:Pos)(keys:List<|Option Expr)(values:List Expr)(trs:List<|TE×TE):Prop:=
 ∀(pins:LO) (s:Shared) (σ:St) (H:Hp) (Q:List (V×V)->Hp->Prop),Inv X pins σ H s->qSj trs σ H Q->
  wpAny (model X.prog X.w) X.A (evalPairs<|pairTrees keys values X.env pos) (λvs s'=> ∃ps H',Inv X pins σ H' s'/\VV ps vs/\Q ps H') X.xe s
def qWx{X:Cx}{pos:Pos}:PPs X pos [] [] []:=λpins s σ H Q I h=>pairTrees_nil_walk #[[],H,I,.nil,h]
def qHt{X:Cx}{pos:Pos}{k v:Expr}{ks:List<|Option Expr}{vs:List Expr}{tk tv:TE}{F:List<|TE×TE}(hk:PE X k tk)(hv:PE X v tv)(hr:PPs X pos ks vs F):
 PPs X pos (some k::ks) (v::vs) ((tk,tv)::F):=λpins s σ H Q I h=>
 pairTrees_cons_walk (tW (hk pins s σ H _ I h) λu s1 x H1 I1 rx q1=>tW (hv pins s1 σ H1 _ I1 q1) λw2 s2 y H2 I2 ry q2=>
  tW (hr pins s2 σ H2 _ I2 q2) λws s3 ps H3 I3 J q3=>#[(x,y)::ps,H3,I3,.cons #[rx,ry] J,q3])
def qHi(kvs more:List<|Key×V):List (Key×V):=more.foldl (λacc kv=>qVv acc kv.1 kv.2) kvs
def KV.merge:∀{F:List<|Key×V} {J:List<|Key×Value} {kvs:List<|Key×V} {vs:List<|Key×Value},KV F J->KV kvs vs->KV (qHi kvs F) (merged vs J):=by
 intro F J kvs vs r;delta KV at r
 induction r generalizing kvs vs with
 |nil=>intro q;show q
 | @cons p q ps qs h t ih=>
  intro r0;have e:KV (qVv kvs p.1 p.2) (stored vs q.1 q.2):=by have:=r0.put p.1 h.2;rw[<-h.1];show this
  show ih e
theorem qBh:∀(F kvs:List<|Key×V),(qHi kvs F).length<=kvs.length+F.length
 |[],kvs=>by change kvs.length<=kvs.length+0;lia
 |p::r,kvs=>by have h1:=qBh r<|qVv kvs p.1 p.2;have h2:=qMk kvs p.1 p.2;change (qHi (qVv kvs p.1 p.2) r).length<=_;rw[YE];lia
theorem qHa{P:Program}{w:World}:∀{kvs:List<|Key×V} {J:List<|Value×Value},VV (kvs.map λkv=>(kV kv.1,kv.2)) J->∃F,Carries (xH P w) J F/\KV kvs F
 |[],_,r=>by rw[List.map_nil]at r;cases r;show#[[],True.intro,.nil]
 |p::kvs,_,r=>by
  rw[ZH]at r;cases r with
  | @cons a b as bs h t=>
   let#[F,c,q]:=qHa (P:=P) (w:=w) t;let#[b1,b2]:=b;show#[(p.1,b2)::F,#[qVk h.1,O,c],.cons #[O,h.2] q]
def jA0(trs:List<|TE×TE):TE:=λσ H Q=> ∀p,H p=none->qSj trs σ (upd H p<|.dK []) λps H2=>H2 p=some (.dK [])/\∃kvs:List<|Key×V,ps=kvs.map (λkv=>(kV kv.1,kv.2))/\kvs.length<=15/\Q (.ref p) (upd H2 p (.dK<|qHi [] kvs))
def qW1{X:Cx}{pos:Pos}{F:List<|Option Expr}{J:List Expr}{ad:List<|TE×TE}(h:PPs X pos F J ad)(ac:F.all (·.isSome)=true)(hl:F.length=J.length)(h0:F≠[])
 (ae:F.length<=15):PE X (.Dict F J pos) (jA0 ad):=by
 intro pins s σ H Q I q;have hn:=I.hok.fresh<|YI s.heap.objs.size;have I1:=I.laid (a:=s.heap.objs.size) (o:=.dK []) (h':=s.heap.push {cls:=.type "dict",data:=.dict %[|0]}) (t':=s.toks) (λ_ _ q=>YM _ q) (YI _)<|qUq s.heap I.big;show wpAny_Dict_walk (knd:=xH X.prog X.w) ac hl h0 ae (tW (h pins _ σ _ _ I1<|q _ hn) λws s2 ps H2 I2 af zZ0=>?_);let#[e,kvs,ep,lk,q2]:=zZ0;subst ep;let#[rs,c,rk]:=qHa (P:=X.prog) (w:=X.w) af;let#[z,hd,ag,r0,dd]:=qYh I2.hok e;cases r0;show#[rs,c,dd,λh' aa hs=>#[.ref s.heap.objs.size,_,?_,O,q2]];have hz:(qHi [] kvs).length<=sizeLine:=by have h1:=qBh kvs [];rw[ZO]at h1;rw[sizeLine_eq];lia
 have he:∃q,h'.get? s.heap.objs.size=some q:=let #[q,_,_,hq,_]:=aa;#[q,hq]
 show qSb I2 (by rw[e];show True.intro) hs he<|qRx hz hd (rk.merge .nil) aa
section
variable{X:Cx}{pins:LO}{σ:St}{H:Hp}{s:Shared}{a:Addr}{kvs:List (Key×V)}{A:Around}{E:Ba}
def qO4{Q:Ba}(I:Inv X pins σ H s)(e:Rd H a<|.dK kvs)(h:∀p s',H p=none->Inv X pins σ (upd H p<|.dK kvs) s'->Q (.ref p) s'):wpAny (model X.prog X.w) A (call (.type "dict") [.ref a]) Q E s:=by let#[z,hd,vs,F,dd]:=qSy I.hok e;show kt_call_dict hd dd (by rw[<-F.length];show z) λh' J hs=>?_;show h _ _ (I.hok.fresh<|YI _) (I.laid (a:=s.heap.objs.size) (o:=.dK kvs) (t':=s.toks) (λb q hq=>?_) (YI _)<|qRx z (beq_eq_false_iff_ne.mpr (ZG<|Yo I.big)) F J);show(hs.2 b (Yo<|YV hq)).trans (YM _ hq)
end
end L2
namespace Mt
def qWt(a b:Int):a.fmod b=a-b*a.fdiv b:=by have:=Int.fmod_add_mul_fdiv a b;lia
def qVb(a b:Int):Int.gcd b (a.fmod b)=Int.gcd a b:=by
 apply Nat.dvd_antisymm
 . show Int.dvd_gcd ?_ (Int.gcd_dvd_left b<|a.fmod b)
   have h1:((Int.gcd b (a.fmod b):Nat):Int)∣b:=Int.gcd_dvd_left ..;have h2:((Int.gcd b (a.fmod b):Nat):Int)∣a.fmod b:=Int.gcd_dvd_right ..;have F:=Int.dvd_add h2<|Int.dvd_trans h1 (Int.dvd_mul_right b<|a.fdiv b);have e:a.fmod b+b*a.fdiv b=a:=Int.fmod_add_mul_fdiv a b
   rwa [e]at F
 . show Int.dvd_gcd (Int.gcd_dvd_right ..) ?_
   rw[qWt];show Int.dvd_sub (Int.gcd_dvd_left ..) (Int.dvd_trans (Int.gcd_dvd_right ..)<|Int.dvd_mul_right ..)
def qWj(a b:Int)(h:b≠0):(a.fmod b).natAbs<b.natAbs:=by
 rcases Int.lt_or_gt_of_ne h with h|h
 . have h1:=Int.fmod_lt_of_pos (-a) (show 0< -b by lia)
   have h2:=Int.fmod_nonneg_of_pos (-a) (show 0< -b by lia);rw[Int.neg_fmod_neg]at h1 h2;lia
 . have h1:=Int.fmod_lt_of_pos a h
   have h2:=Int.fmod_nonneg_of_pos a h;lia
noncomputable def sg(t b:Int):Int:=if b<0 then-((Int.gcd t b:Nat):Int)else ((Int.gcd t b:Nat):Int)
def zN(t b:Int):Int:=t.fdiv<|sg t b
def xk(t b:Int):Int:=b.fdiv<|sg t b
def qCi{t b:Int}(h:b≠0):0<Int.gcd t b:=by
 rcases Nat.eq_zero_or_pos (Int.gcd t b)with z|z
 . rw[Int.gcd_eq_zero_iff]at z
   show YC z.2 h
 . show z
def jA8{t b:Int}(h:b≠0):sg t b≠0:=by have:=qCi (t:=t) h;delta sg;split <;> lia
def qUb(t b:Int):sg t b∣t:=by
 delta sg;split
 . show Int.neg_dvd.mpr (Int.gcd_dvd_left ..)
 . show Int.gcd_dvd_left ..
def qVp(t b:Int):sg t b∣b:=by
 delta sg;split
 . show Int.neg_dvd.mpr (Int.gcd_dvd_right ..)
 . show Int.gcd_dvd_right ..
def qOg(t b:Int):(sg t b).natAbs=Int.gcd t b:=by delta sg;split <;> lia
def qUx(t b:Int):zN t b*sg t b=t:=Int.fdiv_mul_cancel<|qUb t b
def qSm(t b:Int):xk t b*sg t b=b:=Int.fdiv_mul_cancel<|qVp t b
def zn{t b:Int}(h:b≠0):0<xk t b:=by
 have e:=qSm t b;have g:=qCi (t:=t) h;by_cases F:b<0
 . have s:sg t b=-((Int.gcd t b:Nat):Int):=by delta sg;rw[YB F]
   rw[s]at e;rcases Int.lt_trichotomy (xk t b) 0 with z|z|z
   . have:=Int.mul_pos_of_neg_of_neg z (show-((Int.gcd t b:Nat):Int)<0 by lia)
     lia
   . rw[z]at e;lia
   . show z
 . have s:sg t b=((Int.gcd t b:Nat):Int):=by delta sg;rw[YA F]
   rw[s]at e;rcases Int.lt_trichotomy (xk t b) 0 with z|z|z
   . have:=Int.mul_neg_of_neg_of_pos z (show 0<((Int.gcd t b:Nat):Int) by lia)
     lia
   . rw[z]at e;lia
   . show z
def qJv{t b:Int}(h:b≠0):Int.gcd (zN t b) (xk t b)=1:=by
 have e:=Int.gcd_mul_right (zN t b) (sg t b)<|xk t b;rw[qUx,qSm,qOg]at e;have g:=qCi (t:=t) h;have F:1*Int.gcd t b=(zN t b).gcd (xk t b)*Int.gcd t b:=()
 show(Nat.eq_of_mul_eq_mul_right g F).symm
def kR(t b:Int):zN t b*b=t*xk t b:=by
 have F:=qUx t b;have J:=qSm t b
 calc zN t b*b=zN t b*(xk t b*sg t b):=by rw[J]
  _=(zN t b*sg t b)*xk t b:=by rw[ZK<|xk t b,Yi]
  _=t*xk t b:=by rw[F]
def qI5{t b:Int}(h:b≠0):(zN t b).natAbs<=t.natAbs:=by have e:=XF Int.natAbs<|qUx t b;rw[Int.natAbs_mul,qOg]at e;have g:=qCi (t:=t) h;rw[<-e];show Nat.le_mul_of_pos_right _ g
def wo{t b:Int}(h:b≠0):(xk t b).natAbs<=b.natAbs:=by have e:=XF Int.natAbs<|qSm t b;rw[Int.natAbs_mul,qOg]at e;have g:=qCi (t:=t) h;have:=Nat.le_mul_of_pos_right (xk t b).natAbs g;lia
def qXj{p q p' q':Int}(hq:0<q)(J:0<q')(g:Int.gcd p q=1)(g':Int.gcd p' q'=1)(c:p*q'=p'*q):p=p'/\q=q':=by
 have d1:q∣q':=by
  have h:q∣p*q':=by rw[c];show Int.dvd_mul_left ..
  have n:q.natAbs∣p.natAbs*q'.natAbs:=by
   have:=Int.natAbs_dvd_natAbs.mpr h
   rwa [Int.natAbs_mul]at this
  have F:Nat.Coprime q.natAbs p.natAbs:=by change Nat.gcd q.natAbs p.natAbs=1;rw[Nat.gcd_comm];show g
  show Int.natAbs_dvd_natAbs.mp (Nat.Coprime.dvd_of_dvd_mul_left F n)
 have d2:q'∣q:=by
  have h:q'∣p'*q:=by rw[<-c];show Int.dvd_mul_left ..
  have n:q'.natAbs∣p'.natAbs*q.natAbs:=by
   have:=Int.natAbs_dvd_natAbs.mpr h
   rwa [Int.natAbs_mul]at this
  have F:Nat.Coprime q'.natAbs p'.natAbs:=by change Nat.gcd q'.natAbs p'.natAbs=1;rw[Nat.gcd_comm];show g'
  show Int.natAbs_dvd_natAbs.mp (Nat.Coprime.dvd_of_dvd_mul_left F n)
 have e:q=q':=by have h1:=Int.le_of_dvd J d1;have h2:=Int.le_of_dvd hq d2;lia
 subst e;show#[ZX () c,O]
def qMa{t b p q:Int}(h:b≠0)(F:0<q)(g:Int.gcd p q=1)(c:p*b=t*q):zN t b=p/\xk t b=q:=by
 have e:=kR t b;have k:zN t b*q=p*xk t b:=by
  have:(zN t b*q)*b=(p*xk t b)*b:=by
   calc (zN t b*q)*b=(zN t b*b)*q:=by rw[Yi,ZK q b,<-Yi]
    _=(t*xk t b)*q:=by rw[e]
    _=(t*q)*xk t b:=by rw[Yi,ZK (xk t b) q,<-Yi]
    _=(p*b)*xk t b:=by rw[c]
    _=(p*xk t b)*b:=by rw[Yi,ZK b,<-Yi]
  show ZX h this
 show qXj (zn h) F (qJv h) g k
def qPd{p q:Int}(F:0<q)(g:Int.gcd p q=1):zN p q=p/\xk p q=q:=qMa () F g rfl
def jM{p q:Int}(F:0<q):p.fdiv q*q<=p/\p<(p.fdiv q+1)*q:=by
 have e:=Int.fmod_add_mul_fdiv p q;have h1:=Int.fmod_nonneg_of_pos p F;have h2:=Int.fmod_lt_of_pos p F;have c:q*p.fdiv q=p.fdiv q*q:=ZK ..;have d:(p.fdiv q+1)*q=p.fdiv q*q+q:=by rw[Int.add_mul,Int.one_mul]
 lia
def qC2{A B C D:Int}(J:0<B)(F:0<D)(h:A*D=C*B):A.fdiv B=C.fdiv D:=by
 let#[h1,h2]:=jM (p:=A) J;let#[h3,h4]:=jM (p:=C) F;generalize A.fdiv B=f at h1 h2⊢;generalize C.fdiv D=g at h3 h4⊢;have k1:f*B*D<=A*D:=Ym h1 ();have k2:C*B<(g+1)*D*B:=Int.mul_lt_mul_of_pos_right h4 J;have k3:g*D*B<=C*B:=Ym h3 ();have k4:A*D<(f+1)*B*D:=Int.mul_lt_mul_of_pos_right h2 F;have p:=Yu J F;have e1:f*(B*D)<(g+1)*(B*D):=by grind
 have e2:g*(B*D)<(f+1)*(B*D):=by grind
 have:=Yr e1 ();have:=Yr e2 ();lia
def qT7{A B C D:Int}(J:B≠0)(F:D≠0)(h:A*D=C*B):zN A B=zN C D/\xk A B=xk C D:=by
 show qMa J (zn F) (qJv F) ?_;have c:=kR C D;generalize zN C D=u at c⊢;generalize xk C D=v at c⊢;show ZX F ?_
 grind
def plP(p q r s k:Int):Int:=zN (p*s+k*r*q)<|q*s
def plQ(p q r s k:Int):Int:=xk (p*s+k*r*q)<|q*s
def qG9{p q r s k:Int}(J:0<q)(F:0<s):0<plQ p q r s k:=zn (Int.ne_of_gt<|Yu J F)
def qS1{p q r s k:Int}(J:0<q)(F:0<s):Int.gcd (plP p q r s k) (plQ p q r s k)=1:=qJv (Int.ne_of_gt<|Yu J F)
def qEp(p q r s k:Int):plP p q r s k*(q*s)=(p*s+k*r*q)*plQ p q r s k:=kR _ _
def qHw{p q r s lo k:Int}(J:0<q)(F:0<s):plP (plP p q r s lo) (plQ p q r s lo) r s k=plP p q r s (lo+k)/\plQ (plP p q r s lo) (plQ p q r s lo) r s k=plQ p q r s (lo+k):=by
 have c:=qEp p q r s lo;have h:=qG9 (p:=p) (r:=r) (k:=lo) J F;generalize plP p q r s lo=u at c⊢;generalize plQ p q r s lo=v at c h⊢;show qT7 (Int.ne_of_gt<|Yu h F) (Int.ne_of_gt<|Yu J F) ?_
 grind
def qA5{p q r s:Int}(F:0<q)(J:0<s)(g:Int.gcd p q=1):plP p q r s 0=p/\plQ p q r s 0=q:=by
 show qMa (Int.ne_of_gt<|Yu F J) F g ?_
 grind
def qXd{p q r s k:Int}(J:0<q)(F:0<s):(plP p q r s k).natAbs<=(p*s+k*r*q).natAbs:=qI5 (Int.ne_of_gt<|Yu J F)
def qX4{p q r s k:Int}(J:0<q)(F:0<s):(plQ p q r s k).natAbs<=(q*s).natAbs:=wo (Int.ne_of_gt<|Yu J F)
def InR(N D m:Int):Prop:=0<=N/\N<m*D
def qGj{N D m:Int}(F:0<D):InR N D m↔(0<=N.fdiv D/\N.fdiv D<m):=by
 let#[h1,h2]:=jM (p:=N) F;generalize N.fdiv D=f at h1 h2⊢;delta InR;constructor
 . rintro⟨a,b⟩
   constructor
   . have:0*D<(f+1)*D:=by rw[Int.zero_mul];lia
     have:=Yr this ();lia
   . show Yr (a:=D) () ()
 . rintro⟨a,b⟩
   constructor
   . have:=Int.mul_nonneg a (by lia:0<=D)
     lia
   . have:(f+1)*D<=m*D:=Ym () ()
     lia
def qKe{X Y E D m:Int}(J:0<E)(F:0<D)(h:X*D=Y*E):InR X E m↔InR Y D m:=by rw[qGj J,qGj F,qC2 J F h]
noncomputable def zk(N R D m:Int):Int:=
 if R=0 then 1000000 else if ¬(0<=N.fdiv D/\N.fdiv D<m)then 0
 else if 1000000<(if R<0 then N.fdiv (-R)+1 else-((N-m*D).fdiv R))then 1000000 else (if R<0 then N.fdiv (-R)+1 else-((N-m*D).fdiv R))
def qUr{N R D m:Int}(hR:R<0)(h:InR N D m):1<=N.fdiv (-R)+1/\(∀j,0<=j->j<N.fdiv (-R)+1->InR (N+j*R) D m)/\¬InR (N+(N.fdiv (-R)+1)*R) D m:=by
 let#[h1,h2]:=jM (p:=N) (q:= -R) ();have J:0<=N.fdiv (-R):=Int.fdiv_nonneg h.1 ();generalize N.fdiv (-R)=f at h1 h2 J⊢;show#[(),λj F j1=>?_,?_]
 . have k1:j*(-R)<=f*(-R):=Ym () ()
   have k2:0<=j*(-R):=Int.mul_nonneg F ();have e:j*R=-(j*(-R)):=by grind
   let#[a,b]:=h;show#[(),()]
 . intro z
   have e:(f+1)*R=-((f+1)*(-R)):=by grind
   have:=z.1;lia
def qUo{N R D m:Int}(J:0<R)(h:InR N D m):1<=-((N-m*D).fdiv R)/\(∀j,0<=j->j< -((N-m*D).fdiv R)->InR (N+j*R) D m)/\¬InR (N+ -((N-m*D).fdiv R)*R) D m:=by
 let#[h1,h2]:=jM (p:=N-m*D) J;let#[a,b]:=h;generalize (N-m*D).fdiv R=f at h1 h2⊢;have f0:f<0:=by
  have:f*R<0*R:=by rw[Int.zero_mul];lia
  show Yr this ()
 show#[(),λj F j1=>?_,?_]
 . have k1:(j+f+1)*R<=0*R:=Ym () ()
   have k2:0<=j*R:=Int.mul_nonneg F ();have e:(j+f+1)*R=j*R+(f+1)*R:=by grind
   rw[Int.zero_mul]at k1;show#[(),()]
 . intro z
   have:=z.2;have e: -f*R=-(f*R):=by grind
   lia
def qW0{N R D m:Int}(hD:0<D)(h0:R=0->InR N D m):0<=zk N R D m/\zk N R D m<=1000000/\(∀j,0<=j->j<zk N R D m->InR (N+j*R) D m)/\(zk N R D m<1000000->¬InR (N+zk N R D m*R) D m)/\(R=0->zk N R D m=1000000):=by
 unfold zk;by_cases F:R=0
 . rw[YB F]
   show#[#[],#[],λj _ _=>?_,λz=>YC z #[],λ_=>rfl];rw[F,Int.mul_zero,Yc];show h0 F
 rw[YA F];by_cases hi:InR N D m
 . rw[YA (by rw[Classical.not_not];show(qGj hD).mp hi)]
   have J:∀g:Int,1<=g->(∀j,0<=j->j<g->InR (N+j*R) D m)->¬InR (N+g*R) D m->
    0<=(if 1000000<g then 1000000 else g)/\(if 1000000<g then 1000000 else g)<=1000000/\(∀j,0<=j->j<(if 1000000<g then 1000000 else g)->InR (N+j*R) D m)/\((if 1000000<g then 1000000 else g)<1000000->¬InR (N+(if 1000000<g then 1000000 else g)*R) D m):=by
    intro g g1 g2 g3;by_cases hg:1000000<g
    . rw[YB hg]
      show#[#[],#[],λj a b=>g2 j a (),λz=>YC z #[]]
    . rw[YA hg]
      show#[(),(),g2,λ_=>g3]
   have aa:∀{A B C D':Prop},A/\B/\C/\D'->A/\B/\C/\D'/\(R=0->(if 1000000<(if R<0 then N.fdiv (-R)+1 else-((N-m*D).fdiv R))then (1000000:Int)else (if R<0 then N.fdiv (-R)+1 else-((N-m*D).fdiv R)))=1000000):=λ#[a,b,c,d]=>#[a,b,c,d,λz=>YC z F];show aa ?_;by_cases hn:R<0
   . rw[YB hn]
     let#[a,b,c]:=qUr hn hi;show J _ a b c
   . rw[YA hn]
     let#[a,b,c]:=qUo (by lia:0<R) hi;show J _ a b c
 . rw[YB (by rw[<-qGj hD];show hi)]
   show#[#[],#[],λj a b=>YC b (),λ_=>?_,λz=>YC z F];rw[Int.zero_mul,Yc];show hi
end Mt
namespace L3
open PySem PySem.Spec PyProof.Rows L2
def CMulB(i j:Int):Prop:=CMul i j\/(i.natAbs<2 ^ 60000/\j.natAbs<2 ^ 60000)
def qBw{i:Int}(h:i.natAbs<2 ^ 60000):Builtin.Int.intBits i<=2 ^ 20:=by
 unfold Builtin.Int.intBits;split
 . show ZT _
 . rename_i J
   have F:i.natAbs≠0:=by
    intro z;apply J;have:i=0:=()
    rw[this];rfl
   have:=(Nat.log2_lt F).mpr h;have e:(2:Nat) ^ 20=1048576:=#[]
   lia
theorem CMulB.ok{i j:Int}(h:CMulB i j):IntMulOk i j:=by
 rcases h with h|⟨h1,h2⟩
 . show h.ok
 . show IntMulOk.of_bits (qBw h1) (qBw h2)
def CDivB(_ j:Int):Prop:=j≠0/\j.natAbs<2 ^ 8000
def CDivB.ok{i j:Int}(h:CDivB i j):Builtin.divisionGoesByPylong i j=false:=by
 show PyProof.noPylong_of_log2 ?_;have F:j.natAbs≠0:=by have:=h.1;lia
 have:=(Nat.log2_lt F).mpr h.2;lia
section
variable{X:Cx}
def jd:OpR X (binaryOp .Mult) (rI CMulB λi j=>.int<|i*j):=opI λ_ _ _ _ _ _ _ F q=>mul_int q F.ok
def jA:OpR X (binaryOp .FloorDiv) (rI CDivB λi j=>.int<|i.fdiv j):=opI λ_ _ _ _ _ _ _ F q=>floordiv_int F.1 q<|.inl F.ok
def xw:vM X (.builtin "isinstance") (λxs H Q=> ∃x c t b,xs=[x,c]/\qQl X.K H x t/\
 (∃n,c=.ty n/\W.kitOne X.K t (.type n)=some b\/∃a,c=.ref a/\W.kitOne X.K t (.ref a)=some b)/\Q (.bl b) H):=by
 intro pins s σ H xs us Q I r h;let#[x,c,t,b,rfl,ty,hk,q]:=h;let#[u,u',rfl,F,J]:=qQu r;obtain⟨n,⟨rfl,e⟩|⟨a,rfl,e⟩⟩:=hk
 . cases J
   show qLm I F ty e λtk=>#[.bl b,H,I.tok _,O,q]
 . cases J
   show qLm I F ty e λtk=>#[.bl b,H,I.tok _,O,q]
def qV5:OpR X (compareOp .Is) (λx y H Q=> ∃a b,x=.bl a/\y=.bl b/\Q (.bl<|a==b) H):=by intro pins s σ H x y v u Q I F J h;let#[a,b,rfl,rfl,q]:=h;cases F;cases J;show is_bool #[.bl<|a==b,H,I,O,q]
def qL6(xs ys:LV):Bool:=(List.range<|min xs.length ys.length).all (λj=>eqV (xs.getD j .non)<|ys.getD j .non) && xs.length==ys.length
def qG4{A:Around}{s:Shared}{xs ys:LV}{us F:LW}(r1:Vals xs us)(r2:Vals ys F)(f1:xs.all kL=true)(f2:ys.all kL=true):
 ∀j (h1:j<us.toArray.size) (h2:j<F.toArray.size),SeqAt.EqAt A s us.toArray[j] F.toArray[j] (eqV (xs.getD j .non)<|ys.getD j .non):=by
 intro j h1 h2;have l1:=r1.length;have l2:=r2.length;rw[YG]at h1 h2;have g1:xs[j]?=some xs[j]:=YD ();have J:ys[j]?=some ys[j]:=YD ();let#[u,e1,q1]:=r1.get g1;let#[w,e2,q2]:=r2.get J;have d1:xs.getD j .non=xs[j]:=by rw[List.getD_eq_getElem?_getD,g1];rfl
 have d2:ys.getD j .non=ys[j]:=by rw[List.getD_eq_getElem?_getD,J];rfl
 have c1:us.toArray[j]=u:=by have:=(Ya.mp e1).2;simpa using this
 have c2:F.toArray[j]=w:=by have:=(Ya.mp e2).2;simpa using this
 rw[d1,d2,c1,c2];show qOh q1 q2 (List.all_eq_true.mp f1 _<|List.getElem_mem _) (List.all_eq_true.mp f2 _<|List.getElem_mem _)
inductive jBv(K:Fg)(neg:Bool)(x:V)(y:V)(H:Hp)(Q:VK):Prop
|mk p q xs ys (_:x=.ref p) (_:y=.ref q) (_:SqT K H p xs) (_:SqT K H q ys) (_:xs.all kL=true) (_:ys.all kL=true) (_:Q (.bl (if neg then !qL6 xs ys else qL6 xs ys)) H)
def qV3(hu:X.A.units<cLine):OpR X (compareOp .Eq) (jBv X.K false):=by
 intro pins s σ H x y v u Q I rx ry h;let#[p,q,xs,ys,rfl,rfl,h1,h2,f1,f2,k]:=h;cases rx;cases ry;let#[us,F,t1,_]:=I.tuple h1;let#[ws,J,t2,_]:=I.tuple h2;have l1:us.toArray.size=xs.length:=by rw[YG];show F.length.symm
 have l2:ws.toArray.size=ys.length:=by rw[YG];show J.length.symm
 show SeqAt.eq_tupleAt t1 t2 hu (qG4 F J f1 f2) ?_;rw[l1,l2];show#[.bl<|qL6 xs ys,H,I,O,k]
def qZv(hu:X.A.units<cLine):OpR X (compareOp .NotEq) (jBv X.K true):=by
 intro pins s σ H x y v u Q I rx ry h;let#[p,q,xs,ys,rfl,rfl,h1,h2,f1,f2,k]:=h;cases rx;cases ry;let#[us,F,t1,_]:=I.tuple h1;let#[ws,J,t2,_]:=I.tuple h2;have l1:us.toArray.size=xs.length:=by rw[YG];show F.length.symm
 have l2:ws.toArray.size=ys.length:=by rw[YG];show J.length.symm
 show SeqAt.RcNeAt.tuples t1 t2 hu (qG4 F J f1 f2) _ _ _ _ ?_;rw[l1,l2];show#[.bl<|!qL6 xs ys,H,I,O,k]
end
noncomputable def jt(X:Cx)(scope:Scope)(cl:List (Str×Addr))(C:Addr)(N:LS)(s:Shared)(H:Hp)(fp:List Addr):Cx:=
 {X with N:=N,s₀:=s,H₀:=H,env:=compEnvC scope cl C X.env,outer:=X.stack,stack:=X.stack,ex:=fp,fn:=λ_=>false,pn:=[]}
noncomputable def qDi(js:List Nat)(σ:L2.St):L2.St:=js.map λj=>(σ[j]?).join
def qQ1{prog:Program}{w:World}{A:Around}{R:Result->Shared->Prop}{s0:Shared}{el tg ag:Expr}{cs:List Expr}{ai:Scope}{po:Pos}{ac ad:Value}{F:Env}(J:Nat->Shared->Prop)
 (af:∀k st,J k st->wpAny (model prog w) A (pyNext ac) (λae s1=>match ae with
   |none=>R (.ok .next) s1
   |some u=>wpAny (model prog w) A (letOwnedTupleGo tg ac u) (λ_ ah=>wpAny (model prog w) A (assign tg F u) (λ_ s2=>
    wpAny (model prog w) A (forIn cs true λc r=>if r=true then do let ok<-isTrue c F (eval c F);pure (ForInStep.yield ok)else pure (ForInStep.yield r)) (λaa s3=>
     if aa=true then wpAny (model prog w) A (eval el F) (λy s4=>
      wpAny (model prog w) A (call (.builtin "list.append") [ad,y]) (λ_ s5=> ∃j,j<k/\J j s5) (notedBy (model prog w) A F λx z=>R (.error x) z) s4) (notedBy (model prog w) A F λx z=>R (.error x) z) s3
     else ∃j,j<k/\J j s3) (notedBy (model prog w) A F λx z=>R (.error x) z) s2) (notedBy (model prog w) A F λx z=>R (.error x) z) ah) (notedBy (model prog w) A F λx z=>R (.error x) z) s1) (notedBy (model prog w) A F λx z=>R (.error x) z) st)
 (k:Nat) (hJ:J k s0):codeAny (model prog w) A (.compLoop (.ListComp el [#[tg,ag,cs,0]] ai po) 0 ac ad F) R s0:=by
 show codeAny_loop rfl J (λk st hk=>?_) k hJ;change wpAny _ A ((compTurn (.ListComp el [#[tg,ag,cs,0]] ai po) 0 ac ad F).onRaise (λx=>do noteFrame x F;theTreesLotGoes x)) _ _ st;show wpAny_noted ?_;rw[compTurn_list];show YJ (wpAny_standAt (YJ (YL (af k st hk) (λae s1 g1=>?_) λ_ _ q=>q)))
 match ae with
 |none=>show YK g1
 |some u=>
  show YJ (YL g1 (λ_ ah g2=>?_) λ_ _ q=>q);show YJ (YL g2 (λ_ s2 g3=>YJ (YL g3 (λaa s3 g4=>?_) λ_ _ q=>q)) λ_ _ q=>q)
  match aa with
  |false=>show YK #[rfl,g4]
  |true=>
   show YJ (YJ (YL g4 (λy s4 g5=>?_) λ_ _ q=>q));show YJ (YL g5 (λ_ s5 g6=>YK<|YK #[O,g6]) λ_ _ q=>q)
structure COk(X:Cx)(scope:Scope)(cl:List (Str×Addr))(iter:Expr)(xs ys:LS)(js:List Nat):Prop where
 clos:closureFor scope X.env=pure cl
 cls:cl.map (λp=>X.env.cells.lookup p.1)=cl.map (λp=>some p.2)
 cell:(scope.names.all λp=>p.2 != .cell)=true
 kind:scope.kind=.function
 names:(scope.names.all λp=>p.2 != .local || scope.names.lookup p.1==some .local)=true
 has:((relabel scope X.env).names.all λp=>(p.2 != .cell && p.2 != .free) || (cl.lookup p.1).isSome)=true
 hjs:js.map (λj=>X.N[j]?)=ys.map some
 hys:(ys.all λy=>((relabel scope X.env).names.lookup y==some .cell || (relabel scope X.env).names.lookup y==some .free) && (X.env.scope.names.lookup y==some .cell || X.env.scope.names.lookup y==some .free))=true
 set:∀x,foldedSetIterable iter X.env x=pure x
 nd:(xs++ys).Nodup
def PTs(X:Cx)(cs:List Expr)(t:TT):Prop:=
 ∀(pins:LO) (s:Shared) (σ:L2.St) (H:Hp) (Q:Bool->Hp->Prop),Inv X pins σ H s->t σ H Q->wpAny (model X.prog X.w) X.A (forIn cs true λc r=>if r=true then do let ok<-isTrue c X.env (eval c X.env);pure (ForInStep.yield ok)else pure (ForInStep.yield r)) (TP X pins σ Q) X.xe s
def qRu{X:Cx}:PTs X [] λ_ H Q=>Q true H:=λ_ _ _ H _ I h=>YK #[H,I,h]
def qWw{X:Cx}{c:Expr}{t:TT}(F:PT X c t):PTs X [c] t:=λpins s σ H Q I h=>by simp only[List.forIn_cons,List.forIn_nil,if_true];show YJ (YJ (thn (F pins s σ H Q I h) λ_ _ q=>YK<|YK q))
def qBx(n:Nat)(js:List Nat)(g:TG)(tc:TT)(te:TE)(σ:L2.St)(Q:VK)(J:It)(H1:Hp):Prop:= ∃W:Nat->Nat->LV->Hp->Prop,(∃m,W 0 m [] H1)/\∀i m acc H2,W i m acc H2->
 acc.length<sizeLine/\((J.stop i H2/\∀D,H2 D=none->Q (.ref D) (upd H2 D<|.lst acc))\/
  (J.go i H2/\∀x H3,J.yld i H2 x H3->g x (List.replicate n none++qDi js σ) H3 λσ' H4=> ∃vs:L2.St,σ'=vs++qDi js σ/\vs.length=n/\tc σ' H4 λok H5=>if ok=true then te σ' H5 λv H6=> ∃m',m'<m/\W (i+1) m' (acc++[v]) H6 else ∃m',m'<m/\W (i+1) m' acc H5))
def qU{G:Prop}(k:∀X:Prop,(G->X)->X):G:=k G id
def qHc{X:Cx}{aH ad tg:Expr}{cs:List Expr}{F:Scope}{cl:List<|Str×Addr}{pos:Pos}{wi:TI}{g:TG}{tc:TT}{te:TE}{xs ys:LS}{js:List Nat}{E:It->Hp->Prop}
 (aW:X.calm=true) (hi:PI X tg ad wi) (hg:∀C s H fp,PG (jt X F cl C (xs++ys) s H fp).nox tg g) (hc:∀C s H fp,PTs (jt X F cl C (xs++ys) s H fp).nox cs tc) (he:∀C s H fp,PE (jt X F cl C (xs++ys) s H fp).nox aH te)
 (hC:COk X F cl ad xs ys js)
 {pins:LO} {s:Shared} {σ:L2.St} {H:Hp} (R:V->Hp->Prop) (use:Option<|Value->Sem Unit) (Q:Ba) (I:Inv X pins σ H s) (h:wi σ H E) (hE:∀J H1,E J H1->qBx xs.length js g tc te σ R J H1)
 (be:∀(v:V) (u:Value) (H':Hp) (s':Shared) (C:Addr),Inv X pins σ H' s'->RelV v u->R v H'->(∃m,s'.heap.Ns C m)->H' C=none->C≠X.env.locals->X.s₀.heap.objs.size<=C->(∀y c,X.env.cells.lookup y=some c->c≠C)->(∀p∈X.pn++pins,p.1≠C)->
   compPost (model X.prog X.w) X.A X.xe use Q u C (.ok .next) s'):
 wpAny (model X.prog X.w) X.A (comprehension (.ListComp aH [#[tg,ad,cs,0]] F pos) F X.env (firstIterPos [#[tg,ad,cs,0]] pos) (newList []) false (eval ad X.env) use) Q X.xe s:=by
 let#[aI,bg,aL,ag,az,aQ,a1,ba,hs,bt]:=hC;have ax:∀y∈F.names,y.2≠ .cell:=λy hy=>by have:=List.all_eq_true.mp aL y hy;simpa using this
 have bl:∀y∈F.names,y.2=.local->F.names.lookup y.1=some .local:=λy hy e=>by have:=List.all_eq_true.mp az y hy;rw[e]at this;simpa using this
 have af:∀y c,cl.lookup y=some c->X.env.cells.lookup y=some c:=λy c e=>by have hm:=ZQ e;let#[k,hk,e2]:=ZF.mp hm;have:=XF (λl=>l[k]?) bg;simp only[Yj,YD hk,Option.map_some,e2]at this;show Yb this
 have has:∀y,((relabel F X.env).names.lookup y=some .cell\/(relabel F X.env).names.lookup y=some .free)->∃c,cl.lookup y=some c:=λy hy=>by
  have aZ:∀k:NameKind,(k=.cell\/k=.free)->(relabel F X.env).names.lookup y=some k->∃c,cl.lookup y=some c:=λk hk e=>by have:=List.all_eq_true.mp aQ _<|ZQ e;rcases hk with rfl|rfl <;> show Option.isSome_iff_exists.mp ( ~~~this)
  rcases hy with e|e
  . show aZ _ (.inl rfl) e
  . show aZ _ (.inr rfl) e
 show wpAny_comprehension_free (use:=use) rfl hs aI ag bl (thn (hi pins s σ H _ I h) λv s1 h1=>thn h1 λbq s2 h2=>?_);show qU λ_ Y=>?_;let#[it,fp,tn,J,H2,e,I2,T,aF,f2,hw]:=h2;let#[W,#[m0,w0],aY]:=hE J H2 hw;subst e;apply Y;show wpAny_newObj_type (wpAny_newFunctionEnv ax (by intro y hy;simp at hy) (λaj aM aA=>?_) ag);dsimp only at aM aA⊢;generalize hG:s2.heap.push {cls:=.type "list",dict:=none,data:=.seq ([]:LW).toArray}=G at aM aA⊢;have aq:G.objs.size=s2.heap.objs.size+1:=by rw[<-hG,Heap.size_push]
 have a7:∀b o,s2.heap.get? b=some o->G.get? b=some o:=λb o e=>hG ▸ YM _ e;have aw:∀b o,s2.heap.get? b=some o->b≠G.objs.size:=λb o e=>by rw[aq];show Yo (Nat.lt_succ_of_lt<|YV e)
 have au:∀b o,s2.heap.get? b=some o->b≠s2.heap.objs.size:=λb o e=>Yo<|YV e;have DC:s2.heap.objs.size≠G.objs.size:=by rw[aq];lia
 have ap:∀b o,s2.heap.get? b=some o->aj.get? b=some o:=λb o e=>aA.extBut b o (aw b o e) (YM _<|a7 b o e);have aP:aj.PlainList s2.heap.objs.size %[|0]:=#[_,aA.extBut _ _ DC (YM _ (hG ▸ Yn _ rfl))];have aK:∀b∈fp,∃o,s2.heap.get? b=some o:=λb hb=>let #[o,e,_]:=T.obj 0 _ aF b hb;#[o,e]
 have a3:∀b∈frs X.stack,∃o,s2.heap.get? b=some o:=λb hb=>by let#[_,o,ho,_]:=I2.stack.mem hb;show#[o,ho]
 have ai:∀a,s2.heap.objs.size<=a->H2 a=none:=λa ha=>I2.hok.fresh ha;have as:∀b∈fp,b∉frs X.stack:=λb hb z=>by
  rcases YU.mp (I2.stkSub b z)with q|q
  . show(f2 b hb).2.1 q
  . show(f2 b hb).2.2.1 q
 have okX:(jt X F cl G.objs.size (xs++ys) s2 H2 fp).Ok:={
  mod:=I2.ok.mod
  kind:=ag
  glob:=I2.ok.glob
  blt:=I2.ok.blt
  above:=by change s2.heap.objs.size<=G.objs.size;rw[aq];lia
  inj:=λy z c e1 e2=>I2.ok.inj y z c (af y c e1) (af z c e2)
  has:=λy hy=>has y hy
  cab:=λy c e _=>YC (show false=true from e) YZ
  hd:=I2.ok.hd
  frames:=I2.ok.frames
  stk:=.inl rfl
  exf:=λb hb=>by let#[o,e]:=aK b hb;show#[aw b o e,λy c e1=>(f2 b hb).2.2.2.2.1 y c<|af y c e1]
  bs:=I2.bs
  bsz:=ZD I2.ok.bsz I2.sz
  noex:=λb o e hb=>by
   rcases (f2 b hb).2.2.2.1 with q|q
   . show I2.ok.noex b o e q
   . show XG _ (YR (YR (YV e) I2.ok.bsz) q)
  exfs:=as
  funs:=I2.stack
  frf:=I2.stkFree}
 have a4:js.length=ys.length:=by have:=XF List.length a1;simpa using this
 have I0:Inv (jt X F cl G.objs.size (xs++ys) s2 H2 fp) [] (List.replicate xs.length none++qDi js σ) H2 {s2 with heap:=aj,toks:=s2.toks+([]:List<|Str×Value).length}:=by
  show#[okX,O,I2.bare,Un.kept ap,#[_,aM,λk y v e1 e2 e3=>?_],λy c e=>?_,ai _ (by change s2.heap.objs.size<=G.objs.size;rw[aq];lia),λy c e=>I2.freeC y c<|af y c e,λp hp=>YC (show p∈([]:LO)from hp) #[],I2.hok.kept ap,?_]
  . let#[k,aO,an]:∃k,ys[k]?=some y/\(qDi js σ)[k]?=some (some v):=by
     have e1:(xs++ys)[k]?=some y:=e1;by_cases hk:k<xs.length
     . rw[ZC<| ~~~hk,List.getElem?_replicate,YB hk]at e2
       cases e2
     . rw[Yz<| ~~~hk,List.length_replicate]at e2
       rw[Yz<|Nat.le_of_not_lt hk]at e1;show#[_,e1,e2]
    delta qDi at an;rw[Yj]at an;cases ej:js[k]? with
    |none=>rw[ej]at an;cases an
    |some j=>
     rw[ej]at an;have e4:(σ[j]?).join=some v:=Yb an;have e5:σ[j]?=some (some v):=by
      cases q:σ[j]? with
      |none=>rw[q]at e4;cases e4
      |some o=>rw[q]at e4;show XF some e4
     have e6:X.N[j]?=some y:=by have:=XF (λl=>l[k]?) a1;simp only[Yj,ej,aO,Option.map_some]at this;show Yb this
     have hy:=List.all_eq_true.mp ba y<|YF aO;simp only[Yl,Bool.or_eq_true,beq_iff_eq]at hy;let#[ky,ko]:=hy;let#[m,hn,hl]:=I2.loc;let#[u,r,lk]:=hl j y v e6 e5<|.inr ko;show#[u,r,.inr #[ky,?_]];rcases lk with ⟨kl,_⟩|⟨_,c,ec,hc⟩
     . have bi:X.env.scope.names.lookup y=some .local:=kl
       rw[bi]at ko;rcases ko with z|z <;> cases z
     . let#[c',a2]:=has y ky
       have:=af y c' a2;rw[ec]at this;cases this;let#[o,ho,hd]:=hc;show#[c,a2,o,ap c o ho,hd]
  . let#[v,o,ho,hd]:=I2.cell y c (af y c e)
    show#[v,o,ap c o ho,hd]
  . change (List.replicate xs.length none++qDi js σ).length=(xs++ys).length
    simp[qDi,a4]
 have aD:∀s3:Shared,s3={s2 with heap:=aj,toks:=s2.toks+([]:List<|Str×Value).length}->
  codeAny (model X.prog X.w) X.A (.compLoop (.ListComp aH [#[tg,ad,cs,0]] F pos) 0 (.ref it) (.ref s2.heap.objs.size)<|compEnvC F cl G.objs.size X.env)
   (compPost (model X.prog X.w) X.A X.xe use Q (.ref s2.heap.objs.size) G.objs.size) s3:=by
  rintro s3 rfl;have av:∀{H':Hp} (o:Obj),(∀b∈fp,H' b=none)->∀b∈fp,qT1 (jt X F cl G.objs.size (xs++ys) s2 H2 fp) [(s2.heap.objs.size,o)] H' b:=λ{H'} o hn b hb=>by
   let#[ob,eb]:=aK b hb;show#[hn b hb,aw b ob eb,as b hb,.inl hb,λy c e1=>(f2 b hb).2.2.2.2.1 y c<|af y c e1,λp hp=>?_];have ao:p=(s2.heap.objs.size,o):=by have:p∈[(s2.heap.objs.size,o)]:=hp;simpa using this
   rw[ao];show ZG (au b ob eb)
  show qQ1 (λn s'=> ∃i ac aa H3,Inv (jt X F cl G.objs.size (xs++ys) s2 H2 fp) [] (List.replicate xs.length none++qDi js σ) H3 s'/\tn i s'.heap/\(∀b∈fp,H3 b=none)/\s'.heap.PlainList s2.heap.objs.size aa.toArray/\Vals ac aa/\H3 s2.heap.objs.size=none/\W i n ac H3)
   ?_ m0 #[0,[],[],H2,I0,T.keep _ _ _ aF λb _ o e=>ap b o e,λb hb=>(f2 b hb).1,aP,.nil,ai _<|YI _,w0]
  intro n s3 bc;show qU λ_ Y=>?_;let#[i,ac,aa,H3,I3,aV,aR,#[nn,bh],ay,ah,w3]:=bc;let#[aC,cs]:=aY i n ac H3 w3;apply Y;have bd:ac.length=aa.length:=ay.length;have nD:s2.heap.objs.size∉frs X.stack:=λz=>by let#[o,e]:=a3 _ z;show au _ o e rfl
  have a0:Inv (jt X F cl G.objs.size (xs++ys) s2 H2 fp) [(s2.heap.objs.size,{cls:=.type "list",data:=.seq aa.toArray nn})] (List.replicate xs.length none++qDi js σ) H3 s3:=I3.pins_of λp hp=>by
   have e:p=(s2.heap.objs.size,{cls:=.type "list",data:=.seq aa.toArray nn}):= ~~~hp
   subst e;show#[bh,ah,DC,nD,λv z=>nomatch z]
  rcases cs with ⟨aU,q⟩|⟨go,aS⟩
  . show thn (T.done (jt X F cl G.objs.size (xs++ys) s2 H2 fp) rfl rfl rfl aW i _ s3 _ H3 _ a0 (av _ aR) aV aU) λr s4 hr=>?_
    let#[hr,I4]:=hr;subst hr;have bn:=(I4.pin (s2.heap.objs.size,{cls:=.type "list",data:=.seq aa.toArray nn}) #[]).1;let#[m,hn,_]:=I4.loc;have B:=I4.base;have a5:Un (frs X.stack) fp H2 (upd H3 s2.heap.objs.size<|.lst ac) s2.heap s4.heap:=by
     show#[λb o e n hb hx=>B.keep b o e n hb hx,λb o e n hb hx=>B.slot b o e n hb hx,λb o e n hx=>?_,λb o e hx=>B.there b o e hx,λb xs e=>?_,λb o u e=>?_,λb ps e=>?_]
     . rw[qS<|au b o e]
       show B.free b o e n hx
     . have z:=B.tups b xs e
       rw[qS<|qW z ah];show z
     . have z:=B.frzs b o u e
       rw[qS<|qW z ah];show z
     . let#[aN,z]:=B.tbls b ps e
       show#[aN,by rw[qS<|qW z ah];show z]
    have aB:H3 G.objs.size=none:=I4.free;have aX:HOk X.prog X.w (upd H3 s2.heap.objs.size<|.lst ac) s4.heap:=λb u e=>by
     by_cases hb:b=s2.heap.objs.size
     . subst hb
       rw[qC]at e;cases e;show#[Nat.le_of_lt aC,aa,nn,ay,bn]
     . rw[qS hb]at e
       show(I4.hok b u e).stay (λc v hc z=>z) (λc z=>by rw[qS<|qW z ah];show z) λc xs z=>by rw[qS<|qW z ah];show z
    have a8:∀b∈fp,(b∈X.ex\/X.s₀.heap.objs.size<=b)/\b≠X.env.locals/\(∀y c,X.env.cells.lookup y=some c->c≠b)/\∀p∈X.pn++pins,p.1≠b:=λb hb=>by let#[_,z1,_,z3,z4,z5]:=f2 b hb;show#[z3,z1,z4,z5]
    have I5:=I2.call' (s':=s4) (ch:=fp) I4.os a5 aX I4.bare a8;show be (.ref s2.heap.objs.size) _ _ s4 G.objs.size I5 rfl (q _ ah) #[m,hn] ?_ ?_ ?_ (λy c e=>?_) λp hp=>?_
    . rw[qS<|ZG DC];show aB
    . rw[aq];show Nat.ne_of_gt (Nat.lt_succ_of_lt I2.lt)
    . rw[aq];show Nat.le_succ_of_le I2.sz
    . let#[v,o,ho,_]:=I2.cell y c e
      show aw c o ho
    . show aw p.1 p.2 (I2.pin p hp).1
  . show thn (T.item (jt X F cl G.objs.size (xs++ys) s2 H2 fp) rfl rfl rfl aW i _ s3 _ H3 _ a0 (av _ aR) aV go) λr s4 hr=>?_
    let#[u,hr,h4]:=hr;subst hr;show thn h4 λ_ s5 h5=>?_;show qU λ_ Y=>?_;let#[v,H5,I5,r5,y5,aJ,bf]:=h5;apply Y;have bk:=I5.pinned (av _ bf)<|T.obj _ _ aJ;show YL (hg G.objs.size s2 H2 fp _ s5 _ H5 v u _ (bk.wish _) r5<|aS v H5 y5) (λ_ s6 h6=>?_) λ_ _ z=>z.elim;show qU λ_ Y=>?_;let#[br,bp,bb,vs,bj,hv,q5]:=h6;subst bj;apply Y;have aE:∀(H7:Hp) (s7:Shared) (bo:L2.St) (h':Heap) (ak:LV) (am:LW) (m':Nat),Inv (jt X F cl G.objs.size (xs++ys) s2 H2 fp) ([(s2.heap.objs.size,{cls:=.type "list",data:=.seq aa.toArray nn})]++qK0 fp s5.heap) (vs++qDi js σ) H7 s7->
     Heap.SameBut s2.heap.objs.size s7.heap h'->h'.PlainList s2.heap.objs.size am.toArray->Vals ak am->m'<n->W (i+1) m' ak H7->
     ∃m,m<n/\∃i ac aa H3,Inv (jt X F cl G.objs.size (xs++ys) s2 H2 fp) [] (List.replicate xs.length none++qDi js σ) H3 {s7 with heap:=h'}/\tn i h'/\(∀b∈fp,H3 b=none)/\h'.PlainList s2.heap.objs.size aa.toArray/\Vals ac aa/\H3 s2.heap.objs.size=none/\W i m ac H3:=by
     intro H7 s7 _ h' ak am m' I7 al ao a6 ar w7;have ae:=I7.pin (s2.heap.objs.size,{cls:=.type "list",data:=.seq aa.toArray nn}) #[];have pf:∀b∈fp,∀o,s5.heap.get? b=some o->s7.heap.get? b=some o/\H7 b=none:=λb hb o e=>by have z:=I7.pin (b,o)<|Yf _ (Yf _<|qCt hb e);show#[z.1,z.2.1]
     have I8:Inv (jt X F cl G.objs.size (xs++ys) s2 H2 fp) [] (List.replicate xs.length none++qDi js σ) H7 {s7 with heap:=h'}:=by
      have a9:Inv (jt X F cl G.objs.size (xs++ys) s2 H2 fp) [] (List.replicate xs.length none++qDi js σ) H7 s7:=(I7.pins_of (pins':=[]) λp hp=>YC hp #[]).weak (by simp[hv]) λk v e=>by
       by_cases hk:k<xs.length
       . rw[ZC<| ~~~hk,List.getElem?_replicate,YB hk]at e
         cases e
       . rw[Yz<| ~~~hk,List.length_replicate]at e
         rw[Yz (by rw[hv];show Nat.le_of_not_lt hk),hv];show e
      show a9.turned (t':=s7.toks) (it:=s2.heap.objs.size) (λb o hb e=>al.extBut b o hb e) ae.2.1 DC (.inr<|YI _) (λy c e=>?_) λp hp=>YC (show p∈([]:LO)from hp) #[];let#[v,o,ho,_]:=I2.cell y c<|af y c e;show au c o ho
     show#[m',ar,i+1,ak,am,H7,I8,?_,λb hb=>?_,ao,a6,ae.2.1,w7]
     . show T.keep _ _ _ aJ λb hb o e=>al.extBut b o ?_ (pf b hb o e).1
       let#[ob,eb]:=aK b hb;show au b ob eb
     . let#[o,e,_]:=T.obj _ _ aJ b hb
       show(pf b hb o e).2
    show YL (hc G.objs.size s2 H2 fp _ s6 _ _ _ bb q5) (λok aG h6=>?_) λ_ _ z=>z.elim;let#[H6,aT,q6]:=h6;cases ok with
    |false=>
     rw[YA #[]]at q6⊢;let#[m',ar,w7]:=q6;have I7:=aT.unwish;have ae:=I7.pin (s2.heap.objs.size,{cls:=.type "list",data:=.seq aa.toArray nn}) #[];show aE H6 aG (List.replicate xs.length none++qDi js σ) aG.heap ac aa m' I7 (Heap.SameBut.refl _ _) #[nn,ae.1] ay ar w7
    |true=>
     rw[YB rfl]at q6⊢;show YL (he G.objs.size s2 H2 fp _ aG _ H6 _ aT q6) (λy s7 h7=>?_) λ_ _ z=>z.elim;show qU λ_ Y=>?_;let#[v7,H7,I7,r7,m',ar,w7]:=h7;apply Y;have I7:=I7.unwish;have ae:=I7.pin (s2.heap.objs.size,{cls:=.type "list",data:=.seq aa.toArray nn}) #[];show wpAny_list_append_plain (items:=aa.toArray) #[nn,ae.1] (λh' ao al=>?_) (by rw[YG,<-bd];show Nat.le_of_lt aC);have e8:aa.toArray.push y=(aa++[y]).toArray:=#[]
     rw[e8]at ao;show aE H7 s7 (List.replicate xs.length none++qDi js σ) h' (ac++[v7]) (aa++[y]) m' I7 al ao (ay.append<|.cons r7 .nil) ar w7
 show codeAny_compStart_list (aD _ rfl) (T.self _ 0 _ _ _ (T.keep _ _ _ aF λb _ o e=>ap b o e)<|aD _ rfl)
def qOz{X:Cx}{pins:LO}{σ:L2.St}{H:Hp}{s:Shared}{C:Addr}{h':Heap}(I:Inv X pins σ H s)(F:Heap.SameBut C s.heap h')(h0:H C=none)(h1:C≠X.env.locals)(h2:X.s₀.heap.objs.size<=C)
 (J:∀y c,X.env.cells.lookup y=some c->c≠C) (h4:∀p∈X.pn++pins,p.1≠C):Inv X pins σ H {s with heap:=h'}:=
 I.turned (t':=s.toks) (it:=C) (λb o hb e=>F.extBut b o hb e) h0 h1 (.inr h2) J h4
def qOc{X:Cx}{ac aa tg:Expr}{cs:List Expr}{F:Scope}{cl:List<|Str×Addr}{pos:Pos}{wi:TI}{g:TG}{tc:TT}{te:TE}{xs ys:LS}{js:List Nat}{T:L2.St->VK->It->Hp->Prop}
 (ae:X.calm=true) (hi:PI X tg aa wi) (hg:∀C s H fp,PG (jt X F cl C (xs++ys) s H fp).nox tg g) (hc:∀C s H fp,PTs (jt X F cl C (xs++ys) s H fp).nox cs tc) (he:∀C s H fp,PE (jt X F cl C (xs++ys) s H fp).nox ac te) (hC:COk X F cl aa xs ys js) (hE:∀σ Q J H1,T σ Q J H1->qBx xs.length js g tc te σ Q J H1):PE X (.ListComp ac [#[tg,aa,cs,0]] F pos) (λσ H Q=>wi σ H<|T σ Q):=by
 ext;rw[eval_ListComp];show qHc ae hi hg hc he hC Q none (EP X pins σ Q) I h (hE σ Q) λv u H' s' C I' r q hm h0 h1 h2 h3 h4=>?_;let#[m,hm]:=hm;show#[m,hm,λh' ad=>#[v,H',qOz I' ad h0 h1 h2 h3 h4,r,q]]
def qUg{X:Cx}{ad aa tg:Expr}{cs:List Expr}{F:Scope}{cl:List<|Str×Addr}{pos:Pos}{wi:TI}{g:TG}{tc:TT}{te:TE}{xs ys:LS}{js:List Nat}{T:L2.St->VK->It->Hp->Prop}{i:Nat}{y:Str}{py ac:Pos}(hN:X.N.Nodup)(ag:X.N[i]?=some y)(hy:X.env.kindOf y=some .local)
 (ah:X.calm=true) (hi:PI X tg aa wi) (hg:∀C s H fp,PG (jt X F cl C (xs++ys) s H fp).nox tg g) (hc:∀C s H fp,PTs (jt X F cl C (xs++ys) s H fp).nox cs tc) (he:∀C s H fp,PE (jt X F cl C (xs++ys) s H fp).nox ad te) (hC:COk X F cl aa xs ys js) (hE:∀σ Q J H1,T σ Q J H1->qBx xs.length js g tc te σ Q J H1) (af:swapsWith (.ListComp ad [#[tg,aa,cs,0]] F pos) (some<|.Name y py) ac.line X.env=pure true):PS X (.Assign [.Name y py] (.ListComp ad [#[tg,aa,cs,0]] F pos) ac) (qZo (λσ H Q=>wi σ H<|T σ Q)<|qD5 i):=by
 intro pins s σ H D I h;rw[exec_Assign_Name_used _ _ _ _ af];show YJ (wpAny_standAt<|YJ ?_);have ai:=qHc (pos:=pos) ah hi hg hc he hC (λv H'=>D.nx (σ.set i<|some v) H') (some<|assign (.Name y py) X.env) (λ_ s'=>SP X pins D .next s') I h (hE σ _) λv u H' s' C I' r q hm h0 h1 h2 h3 h4=>?_
 . show YJ (thn ai λ_ s' hq=>YK<|YK hq)
 . show wpAny_assign_Name (qMb I' hN ag (.inl hy) r (λs2 I2 ch=>?_)<|.inr hy)
   let#[b,sb,hb]:=ch;let#[m,hm]:=hm;have nb:C≠b:=by
    rcases hb with rfl|hb
    . show h1
    . show ZG (h3 y b hb)
   show#[m,hm.sameBut sb nb,λh' ae=>#[_,H',qOz I2 ae h0 h1 h2 h3 h4,q]]
def CompEnd(js:List Nat)(te:TE)(σ:L2.St)(Q:VK)(J:It)(H1:Hp):Prop:= ∃W:Nat->Nat->LV->Hp->Prop,(∃m,W 0 m [] H1)/\∀i m acc H2,W i m acc H2->
 acc.length<sizeLine/\((J.stop i H2/\∀D,H2 D=none->Q (.ref D) (upd H2 D<|.lst acc))\/
  (J.go i H2/\∀x H3,J.yld i H2 x H3->te (some x::qDi js σ) H3 λv H4=> ∃m',m'<m/\W (i+1) m' (acc++[v]) H4))
def qZb(js:List Nat)(wi:TI)(te:TE):TE:=λσ H Q=>wi σ H<|CompEnd js te σ Q
def CompEnd.g{js:List Nat}{te:TE}(σ:L2.St)(Q:VK)(J:It)(H1:Hp):CompEnd js te σ Q J H1->qBx 1 js (qD5 0) (λ_ H Q=>Q true H) te σ Q J H1:=λ#[W,w0,st]=>
 #[W,w0,λi m F H2 w=>#[(st i m F H2 w).1,(st i m F H2 w).2.imp id λ#[go,y]=>#[go,λx H3 z=>#[[some x],rfl,rfl,(YB rfl).mpr<|y x H3 z]]]]
def vz{X:Cx}{aa J:Expr}{x:Str}{px:Pos}{F:Scope}{cl:List<|Str×Addr}{pos:Pos}{wi:TI}{te:TE}(ys:LS)(js:List Nat)
 (ac:X.calm=true) (hi:PI X (.Name x px) J wi) (he:∀C s H fp,PE (jt X F cl C (x::ys) s H fp).nox aa te) (hx:F.names.lookup x=some .local:=by rfl) (hC:COk X F cl J [x] ys js:=by trivial):PE X (.ListComp aa [#[.Name x px,J,[],0]] F pos) (qZb js wi te):=
 qOc (xs:=[x]) (T:=CompEnd js te) ac hi (λ_ _ _ _=>jB (i:=0) hC.nd rfl (.inl<|lookup_relabel_local hx) (.inr<|lookup_relabel_local hx)) (λ_ _ _ _=>qRu) he hC CompEnd.g
def qXs{X:Cx}{ac J:Expr}{x:Str}{px:Pos}{F:Scope}{cl:List<|Str×Addr}{pos:Pos}{wi:TI}{te:TE}(ys:LS)(js:List Nat){i:Nat}{y:Str}{py aa:Pos}(hN:X.N.Nodup)(ae:X.N[i]?=some y)(hy:X.env.kindOf y=some .local)
 (af:X.calm=true) (hi:PI X (.Name x px) J wi) (he:∀C s H fp,PE (jt X F cl C (x::ys) s H fp).nox ac te) (hx:F.names.lookup x=some .local:=by rfl) (hC:COk X F cl J [x] ys js:=by trivial) (ad:swapsWith (.ListComp ac [#[.Name x px,J,[],0]] F pos) (some<|.Name y py) aa.line X.env=pure true:=by rfl):PS X (.Assign [.Name y py] (.ListComp ac [#[.Name x px,J,[],0]] F pos) aa) (qZo (qZb js wi te)<|qD5 i):=
 qUg (xs:=[x]) (T:=CompEnd js te) hN ae hy af hi (λ_ _ _ _=>jB (i:=0) hC.nd rfl (.inl<|lookup_relabel_local hx) (.inr<|lookup_relabel_local hx)) (λ_ _ _ _=>qRu) he hC CompEnd.g ad
def Nxt(n i:Nat)(P:Prop):Prop:= ∃m',m'<n-i/\m'=n-(i+1)/\i+1<=n/\P
def Nxt.mk{n i:Nat}{P:Prop}(h:i<n)(p:P):Nxt n i P:=#[n-(i+1),(),rfl,h,p]
def kU{K:Fg}{a:Addr}{xs:LV}{js:List Nat}{te:TE}{σ:L2.St}{H:Hp}{Q:VK}(J:Nat->LV->Hp->Prop)(h0:J 0 [] H)(hl:∀i F H,i<=xs.length->J i F H->SqL K H a xs/\F.length<sizeLine)
 (hs:∀i x F H,i<xs.length->xs[i]?=some x->J i F H->te (some x::qDi js σ) H λv H'=>Nxt xs.length i<|J (i+1) (F++[v]) H') (hd:∀F H,J xs.length F H->∀D,H D=none->Q (.ref D) (upd H D<|.lst F)):CompEnd js te σ Q (Itl K a) H:=by
 show#[λi m F H=>m=xs.length-i/\i<=xs.length/\J i F H,#[xs.length,#[],ZT _,h0],?_];rintro i m F H2 ⟨rfl,hi,p⟩;let#[q,hz]:=hl i F H2 hi p;show#[hz,?_];by_cases aa:i<xs.length
 . show .inr #[#[xs,xs[i],q,by simp[aa]],λx H3 y=>?_]
   let#[e,y]:=y;subst e;show hs i x F _ aa (y xs q) p
 . have e:i=xs.length:=()
   subst e;show .inl #[#[xs,q,YI _],hd F H2 p]
def qP5{lo:Int}{n:Nat}{js:List Nat}{te:TE}{σ:L2.St}{H:Hp}{Q:VK}(J:Nat->LV->Hp->Prop)(h0:J 0 [] H)(hl:∀i F H,i<=n->J i F H->F.length<sizeLine)
 (hs:∀i F H,i<n->J i F H->te (some (.int<|lo+i)::qDi js σ) H λv H'=>Nxt n i<|J (i+1) (F++[v]) H') (hd:∀F H,J n F H->∀D,H D=none->Q (.ref D) (upd H D<|.lst F)):CompEnd js te σ Q (Itr lo n) H:=by
 show#[λi m F H=>m=n-i/\i<=n/\J i F H,#[n,#[],ZT _,h0],?_];rintro i m F H2 ⟨rfl,hi,p⟩;show#[hl i F H2 hi p,?_];by_cases aa:i<n
 . show .inr #[aa,λx H3 y=>?_]
   let#[e,y]:=y;subst e y;show hs i F _ aa p
 . have e:i=n:=()
   subst e;show .inl #[YI _,hd F H2 p]
structure Def(K:Fg)(mg:SV)(x:Str)(st:Stmt)(ps:LS)(f:Addr)(fd:FD):Prop where
 F:Fun K x x st f fd
 b:Binds K fd ps []
 m:mg x=some (.ref f)
section
variable{X:Cx}
def qK{k j:Nat}{x:Str}{st:Stmt}{ps:LS}{f:Addr}{fd:FD}{sp:Sp}{e:Expr}{es:List Expr}{t:TA}{p pos:Pos}(D:Def X.K X.mg x st ps f fd)(F:FnOk X.prog X.w X.K X.mg X.base CX0 j f fd ps sp)(hr:Room k X.A)(hg:Gl X x)(ha:PA X (e::es) t)(hj:j<=k:=by decide)
 (aa:(x==("__debug__":Str))=false:=by decide) (he:starEach (e::es) X.env=(false,eval e X.env)::starEach es X.env:=by rfl) (J:(backTo pos<|starEach es X.env).any (·.1)=false:=by rfl):
 PE X (.Call (.Name x p) (e::es) [] pos) (qVq sp [] E0 t):=qTu F (hr.mono hj) hg D.m D.F.kp D.b .nil qXz ha aa he J
def qQ5{x:Str}{n:String}{pos:Pos}(F:Gl X x)(hm:X.mg x=none)(J:bootBuiltins x=some (.type n))(hn:x≠"__name__":=by decide)(hd:(x==("__debug__":Str))=false:=by decide):PE X (.Name x pos) (tC<|.ty n):=
 qXh F hm J rfl hn hd
end
def qUu{X:Cx}{K:Fg}(h:X.K=K):IxR X (jBp K):=h ▸ qk
def qNp{X:Cx}{K:Fg}(h:X.K=K):IxR X (qYd K):=h ▸ qHk
def jBg(t:TS):TS:=λD σ H=> ∃R:L2.St->Hp->Prop,t {D with nx:=R} σ H/\∀σ' H',R σ' H'->D.nx σ' H'
def wZ{X:Cx}{st:Stmt}{t:TS}(h:PS X st t):PS X st (jBg t):=by
 rintro pins s σ H D I ⟨R,ht,J⟩;show thn (h pins s σ H {D with nx:=R} I ht) λf s' q=>?_;cases f with
 |next=>let#[σ',H',F,r]:=q;show#[σ',H',F,J _ _ r]
 |brk=>show q
 |cont=>show q
 |ret u=>show q
def qE{H:Hp}{p:Addr}(h:H p=none)(o:HO):Same H (upd H p o):=λb u q=>by rw[qS<|qW q h];show q
def Same.tup{K:Fg}{H H':Hp}{a:Addr}{xs:LV}(e:Same H H')(h:SqT K H a xs):SqT K H' a xs:=by
 rcases h with (h|⟨o,h⟩)|h
 . show .inl (.inl<|e _ _ h)
 . show .inl (.inr #[o,e _ _ h])
 . show .inr h
abbrev EC:=Value×Option Addr
def vj(h:Heap)(e:Addr)(C:EC)(hd:Option Addr):Prop:=
 ∃(vs:Array Value) (sl:Array<|Option Value),h.get? e=some {cls:=C.1,dict:=C.2,data:=.fields vs,slots:=sl}/\
  match hd with
  |none=>vs[1]?=some .none
  |some T=>vs[1]?=some (.ref T)/\T≠e/\∃oT ts m,h.get? T=some oT/\oT.data=.fields ts/\ts[3]?=some m
def jBt(h:Heap)(e:Addr)(c:Value):Prop:= ∃o vs,h.get? e=some o/\o.data=.fields vs/\vs[2]?=some c
structure Noted(fs:List Addr)(e:Addr)(hd:Option Addr)(C:EC)(h h':Heap):Prop where
 keep:∀b o,h.get? b=some o->b∉fs->b≠e->some b≠hd->h'.get? b=some o
 slot:∀b o,h.get? b=some o->b∈fs->b≠e->some b≠hd->∃sl,h'.get? b=some {o with slots:=sl}
 ent:∃T,(h.get? T=none\/hd=some T)/\vj h' e C (some T)
 c2:∀c,jBt h e c->jBt h' e c
def Noted.before{fs:List Addr}{e T:Addr}{C:EC}{h h1 h':Heap}(x:Noted fs e none C h1 h')(k:∀b,b≠T->h1.get? b=h.get? b)(t:∃o,h1.get? T=some o)(ne:e≠T):Noted fs e (some T) C h h':=by
 show#[λb o q hf F J=>x.keep b o ?_ hf F #[],λb o q hf F J=>x.slot b o ?_ hf F #[],?_,λc #[o,vs,q1,q2]=>x.c2 c #[o,vs,by rw[k e ne];show q1,q2]]
 . rw[k b (λz=>J (by rw[z]))];show q
 . rw[k b (λz=>J (by rw[z]))];show q
 . obtain⟨T',n|n,r⟩:=x.ent
   . show#[T',.inl ?_,r]
     rw[<-k T' (λz=>?_)];show n;let#[o,q]:=t;rw[z,q]at n;cases n
   . cases n
section
variable{M:Model}{A:Around}{E:Ba}{s:Shared}
def Noted.then{fs:List Addr}{e T:Addr}{hd:Option Addr}{C:EC}{h h1 h2:Heap}(x:Noted fs e hd C h h1)(hT:h.get? T=none\/hd=some T)(y:Noted fs e (some T) C h1 h2):Noted fs e hd C h h2:=by
 have nt:∀b o,h.get? b=some o->some b≠hd->(some b:Option Addr)≠some T:=λb o q hb z=>by
  cases z;rcases hT with n|n
  . rw[q]at n;cases n
  . show hb n.symm
 have n1:∀F,h1.get? F=none->F≠e->some F≠hd->h.get? F=none:=λF n J ht=>by
  cases q:h.get? F with
  |none=>rfl
  |some o=>
   by_cases hs:F∈fs
   . let#[sl,z]:=x.slot F o q hs J ht
     rw[n]at z;cases z
   . have z:=x.keep F o q hs J ht
     rw[n]at z;cases z
 show#[λb o q hf J ht=>y.keep b o (x.keep b o q hf J ht) hf J<|nt b o q ht,λb o q hf J ht=>?_,?_,λc q=>y.c2 c<|x.c2 c q]
 . let#[sl,z]:=x.slot b o q hf J ht
   let#[aa,z']:=y.slot b _ z hf J<|nt b o q ht;show#[aa,z']
 . let#[F,n,r]:=y.ent
   show#[F,?_,r];rcases n with n|n
   . by_cases hh:hd=some F
     . show .inr hh
     . show .inl (n1 F n (λz=>?_)<|ZG hh)
       let#[vs,sl,q,r1,nT,_]:=r;show nT z
   . cases n
     show hT
def qLv{base:Heap}{env:Env}{outer:List Env}{L e:Addr}{C:EC}{F:Value}{vs:Array Value}{sl:Array<|Option Value}{aa:Bool}{Q:Unit->Shared->Prop}
 (fr:A.frames=some (env::outer)) (ff:s.heap.FunFrames base (env::outer)) (ef:env.frame=some L) (re:s.heap.get? e=some {cls:=C.1,dict:=C.2,data:=.fields vs,slots:=sl}) (v1:1<vs.size)
 (k:∀h',Noted (frs (env::outer)) e none C s.heap h'->Q Unit.unit {s with heap:=h'}):
 wpAny M A (do let a<-frameOf env;let pl<-entryPlaceOf L aa;let b<-EntryCells.newEntry F a .none (rawInt L) .none pl;setField (.ref e) 1 b) Q E s:=by
 have ad:e∉frs (env::outer):=λz=>by let#[_,o,q,nf]:=ff.mem z;rw[re]at q;cases q;show nf vs rfl
 show YJ (wpAny_frameOf_fun fr ff ef λg so=>?_);show YJ (wpAny_entryPlaceOf λpl ip=>?_);unfold EntryCells.newEntry newFields;show YJ (wpAny_newObj_type ?_<|ip.sizeOk5 _ _ _ _ _);generalize hN:({cls:=.type "traceback",dict:=none,data:=.fields ([F,.ref L,.none,rawInt L,.none]++(if pl.isEmpty then List.replicate 6 Value.none else pl)).toArray}:Obj)=N;have Nd:N.data=.fields ([F,.ref L,.none,rawInt L,.none]++(if pl.isEmpty then List.replicate 6 Value.none else pl)).toArray:=by rw[<-hN]
 have q1:g.get? e=some {cls:=C.1,dict:=C.2,data:=.fields vs,slots:=sl}:=(so.2.1 e ad).trans re;have q2:=YM (h:=g) N q1;have ne:g.objs.size≠e:=Nat.ne_of_gt<|YV q1;show wpAny_setField q2 rfl v1<|k _ ?_;have q3:=Heap.get?_update_self (Obj.mapFields (·.setIfInBounds 1 (Value.ref g.objs.size))) q2 rfl;have nf:N.isFreed=false:=Obj.isFreed_of_fields Nd;have t3:((g.push N).update e<|Obj.mapFields (·.setIfInBounds 1 (Value.ref g.objs.size))).get? g.objs.size=some N:=
  (ZB (g.push N) _<|ZG ne).trans (Yn g nf)
 have J:∀b o,b≠e->g.get? b=some o->((g.push N).update e<|Obj.mapFields (·.setIfInBounds 1 (Value.ref g.objs.size))).get? b=some o:=λb o hb q=>by rw[ZB _ _<|ZG hb];show YM _ q
 show#[λb o q hf he _=>J b o he<|(so.2.1 b hf).trans q,λb o q hf he _=>?_,#[g.objs.size,.inl ?_,vs.setIfInBounds 1<|.ref g.objs.size,sl,q3,by simp[v1],ne,N,_,rawInt L,t3,Nd,?_],λc q=>?_]
 . let#[ac,q']:=so.2.2 b o q
   show#[ac,J b _ he q']
 . rw[so.1]
   show Heap.get?_none_of_le (YI _)
 . simp
 . let#[o,ws,z1,z2,z3]:=q
   rw[re]at z1;cases z1;cases z2;show#[_,vs.setIfInBounds 1<|.ref g.objs.size,q3,O,by rw[Array.getElem?_setIfInBounds_ne #[]];show z3]
def qOx{base:Heap}{env:Env}{outer:List Env}{L e:Addr}{C:EC}{hd:Option Addr}{Q:Unit->Shared->Prop}
 (fr:A.frames=some (env::outer)) (ff:s.heap.FunFrames base (env::outer)) (ef:env.frame=some L) (re:vj s.heap e C hd)
 (k:∀h',Noted (frs (env::outer)) e hd C s.heap h'->Q Unit.unit {s with heap:=h'}):wpAny M A (noteFrame (.ref e) env) Q E s:=by
 have aa:=re;let#[vs,sl,q,r]:=re;unfold noteFrame;simp only[ef];cases hd with
 |none=>
  show YJ<|wpAny_field q rfl r ?_;rw[YA #[]];show qLv fr ff ef q (ZS.mp r).1 k
 |some T=>
  let#[r1,nT,oT,ts,m,J,dT,r3]:=r;show YJ<|wpAny_field q rfl r1 ?_;rw[YB #[]];show YJ<|wpAny_field J dT r3 ?_;by_cases hm:(m==rawInt L)=true
  . rw[YB hm]
    show YK (k s.heap #[λb o q _ _ _=>q,λb o q _ _ _=>#[o.slots,q],#[T,.inr rfl,aa],λ_ z=>z])
  rw[YA hm];show YJ<|wpAny_setField J dT (ZS.mp r3).1 ?_;have F:∀b,b≠T->(s.heap.update T<|Obj.mapFields (·.setIfInBounds 3 Value.none)).get? b=s.heap.get? b:=λb z=>ZB _ _<|ZG z;have ac:=Heap.get?_update_self (Obj.mapFields (·.setIfInBounds 3 Value.none)) J (Obj.isFreed_of_fields<|Obj.data_mapFields dT _);have nf:∀b o,s.heap.get? b=some o->(∀vs,o.data≠ .fields vs)->b≠T:=λb o z n w=>by rw[w,J]at z;cases z;show n ts dT
  show qLv (s:={s with heap:=s.heap.update T<|Obj.mapFields (·.setIfInBounds 3 Value.none)}) fr (ff.of_keeps λb o z n=>#[o,(F b<|nf b o z n).trans z,O]) ef ((F e<|ZG nT).trans q) (ZS.mp r1).1 λh' x=>?_;show k h' (x.before F #[_,ac]<|ZG nT)
def qG8{e T:Addr}{C:EC}{J:Option Addr}{Q:Unit->Shared->Prop}(re:vj s.heap e C<|some T)
 (k:∀h',(∀fs,Noted fs e (some T) C s.heap h')->Q Unit.unit {s with heap:=h'}):wpAny M A (setFlight (.ref e) J) Q E s:=by
 let#[vs,sl,q,r1,nT,oT,ts,m,qT,dT,r3]:=re;unfold setFlight;show YJ<|wpAny_field q rfl r1 ?_;rw[YB #[]];have F:∀b,b≠T->(s.heap.update T (Obj.mapFields (·.setIfInBounds 3 (J.elim Value.none λf=>rawInt f)))).get? b=s.heap.get? b:=λb z=>ZB _ _<|ZG z;show wpAny_setField qT dT (ZS.mp r3).1 (k _ λfs=>#[λb o q _ _ z=>?_,λb o q _ _ z=>#[o.slots,?_],#[T,.inr rfl,?_],λc #[o,ws,z1,z2]=>#[o,ws,(ZB _ _ nT).trans z1,z2]])
 . rw[F b λw=>z (by rw[w])];show q
 . rw[F b λw=>z (by rw[w])];show q
 . show#[vs,sl,(ZB _ _ nT).trans q,r1,nT,_,_,J.elim Value.none λf=>rawInt f,Heap.get?_update_self _ qT (Obj.isFreed_of_fields<|Obj.data_mapFields dT _),Obj.data_mapFields dT _,?_]
   have h3:=(ZS.mp r3).1;simp[h3]
def qE5{e T:Addr}{C:EC}{Q:Unit->Shared->Prop}(F:vj s.heap e C<|some T)
 (k:∀h',(∀fs,Noted fs e (some T) C s.heap h')->Q Unit.unit {s with heap:=h'}):wpAny M A (setFlight (.ref e) none) Q E s:=qG8 F k
def qS6{base:Heap}{env:Env}{outer:List Env}{L e:Addr}{C:EC}{hd:Option Addr}{Q:Unit->Shared->Prop}
 (fr:A.frames=some (env::outer)) (ff:s.heap.FunFrames base (env::outer)) (ef:env.frame=some L) (re:vj s.heap e C hd)
 (k:∀h',Noted (frs (env::outer)) e hd C s.heap h'->Q Unit.unit {s with heap:=h'}):wpAny M A (noteFrame (.ref e) env) (λ_ s'=>wpAny M A (setFlight (.ref e) none) Q E s') E s:=by
 show qOx fr ff ef re λh1 F=>?_;let#[T,hT,rT]:=F.ent;show qE5 (s:={s with heap:=h1}) rT λh2 J=>k h2 (F.then hT<|J _)
def qUl{base:Heap}{env:Env}{outer:List Env}{L e:Addr}{C:EC}{hd:Option Addr}{J:Ba}
 (fr:A.frames=some (env::outer)) (ff:s.heap.FunFrames base (env::outer)) (ef:env.frame=some L) (re:vj s.heap e C hd)
 (k:∀h',Noted (frs (env::outer)) e hd C s.heap h'->J (.ref e) {s with heap:=h'}):notedBy M A env (cameBackBy M A env J) (.ref e) s:=by
 show qOx fr ff ef re λh1 N1=>?_;let#[T,hT,F]:=N1.ent;let#[vs,sl,q,r1,_]:=id F;change wpAny M A _ _ _ _;show YJ<|wpAny_field (s:={s with heap:=h1}) q rfl r1 ?_;rw[YA #[]];show qG8 (s:={s with heap:=h1}) F λh2 N2=>k h2 (N1.then hT<|N2 _)
end
def qVy{P:Program}{w:World}{H:Hp}{h:Heap}{a:Addr}{o:HO}(x:ObjOk P w H h a o):∃F,h.get? a=some F:=by
 cases o with
 |lst xs=>let#[_,_,_,_,e]:=x;show#[_,e]
 |tup xs=>let#[_,_,_,F,e,_]:=x;show#[F,e]
 |dK kvs=>let#[_,_,_,_,o,_,_,e,_]:=x;show#[_,e]
 |dT kvs=>let#[_,_,_,_,o,_,_,e,_]:=x;show#[_,e]
 |set S n=>let#[o,_,_,_,e,_]:=x;show#[_,e]
 |ins C dx fs=>let#[_,_,_,e,_]:=x;show#[_,e]
 |own y=>show x
 |xd fs=>let#[_,#[_,_,_,e,_],_]:=x;show#[_,e]
 |rng lo hi=>let#[_,_,_,e]:=x;show#[_,e]
 |frz F u=>let#[e,_]:=x;show#[_,e]
 |tbl ps=>show#[_,x]
 |met f y=>show#[_,x]
 |ext φ=>show x.2.1
def qQ9(h₀:Heap)(H:Hp)(ps:LO)(e:Addr):Prop:=h₀.get? e=none/\H e=none/\∀p∈ps,p.1≠e
def qUj(h₀:Heap)(H:Hp)(ps:LO)(h:Heap)(e:Addr)(C:EC):Prop:=
 qQ9 h₀ H ps e/\∃hd,vj h e C hd/\∀T,hd=some T->qQ9 h₀ H ps T
def CXR(P:Program)(w:World):CXT:=λouter H s E e s'=> ∃ea C H',e=.ref ea/\s'.os=s.os/\AllBare s'.gens/\Un (frs outer) [] H H' s.heap s'.heap/\HOk P w H' s'.heap/\qUj s.heap H' [] s'.heap ea C/\E C.1 C.2 H'
def XE(X:Cx)(Ex:Value->Option Addr->Hp->Prop):Ba:=λe s'=> ∃ea C σ H',e=.ref ea/\Inv X [] σ H' s'/\qUj X.s₀.heap H' X.pn s'.heap ea C/\Ex C.1 C.2 H'
section
variable{X:Cx}{σ:L2.St}{H:Hp}{s:Shared}
def wY{e:Addr}{hd:Option Addr}{C:EC}{h':Heap}(I:Inv X [] σ H s)(ag:X.ex=[])(re:vj s.heap e C hd)(n1:qQ9 X.s₀.heap H X.pn e)(n3:∀T,hd=some T->qQ9 X.s₀.heap H X.pn T)
 (N:Noted (frs X.stack) e hd C s.heap h'):Inv X [] σ H {s with heap:=h'}/\qUj X.s₀.heap H X.pn h' e C:=by
 have B:=I.base;rw[ag]at B;have ne:∀b o,X.s₀.heap.get? b=some o->b≠e/\some b≠hd/\b≠X.env.locals:=λb o q=>by
  show#[λz=>?_,λz=>?_,Yo<|YR (YV q) I.ok.above]
  . rw[z,n1.1]at q;cases q
  . rw[(n3 b z.symm).1]at q;cases q
 have aj:∀b,b∉([]:List Addr):=λb z=>nomatch z
 have af:∀b o,s.heap.get? b=some o->(∀vs,o.data≠ .fields vs)->b≠e/\some b≠hd:=λb o q nf=>by
  let#[vs,sl,qe,r]:=re;show#[λz=>?_,λz=>?_]
  . rw[z,qe]at q;cases q
    show nf vs rfl
  . subst z
    let#[_,_,oT,ts,_,qT,dT,_]:=r;rw[qT]at q;cases q;show nf ts dT
 have up:∀b o,s.heap.get? b=some o->b≠e->some b≠hd->∃sl,h'.get? b=some {o with slots:=sl}:=λb o q F J=>by
  by_cases hs:b∈frs X.stack
  . show N.slot b o q hs F J
  . show#[o.slots,N.keep b o q hs F J]
 have un:Un X.fs [] X.H₀ H X.s₀.heap h':=by
  show#[λb o q n hb hx=>?_,λb o q n hb hx=>?_,λb o q n hx=>B.free b o q n hx,λb o q hx=>?_,B.tups,B.frzs,B.tbls]
  . let#[F,J,z3]:=ne b o q
    show N.keep b o (B.keep b o q n hb hx) (λz=>?_) F J;rcases YU.mp (I.stkSub b z)with w|w
    . show z3 w
    . show hb w
  . let#[F,J,z3]:=ne b o q
    let#[sl,q1]:=B.slot b o q n hb hx;let#[ah,q2]:=up b _ q1 F J;show#[ah,q2]
  . let#[F,J,z3]:=ne b o q
    let#[o',q1]:=B.there b o q hx;let#[ah,q2]:=up b _ q1 F J;show#[_,q2]
 have ai:HOk X.prog X.w H h':=λa u q=>by
  have ac:∀c,H c=none->¬(c=a\/H c=some (.own a)):=λc z w=>by
   rcases w with w|w
   . rw[w,q]at z;cases z
   . rw[z]at w;cases w
  show(I.hok a u q).stay (λc v hc z=>N.keep c v z (λw=>ac c (I.stkFree c w) hc) (λw=>ac c (by rw[w];show n1.2.1) hc) λw=>ac c (n3 c w.symm).2.1 hc) (λ_ z=>z) λ_ _ z=>z
 have aa:∀c v,s.heap.IsCell c v->h'.IsCell c v:=λc v #[o,q,d]=>by
  let#[F,J]:=af c o q λvs w=>by rw[d]at w;cases w
  let#[sl,q']:=up c o q F J;show#[_,q',d]
 have I':Inv X [] σ H {s with heap:=h'}:=by
  show#[I.ok,I.os,I.bare,by rw[ag];show un,?_,λy c e=>?_,I.free,I.freeC,λp hp=>?_,ai,I.len]
  . let#[m,#[o,es,ep,ho,ae,r],hl]:=I.loc
    let#[F,J]:=af _ o ho λvs w=>by rw[ae]at w;cases w
    let#[sl,q']:=up _ o ho F J;show#[m,#[_,es,ep,q',ae,r],λi x v e1 e2 e3=>?_];let#[u,r,l]:=hl i x v e1 e2 e3;show#[u,r,?_];rcases l with l|⟨k,c,ec,z⟩
    . show .inl l
    . show .inr #[k,c,ec,aa c _ z]
  . let#[v,z]:=I.cell y c e
    show#[v,aa c v z]
  . let#[q,n,nl,nf,d]:=I.pin p hp
    have ad:p∈X.pn:= ~~~hp
    show#[N.keep p.1 p.2 q (λz=>?_) (n1.2.2 p ad) λz=>(n3 p.1 z.symm).2.2 p ad rfl,n,nl,nf,d];rcases YU.mp (I.stkSub p.1 z)with w|w
    . show nl w
    . show nf w
 show#[I',n1,?_];let#[T,nT,r]:=N.ent;show#[some T,r,λT' e'=>?_];cases e';rcases nT with nT|nT
 rotate_left
 . show n3 T nT
 show#[?_,?_,λp hp z=>?_]
 . cases q:X.s₀.heap.get? T with
   |none=>rfl
   |some o=>
    let#[o',z]:=B.there T o q<|aj T;rw[nT]at z;cases z
 . cases q:H T with
   |none=>rfl
   |some u=>
    let#[o',z]:=qVy<|I.hok T u q;rw[nT]at z;cases z
 . have q:=(I.pin p<|Yq _ hp).1
   rw[z,nT]at q;cases q
end
def qY6{X:Cx}{Ex:Value->Option Addr->Hp->Prop}{L:Addr}{env:Env}{outer:List Env}(F:X.stack=env::outer)(he:X.env=env)(hf:env.frame=some L)(J:X.ex=[]):PassesOwn (model X.prog X.w) X.A X.env (XE X Ex):=by rintro e s' ⟨ea,C,σ,H',rfl,I,⟨n1,hd,r,n3⟩,z⟩;subst he;have fr:=I.ok.frames;rw[F]at fr;have ff:=I.stack;rw[F]at ff;show qUl fr ff hf r λh' N'=>?_;rw[<-F]at N';let#[I',x']:=wY I J r n1 n3 N';show#[ea,C,σ,H',O,I',x',z]
def qWq{X:Cx}{E:Ba}{st:List Stmt}{t:TS}(h:PSs (X.wish E) st t)(F:∀e s',E e s'->X.xe e s'):PSs X st t:=λpins s σ H D I J=>
 YL (h pins s σ H D (I.wish E) J) (λ_ _ q=>q.unwish) F
section
variable{P:Program}{w:World}{K:Fg}{mg:SV}{base:Heap}
def okX{x qual:Str}{st:Stmt}{f:Addr}{fd:FD}{N ps:LS}{k:Nat}{sp:Sp}(F:Fun K x qual st f fd)(S:qN N ps<|qG st)(ad:∀vs H Q E,sp vs H Q E->vs.length=ps.length)
 (J:∀(cdv:Value) (A:Around) (outer:List Env) (s:Shared) (H:Hp) (vs:LV) (Q:VK) (E:XK),Room k (A.deeper<|envOfC qual (qG st) s.heap.objs.size f cdv)->sp vs H Q E->
   ∃t,PSs ((qMj (CXR P w) P w K mg base N qual (qG st) f cdv A outer s H E).wish<|XE (qMj (CXR P w) P w K mg base N qual (qG st) f cdv A outer s H E) E) (j9 st) t/\
    t {nx:=λ_ H'=>Q .non H',rt:=Q} (qBr N vs) H):FnOk P w K mg base (CXR P w) (k+1) f fd ps sp:=by
 let#[oc,od,kV,af,pm,an,cdv,ct,ae,rfl,lk,ac]:=F.ex;show qZz lk ac S ad λA outer s H vs Q E hr aa=>?_;let#[t,h,q]:=J cdv A outer s H vs Q E hr aa;show#[t,qWq h ?_,q];rintro e s' ⟨ea,C,σ,H',rfl,I,⟨n1,hd,r,n3⟩,z⟩;change wpAny _ _ (leaving _ _) _ _ _;unfold leaving;show YJ (qS6 I.ok.frames I.stack rfl r λh' N'=>?_);let#[I',x']:=wY I rfl r n1 n3 N';show#[ea,C,H',O,I.os,I.bare,I'.base,I'.hok,x',z]
end
def qYn{X:Cx}{Ex:Value->Option Addr->Hp->Prop}(aa:X.ex=[]):qDr (CXR X.prog X.w) (X.wish<|XE X Ex) Ex:=by
 rintro pins σ H s e s' I ⟨ea,C,H',rfl,os,F,un,ac,⟨n1,hd,r,n3⟩,q⟩;have I0:=I.unwish;have I1:Inv X pins σ H' s':=I0.call' (ch:=[]) os un ac F λb z=>nomatch z
 have J:∀b,s.heap.get? b=none->X.s₀.heap.get? b=none:=λb z=>by
  cases w:X.s₀.heap.get? b with
  |none=>rfl
  |some o=>
   let#[o',w']:=I0.base.there b o w (by rw[aa];intro y;cases y);rw[z]at w';cases w'
 have pn:∀b,s.heap.get? b=none->∀p∈X.pn,p.1≠b:=λb z p hp w=>by have q:=(I0.pin p<|Yq _ hp).1;rw[w,z]at q;cases q
 show#[ea,C,σ,H',O,I1.pins_of (pins':=[]) λp hp=>(nomatch hp),#[#[J _ n1.1,n1.2.1,pn _ n1.1],hd,r,λT e=>#[J _ (n3 T e).1,(n3 T e).2.1,pn _ (n3 T e).1]],q]
def xA{X:Cx}{J:Value->Option Addr->Hp->Prop}{k j:Nat}{x:Str}{st:Stmt}{ps:LS}{f:Addr}{fd:FD}{sp:Sp}{e:Expr}{es:List Expr}{t:TA}{p pos:Pos}(D:Def X.K X.mg x st ps f fd)(F:FnOk X.prog X.w X.K X.mg X.base (CXR X.prog X.w) j f fd ps sp)(hr:Room k X.A)(hg:Gl X x)
 (ha:PA (X.wish<|XE X J) (e::es) t) (hj:j<=k:=by decide) (ad:X.ex=[]:=by rfl)
 (ac:(x==("__debug__":Str))=false:=by decide) (he:starEach (e::es) X.env=(false,eval e X.env)::starEach es X.env:=by rfl) (aa:(backTo pos<|starEach es X.env).any (·.1)=false:=by rfl):
 PE (X.wish<|XE X J) (.Call (.Name x p) (e::es) [] pos) (qVq sp [] J t):=
 qTu (X:=X.wish<|XE X J) (CX:=CXR X.prog X.w) F (hr.mono hj) hg D.m D.F.kp D.b .nil (qYn ad) ha ac he aa
noncomputable def qYm:LW:=[.type "ValueError",.type "Exception",.type "BaseException",.type "object"]
def qZ3(K:Fg)(C:Addr)(u:Option Value):Bool:=match K.lookup C with
 |some o=>(match o.data with
  |.cls d=>o.cls== .type "type" && d.mro== .ref C::d.mro.tail && (o.slots.toList==let g i:=o.slots.toList.getD i none;[g 0,g 1,g 2,g 3,some<|.builtin "ValueError.__new__",g 5]) && !d.hasDel && W.tailIn K qYm d.mro.tail && W.nsOkIn K d.ns && W.nsIn K d.ns "__init__"==some u
  |_=>false)
 |none=>false
inductive ExG(h:Heap)(C:Addr)(u:Option Value):Prop
 |mk (bm N nm q bs hd sn sub ab col dd k0 k1 k2 k3 k5 mN) (hC:h.get? C=some (excClassObj nm q C N bs bm hd sn sub ab col dd k0 k1 k2 k3 k5 "ValueError.__new__")) (hN:h.Ns N mN) (hi:mN "__init__"=u) (T:OwnTail h qYm bm)
def qPl{K:Fg}{h:Heap}{C:Addr}{u:Option Value}(X:K.In h)(f:∀{N},h.Ns N (h.nsMap N)->W.nsIn K N "__init__"=some u->h.nsMap N "__init__"=u)(q:qZ3 K C u=true):ExG h C u:=by
 delta qZ3 at q;cases ho:K.lookup C with
 |none=>rw[ho]at q;cases q
 |some o=>
  rw[ho]at q;let#[c,dd,d,#[l]]:=o;dsimp only at q;split at q
  . rename_i d
    simp only[Yl,beq_iff_eq,Bool.not_eq_true']at q;let#[nm,bs,aa,ns,qn,hd,sn,sub,ab,col,dl]:=d;let#[#[#[#[#[#[rfl,J],e3],e5],e6],e7],e8]:=q;cases e5;have z:=X _ _ ho;dsimp only at J;rw[J,e3]at z;have F:=Heap.Ns.of_isNs<|W.isNs_of_in X e7;show .mk _ _ _ _ _ _ _ _ _ _ _ _ _ _ _ _ _ z F (f F e8) (W.tail_of_in X e6)
  . cases q
def OwnX(K:Fg)(C:Addr):Prop:=qZ3 K C none=true
def qZh(C:Addr)(Ex:Value->Option Addr->Hp->Prop)(t:TA):TS:=λ_ σ H=>t σ H λvs H1=>vs.length<=sizeLine/\Ex (.ref C) none H1
def xZ{X:Cx}{Ex:Value->Option Addr->Hp->Prop}{x:Str}{C:Addr}{np cpos pos:Pos}{F:Expr}{rest:List Expr}{t:TA}(ag:X.calm=true)(hg:Gl X x)(hm:X.mg x=some (.ref C))(hx:OwnX X.K C)(ha:PA (X.wish<|XE X Ex) (F::rest) t)
 (he:starEach (F::rest) X.env=(false,eval F X.env)::starEach rest X.env:=by rfl) (ac:(backTo cpos<|starEach rest X.env).any (·.1)=false:=by rfl) (ae:X.ex=[]:=by rfl) (ad:(x==("__debug__":Str))=false:=by decide):
 PS (X.wish<|XE X Ex) (.Raise (some<|.Call (.Name x np) (F::rest) [] cpos) none pos) (qZh C Ex t):=by
 intro pins s σ H D I h;let#[tl,N,nm,q,bs,hdct,sn,sub,ab,col,dd,k0,k1,k2,k3,k5,mN,hC,hN,af,T]:=
  qPl I.ok.mod.kin (W.ns_none_of I.ok.mod.kin) hx
 show wpAny_Raise_call_subT (bm:=tl) (C:=C) (N:=N) (nm:=nm) (q:=q) (bs:=bs) (hdct:=hdct) (sn:=sn) (sub:=sub) (ab:=ab) (col:=col) (dd:=dd) (k5:=k5) (k0:=k0) (k1:=k1) (k2:=k2) (k3:=k3)
  PySem.F.excBase_ValueError (mN:=mN) (T.hasType PySem.F.excBase_ValueError.hasBase) (I.ok.hd ag) (by rw[he];change (false || (backTo cpos<|starEach rest X.env).any (·.1))=false;rw[ac];rfl) af (vp I hg hm #[rfl,?_] ad)
 have z:=ha cpos pins s σ H _ I h;rw[show (X.wish<|XE X Ex).env=X.env from rfl]at z;rw[he]at z⊢;show Calls.evalArgs_plain (YL z (λus s2 w=>?_) λ_ _ y=>y);let#[vs,H1,I1,r1,hl,ex]:=w;have aa:=I1.unwish;show#[O,by rw[<-r1.length];show hl,I1.bk _ _ hC,hN.keeps I1.bk,T.keeps I1.bk,λh' e J=>?_];let#[tt,q1,q2,q3]:=J.there;have I2:Inv X pins σ H1 {s2 with heap:=h'}:=aa.kept (t':=s2.toks) J.keeps;show#[e,(.ref C,none),σ,H1,O,I2.pins_of (pins':=[]) λp hp=>(nomatch hp),#[#[?_,?_,λp hp z=>?_],none,#[_,_,q1,O],λT e'=>nomatch e'],ex]
 . cases w:X.s₀.heap.get? e with
   |none=>rfl
   |some o=>
    let#[o',w']:=aa.base.there e o w (by rw[ae];intro y;cases y);rw[J.new]at w';cases w'
 . cases w:H1 e with
   |none=>rfl
   |some u=>
    let#[o',w']:=qVy<|aa.hok e u w;rw[J.new]at w';cases w'
 . have q':=(aa.pin p<|Yq _ hp).1
   rw[z,J.new]at q';cases q'
noncomputable def pnX(X:Cx)(l:LO):Cx:={X with pn:=l}
noncomputable def hdX(X:Cx)(ea:Addr):Cx:={X with A:=X.A.mark (some (.ref ea)),calm:=false}
section
variable{X:Cx}{pins:LO}{σ:L2.St}{H:Hp}{s:Shared}
def qYi(I:Inv X pins σ H s):Inv (pnX X<|X.pn++pins) [] σ H s:=by let#[a1,a2,a3,a4,a5,a6,a7,a8,a9,ac,J,F,ag,af,ad,ae,aa,ah]:=I.ok;show#[#[a1,a2,a3,a4,a5,a6,a7,a8,a9,ac,J,F,ag,af,ad,ae,aa,ah],I.os,I.bare,I.base,I.loc,I.cell,I.free,I.freeC,λp hp=>I.pin p (by have z:p∈(X.pn++pins)++[]:=hp;simpa using z),I.hok,I.len]
def qDy(I:Inv (pnX X<|X.pn++pins) [] σ H s):Inv X pins σ H s:=by let#[a1,a2,a3,a4,a5,a6,a7,a8,a9,ac,J,F,ag,af,ad,ae,aa,ah]:=I.ok;show#[#[a1,a2,a3,a4,a5,a6,a7,a8,a9,ac,J,F,ag,af,ad,ae,aa,ah],I.os,I.bare,I.base,I.loc,I.cell,I.free,I.freeC,λp hp=>I.pin p (by change p∈(X.pn++pins)++[];simpa using hp),I.hok,I.len]
def qOf{ea:Addr}(I:Inv X pins σ H s):Inv (hdX X ea) pins σ H s:=by let#[a1,a2,a3,a4,a5,a6,a7,a8,a9,ac,J,F,ag,ah,ae,af,aa,ad]:=I.ok;show#[#[a1,a2,a3,a4,a5,a6,a7,a8,λh=>YC (show false=true from h) YZ,ac,J,F,ag,ah,ae,af,aa,ad],I.os,I.bare,I.base,I.loc,I.cell,I.free,I.freeC,I.pin,I.hok,I.len]
def qMh{ea:Addr}(I:Inv (hdX X ea) pins σ H s)(hd:X.calm=true->X.A.handled=none):Inv X pins σ H s:=by let#[a1,a2,a3,a4,a5,a6,a7,a8,a9,ac,J,F,ag,ah,ae,af,aa,ad]:=I.ok;show#[#[a1,a2,a3,a4,a5,a6,a7,a8,hd,ac,J,F,ag,ah,ae,af,aa,ad],I.os,I.bare,I.base,I.loc,I.cell,I.free,I.freeC,I.pin,I.hok,I.len]
noncomputable def qE6(e:Addr)(C:EC):HO:=.ext λh=> ∃(vs:Array Value) (sl:Array (Option Value)),h.get? e=some {cls:=C.1,dict:=C.2,data:=.fields vs,slots:=sl}
def qKd{a:Addr}{C:EC}{hd:Option Addr}(I:Inv X [] σ H s)(_:X.ex=[])(n:qQ9 X.s₀.heap H X.pn a)(r:vj s.heap a C hd):Inv X [] σ (upd H a<|qE6 a C) s:=by
 let#[vs,sl,q,_]:=r;have B:=I.base;have ne:∀b o,X.s₀.heap.get? b=some o->b≠a:=λb o w z=>by rw[z,n.1]at w;cases w
 show#[I.ok,I.os,I.bare,#[B.keep,B.slot,λb o w z hx=>?_,B.there,λb xs w=>?_,λb o u w=>?_,λb ps w=>?_],I.loc,I.cell,?_,λy c e=>?_,λp hp=>?_,λb u w=>?_,I.len]
 . rw[qS<|ne b o w];show B.free b o w z hx
 . have z:=B.tups b xs w
   rw[qS<|qW z n.2.1];show z
 . have z:=B.frzs b o u w
   rw[qS<|qW z n.2.1];show z
 . let#[J,z]:=B.tbls b ps w
   show#[J,by rw[qS<|qW z n.2.1];show z]
 . let#[m,#[o,es,ep,ho,F,_],_]:=I.loc
   rw[qS (λz=>by rw[z,q]at ho;cases ho;cases F)];show I.free
 . let#[v,o,ho,F]:=I.cell y c e
   rw[qS (λz=>by rw[z,q]at ho;cases ho;cases F)];show I.freeC y c e
 . let#[w1,w2,w3]:=I.pin p hp
   have ad:p∈X.pn:= ~~~hp
   rw[qS<|n.2.2 p ad];show#[w1,w2,w3]
 . by_cases hb:b=a
   . subst hb
     rw[qC]at w;cases w;show#[#[vs,sl,q],#[_,q],λh1 h2 z k=>?_];let#[ac,aa,z]:=z;show#[ac,aa,k _ z]
   . rw[qS hb]at w
     show(I.hok b u w).stay (λ_ _ _ z=>z) (λc z=>by rw[qS<|qW z n.2.1];show z) λc xs z=>by rw[qS<|qW z n.2.1];show z
def qBz{M:Model}{A:Around}{E:Ba}{i:Nat}{n:Str}{pos:Pos}{Q:Unit->Shared->Prop}(I:Inv X pins σ H s)(hN:X.N.Nodup)(hi:X.N[i]?=some n)(hl:X.env.scope.names.lookup n=some .local)
 (h:∀s',Inv X pins (σ.set i none) H s'->Q Unit.unit s'):wpAny M A (do bindName X.env n .none;unbindBehindTheSuite X.env n pos) Q E s:=by
 show YJ (wpAny_bindName (qEk (v:=.non) I hN hi (.inl hl) rfl (λs1 F=>?_)<|.inr hl));unfold unbindBehindTheSuite;show wpAny_onRaise ?_;have ad:(X.env.scope.kind== .class || (X.env.scope.kind== .module && X.env.locals != X.env.globals))=false:=by rw[F.ok.kind];rfl
 have J:i<σ.length:=by rw[I.len];show(Ya.mp hi).1
 let#[m,hn,ac]:=F.loc;let#[u,r,lk]:=ac i n .non hi (by rw[ZA J])<|.inl hl;have hm:m n=some u:=by
  rcases lk with ⟨_,z⟩|⟨z,_⟩
  . show z
  . have af:X.env.kindOf n=some .local:=hl
    rw[af]at z;rcases z with z|z <;> cases z
 let#[oL,es,ep,ah,ag,_]:=id hn;show wpAny_unbindName_local hl hn hm ad λh' u' ae hs=>h _ ?_;have B:=F.base;have aa:∀b o,X.s₀.heap.get? b=some o->b≠X.env.locals:=λb o e=>Yo<|YR (YV e) F.ok.above;show#[F.ok,F.os,F.bare,#[λb o e n hb hx=>(hs.2 b<|aa b o e).trans<|B.keep b o e n hb hx,λb o e n hb hx=>?_,B.free,λb o e hx=>?_,B.tups,B.frzs,B.tbls],#[_,ae,λj y v e1 e2 e3=>?_],λy c e=>?_,F.free,F.freeC,λp hp=>?_,λb ob e=>?_,?_]
 . let#[sl,z]:=B.slot b o e n hb hx
   show#[sl,(hs.2 b<|aa b o e).trans z]
 . let#[o',z]:=B.there b o e hx
   show#[o',(hs.2 b<|aa b o e).trans z]
 . have hj:j≠i:=λz=>by subst z;rw[ZA J]at e2;cases e2
   rw[ZL<|ZG hj]at e2;let#[u2,r2,l2]:=ac j y v e1 (by rw[ZL<|ZG hj];show e2) e3;show#[u2,r2,?_];rcases l2 with ⟨k,z⟩|⟨k,c,ec,z⟩
   . show .inl #[k,?_]
     have:y≠n:=λw=>hj (qI2 hN e1 (w ▸ hi));simp[this,z]
   . show .inr #[k,c,ec,z.sameBut hs<|F.cne y c ec]
 . let#[w',z]:=F.cell y c e
   show#[w',z.sameBut hs<|F.cne y c e]
 . let#[e,n,ne,nf,d]:=F.pin p hp
   show#[(hs.2 p.1 ne).trans e,n,ne,nf,d]
 . show(F.hok b ob e).stay (λc w' hc q=>(hs.2 c λz=>?_).trans q) (λ_ q=>q) λ_ _ q=>q
   have fr:=F.free;rcases hc with hc|hc
   . rw[<-hc,z,fr]at e;cases e
   . rw[z,fr]at hc;cases hc
 . have:=F.len
   simpa using this
end
noncomputable def qXr(D:qPt)(i:Option Nat):qPt:=
 let f:(L2.St->Hp->Prop)->L2.St->Hp->Prop:=λq σ H=>match i with|some i=>q (σ.set i none) H|none=>q σ H
 {nx:=f D.nx,rt:=D.rt,bk:=f D.bk,ct:=f D.ct}
noncomputable def jBh(i:Option Nat)(ea:Addr)(σ:L2.St):L2.St:=match i with|some i=>σ.set i (some (.ref ea))|none=>σ
inductive qRr(X:Cx):Option Str->Option Nat->Prop where
 |none:qRr X none none
 |some {n:Str} {i:Nat} (hi:X.N[i]?=some n) (hl:X.env.scope.names.lookup n=some .local):qRr X (some n) (some i)
end L3
namespace L3
open PySem PySem.Spec PySem.Calls PyProof.Rows PySem.W
section
variable{prog:Program}{w:World}{A:Around}{E:Ba}{K:Frag}{h:Heap}{g:Array GenState}{d:Drawn}{t:Nat}{os:OsState}{a D:Addr}{ox:Obj}{od:Option Obj}
structure ExcK(K:Frag)(D:Addr):Prop where
 ga:findIn K (.ref D) "__getattribute__"=some (some (.builtin "BaseException.__getattribute__"))
 gt:findIn K (.ref D) "__getattr__"=some none
 ca:findIn K (.ref D) "__class__"=some (some (.builtin "object.__class__"))
 sg:specialIn K (.builtin "object.__class__") "__get__"=some (some (.builtin "getset_descriptor.__get__"))
 tk:takesIn K (.builtin "object.__class__")=some true
 mo:mroIn K D (.type "object")=some true
 mb:mroIn K D (.type "BaseException")=some true
def qSh{tk:Tok}{Q:Fin->Shared->Prop}(c:ExcK K D)(X:K.In h)(I:InstAt h a ox D od)(J:Q (.done (.ret<|.ref D)) #[h,g,d,t,os]):
 wpAny (model prog w) A (Builtin.«object.__getattribute__» #[[.ref a,.str "__class__" tk],[]]) Q E #[h,g,d,t,os]:=by
 have L0:=I.type (M:=model prog w);have L1:=looks_findIn (M:=model prog w) X c.ca;have hf:findObj K D od "__class__"=some (.bind (.builtin "getset_descriptor.__get__")<|.builtin "object.__class__"):=by
  have F:=c.mo;unfold mroIn at F;unfold findObj;cases e:clsIn K D with
  |none=>rw[e]at F;cases F
  |some cd=>
   simp only[Option.bind_some,c.ca,c.sg,c.tk]
 have L2:=looks_find (M:=model prog w) X I hf;unfold Builtin.«object.__getattribute__»
 repeat (any_goals (first|assumption|(with_reducible show YJ (L0.at ?_))|(with_reducible show YJ (L2.at ?_))|wp_step))
 show class_get (s:=#[h,g,d,t,os]) (ox:=ox) (od:=od) X I c.mo ?_;show YK J
def qVf{tk:Tok}{R:Result->Shared->Prop}(c:ExcK K D)(X:K.In h)(I:InstAt h a ox D od)(hq:R (.ok (.ret<|.ref D)) #[h,g,d,t,os]):
 codeAny (model prog w) A (.call (.builtin "BaseException.__getattribute__") #[[.ref a,.str "__class__" tk],[]]) R #[h,g,d,t,os]:=by
 show codeAny_call_builtin F.attr_ValueError.ga.plain F.entry_bexc_ga ?_;have aa:builtinKind "BaseException.__getattribute__"=some .slot:=⋯
 have J:splitId "BaseException.__getattribute__"=some ("BaseException","__getattribute__"):=⋯
 have ha:=F.args_bexc_ga (.ref a)<|.str "__class__" tk;have L0:=I.type (M:=model prog w);have L1:Looks (model prog w) h (isInstance (.ref a)<|.type "BaseException") true:=L0.andThen<|looks_mroIn X c.mb;simp only[checkBuiltinCall,aa,J];show YJ (L1.at ?_)
 repeat (first|assumption|(with_reducible show qSh c X I ?_)|show hq|wp_step)
def qZi{tk:Tok}{J:Bool}{Q:Ba}(c:ExcK K D)(X:K.In h)(I:InstAt h a ox D od)(hq:Q (.ref D) #[h,g,d,t,os]):
 wpAny (model prog w) A (getAttrBy (.ref a) (.str "__class__" tk) J) Q E #[h,g,d,t,os]:=by
 have L0:=I.type (M:=model prog w);have L1:=looks_findIn (M:=model prog w) X c.ga;have L2:=looks_findIn (M:=model prog w) X c.gt;have f3:=F.attr_ValueError.ga.bind<|.ref a;have aa:(Value.builtin "BaseException.__getattribute__"==Value.builtin "object.__getattribute__")=false:=⋯
 have ac:(onTheHeap (Value.ref D) && Value.builtin "BaseException.__getattribute__"==Value.builtin "object.__getattribute__")=false:=by rw[aa];rfl
 repeat (any_goals (first|assumption|(with_reducible show YJ (L0.at ?_))|(with_reducible show YJ (L1.at ?_))|(with_reducible show YJ (L2.at ?_))|(with_reducible show L1.at ?_)|(with_reducible show L2.at ?_)|wp_step))
 show qVf c X I ?_;change wpAny _ _ (handedOut<|.ref D) Q E _;show YK hq
def qU8{Q:Option Value->Shared->Prop}(c:ExcK K D)(X:K.In h)(I:InstAt h a ox D od)(F:Q (some<|.ref D) #[h,g,d,t+1,os]):wpAny (model prog w) A (getAttr? (.ref a) "__class__") Q E #[h,g,d,t,os]:=by
 unfold getAttr? getAttrBy?
 repeat (any_goals (first|assumption|with_reducible show qZi c X I ?_|wp_step))
def qH0(c:ExcK K D):KitX K (.ref a) (.ref D) (λh=>InstAt h a ox D od) where
 ty:=λ_ _ _ I=>I.type
 it:=λ_ _ X _=>by
  have F:=c.mo;unfold mroIn clsIn at F;split at F
  . rename_i ae ad af ag J
    intro A' Q' E' s' kp wq;unfold isType loadHead;show YJ (wpAny_loadPart (kp _ _<|X _ _ J)<|YK wq)
  . cases F
 ne:=λh tp dd ai n sl X ah=>by
  have F:=c.mo;show Bool.eq_false_iff.mpr λaa=>?_;have ac:D=tp:=Value.ref.inj<|beq_iff_eq.mp aa;subst ac;unfold mroIn clsIn at F;split at F
  . rename_i ae ad af ag J
    have z:=(X _ _ J).symm.trans ah;cases z
  . cases F
 ca:=λ{_ _ _ _ _ s} X I k=>by let#[h,g,d,t,os]:=s;show qU8 c X I k
end
end L3
namespace L3
open PySem PySem.Spec PyProof.Rows L2
def OwnD(H:Hp)(od:Option Addr):Prop:=od=none\/∃dx fs,od=some dx/\H dx=some (.xd fs)
def OwnD.at{X:Cx}{pins:LO}{σ:L2.St}{H:Hp}{s:Shared}{e D:Addr}{od:Option Addr}{vs:Array Value}{sl:Array<|Option Value}(I:Inv X pins σ H s)(h:OwnD H od)
 (F:s.heap.get? e=some {cls:=.ref D,dict:=od,data:=.fields vs,slots:=sl}):∃o,W.InstAt s.heap e {cls:=.ref D,dict:=od,data:=.fields vs,slots:=sl} D o:=by
 rcases h with rfl|⟨dx,fs,rfl,hd⟩
 . show#[none,F,O,O,trivial]
 . let#[mA,#[o,es,ep,J,c],r]:=I.hok dx _ hd
   show#[some o,F,O,O,J]
def qKk{X:Cx}:vM X (.builtin "isinstance") (λxs H Q=> ∃e D od c b,xs=[.ref e,c]/\H e=some (qE6 e (.ref D,od))/\OwnD H od/\ExcK X.K D/\
 ((∃n,c=.ty n/\W.kitOne X.K (.ref D) (.type n)=some b)\/∃a,c=.ref a/\W.kitOne X.K (.ref D) (.ref a)=some b)/\Q (.bl b) H):=by
 intro pins s σ H xs us Q I r h;let#[e,D,od,c,b,rfl,he,aa,hc,F,q]:=h;let#[u,u',rfl,rx,rc]:=qQu r;cases rx;let#[#[vs,sl,qe],_]:=I.hok e _ he;let#[oo,J]:=aa.at I qe;rcases F with ⟨n,rfl,F⟩|⟨a,rfl,F⟩
 . cases rc
   show W.kia_one (qH0 hc) I.kIn J F (λz=>nomatch z) λtk=>#[.bl b,H,I.tok _,O,q]
 . cases rc
   show W.kia_one (qH0 hc) I.kIn J F (λz=>nomatch z) λtk=>#[.bl b,H,I.tok _,O,q]
end L3
namespace L3
open PySem PySem.Spec PySem.Calls PySem.Builtin PySem.Builtin.ObjectAttr PyProof.Rows
def exOver(K:Fg)(C D:Addr):Bool:=(W.clsIn K C).any λcd=>cd.mro== .ref C:: .ref D::qYm
section
variable{prog:Program}{w:World}{A:Around}{E:Ba}{K:Fg}{s:Shared}{x C D:Addr}{vs:Array Value}{sl:Array (Option Value)}{R:Result->Shared->Prop}
open PySem.W in
def qS9{ox:Obj}{od:Option Obj}{name:Str}{tk:Tok}{v:Value}(X:K.In s.heap)(I:InstAt s.heap x ox C od)(hp:exOver K C D=true)(ht:takerIn K C name=some none)
 (h:∀b,wpAny (model prog w) A.in1 (storeInOwnDict (.ref x) (.ref C) (.str name tk) name v b)
   (λac s'=>match ac with|.done f=>R (.ok f) s'|.again c'=>c'.quiet=true/\codeAny (model prog w) A c' R s') (λe s'=>R (.error e) s') s):
 codeAny (model prog w) A (.call (.builtin "object.__setattr__") #[[.ref x,.str name tk,v],[]]) R s:=by
 have J:=PySem.F.store_object;let#[cd,hc,ho]:=any_some hp;have ho:cd.mro=.ref C:: .ref D::qYm:=beq_iff_eq.mp ho;have sub:Looks (model prog w) s.heap (isInstance (.ref x)<|.type "object") true:=I.type.andThen (looks_mroIn X (by unfold mroIn;rw[hc,Option.bind_some,ho];rfl));show codeAny_call_builtin J.slot.plain J.entry<|@check_slot (model prog w) _ _ s "object.__setattr__" "object" "__setattr__" (.ref x) [.str name tk,v] [] _ J.kind J.split sub (J.args (.ref x) (.str name tk) v) ?_;let#[F,ha,hr]:=Option.bind_eq_some_iff.mp ht;have hm:Looks (model prog w) s.heap (mroOf<|.ref C) cd.mro:=(looks_clsIn X hc).andThen .now;have L3:Looks (model prog w) s.heap (storeTaker? F) none:=by
  cases F with
  |none=>cases hr;show .now
  |some a=>
   let#[b,hb,aa]:=Option.map_eq_some_iff.mp hr;show(looks_takesIn X hb).andThen ?_;cases b
   . show .now
   . cases aa
 rw[osa_eq,refuse_eq];show YJ (YJ<|I.type.here (YJ<|hm.here ?_));rw[ho,refuseLoop_ref,refuseLoop_ref];rw[show refuseLoop (.ref x) "__setattr__" qYm=pure Unit.unit from PySem.F.store_ValueError.passes (.ref x)];show YK (YJ<|I.type.here (YJ<|(looks_findIn X ha).here (YJ<|L3.here ?_)));show h _
open PySem.W in
def qXt{name:Str}{v:Value}{Q:Unit->Shared->Prop}(X:K.In s.heap)(hx:s.heap.get? x=some {cls:=.ref C,dict:=none,data:=.fields vs,slots:=sl})
 (hs:findIn K (.ref C) "__setattr__"=some (some<|.builtin "object.__setattr__")) (hp:exOver K C D=true) (ht:takerIn K C name=some none) (hh:hasDictIn K C=true)
 (h:∀h' tk,h'.get? x=some {cls:=.ref C,dict:=some s.heap.objs.size,data:=.fields vs,slots:=sl}->h'.Ns1 s.heap.objs.size (λy=>if y=name then some v else none)->(∀b o,b≠x->s.heap.get? b=some o->h'.get? b=some o)->Q Unit.unit {s with heap:=h',toks:=tk}):
 wpAny (model prog w) A (setAttr (.ref x) name v) Q E s:=by
 have J:InstAt s.heap x {cls:=.ref C,dict:=none,data:=.fields vs,slots:=sl} C none:=#[hx,rfl,rfl,trivial];show W.set_plain X J hs (qS9 (s:={s with toks:=s.toks+1}) X J hp ht λb=>?_);let#[cd,hc,af]:=W.any_some hh;show YJ (YK<|YJ (YJ<|wpAny_loadPart hx (YJ<|W.Looks.here (s:={s with toks:=s.toks+1}) (W.looks_clsIn X hc) ?_)));rw[af];have F:(s.heap.push {cls:=.type "dict",data:=.dict %[|0]}).get? x=some {cls:=.ref C,dict:=none,data:=.fields vs,slots:=sl}:=YM _ hx;have ac:x≠s.heap.objs.size:=Yo<|YV hx;show YJ<|wpAny_alloc' ?_;show YJ<|wpAny_update' F ?_;show YK ?_;have ah:((s.heap.push {cls:=.type "dict",data:=.dict %[|0]}).update x λo=>{o with dict:=some s.heap.objs.size}).get? s.heap.objs.size=some {cls:=.type "dict",data:=.dict %[|0]}:=
  (Heap.get?_update_ne _ _ _ _ ac.symm).trans (Heap.get?_push_at rfl rfl)
 have aj:((s.heap.push {cls:=.type "dict",data:=.dict %[|0]}).update x λo=>{o with dict:=some s.heap.objs.size}).Ns s.heap.objs.size (λ_=>none):=
  #[_,%[|0],_,ah,rfl,λe he=>YC he #[],λ_=>rfl]
 show YJ (YK<|YJ ?_);show wpAny_nsSet1 (s:={s with heap:=_,toks:=s.toks+1}) (Heap.Ns1.of_empty aj) λh' ad aa=>?_;let#[oD,al,ak,ag,ai,ae]:=ad.count<|Within.cons name v Within.nil;show YJ (wpAny_lookBehind ag (by rw[ai];show pastItsLine_dict (ZD ae (by rw[YE,ZO,sizeLine_eq];lia))) ?_);show YK (h _ _ ?_ ad ?_)
 . show(aa.2 x ac).trans (Heap.get?_update_self _ F rfl)
 . intro b o hb ho
   show(aa.2 b (Yo<|YV ho)).trans ((Heap.get?_update_ne _ _ _ _ hb).trans<|YM _ ho)
end
section
variable{prog:Program}{w:World}{A:Around}{E:Ba}{h:Heap}{g:Array GenState}{d:Drawn}{t:Nat}{os:OsState}
variable{nm q:Str}{C N:Addr}{bs bm bmB:LW}{hdct:Bool}{sn:LS}{sub:LW}{ab:Bool}{col:Option Bool}{dd:Option Addr}{k0 k1 k2 k3 k5:Option Value}{B newId initId:String}
def qF1(F:ExcBaseFacts B newId initId bmB)(T:OwnTail h bmB bm){mN:SV}{rest:LW}{fI:Addr}{oI:Obj}{Q:PySem.Fin->Shared->Prop}
 (hC:h.get? C=some (excClassObj nm q C N bs bm hdct sn sub ab col dd k0 k1 k2 k3 k5 newId)) (hn:h.Ns N mN) (hi:mN "__init__"=some (.ref fI))
 (ag:h.get? fI=some oI) (af:oI.cls=.type "function")
 (hq:∀h' e,Heap.MadeExcOf h h' e (.ref C) rest->h'.objs.size=h.objs.size+2->e=h.objs.size+1->
   wpAny (model prog w) A (call (.ref fI) (.ref e::rest)) (λr s'=>r=.none/\Q (.done (.ret<|.ref e)) s') E #[h',g,d,t,os]) (hrest:rest.length<=sizeLine:=by size_fits):
 wpAny (model prog w) A (Builtin.«type.__call__» #[.ref C::rest,[]]) Q E #[h,g,d,t,os]:=by
 repeat (first|with_reducible show wpAny_loadPart_at hC ?_|with_reducible show wpAny_madeBy_exc hC ?_|wp_step)
 show codeAny_call_builtin_code (Code.quiet_builtin _ F.quiet)<|wpAny_check_new_subT F T hC ?_;show codeAny_exc_new_subT F T hC ?_ hrest;change wpAny _ _ _ _ _ _;have J:=YM {cls:=.ref C,data:=.fields %[.ref h.objs.size,.none,.none,.none,.bool false,.none|0]}
  (YM {cls:=.type "tuple",data:=.seq rest.toArray} hC)
 have aa:=YM {cls:=.ref C,data:=.fields %[.ref h.objs.size,.none,.none,.none,.bool false,.none|0]}
  (YM {cls:=.type "tuple",data:=.seq rest.toArray} ag)
 have ad:((h.push {cls:=.type "tuple",data:=.seq rest.toArray}).push {cls:=.ref C,data:=.fields %[.ref h.objs.size,.none,.none,.none,.bool false,.none|0]}).Ns N mN:=
  let #[o,es,ep,e,r]:=hn;#[o,es,ep,YM _<|YM _ e,r]
 have ac:((h.push {cls:=.type "tuple",data:=.seq rest.toArray}).push
  {cls:=.ref C,data:=.fields %[.ref h.objs.size,.none,.none,.none,.bool false,.none|0]}).get? (h.objs.size+1)=some
  {cls:=.ref C,data:=.fields %[.ref h.objs.size,.none,.none,.none,.bool false,.none|0]}:=by heap_get
 have ah:(Value.ref C::bm).contains (.ref C)=true:=#[]
 have ae:=T.keeps (h':=(h.push {cls:=.type "tuple",data:=.seq rest.toArray}).push {cls:=.ref C,data:=.fields %[.ref h.objs.size,.none,.none,.none,.bool false,.none|0]})
  λb o e=>YM _ (YM _ e)
 unfold isInstance
 repeat (first|with_reducible show wpAny_loadPart_at ac ?_|(with_reducible show wpAny_isSubtype_exc J ?_;rw[ah])|wp_step)
 change wpAny _ _ (typeLookup (.ref C) _) _ _ _;show wpAny_typeLookup_tail J ad ae F.mroIs F.init.lookup ?_;rw[hi];show wpAny_holding<|YJ ?_;unfold bindSpecial;show YJ<|wpAny_typeOf (T:="function") #[_,aa,af] ?_;rw[YB #[]];show YK (YJ (YL (hq _ (h.objs.size+1) #[λb o hb=>YM _<|YM _ hb,Heap.get?_none_of_le<|Nat.le_succ _,h.objs.size,ac,Heap.get?_none_of_le<|YI _,?_] (by simp only[Heap.size_push]) rfl) (λr s' hr=>?_) λ_ _ x=>x))
 . show YM _ (Heap.get?_push_at rfl rfl)
 . let#[rfl,hQ]:=hr
   wp_walk
   show hQ
def qQ6(F:ExcBaseFacts B newId initId bmB)(T:OwnTail h bmB bm){mN:SV}{rest:LW}{fI:Addr}{oI:Obj}{Q:Ba}
 (J:h.get? C=some (excClassObj nm q C N bs bm hdct sn sub ab col dd k0 k1 k2 k3 k5 newId)) (hn:h.Ns N mN) (hi:mN "__init__"=some (.ref fI))
 (ac:h.get? fI=some oI) (aa:oI.cls=.type "function")
 (hq:∀h' e,Heap.MadeExcOf h h' e (.ref C) rest->h'.objs.size=h.objs.size+2->e=h.objs.size+1->
   wpAny (model prog w) (A.under<|.builtin "type.__call__" #[.ref C::rest,[]]) (call (.ref fI) (.ref e::rest)) (λr s'=>r=.none/\Q (.ref e) s') E #[h',g,d,t,os]) (hrest:rest.length<=sizeLine:=by size_fits):
 wpAny (model prog w) A (call (.ref C) rest) Q E #[h,g,d,t,os]:=by
 have f1:=tc_lookup;have f2:=tc_bind<|.ref C;have hT:(#[h,g,d,t,os]:Shared).TypeIs (.ref C) "type":=#[_,J,rfl];show wpAny_call<|codeAny_of_tree ?_;change wpAny _ _ (callAny (.ref C) _) _ _ _
 repeat (any_goals (first|assumption|with_reducible show wpAny_loadPart_at J ?_|wp_step))
 show#[O,?_];show codeAny_call_builtin_at (Code.quiet_builtin _ ⋯) entry_typeCall (wpAny_check_type_call_sub J (qF1 (hrest:=hrest) F T J hn hi ac aa λh' e hm h1 h2=>?_));show hq h' e hm h1 h2
end
section
variable{prog:Program}{w:World}{A:Around}{E:Ba}{s:Shared}{env:Env}
variable{nm q:Str}{C N:Addr}{bs bm bmB:LW}{hdct:Bool}{sn:LS}{sub:LW}{ab:Bool}{col:Option Bool}{dd:Option Addr}{k0 k1 k2 k3 k5:Option Value}{B newId initId:String}
def qPq{M:Model}{x:Sem Value}{Q:Flow->Shared->Prop}(J:bm.contains (.type "BaseException")=true)(hh:A.handled=none)
 (h:wpAny M A x (λv F=> ∃e od vs sl,v=.ref e/\F.heap.get? C=some (excClassObj nm q C N bs bm hdct sn sub ab col dd k0 k1 k2 k3 k5 newId)/\
   F.heap.get? e=some {cls:=.ref C,dict:=od,data:=.fields vs,slots:=sl}/\vs[1]?=some .none/\E (.ref e) F) E s):
 wpAny M A (raiseStmt env (some x) none) Q E s:=by
 have ac:(Value.ref C::bm).contains (.type "BaseException")=true:=by rw[List.contains_cons,J,Bool.or_true]
 unfold raiseStmt;show YJ (YL h (λv F aa=>?_) λ_ _ x=>x);let#[e,od,vs,sl,rfl,hC,he,hv,hE]:=aa;let#[hp,g,d,tk,os]:=F
 repeat (first|with_reducible show wpAny_loadPart_at he ?_|with_reducible show wpAny_loadPart_at hC ?_|(with_reducible show wpAny_isSubtype_exc hC ?_;rw[ac])|wp_step)
 rw[hv];show YK ?_;rw[YA #[]];show YK ?_;show wpAny_raiseNew_none hh hE
def qNj(F:ExcBaseFacts B newId initId bmB){mN:SV}{x:Str}{np cpos pos:Pos}{ac:List Expr}{fI:Addr}{oI:Obj}{Q:Flow->Shared->Prop}
 (ag:bm.contains (.type "BaseException")=true) (hh:A.handled=none) (ae:(backTo cpos<|starEach ac env).any (·.1)=false) (hi:mN "__init__"=some (.ref fI)) (ak:oI.cls=.type "function")
 (h:wpAny (model prog w) A (eval (.Name x np) env) (λf af=>f=.ref C/\wpAny (model prog w) A (evalArgs (.ref C) true (backTo cpos<|starEach ac env) [])
   (λa J=>a.kw=[]/\a.pos.length<=sizeLine/\J.heap.get? C=some (excClassObj nm q C N bs bm hdct sn sub ab col dd k0 k1 k2 k3 k5 newId)/\J.heap.Ns N mN/\OwnTail J.heap bmB bm/\J.heap.get? fI=some oI/\
     ∀h' e,Heap.MadeExcOf J.heap h' e (.ref C) a.pos->h'.objs.size=J.heap.objs.size+2->e=J.heap.objs.size+1->
      wpAny (model prog w) (A.under<|.builtin "type.__call__" #[.ref C::a.pos,[]]) (call (.ref fI) (.ref e::a.pos))
       (λr s'=>r=.none/\s'.heap.get? C=some (excClassObj nm q C N bs bm hdct sn sub ab col dd k0 k1 k2 k3 k5 newId)/\(∃od vs sl,s'.heap.get? e=some {cls:=.ref C,dict:=od,data:=.fields vs,slots:=sl}/\vs[1]?=some .none)/\E (.ref e) s') E {J with heap:=h'}) E af) E s):
 wpAny (model prog w) A (exec (.Raise (some<|.Call (.Name x np) ac [] cpos) none pos) env) Q E s:=by
 rw[arm_exec_Raise];show YJ (wpAny_standAt (qPq (C:=C) (nm:=nm) (q:=q) (N:=N) (bs:=bs) (bm:=bm) (hdct:=hdct) (sn:=sn) (sub:=sub) (ab:=ab) (col:=col) (dd:=dd) (k0:=k0) (k1:=k1) (k2:=k2) (k3:=k3) (k5:=k5) (newId:=newId) ag hh (YJ (YL (wpAny_Call_ofName (YL h (λf af aa=>?_) λ_ _ x=>x)) (λv ao ai=>YJ (wpAny_standAt<|YK ai)) λ_ _ x=>x))));let#[rfl,aa]:=aa;unfold callWith;show YJ (wpAny_holding (YL aa (λa J ad=>YJ<|wpAny_standAt ?_) λ_ _ x=>x));let#[apos,an]:=a;let#[aj,ah,hC,hn,T,al,ad]:=ad;obtain rfl:an=[]:=aj;let#[hp,g,d,tk,os]:=J;simp only[ae];show YJ<|wpAny_keeperOf_exc hC ?_;show YJ (qQ6 (hrest:=ah) F T hC hn hi al ak λh' e hm h1 h2=>YL (ad h' e hm h1 h2) (λr s' z=>#[z.1,?_]) λ_ _ x=>x);let#[_,am,#[od,vs,sl,he,hv],hE]:=z;show YJ<|wpAny_holding (wpAny_point<|YK ?_);show#[e,od,vs,sl,O,am,he,hv,hE]
end
end L3
namespace L3
open PySem PySem.Spec PyProof.Rows L2
noncomputable def qEm(e:Addr)(C:Value):HO:=.ext λh=> ∃(vs:Array Value) (sl:Array (Option Value)),h.get? e=some {cls:=C,dict:=none,data:=.fields vs,slots:=sl}/\vs[1]?=some .none
noncomputable def qEz(e:Addr)(C:EC):HO:=.ext λh=>vj h e C none
def excInitIn(K:Fg)(C f:Addr):Bool:=qZ3 K C (some<|.ref f)
structure XMk(K:Fg)(C D f:Addr):Prop where
 ov:exOver K C D=true
 hd:W.hasDictIn K C=true
 sa:W.findIn K (.ref C) "__setattr__"=some (some (.builtin "object.__setattr__"))
 ex:excInitIn K C f=true
 fn:W.isFn K (.ref f)=true
def qQv{K:Fg}{h:Heap}{N:Addr}{mg:SV}{n:Str}{v:Value}(X:K.In h)(G:h.Ns N mg)(e:W.nsIn K N n=some (some v)):mg n=some v:=by
 let#[o,es,ep,F,hd,_,hf]:=G;unfold W.nsIn at e;split at e
 . rename_i c d J n' sl q
   have:=X _ _ q;rw[F]at this;cases this;cases hd;split at e
   . rename_i en he
     cases e;rw[<-hf];unfold nsFind findBy;rw[<-Array.find?_toList,he];rfl
   . split at e <;> cases e
 . cases e
section
variable{X:Cx}{pins:LO}{σ:L2.St}{H:Hp}{s:Shared}
def qT5{e:Addr}{φ:Heap->Prop}(I:Inv X pins σ (upd H e<|.ext φ) s)(h0:H e=none)(hs:X.s₀.heap.get? e=none):Inv X pins σ H s:=by
 have B:=I.base;have nn:∀b u,upd H e (.ext φ) b=some u->(∀ψ,u≠ .ext ψ)->H b=some u:=λb u z n=>by
  by_cases F:b=e
  . subst F
    rw[qC]at z;cases z;show YC rfl (n φ)
  . rwa [qS F]at z
 have n0:∀b,upd H e (.ext φ) b=none->H b=none:=λb z=>by
  by_cases F:b=e
  . rw[F,qC]at z;cases z
  . rwa [qS F]at z
 show#[I.ok,I.os,I.bare,#[B.keep,B.slot,λb o w z hx=>n0 _<|B.free b o w z hx,B.there,λb xs w=>nn _ _ (B.tups b xs w) (λ_ z=>nomatch z),λb o u w=>nn _ _ (B.frzs b o u w) (λ_ z=>nomatch z),λb ps w=>?_],I.loc,I.cell,n0 _ I.free,λy c z=>n0 _<|I.freeC y c z,λp hp=>?_,λb u w=>?_,I.len]
 . let#[J,z]:=B.tbls b ps w
   show#[J,nn _ _ z (λ_ z=>nomatch z)]
 . let#[w1,w2,w3]:=I.pin p hp
   show#[w1,n0 _ w2,w3]
 . have F:b≠e:=λz=>by rw[z,h0]at w;cases w
   show(I.hok b u (by rw[qS F];show w)).stay (λ_ _ _ z=>z) (λc z=>nn _ _ z (λ_ z=>nomatch z)) λc xs z=>nn _ _ z (λ_ z=>nomatch z)
end
def qPy{X:Cx}{pins:LO}{σ:L2.St}{H:Hp}{s:Shared}{dx:Addr}{fs:List<|Str×V}(I:Inv X pins σ H s)(J:H dx=none)(ac:X.s₀.heap.get? dx=none)(hp:∀p∈X.pn++pins,p.1≠dx)
 (hl:dx≠X.env.locals) (hc:∀y c,X.env.cells.lookup y=some c->c≠dx) (ok:∃mA,s.heap.Ns1 dx mA/\∀f,RelO (fs.lookup f)<|mA f):Inv X pins σ (upd H dx<|.xd fs) s:=by
 have B:=I.base;have ne:∀b o,X.s₀.heap.get? b=some o->b≠dx:=λb o w z=>by rw[z,ac]at w;cases w
 show#[I.ok,I.os,I.bare,#[B.keep,B.slot,λb o w z hx=>?_,B.there,λb xs w=>?_,λb o u w=>?_,λb ps w=>?_],I.loc,I.cell,?_,λy c e=>?_,λp aa=>?_,λb u w=>?_,I.len]
 . rw[qS<|ne b o w];show B.free b o w z hx
 . have z:=B.tups b xs w
   rw[qS<|qW z J];show z
 . have z:=B.frzs b o u w
   rw[qS<|qW z J];show z
 . let#[F,z]:=B.tbls b ps w
   show#[F,by rw[qS<|qW z J];show z]
 . rw[qS<|ZG hl];show I.free
 . rw[qS<|hc y c e];show I.freeC y c e
 . let#[w1,w2,w3]:=I.pin p aa
   rw[qS<|hp p aa];show#[w1,w2,w3]
 . by_cases hb:b=dx
   . subst hb
     rw[qC]at w;cases w;show ok
   . rw[qS hb]at w
     show(I.hok b u w).stay (λ_ _ _ z=>z) (λc z=>by rw[qS<|qW z J];show z) λc xs z=>by rw[qS<|qW z J];show z
def jAd(K:Fg)(ta tv:TE)(f:Str):TS:=λD σ H=>tv σ H λy H1=>ta σ H1 λx H2=> ∃a C B,x=.ref a/\H2 a=some (qEm a<|.ref C)/\exOver K C B=true/\W.hasDictIn K C=true/\
 W.findIn K (.ref C) "__setattr__"=some (some<|.builtin "object.__setattr__")/\W.takerIn K C f=some none/\∀dx,H2 dx=none->D.nx σ (upd (upd H2 a<|qEz a (.ref C,some dx)) dx<|.xd [(f,y)])
def qW2{X:Cx}{o value:Expr}{f:Str}{pos pos':Pos}{ta tv:TE}(ha:PE X o ta)(hv:PE X value tv)(hs:swapsWith value (some<|.Attribute o f pos') pos.line X.env=pure false:=by rfl):
 PS X (.Assign [.Attribute o f pos'] value pos) (jAd X.K ta tv f):=by
 intro pins s σ H D I h;show plainObj_wpAny_Assign_Attribute (tW (hv pins s σ H _ I h) λu s1 y H1 I1 ry q=>thn (ha pins s1 σ H1 _ I1 q) λov s2 hx=>?_) hs;show qU λ_ Y=>?_;let#[x,H2,F,rx,a,C,B,ex,ea,o1,o2,o3,o4,q2]:=hx;subst ex;obtain rfl:ov=Value.ref a:=rx;let#[#[vs,sl,he,aa],_,_]:=F.hok a _ ea;apply Y;have hf:H2 s2.heap.objs.size=none:=F.hok.fresh<|YI _;show qXt F.kIn he o3 o1 o4 o2 λh' tk J hn k=>#[σ,_,?_,q2 _ hf];have I3:Inv X pins σ (upd H2 a<|qEz a (.ref C,some s2.heap.objs.size)) {s2 with heap:=h',toks:=tk}:=by show F.write (x:=a) (e:=a) (by rw[ea];show True.intro) (.inl rfl) k #[_,J] ?_;show#[#[vs,sl,J,aa],#[_,J],λh1 h2 z k=>?_];let#[ad,ac,z,z2]:=z;show#[ad,ac,k _ z,z2]
 have na:s2.heap.objs.size≠a:=λz=>by rw[z,ea]at hf;cases hf
 show qPy I3 (by rw[qS na];show hf) ?_ (λp hp=>Yo<|YV (F.pin p hp).1) (Nat.ne_of_gt F.lt) (λy c e=>?_) #[_,hn,λg=>?_]
 . cases w:X.s₀.heap.get? s2.heap.objs.size with
   |none=>rfl
   |some o=>show YC (YR (YV w) F.sz) (XG _)
 . let#[v,o,ho,_]:=F.cell y c e
   show Yo (YV ho)
 . by_cases hg:g=f
   . subst hg
     simp[List.lookup];show ry
   . have e1:([(f,y)]:List<|Str×V).lookup g=none:=by rw[List.lookup_cons];have:(g==f)=false:=beq_eq_false_iff_ne.mpr hg;rw[this];rfl
     rw[e1,YA hg];trivial
inductive qN0(C:Addr)(f:Str)(vs:LV)(H:Hp)(Q:VK)(_:XK):Prop
|mk (e:Addr) (v:V) (_:vs=[.ref e,v]) (_:H e=some (qEm e (.ref C))) (_:∀dx,H dx=none->Q .non (upd (upd H e (qEz e (.ref C,some dx))) dx (.xd [(f,v)])))
def qWy(C:Addr)(fn:Str)(Ex:Value->Option Addr->Hp->Prop)(t:TA):TS:=λ_ σ H=>t σ H λvs H1=> ∃v,vs=[v]/\∀dx,H1 dx=none->Ex (.ref C) (some dx) (upd H1 dx<|.xd [(fn,v)])
def qKx{X:Cx}{Ex:Value->Option Addr->Hp->Prop}{fn:Str}{k:Nat}{x:Str}{C B f:Addr}{fd:FD}{ps:LS}{np cpos pos:Pos}{J:Expr}{rest:List Expr}{t:TA}(M:XMk X.K C B f)
 (F:FnOk X.prog X.w X.K X.mg X.base CX0 k f fd ps<|qN0 C fn) (hb:Binds X.K fd ps []) (hr:Room (k+1) X.A) (av:X.calm=true) (hg:Gl X x) (hm:X.mg x=some (.ref C)) (ha:PA (X.wish<|XE X Ex) (J::rest) t)
 (he:starEach (J::rest) X.env=(false,eval J X.env)::starEach rest X.env:=by rfl) (aq:(backTo cpos<|starEach rest X.env).any (·.1)=false:=by rfl) (ap:X.ex=[]:=by rfl) (aw:(x==("__debug__":Str))=false:=by decide):
 PS (X.wish<|XE X Ex) (.Raise (some<|.Call (.Name x np) (J::rest) [] cpos) none pos) (qWy C fn Ex t):=by
 intro pins s σ H D I h;let#[tl,N,nm,q,bs,hdct,sn,sub,ab,col,dd,k0,k1,k2,k3,k5,mN,hC,hN,ay,T]:=qPl (K:=X.K) I.ok.mod.kin (qQv I.ok.mod.kin) M.ex;have aa:W.typeIn X.K (.ref f)=some (.type "function"):=beq_iff_eq.mp M.fn;have ax:∃oI:Obj,X.base.get? f=some oI/\oI.cls=.type "function":=by
  replace aa:(X.K.lookup f).map (·.cls)=some (.type "function"):=aa;cases hl:X.K.lookup f with
  |none=>rw[hl]at aa;cases aa
  |some o=>
   rw[hl]at aa;show#[o,I.ok.mod.kin _ _ hl, ~~~aa]
 let#[oI,as,ar]:=ax;show qNj (bm:=tl) (C:=C) (N:=N) (nm:=nm) (q:=q) (bs:=bs) (hdct:=hdct) (sn:=sn) (sub:=sub) (ab:=ab) (col:=col) (dd:=dd) (k5:=k5) (k0:=k0) (k1:=k1) (k2:=k2) (k3:=k3)
  PySem.F.excBase_ValueError (mN:=mN) (fI:=f) (oI:=oI) (T.hasType PySem.F.excBase_ValueError.hasBase) (I.ok.hd av) (by rw[he];change (false || (backTo cpos<|starEach rest X.env).any (·.1))=false;rw[aq];rfl) ay ar (vp I hg hm #[rfl,?_] aw)
 have z:=ha cpos pins s σ H _ I h;rw[show (X.wish<|XE X Ex).env=X.env from rfl]at z;rw[he]at z⊢;show Calls.evalArgs_plain (YL z (λus s2 w=>?_) λ_ _ y=>y);let#[vs,H1,I1,r1,v,rfl,ex]:=w;have ah:=I1.unwish;have ak:us.length=1:=r1.length.symm;show#[O,by rw[ak,sizeLine_eq];decide,I1.bk _ _ hC,hN.keeps I1.bk,T.keeps I1.bk,I1.bk _ _ as,λh' e ag az au=>?_];let#[tt,q1,q2,q3]:=ag.there;have al:s2.heap.objs.size<=e:=by rw[au];show Nat.le_succ _
 have e0:H1 e=none:=ah.hok.fresh al;have I2:Inv X pins σ (upd H1 e (qEm e<|.ref C)) {s2 with heap:=h'}:=ah.laid (t':=s2.toks) ag.keeps al #[#[_,_,q1,rfl],#[_,q1],λh1 h2 z k=>by let#[af,ae,z,z2]:=z;show#[af,ae,k _ z,z2]]
 have r2:Vals [V.ref e,v] (Value.ref e::us):=.cons rfl r1;have aj:qN0 C fn [V.ref e,v] (upd H1 e (qEm e<|.ref C)) (λu H2=>u=.non/\∃dx,H1 dx=none/\dx≠e/\H2=upd (upd H1 dx<|.xd [(fn,v)]) e (qEz e (.ref C,some dx))) E0:=#[e,v,rfl,qC,λdx ad=>#[rfl,dx,?_]]
 rotate_left
 . have hne:dx≠e:=λz=>by rw[z,qC]at ad;cases ad
   show#[by rwa [qS hne]at ad,hne,?_];funext b;by_cases hb:b=e
   . subst hb
     rw[qC,qS<|ZG hne,qC]
   . rw[qS hb (o:=qEz e (.ref C,some dx)) (H:=upd H1 dx<|.xd [(fn,v)])]
     by_cases ai:b=dx
     . subst ai
       rw[qC,qC]
     . rw[qS ai,qS hb,qS hb,qS ai]
 have hl:((Value.ref e::us)++[]).length=ps.length:=by have:=F.len _ _ _ _ aj;rw[Ye,YE,ak];simpa using this
 have an:=hb _ (Value.ref e::us) I2.kIn hl;rw[Ye]at an;show wpAny_call (codeAny_mono (F.run _ X.stack _ _ #[Value.ref e::us,[]] (Value.ref e::us) _ _ E0 (hr.make C us []) (I2.env0.make C us []) an r2 aj) λr s' ac=>?_);cases r with
 |error e=>show XD ac
 |ok fl=>
  cases fl with
  |ret u=>
   let#[v',H',I3,rv,ev,dx,ad,hne,rfl]:=I2.after ac;subst ev;cases rv;let#[#[af,ae,g1,g2],_,_]:=I3.hok e _ qC;have am:(upd H1 dx<|.xd [(fn,v)]) e=none:=by rw[qS<|ZG hne];show e0
   have ao:X.s₀.heap.get? e=none:=by
    cases w:X.s₀.heap.get? e with
    |none=>rfl
    |some o=>
     let#[o',w']:=ah.base.there e o w (by rw[ap];intro y;cases y);rw[ag.new]at w';cases w'
   show#[O,I3.bk _ _ hC,#[some dx,af,ae,g1,g2],e,(.ref C,some dx),σ,upd H1 dx<|.xd [(fn,v)],O,(qT5 I3 am ao).pins_of (pins':=[]) λp hp=>(nomatch hp),#[#[ao,am,λp hp z=>?_],none,#[af,ae,g1,g2],λT e'=>nomatch e'],ex dx ad];have q':=(ah.pin p<|Yq _ hp).1;rw[z,ag.new]at q';cases q'
  |next=>show XD ac
  |brk=>show XD ac
  |cont=>show XD ac
section
variable{X:Cx}
def qOl{bs:List Bool}{F:LW}{P:Program}{w:World}{A:Around}(r:Vals (bs.map V.bl) F):TruthOf P w A (λi v=>F.toArray[i]?=some v) (λi=>(bs[i]?).getD false):=by
 intro i v s Q E hv hq;have J:F[i]?=some v:= ~~~hv
 have hl:=r.length;have hi:i<bs.length:=by have:=(Ya.mp J).1;rw[YS]at hl;lia
 let#[u,e1,q1]:=r.get (i:=i) (x:=.bl bs[i]) (by rw[Yj,YD hi];rfl);rw[J]at e1;cases e1;cases q1;have e:(bs[i]?).getD false=bs[i]:=by rw[YD hi];rfl
 have aa:Q ((bs[i]?).getD false) s:=hq;rw[e]at aa;show wpAny_truthy_bool aa
def qTn(bs:List Bool):(List.range bs.length).all (λi=>(bs[i]?).getD false)=bs.all id:=by
 rw[Yv,List.all_eq_true,List.all_eq_true];constructor
 . intro h x F
   let#[i,hi,e]:=ZF.mp F;have:=h i<| ~~~hi;rw[YD hi,e]at this;show this
 . intro h i hi
   have hi:i<bs.length:= ~~~hi
   rw[YD hi];show h _<|List.getElem_mem hi
def qTd(bs:List Bool):(List.range bs.length).any (λi=>(bs[i]?).getD false)=bs.any id:=by
 rw[Yv,List.any_eq_true,List.any_eq_true];constructor
 . rintro⟨i,hi,h⟩
   have hi:i<bs.length:= ~~~hi
   rw[YD hi]at h;show#[_,List.getElem_mem hi,h]
 . rintro⟨x,F,h⟩
   let#[i,hi,e]:=ZF.mp F;show#[i, ~~~hi,by rw[YD hi,e];show h]
def qSv(hc:X.calm=true):vM X (.builtin "all") (λxs H Q=> ∃(p:Addr) (bs:List Bool),xs=[.ref p]/\SqL X.K H p (bs.map V.bl)/\Q (.bl<|bs.all id) H):=by
 intro pins s σ H xs us Q I r h;let#[p,bs,rfl,hq,q]:=h;let#[u,rfl,rx]:=qFw r;cases rx;let#[F,J,pl,hz]:=I.list hq;have hp:p≠s.heap.objs.size:=by let#[o,n,e,_]:=pl;show Yo (YV e)
 have hh:X.A.in1.handled=none:=I.ok.hd hc;have hl:F.toArray.size=bs.length:=by rw[YG,<-J.length,YS]
 show call_all_walk<|wpAny_pyIter_list pl.isList ?_;show#[s.heap.objs.size,_,_,_,_,_,_,O,Walks.list hh _ p hp F.toArray,#[#[_,Yn _ rfl,O,O],pl.isList.at λo e=>YM _ e],qOl J,λh' tk hk=>?_];rw[hl,qTn];show#[.bl _,H,I.kept λb o e=>hk b o (λz=>?_)<|YM _ e,O,q];have z':b=s.heap.objs.size:= ~~~z
 show YC (YV e) (by rw[z'];show XG _)
def qRd(hc:X.calm=true):vM X (.builtin "any") (λxs H Q=> ∃(p:Addr) (bs:List Bool),xs=[.ref p]/\SqL X.K H p (bs.map V.bl)/\Q (.bl<|bs.any id) H):=by
 intro pins s σ H xs us Q I r h;let#[p,bs,rfl,hq,q]:=h;let#[u,rfl,rx]:=qFw r;cases rx;let#[F,J,pl,hz]:=I.list hq;have hp:p≠s.heap.objs.size:=by let#[o,n,e,_]:=pl;show Yo (YV e)
 have hh:X.A.in1.handled=none:=I.ok.hd hc;have hl:F.toArray.size=bs.length:=by rw[YG,<-J.length,YS]
 show call_any_walk<|wpAny_pyIter_list pl.isList ?_;show#[s.heap.objs.size,_,_,_,_,_,_,O,Walks.list hh _ p hp F.toArray,#[#[_,Yn _ rfl,O,O],pl.isList.at λo e=>YM _ e],qOl J,λh' tk hk=>?_];rw[hl,qTd];show#[.bl _,H,I.kept λb o e=>hk b o (λz=>?_)<|YM _ e,O,q];have z':b=s.heap.objs.size:= ~~~z
 show YC (YV e) (by rw[z'];show XG _)
def qZj:OpR X (compareOp .In) (λx y H Q=> ∃(a b:Str),x=.str a/\y=.str b/\Q (.bl<|!(Builtin.Str.occurrences b a 0 b.length 1).isEmpty) H):=by intro pins s σ H x y v u Q I F J h;let#[a,b,rfl,rfl,q]:=h;let#[t,rfl]:=F;let#[t',rfl]:=J;show P.in_str #[.bl _,H,I,O,q]
noncomputable def Its(z:Str):It:=#[λi _=>i<z.cps.size,λi H x H'=>H'=H/\∃c,z.cps[i]?=some c/\x=.str #[%[c|0]],λi _=>z.cps.size<=i]
def qRh{P:Program}{w:World}{K:Fg}{tg:Expr}(it:Addr)(z:Str)(t:Tok)(ty:String)(F:ty="str_ascii_iterator"\/ty="str_iterator"):
 qYc P w K tg (Its z) [it] it (λi h=>h.IsStrIter it ty z t i/\i<=z.cps.size) where
 mem:=#[]
 obj:=λi h st b J=>by
  have e:b=it:= ~~~J
  subst e;let#[#[o,e,c,d],_]:=st;show#[o,e,λv z=>by rw[d]at z;cases z]
 keep:=λi h h' st k=>#[let #[o,ho,r]:=st.1;#[o,k it #[] o ho,r],st.2]
 item:=by
  intro X hP hw hK hc i pins s σ H E I hf st hg;subst hP hw hK;have hi:i<z.cps.size:=hg;have hx:z.cps[i]?=some z.cps[i]:=by simp[hi]
  let#[f0,f1,f2,f3,f4,f5]:=hf it #[];have ac:∀h',h'.IsStrIter it ty z t (i+1)->Heap.SameBut it s.heap h'->∃u,some (Value.str #[%[z.cps[i]|0]] s.toks)=some u/\wpAny (model X.prog X.w) X.A (letOwnedTupleGo tg (.ref it) u) (λ_ s2=> ∃x H',Inv X pins σ H' s2/\RelV x u/\(Its z).yld i H x H'/\(s2.heap.IsStrIter it ty z t (i+1)/\i+1<=z.cps.size)/\∀b∈[it],H' b=none) E {s with heap:=h',toks:=s.toks+1}:=λh' aa sb=>by have I1:Inv X pins σ H {s with heap:=h',toks:=s.toks+1}:=I.turned (t':=s.toks+1) (λb o J e=>(sb.2 b J).trans e) f0 f1 f3 f4 f5;let#[o,e,c,d]:=id aa;show#[_,rfl,qT9 (s:={s with heap:=h',toks:=s.toks+1}) e c d (by rcases F with rfl|rfl <;> decide) #[.str #[%[z.cps[i]|0]],H,I1,#[_,rfl],#[rfl,_,hx,rfl],#[aa,hi],λb J=>(hf b J).1]]
  rcases F with rfl|rfl
  . show wpAny_pyNext_ascii_item st.1 hx ac
  . show wpAny_pyNext_wide_item st.1 hx ac
 done:=by
  intro X hP hw hK hc i pins s σ H E I hf st hg;subst hP hw hK;have hi:z.cps.size<=i:=hg;have hx:z.cps[i]?=none:=by simp[hi]
  let#[f0,f1,f2,f3,f4,f5]:=hf it #[];rcases F with rfl|rfl
  . show wpAny_pyNext_ascii_end (I.ok.hd hc) st.1 hx λh' eb=>#[O,I.turned (t':=s.toks) (λb o J e=>eb b o J e) f0 f1 f3 f4 f5]
  . show wpAny_pyNext_wide_end (I.ok.hd hc) st.1 hx λh' eb=>#[O,I.turned (t':=s.toks) (λb o J e=>eb b o J e) f0 f1 f3 f4 f5]
 self:=λ_ _ _ _ _ st h=>by
  rcases F with rfl|rfl
  . show wpAny_pyIter_striter_ascii st.1 h
  . show wpAny_pyIter_striter_wide st.1 h
def jCj(tl:TE):TI:=λσ H R=>tl σ H λx H1=> ∃z,x=.str z/\R (Its z) H1
def qY0{tg l:Expr}{tl:TE}(hl:PE X l tl):PI X tg l (jCj tl):=by
 intro pins s σ H R I h;show tW (hl pins s σ H _ I h) λv s1 x H1 J r1 q1=>?_;let#[z,e,q]:=q1;subst e;let#[t,rfl]:=r1;have F:∀ty:String,(ty="str_ascii_iterator"\/ty="str_iterator")->PIE X pins σ tg R (.ref s1.heap.objs.size) {s1 with heap:=s1.heap.push {cls:=.type ty,data:=.fields %[.str z t,.int 0 0|0]}}:=λty aa=>by
  show#[s1.heap.objs.size,[s1.heap.objs.size],_,_,H1,O,J.kept (t':=s1.toks) λb o e=>YM _ e,qRh _ z t ty aa,#[#[_,Yn _ rfl,O,O],ZT _],λb hb=>?_,q];have e:b=s1.heap.objs.size:= ~~~hb
  subst e;show J.fpOk (YI _) (J.hok.fresh<|YI _)
 cases ha:z.cps.all (· <128)
 . show wpAny_pyIter_wide ha (F _<|.inr rfl)
 . show wpAny_pyIter_ascii ha (F _<|.inl rfl)
def qVm{z:Str}{js:List Nat}{te:TE}{σ:L2.St}{H:Hp}{Q:VK}(J:Nat->LV->Hp->Prop)(h0:J 0 [] H)(hl:∀i F H,i<=z.cps.size->J i F H->F.length<sizeLine)
 (hs:∀i c F H,i<z.cps.size->z.cps[i]?=some c->J i F H->te (some (.str #[%[c|0]])::qDi js σ) H λv H'=>Nxt z.cps.size i<|J (i+1) (F++[v]) H') (hd:∀F H,J z.cps.size F H->∀D,H D=none->Q (.ref D) (upd H D<|.lst F)):CompEnd js te σ Q (Its z) H:=by
 show#[λi m F H=>m=z.cps.size-i/\i<=z.cps.size/\J i F H,#[z.cps.size,#[],ZT _,h0],?_];rintro i m F H2 ⟨rfl,hi,p⟩;show#[hl i F H2 hi p,?_];by_cases aa:i<z.cps.size
 . show .inr #[aa,λx H3 y=>?_]
   let#[e,c,hc,rfl]:=y;subst e;show hs i c F _ aa hc p
 . have e:i=z.cps.size:=()
   subst e;show .inl #[YI _,hd F H2 p]
end
def zJ{X:Cx}{K:Fg}(h:X.K=K):vM X (.builtin "isinstance") (λxs H Q=> ∃e D od c b,xs=[.ref e,c]/\H e=some (qE6 e (.ref D,od))/\OwnD H od/\ExcK K D/\
 ((∃n,c=.ty n/\W.kitOne K (.ref D) (.type n)=some b)\/∃a,c=.ref a/\W.kitOne K (.ref D) (.ref a)=some b)/\Q (.bl b) H):=h ▸ qKk
section
variable{X:Cx}
def qN6:vM X (.type "dict") (λxs H Q=> ∃(a:Addr) (kvs:List<|Key×V),xs=[.ref a]/\H a=some (.dK kvs)/\∀p,H p=none->Q (.ref p) (upd H p<|.dK kvs)):=by intro pins s σ H xs us Q I r h;let#[a,kvs,rfl,e,q]:=h;let#[u,rfl,F]:=qFw r;cases F;show qO4 I (.inl e) λp s' hp J=>#[.ref p,_,J,O,q p hp]
end
inductive D where
 |leaf (v:V)
 |tup (xs:List D)
 |lst (xs:List D)
mutual
def Rep(K:Fg)(H:Hp):D->V->Prop
 |.leaf v,x=>x=v/\kL v=true
 |.tup ds,x=> ∃p xs,x=.ref p/\SqT K H p xs/\Reps K H ds xs
 |.lst ds,x=> ∃p xs,x=.ref p/\SqL K H p xs/\Reps K H ds xs
def Reps(K:Fg)(H:Hp):List D->LV->Prop
 |[],[]=>True
 |d::ds,x::xs=>Rep K H d x/\Reps K H ds xs
 |_,_=>False
end
mutual
def eqD:D->D->Bool
 |.leaf v,.leaf w=>eqV v w
 |.tup xs,.tup ys=>kO xs ys
 |.lst xs,.lst ys=>kO xs ys
 |_,_=>false
def kO:List D->List D->Bool
 |[],[]=>true
 |x::xs,y::ys=>eqD x y && kO xs ys
 |_,_=>false
end
mutual
def dep:D->Nat
 |.leaf _=>0
 |.tup xs=>wN xs+1
 |.lst xs=>wN xs+1
def wN:List D->Nat
 |[]=>0
 |x::xs=>max (dep x)<|wN xs
end
theorem Reps.length{K:Fg}{H:Hp}:∀{ds:List D} {xs:LV},Reps K H ds xs->ds.length=xs.length
 |[],[],_=>rfl
 |_::_,_::_,h=>by unfold Reps at h;rw[YE,YE,h.2.length]
 |[],_::_,h=>by unfold Reps at h;show h.elim
 |_::_,[],h=>by unfold Reps at h;show h.elim
def qTz{v:V}(h:kL v=true):eqV v v=true:=by cases v <;> simp_all[kL,eqV]
theorem qEo:∀{xs ys:List D},kO xs ys=true->xs.length=ys.length
 |[],[],_=>rfl
 |x::xs,y::ys,h=>by unfold kO at h;rw[Yl]at h;rw[YE,YE,qEo h.2]
 |[],_::_,h=>by simp[kO]at h
 |_::_,[],h=>by simp[kO]at h
def itE(xs ys:List D)(j:Nat):Bool:=match xs[j]?,ys[j]? with
 |some a,some b=>eqD a b
 |_,_=>false
theorem qKq:∀(xs ys:List D),((List.range<|min xs.length ys.length).all (itE xs ys) && xs.length==ys.length)=kO xs ys
 |[],[]=>by simp[kO]
 |[],y::ys=>by simp[kO]
 |x::xs,[]=>by simp[kO]
 |x::xs,y::ys=>by
  have F:=qKq xs ys;have e:min (x::xs).length (y::ys).length=min xs.length ys.length+1:=by simp only[YE];lia
  rw[e,List.range_succ_eq_map,List.all_cons,List.all_map];have e2:(itE (x::xs) (y::ys)) ∘ Nat.succ=itE xs ys:=by funext j;simp[itE]
  have e3:itE (x::xs) (y::ys) 0=eqD x y:=by simp[itE]
  have J:((x::xs).length==(y::ys).length)=(xs.length==ys.length):=by rw[Yv];simp
  rw[e2,e3,J,Bool.and_assoc,F]
  conv=>rhs;unfold kO
def qNx{xs ys:List D}(h:xs.length=ys.length):(List.range xs.length).all (itE xs ys)=kO xs ys:=by have:=qKq xs ys;rw[<-h,Nat.min_self]at this;simpa using this
section
variable{X:Cx}{pins:LO}{σ:L2.St}{H:Hp}{s:Shared}
mutual
theorem qIo(I:Inv X pins σ H s):∀(d e:D) {x:V},Rep X.K H d x->Rep X.K H e x->eqD d e=true
 |.leaf v,.leaf w,x,h1,h2=>by unfold Rep at h1 h2;let#[rfl,f]:=h1;let#[rfl,_]:=h2;unfold eqD;show qTz f
 |.leaf v,.tup ds,x,h1,h2=>by unfold Rep at h1 h2;let#[rfl,f]:=h1;let#[p,xs,rfl,_]:=h2;cases f
 |.leaf v,.lst ds,x,h1,h2=>by unfold Rep at h1 h2;let#[rfl,f]:=h1;let#[p,xs,rfl,_]:=h2;cases f
 |.tup ds,.leaf w,x,h1,h2=>by unfold Rep at h1 h2;let#[rfl,f]:=h2;let#[p,xs,rfl,_]:=h1;cases f
 |.lst ds,.leaf w,x,h1,h2=>by unfold Rep at h1 h2;let#[rfl,f]:=h2;let#[p,xs,rfl,_]:=h1;cases f
 |.tup ds,.tup es,x,h1,h2=>by unfold Rep at h1 h2;let#[p,xs,rfl,J,r1]:=h1;let#[q,ys,e,F,r2]:=h2;cases e;rw[I.tuple_inj J F]at r1;unfold eqD;show qGe I ds es r1 r2
 |.lst ds,.lst es,x,h1,h2=>by unfold Rep at h1 h2;let#[p,xs,rfl,J,r1]:=h1;let#[q,ys,e,F,r2]:=h2;cases e;rw[I.list_inj J F]at r1;unfold eqD;show qGe I ds es r1 r2
 |.tup ds,.lst es,x,h1,h2=>by unfold Rep at h1 h2;let#[p,xs,rfl,J,r1]:=h1;let#[q,ys,e,F,r2]:=h2;cases e;let#[_,_,i1,_]:=I.tuple J;let#[_,_,i2,_]:=I.list F;show(SeqAt.ne_of_list_tuple i2.isList i1 rfl).elim
 |.lst ds,.tup es,x,h1,h2=>by unfold Rep at h1 h2;let#[p,xs,rfl,J,r1]:=h1;let#[q,ys,e,F,r2]:=h2;cases e;let#[_,_,i1,_]:=I.list J;let#[_,_,i2,_]:=I.tuple F;show(SeqAt.ne_of_list_tuple i1.isList i2 rfl).elim
theorem qGe(I:Inv X pins σ H s):∀(ds es:List D) {xs:LV},Reps X.K H ds xs->Reps X.K H es xs->kO ds es=true
 |[],[],_,_,_=>by simp[kO]
 |d::ds,e::es,[],h1,_=>by unfold Reps at h1;show h1.elim
 |d::ds,e::es,x::xs,h1,h2=>by unfold Reps at h1 h2;unfold kO;rw[qIo I d e h1.1 h2.1,qGe I ds es h1.2 h2.2];rfl
 |[],e::es,[],_,h2=>by unfold Reps at h2;show h2.elim
 |[],e::es,_::_,h1,_=>by unfold Reps at h1;show h1.elim
 |d::ds,[],[],h1,_=>by unfold Reps at h1;show h1.elim
 |d::ds,[],_::_,_,h2=>by unfold Reps at h2;show h2.elim
end
def wv{A:Around}{x:V}{u:Value}{p:Addr}{J:Array Value}(f:kL x=true)(r:RelV x u)(F:A.units<cLine)(h:s.heap.IsTuple p J\/s.heap.IsList p J):SeqAt.EqAt A s u (.ref p) false/\SeqAt.EqAt A s (.ref p) u false:=by
 cases x with
 |non=>cases r;rcases h with h|h <;> show#[by first|show SeqAt.EqAt.none_tuple h F|show SeqAt.EqAt.none_list h F,by first|show SeqAt.EqAt.tuple_none h F|show SeqAt.EqAt.list_none h F]
 |bl b=>cases r;rcases h with h|h <;> show#[by first|show SeqAt.EqAt.bool_tuple _ h F|show SeqAt.EqAt.bool_list _ h F,by first|show SeqAt.EqAt.tuple_bool _ h F|show SeqAt.EqAt.list_bool _ h F]
 |int i=>let#[t,rfl]:=r;rcases h with h|h <;> show#[by first|show SeqAt.EqAt.int_tuple _ _ h F|show SeqAt.EqAt.int_list _ _ h F,by first|show SeqAt.EqAt.tuple_int _ _ h F|show SeqAt.EqAt.list_int _ _ h F]
 |str i=>let#[t,rfl]:=r;rcases h with h|h <;> show#[by first|show SeqAt.EqAt.str_tuple _ _ h F|show SeqAt.EqAt.str_list _ _ h F,by first|show SeqAt.EqAt.tuple_str _ _ h F|show SeqAt.EqAt.list_str _ _ h F]
 |_=>cases f
theorem Reps.get{K:Fg}{H:Hp}:∀{ds:List D} {xs:LV},Reps K H ds xs->∀(j:Nat) (d:D),ds[j]?=some d->∃x,xs[j]?=some x/\Rep K H d x
 |[],[],_,j,d,e=>by simp at e
 |a::ds,x::xs,h,0,d,e=>by
  unfold Reps at h;have:a=d:= ~~~e
  subst this;show#[x,O,h.1]
 |a::ds,x::xs,h,j+1,d,e=>by unfold Reps at h;show h.2.get j d ( ~~~e)
 |[],_::_,h,_,_,_=>by unfold Reps at h;show h.elim
 |_::_,[],h,_,_,_=>by unfold Reps at h;show h.elim
theorem qIl:∀{ds:List D} {j:Nat} {d:D},ds[j]?=some d->dep d<=wN ds
 |a::ds,0,d,e=>by
  have:a=d:= ~~~e
  subst this;unfold wN;show Nat.le_max_left _ _
 |a::ds,j+1,d,e=>by have:=qIl (ds:=ds) (j:=j) (d:=d)<| ~~~e;unfold wN;show ZD this (Nat.le_max_right _ _)
 |[],_,_,e=>by simp at e
def qR9{A:Around}{ds es:List D}{xs ys:LV}{us F:LW}(r1:Reps X.K H ds xs)(r2:Reps X.K H es ys)(v1:Vals xs us)(v2:Vals ys F)
 (ih:∀d e x y u w,d∈ds->Rep X.K H d x->Rep X.K H e y->RelV x u->RelV y w->SeqAt.EqAt A s u w (eqD d e)):
 ∀j (h1:j<us.toArray.size) (h2:j<F.toArray.size),SeqAt.EqAt A s us.toArray[j] F.toArray[j] (itE ds es j):=by
 intro j h1 h2;have l1:=v1.length;have l2:=v2.length;have m1:=r1.length;have m2:=r2.length;rw[YG]at h1 h2;have g1:ds[j]?=some ds[j]:=YD ();have J:es[j]?=some es[j]:=YD ();let#[x,ex,rx]:=r1.get j _ g1;let#[y,ey,ry]:=r2.get j _ J;let#[u,eu,qu]:=v1.get ex;let#[w,ew,qw]:=v2.get ey;have c1:us.toArray[j]=u:=by have:=(Ya.mp eu).2;simpa using this
 have c2:F.toArray[j]=w:=by have:=(Ya.mp ew).2;simpa using this
 have e:itE ds es j=eqD ds[j] es[j]:=by delta itE;rw[g1,J]
 rw[c1,c2,e];show ih _ _ _ _ _ _ (List.getElem_mem _) rx ry qu qw
def qYs(I:Inv X pins σ H s):∀(n:Nat) (A:Around) (d e:D) (x y:V) (u w:Value),dep d<=n->A.units+n<cLine->Rep X.K H d x->Rep X.K H e y->RelV x u->RelV y w->SeqAt.EqAt A s u w (eqD d e):=by
 intro n
 induction n with
 |zero=>
  intro A d e x y u w hd hu r1 F q1 q2;cases d with
  |leaf v=>
   unfold Rep at r1;let#[rfl,f1]:=r1;cases e with
   |leaf v'=>
    unfold Rep at F;let#[rfl,f2]:=F;unfold eqD;show qOh q1 q2 f1 f2
   |tup es=>
    unfold Rep at F;let#[p,ys,rfl,t,_]:=F;cases q2;let#[_,_,i,_]:=I.tuple t;unfold eqD;show(wv f1 q1 hu<|.inl i).1
   |lst es=>
    unfold Rep at F;let#[p,ys,rfl,t,_]:=F;cases q2;let#[_,_,i,_]:=I.list t;unfold eqD;show(wv f1 q1 hu<|.inr i.isList).1
  |tup ds=>unfold dep at hd;lia
  |lst ds=>unfold dep at hd;lia
 |succ n ih=>
  intro A d e x y u w hd hu r1 F q1 q2;have J:A.units<cLine:=()
  have ae:A.in1.units+n<cLine:=by change A.units+1+n<cLine;lia
  cases d with
  |leaf v=>
   unfold Rep at r1;let#[rfl,f1]:=r1;cases e with
   |leaf v'=>
    unfold Rep at F;let#[rfl,f2]:=F;unfold eqD;show qOh q1 q2 f1 f2
   |tup es=>
    unfold Rep at F;let#[p,ys,rfl,t,_]:=F;cases q2;let#[_,_,i,_]:=I.tuple t;unfold eqD;show(wv f1 q1 J<|.inl i).1
   |lst es=>
    unfold Rep at F;let#[p,ys,rfl,t,_]:=F;cases q2;let#[_,_,i,_]:=I.list t;unfold eqD;show(wv f1 q1 J<|.inr i.isList).1
  |tup ds=>
   have aa:=r1;unfold Rep at r1;let#[p,xs,rfl,t1,s1]:=r1;cases q1;let#[us,v1,i1,_]:=I.tuple t1;cases e with
   |leaf v'=>
    unfold Rep at F;let#[rfl,f2]:=F;unfold eqD;show(wv f2 q2 J<|.inl i1).2
   |lst es=>
    unfold Rep at F;let#[q,ys,rfl,t2,_]:=F;cases q2;let#[_,_,i2,_]:=I.list t2;unfold eqD;show SeqAt.EqAt.tuple_list i1 i2.isList J
   |tup es=>
    have ad:=F;unfold Rep at F;let#[q,ys,rfl,t2,s2]:=F;cases q2;by_cases pq:p=q
    . subst pq
      rw[qIo I _ _ aa ad];show SeqAt.EqAt.same _
    let#[ws,v2,i2,_]:=I.tuple t2;have ag:wN ds<=n:=by unfold dep at hd;lia
    have:=SeqAt.EqAt.of_refs pq (SeqAt.RcAt.tuples i1 i2 J (qR9 s1 s2 v1 v2 λd e x y u w hm ra rb qa qb=>by let#[j,hj,ej]:=ZF.mp hm;have af:dep d<=wN ds:=qIl (j:=j) (by rw[YD hj,ej]);show ih A.in1 d e x y u w () ae ra rb qa qb))
    rw[YG,YG,<-v1.length,<-v2.length,<-s1.length,<-s2.length,qKq]at this;unfold eqD;show this
  |lst ds=>
   have aa:=r1;unfold Rep at r1;let#[p,xs,rfl,t1,s1]:=r1;cases q1;let#[us,v1,i1,_]:=I.list t1;cases e with
   |leaf v'=>
    unfold Rep at F;let#[rfl,f2]:=F;unfold eqD;show(wv f2 q2 J<|.inr i1.isList).2
   |tup es=>
    unfold Rep at F;let#[q,ys,rfl,t2,_]:=F;cases q2;let#[_,_,i2,_]:=I.tuple t2;unfold eqD;show SeqAt.EqAt.list_tuple i1.isList i2 J
   |lst es=>
    have ad:=F;unfold Rep at F;let#[q,ys,rfl,t2,s2]:=F;cases q2;by_cases pq:p=q
    . subst pq
      rw[qIo I _ _ aa ad];show SeqAt.EqAt.same _
    let#[ws,v2,i2,_]:=I.list t2;have ag:wN ds<=n:=by unfold dep at hd;lia
    unfold eqD;by_cases hl:ds.length=es.length
    . have ac:us.toArray.size=ws.toArray.size:=by rw[YG,YG,<-v1.length,<-v2.length,<-s1.length,<-s2.length];show hl
      have:=SeqAt.EqAt.of_refs pq (SeqAt.RcAt.lists i1.isList i2.isList ac J (qR9 s1 s2 v1 v2 λd e x y u w hm ra rb qa qb=>by let#[j,hj,ej]:=ZF.mp hm;have af:dep d<=wN ds:=qIl (j:=j) (by rw[YD hj,ej]);show ih A.in1 d e x y u w () ae ra rb qa qb))
      rw[YG,<-v1.length,<-s1.length,qNx hl]at this;show this
    . have ac:(us.toArray.size != ws.toArray.size)=true:=by rw[YG,YG,<-v1.length,<-v2.length,<-s1.length,<-s2.length];simpa using hl
      have e:kO ds es=false:=by rw[Bool.eq_false_iff];intro z;show hl (qEo z)
      rw[e];show SeqAt.EqAt.of_refs pq<|SeqAt.RcAt.lists_lengths i1.isList i2.isList ac J
noncomputable def kin:D->D->Bool
 |.tup _,.tup _=>true
 |.lst _,.lst _=>true
 |_,_=>false
inductive jBr(K:Fg)(neg:Bool)(x:V)(y:V)(H:Hp)(Q:VK):Prop
|mk (d e:D) (_:Rep K H d x) (_:Rep K H e y) (_:kin d e=true) (_:dep d<=60) (_:Q (.bl (if neg then !eqD d e else eqD d e)) H)
def we{A:Around}(I:Inv X pins σ H s)(hu:A.units+64<cLine){ds es:List D}{xs ys:LV}{us F:LW}(hd:wN ds<=60)(s1:Reps X.K H ds xs)(s2:Reps X.K H es ys)(v1:Vals xs us)(v2:Vals ys F):
 ∀j (h1:j<us.toArray.size) (h2:j<F.toArray.size),SeqAt.EqAt A.in1 s us.toArray[j] F.toArray[j] (itE ds es j):=
 qR9 s1 s2 v1 v2 λd e x y u w hm ra rb J qb=>by let#[j,hj,ej]:=ZF.mp hm;have aa:dep d<=wN ds:=qIl (j:=j) (by rw[YD hj,ej]);show qYs I 60 A.in1 d e x y u w () (by change A.units+1+60<cLine;lia) ra rb J qb
def qTg(hu:X.A.units+64<cLine):OpR X (compareOp .Eq) (jBr X.K false):=by
 intro pins s σ H x y v u Q I rx ry h;let#[d,e,r1,r2,hk,hd,q]:=h;have F:X.A.units<cLine:=()
 cases d with
 |leaf a=>cases e <;> cases hk
 |tup ds=>
  cases e with
  |leaf b=>cases hk
  |lst es=>cases hk
  |tup es=>
   unfold Rep at r1 r2;let#[p,xs,rfl,t1,s1]:=r1;let#[p',ys,rfl,t2,s2]:=r2;cases rx;cases ry;let#[us,J,i1,_]:=I.tuple t1;let#[ws,v2,i2,_]:=I.tuple t2;show SeqAt.eq_tupleAt i1 i2 F (we I hu (by unfold dep at hd;lia) s1 s2 J v2) ?_;rw[YG,YG,<-J.length,<-v2.length,<-s1.length,<-s2.length,qKq];show#[.bl _,H,I,O,?_];unfold eqD at q;show q
 |lst ds=>
  cases e with
  |leaf b=>cases hk
  |tup es=>cases hk
  |lst es=>
   unfold Rep at r1 r2;let#[p,xs,rfl,t1,s1]:=r1;let#[p',ys,rfl,t2,s2]:=r2;cases rx;cases ry;let#[us,J,i1,_]:=I.list t1;let#[ws,v2,i2,_]:=I.list t2;unfold eqD at q;by_cases hl:ds.length=es.length
   . have aa:us.toArray.size=ws.toArray.size:=by rw[YG,YG,<-J.length,<-v2.length,<-s1.length,<-s2.length];show hl
     show SeqAt.eq_listAt i1.isList i2.isList aa F (we I hu (by unfold dep at hd;lia) s1 s2 J v2) ?_;rw[YG,<-J.length,<-s1.length,qNx hl];show#[.bl _,H,I,O,q]
   . have aa:(us.toArray.size != ws.toArray.size)=true:=by rw[YG,YG,<-J.length,<-v2.length,<-s1.length,<-s2.length];simpa using hl
     have e:kO ds es=false:=by rw[Bool.eq_false_iff];intro z;show hl (qEo z)
     rw[e]at q;show SeqAt.eq_list_lengthsAt i1.isList i2.isList aa F #[.bl _,H,I,O,q]
def qO5(hu:X.A.units+64<cLine):OpR X (compareOp .NotEq) (jBr X.K true):=by
 intro pins s σ H x y v u Q I rx ry h;let#[d,e,r1,r2,hk,hd,q]:=h;have F:X.A.units<cLine:=()
 cases d with
 |leaf a=>cases e <;> cases hk
 |tup ds=>
  cases e with
  |leaf b=>cases hk
  |lst es=>cases hk
  |tup es=>
   unfold Rep at r1 r2;let#[p,xs,rfl,t1,s1]:=r1;let#[p',ys,rfl,t2,s2]:=r2;cases rx;cases ry;let#[us,J,i1,_]:=I.tuple t1;let#[ws,v2,i2,_]:=I.tuple t2;show SeqAt.RcNeAt.tuples i1 i2 F (we I hu (by unfold dep at hd;lia) s1 s2 J v2) _ _ _ _ ?_;rw[YG,YG,<-J.length,<-v2.length,<-s1.length,<-s2.length,qKq];show#[.bl _,H,I,O,?_];unfold eqD at q;show q
 |lst ds=>
  cases e with
  |leaf b=>cases hk
  |tup es=>cases hk
  |lst es=>
   unfold Rep at r1 r2;let#[p,xs,rfl,t1,s1]:=r1;let#[p',ys,rfl,t2,s2]:=r2;cases rx;cases ry;let#[us,J,i1,_]:=I.list t1;let#[ws,v2,i2,_]:=I.list t2;unfold eqD at q;by_cases hl:ds.length=es.length
   . have aa:us.toArray.size=ws.toArray.size:=by rw[YG,YG,<-J.length,<-v2.length,<-s1.length,<-s2.length];show hl
     show SeqAt.RcNeAt.lists i1.isList i2.isList aa F (we I hu (by unfold dep at hd;lia) s1 s2 J v2) _ _ _ _ ?_;rw[YG,<-J.length,<-s1.length,qNx hl];show#[.bl _,H,I,O,q]
   . have aa:(us.toArray.size != ws.toArray.size)=true:=by rw[YG,YG,<-J.length,<-v2.length,<-s1.length,<-s2.length];simpa using hl
     have e:kO ds es=false:=by rw[Bool.eq_false_iff];intro z;show hl (qEo z)
     rw[e]at q;show SeqAt.RcNeAt.lists_lengths i1.isList i2.isList aa F _ _ _ _ #[.bl _,H,I,O,q]
end
end L3
namespace L3
open PySem PySem.Spec PyProof.Rows L2
def CompEndF(js:List Nat)(tc:TT)(te:TE)(σ:L2.St)(Q:VK)(J:It)(H1:Hp):Prop:= ∃W:Nat->Nat->LV->Hp->Prop,(∃m,W 0 m [] H1)/\∀i m acc H2,W i m acc H2->
 acc.length<sizeLine/\((J.stop i H2/\∀D,H2 D=none->Q (.ref D) (upd H2 D<|.lst acc))\/
  (J.go i H2/\∀x H3,J.yld i H2 x H3->tc (some x::qDi js σ) H3 λok H4=>if ok=true then te (some x::qDi js σ) H4 λv H5=> ∃m',m'<m/\W (i+1) m' (acc++[v]) H5 else ∃m',m'<m/\W (i+1) m' acc H4))
def qYw(js:List Nat)(wi:TI)(tc:TT)(te:TE):TE:=λσ H Q=>wi σ H<|CompEndF js tc te σ Q
def CompEndF.g{js:List Nat}{tc:TT}{te:TE}(σ:L2.St)(Q:VK)(J:It)(H1:Hp):CompEndF js tc te σ Q J H1->qBx 1 js (qD5 0) tc te σ Q J H1:=λ#[W,w0,st]=>
 #[W,w0,λi m F H2 w=>#[(st i m F H2 w).1,(st i m F H2 w).2.imp id λ#[go,y]=>#[go,λx H3 z=>#[[some x],rfl,rfl,y x H3 z]]]]
def qHq{X:Cx}{aa J ac:Expr}{x:Str}{px:Pos}{F:Scope}{cl:List<|Str×Addr}{pos:Pos}{wi:TI}{tc:TT}{te:TE}(ys:LS)(js:List Nat)
 (ad:X.calm=true) (hi:PI X (.Name x px) J wi) (hc:∀C s H fp,PT (jt X F cl C (x::ys) s H fp).nox ac tc) (he:∀C s H fp,PE (jt X F cl C (x::ys) s H fp).nox aa te) (hx:F.names.lookup x=some .local:=by rfl) (hC:COk X F cl J [x] ys js:=by trivial):PE X (.ListComp aa [#[.Name x px,J,[ac],0]] F pos) (qYw js wi tc te):=
 qOc (xs:=[x]) (T:=CompEndF js tc te) ad hi (λ_ _ _ _=>jB (i:=0) hC.nd rfl (.inl<|lookup_relabel_local hx) (.inr<|lookup_relabel_local hx)) (λC s H fp=>qWw<|hc C s H fp) he hC CompEndF.g
def qHh{K:Fg}{a:Addr}{xs:LV}{js:List Nat}{tc:TT}{te:TE}{σ:L2.St}{H:Hp}{Q:VK}(J:Nat->LV->Hp->Prop)(h0:J 0 [] H)(hl:∀i F H,i<=xs.length->J i F H->SqL K H a xs/\F.length<sizeLine)
 (hs:∀i x F H,i<xs.length->xs[i]?=some x->J i F H->tc (some x::qDi js σ) H λok H'=>if ok=true then te (some x::qDi js σ) H' λv ac=>Nxt xs.length i (J (i+1) (F++[v]) ac)else Nxt xs.length i (J (i+1) F H')) (hd:∀F H,J xs.length F H->∀D,H D=none->Q (.ref D) (upd H D<|.lst F)):CompEndF js tc te σ Q (Itl K a) H:=by
 show#[λi m F H=>m=xs.length-i/\i<=xs.length/\J i F H,#[xs.length,#[],ZT _,h0],?_];rintro i m F H2 ⟨rfl,hi,p⟩;let#[q,hz]:=hl i F H2 hi p;show#[hz,?_];by_cases aa:i<xs.length
 . show .inr #[#[xs,xs[i],q,by simp[aa]],λx H3 y=>?_]
   let#[e,y]:=y;subst e;show hs i x F _ aa (y xs q) p
 . have e:i=xs.length:=()
   subst e;show .inl #[#[xs,q,YI _],hd F H2 p]
def qXl{X:Cx}{pins:LO}{σ:L2.St}{H:Hp}{s:Shared}{h':Heap}{t':Nat}{ch:List Addr}(I:Inv X pins σ H s)(hf:∀b∈ch,qT1 X pins H b)
 (k:∀b o,b∉ch->s.heap.get? b=some o->h'.get? b=some o):Inv X pins σ H {s with heap:=h',toks:=t'}:=by
 have J:∀b u,H b=some u->b∉ch:=λb u e z=>by rw[(hf b z).1]at e;cases e
 show I.step (g':=s.gens) (d':=s.drawn) (ch:=ch) (λb hb=>?_) (λb o _ _ F e _=>k b o F e) (λb o _ _ F e _=>#[o.slots,k b o F e]) (λ_ _ _ _ n=>n)
  (λb o F e=>#[o,k b o F e]) (λ_ _ e=>e) (λ_ _ _ e=>e) (λb ps e=>#[%[|0],by rw[e];simp]) (λm hm=>?_) (λb u e=>?_) I.bare
 . let#[_,f1,_,f3,f4,f5]:=hf b hb
   show#[f3,f1,f4,f5]
 . let#[o,es,ep,ho,r]:=hm
   show#[o,es,ep,k _ o (λz=>(hf _ z).2.1 rfl) ho,r]
 . show(I.hok b u e).stay (λc v F q=>k c v ?_ q) (λ_ q=>q) λ_ _ q=>q
   rcases F with z|z
   . rw[z];show J b u e
   . show J c _ z
def qYl{X:Cx}{pins:LO}{σ:L2.St}{H:Hp}{s:Shared}{h':Heap}{t':Nat}{ch:List Addr}{xs:LV}{us:Array Value}(I:Inv X pins σ H s)(hf:∀b∈ch,qT1 X pins H b)(J:∀b∈ch,b<s.heap.objs.size)
 (k:∀b o,b∉ch->s.heap.get? b=some o->h'.get? b=some o) (hT:h'.get? s.heap.objs.size=some {cls:=.type "tuple",data:=.seq us}) (r:Vals xs us.toList) (hz:xs.length<=sizeLine):
 Inv X pins σ (upd H s.heap.objs.size<|.tup xs) {s with heap:=h',toks:=t'}/\∀b∈ch,upd H s.heap.objs.size (.tup xs) b=none:=by
 have hn:∀b∈ch,upd H s.heap.objs.size (.tup xs) b=none:=λb F=>by rw[qS (Yo<|J b F)];show(hf b F).1
 have I1:Inv X pins σ (upd H s.heap.objs.size<|.tup xs) {s with heap:=s.heap.push {cls:=.type "tuple",data:=.seq us},toks:=t'}:=
  I.laid (t':=t') (λb o e=>YM _ e) (YI _) #[hz,us.toList,r,#[_,Yn _ rfl,rfl,_,rfl]]
 have I2:=qXl (h':=h') (t':=t') (ch:=ch) I1 (λb F=>#[hn b F,(hf b F).2]) (λb o F e=>?_)
 . show#[I2,hn]
 rcases Heap.get?_push_cases e with ⟨e1,e2⟩|e1
 . rw[e1,e2];show hT
 . show k b o F e1
def Ite(K:Fg)(a:Addr):It:=
 #[λi H=> ∃xs x,SqL K H a xs/\xs[i]?=some x,λi H x H'=> ∃p v,H p=none/\x=.ref p/\(∀xs,SqL K H a xs->xs[i]?=some v)/\H'=upd H p (.tup [.int i,v]),λi H=> ∃xs,SqL K H a xs/\xs.length<=i]
def qSt{P:Program}{w:World}{K:Fg}{ae:List Expr}{k1:Nat}{pos:Pos}(a e it:Addr)(hne:e≠it):
 qYc P w K (.Tuple ae k1 pos) (Ite K a) [e,it] e (λi h=>(∃F,IsEnum h e it (i:Nat) F)/\h.IsListIter it a i) where
 mem:=#[]
 obj:=λi h st b hb=>by
  let#[#[F,he],o,ho,c,d]:=st;rcases YU.mp hb with rfl|hb
  . show#[_,he,λv z=>by cases z]
  . have e:b=it:= ~~~hb
    subst e;show#[o,ho,λv z=>by rw[d]at z;cases z]
 keep:=λi h h' st k=>by let#[#[F,he],hi]:=st;show#[#[F,k e #[] _ he],hi.at λo q=>k it #[] o q]
 item:=by
  intro X hP hw hK hc i pins s σ H E I hf st hg;subst hP hw hK;let#[#[F,he],aa]:=st;let#[xs,x,hq,hx]:=hg;let#[ai,rv,p,hz]:=I.list hq;let#[u,hu,ru]:=rv.get hx;show wpAny_pyNext_enum_item he aa p.isList (x:=u) ( ~~~hu) hne λh' aj ad hT ak hk=>?_;show#[_,O,wpAny_letOwnedTupleGo_enum aj λah ac J=>?_];have af:e<s.heap.objs.size:=YV he;have ag:it<s.heap.objs.size:=by let#[_,q,_]:=aa;show YV q
  have T:=qYl (h':=ah) (t':=s.toks+1) (ch:=[e,it]) (xs:=[.int i,x]) (us:= %[.int i s.toks,u|0]) I hf (λb hb=>by
   rcases YU.mp hb with rfl|hb
   . show af
   . have z:b=it:= ~~~hb
     subst z;show ag)
   (λb o hb q=>(J.2 b (λz=>hb (by simp[z]))).trans (hk b o (λz=>hb (by simp[z])) (λz=>hb (by simp[z])) q))
   ((J.2 _<|Nat.ne_of_gt af).trans hT) (.cons #[_,rfl]<|.cons ru .nil) (by change 2<=sizeLine;decide)
  show#[.ref s.heap.objs.size,_,T.1,O,#[_,x,I.hok.fresh<|YI _,O,λys hy=>by rw[I.list_inj hy hq];show hx,O],#[#[u, ~~~ac],ad.at λo q=>(J.2 it hne.symm).trans q],T.2]
 done:=by intro X hP hw hK hc i pins s σ H E I hf st hg;subst hP hw hK;let#[#[F,he],aa]:=st;let#[xs,hq,hx]:=hg;let#[ai,rv,p,hz]:=I.list hq;let#[f0,f1,f2,f3,f4,f5]:=hf it #[];have hl:=rv.length;show wpAny_pyNext_enum_end (I.ok.hd hc) he aa p.isList (by simp;lia) λh' eb=>#[O,I.turned (t':=s.toks) (λb o hb e=>eb b o hb e) f0 f1 f3 f4 f5]
 self:=λ_ _ _ _ _ st h=>by let#[#[F,he],_]:=st;show wpAny_pyIter_enum he h
inductive qY8(K:Fg)(R:It->Hp->Prop)(vs:LV)(H1:Hp):Prop
|mk a (_:vs=[.ref a]) (_:(∃xs,SqL K H1 a xs)) (_:R (Ite K a) H1)
def jAz(K:Fg)(t:TA):TI:=λσ H R=>t σ H λvs H1=>qY8 K R vs H1
def qXu{X:Cx}{l:Expr}{tl:TA}{J:List Expr}{k1:Nat}{tpos p pos:Pos}(hg:Gl X "enumerate")(hm:X.mg "enumerate"=none)(hl:PA X [l] tl)(hs:starEach [l] X.env=[(false,eval l X.env)]:=by rfl):
 PI X (.Tuple J k1 tpos) (.Call (.Name "enumerate" p) [l] [] pos) (jAz X.K tl):=by
 intro pins s σ H R I h;show Call_ (qDe I hg hm boot_enumerate (PyProof.Rows.callWith_type1 (tW (hl pos pins s σ H _ I h) λus s1 vs H1 F r1 q1=>?_) hs rfl));let#[a,e,#[xs,hq],q]:=q1;subst e;cases r1 with
 |cons r rr=>
  cases rr;cases r;let#[ad,rv,pl,hz]:=F.list hq;show call_enumerate_list pl.isList λh' he aa ac hk=>?_;show wpAny_pyIter_enum he ?_;show#[s1.heap.objs.size+1,[s1.heap.objs.size+1,s1.heap.objs.size],_,_,H1,O,F.kept (t':=s1.toks) λb o e=>hk b o e,qSt a _ _<|Nat.succ_ne_self _,#[#[_,he],aa],λb hb=>?_,q];rcases YU.mp hb with rfl|hb
  . show F.fpOk (Nat.le_succ _) (F.hok.fresh<|Nat.le_succ _)
  . have e:b=s1.heap.objs.size:= ~~~hb
    subst e;show F.fpOk (YI _) (F.hok.fresh<|YI _)
def qVl{K:Fg}{a:Addr}{xs:LV}{g:TG}{tb:TS}{D:qPt}{σ:L2.St}{H:Hp}(F:Nat->L2.St->Hp->Prop)(h0:F 0 σ H)(hl:∀i σ H,i<=xs.length->F i σ H->SqL K H a xs)
 (hs:∀i x σ H p,xs[i]?=some x->F i σ H->H p=none->g (.ref p) σ (upd H p<|.tup [.int i,x]) λJ H2=>tb {D with nx:=F<|i+1,ct:=F<|i+1,bk:=D.nx} J H2) (hd:∀σ H,F xs.length σ H->D.nx σ H):
 ∃W:Nat->Nat->L2.St->Hp->Prop,(∃m,W 0 m σ H)/\∀i m σ H,W i m σ H->
  ((Ite K a).stop i H/\D.nx σ H)\/((Ite K a).go i H/\∃N:L2.St->Hp->Prop,(∀σ' H',N σ' H'->∃m',m'<m/\W (i+1) m' σ' H')/\∀x H',(Ite K a).yld i H x H'->g x σ H' λJ H2=>tb {D with nx:=N,ct:=N,bk:=D.nx} J H2):=by
 show#[λi m σ H=>m=xs.length-i/\i<=xs.length/\F i σ H,#[xs.length,#[],ZT _,h0],?_];rintro i m σ H ⟨rfl,hi,p⟩;have q:=hl i σ H hi p;by_cases aa:i<xs.length
 . show .inr #[#[xs,xs[i],q,by simp[aa]],F<|i+1,λσ' H' p'=>#[xs.length-(i+1),(),O,aa,p'],λx H' y=>?_]
   let#[z,v,hz,rfl,y,rfl]:=y;show hs i v σ _ z (y xs q) p hz
 . have e:i=xs.length:=()
   subst e;show .inl #[#[xs,q,YI _],hd σ H p]
theorem qS2:∀{ns:LN} {us:LW},Vals (ns.map V.int) us->∃xs:List<|Int×Tok,us.toArray=intItems xs.toArray/\xs.map (·.1)=ns
 |[],us,r=>by cases r;show#[[],by simp[intItems],rfl]
 |n::ns,us,r=>by
  rw[ZH]at r;cases r with
  |cons h t=>
   let#[xs,J,e2]:=qS2 t;let#[tk,rfl]:=h;show#[(n,tk)::xs,?_,by rw[ZH,e2]];have F:=XF Array.toList J;simp only[intItems,List.map_toArray]at F⊢;rw[F];rfl
def qRy{X:Cx}(hc:X.calm=true):vM X (.builtin "sum") (λxs H Q=> ∃(p:Addr) (ns:LN),xs=[.ref p]/\SqL X.K H p (ns.map V.int)/\Q (.int ns.sum) H):=by
 intro pins s σ H xs us Q I r h;let#[p,ns,rfl,hq,q]:=h;let#[u,rfl,J]:=qFw r;cases J;let#[aa,rv,pl,hz]:=I.list hq;let#[ys,e1,e2]:=qS2 rv;have F:=pl.isList;rw[e1]at F;show sum_intListG (I.ok.hd hc) F λh' tk t' hk=>?_;rw[preSum_eq,List.take_of_length_le #[]];have e3:ys.toArray.toList.map (·.1)=ns:= ~~~e2
 rw[e3];show#[.int ns.sum,H,I.kept λb o e=>hk b o e,#[_,O],q]
def jCb(t:TT):TT:=λσ H Q=> ∃R:Bool->Hp->Prop,t σ H R/\∀b H',R b H'->Q b H'
def qZg{X:Cx}{e:Expr}{t:TT}(h:PT X e t):PT X e (jCb t):=by rintro pins s σ H Q I ⟨R,F,hR⟩;show thn (h pins s σ H R I F) λb s' #[H',J,r]=>#[H',J,hR b H' r]
def ka{X:Cx}{K:Fg}(h:X.K=K):vM X (.type "list") (λxs H Q=> ∃p ys,xs=[.ref p]/\(SqL K H p ys\/SqT K H p ys)/\∀l,H l=none->Q (.ref l) (upd H l<|.lst ys)):=h ▸ xI
def qUa{K:Fg}{a:Addr}{xs:LV}{js:List Nat}{te:TE}{σ:L2.St}{H:Hp}{Q:VK}(J:Nat->LV->Hp->Prop)(h0:J 0 [] H)(hl:∀i F H,i<=xs.length->J i F H->SqT K H a xs/\F.length<sizeLine)
 (hs:∀i x F H,i<xs.length->xs[i]?=some x->J i F H->te (some x::qDi js σ) H λv H'=>Nxt xs.length i<|J (i+1) (F++[v]) H') (hd:∀F H,J xs.length F H->∀D,H D=none->Q (.ref D) (upd H D<|.lst F)):CompEnd js te σ Q (Itt K a) H:=by
 show#[λi m F H=>m=xs.length-i/\i<=xs.length/\J i F H,#[xs.length,#[],ZT _,h0],?_];rintro i m F H2 ⟨rfl,hi,p⟩;let#[q,hz]:=hl i F H2 hi p;show#[hz,?_];by_cases aa:i<xs.length
 . show .inr #[#[xs,xs[i],q,by simp[aa]],λx H3 y=>?_]
   let#[e,y]:=y;subst e;show hs i x F _ aa (y xs q) p
 . have e:i=xs.length:=()
   subst e;show .inl #[#[xs,q,YI _],hd F H2 p]
def qXk{xs:LV}{us:LW}(F:xs.length=us.length)(h:∀(j:Nat) (x:V) (u:Value),xs[j]?=some x->us[j]?=some u->RelV x u):Vals xs us:=by
 induction xs generalizing us with
 |nil=>
  cases us with
  |nil=>show .nil
  |cons _ _=>simp at F
 |cons x xs ih=>
  cases us with
  |nil=>simp at F
  |cons u us=>show .cons (h 0 x u rfl rfl) (ih ( ~~~F) λj y v J e2=>h (j+1) y v ( ~~~J)<| ~~~e2)
def qS4{K:Fg}{a:Addr}{xs:LV}{js:List Nat}{tc:TT}{te:TE}{σ:L2.St}{H:Hp}{Q:VK}(J:Nat->LV->Hp->Prop)(h0:J 0 [] H)(hl:∀i F H,i<=xs.length->J i F H->SqT K H a xs/\F.length<sizeLine)
 (hs:∀i x F H,i<xs.length->xs[i]?=some x->J i F H->tc (some x::qDi js σ) H λok H'=>if ok=true then te (some x::qDi js σ) H' λv ac=>Nxt xs.length i (J (i+1) (F++[v]) ac)else Nxt xs.length i (J (i+1) F H')) (hd:∀F H,J xs.length F H->∀D,H D=none->Q (.ref D) (upd H D<|.lst F)):CompEndF js tc te σ Q (Itt K a) H:=by
 show#[λi m F H=>m=xs.length-i/\i<=xs.length/\J i F H,#[xs.length,#[],ZT _,h0],?_];rintro i m F H2 ⟨rfl,hi,p⟩;let#[q,hz]:=hl i F H2 hi p;show#[hz,?_];by_cases aa:i<xs.length
 . show .inr #[#[xs,xs[i],q,by simp[aa]],λx H3 y=>?_]
   let#[e,y]:=y;subst e;show hs i x F _ aa (y xs q) p
 . have e:i=xs.length:=()
   subst e;show .inl #[#[xs,q,YI _],hd F H2 p]
variable{X:Cx}
end L3
namespace L3
open PySem PySem.Spec PyProof.Rows L2 PySem.NumText PySem.Builtin.Str
def XES(X:Cx)(Ex:Value->Option Addr->L2.St->Hp->Prop):Ba:=λe s'=> ∃ea C σ H',e=.ref ea/\Inv X [] σ H' s'/\qUj X.s₀.heap H' X.pn s'.heap ea C/\Ex C.1 C.2 σ H'
def qZd(sp:Sp)(Ex:Value->Option Addr->L2.St->Hp->Prop)(t:TA):TE:=λσ H Q=>t σ H λvs H1=>sp (vs++[]) H1 Q λC od H'=>Ex C od σ H'
def qR1{X:Cx}{Ex:Value->Option Addr->L2.St->Hp->Prop}(aa:X.ex=[]){pins:LO}{σ:L2.St}{H:Hp}{s:Shared}{e:Value}{s':Shared}(I:Inv (X.wish<|XES X Ex) pins σ H s)
 (h:CXR X.prog X.w X.stack H s (λC od H'=>Ex C od σ H') e s'):XES X Ex e s':=by
 let#[ea,C,H',rfl,os,F,un,ac,#[n1,hd,r,n3],q]:=h;have I0:=I.unwish;have I1:Inv X pins σ H' s':=I0.call' (ch:=[]) os un ac F λb z=>nomatch z
 have J:∀b,s.heap.get? b=none->X.s₀.heap.get? b=none:=λb z=>by
  cases w:X.s₀.heap.get? b with
  |none=>rfl
  |some o=>
   let#[o',w']:=I0.base.there b o w (by rw[aa];intro y;cases y);rw[z]at w';cases w'
 have pn:∀b,s.heap.get? b=none->∀p∈X.pn,p.1≠b:=λb z p hp w=>by have q:=(I0.pin p<|Yq _ hp).1;rw[w,z]at q;cases q
 show#[ea,C,σ,H',O,I1.pins_of (pins':=[]) λp hp=>(nomatch hp),#[#[J _ n1.1,n1.2.1,pn _ n1.1],hd,r,λT e=>#[J _ (n3 T e).1,(n3 T e).2.1,pn _ (n3 T e).1]],q]
def qUw{X:Cx}{Ex:Value->Option Addr->L2.St->Hp->Prop}{k j:Nat}{x:Str}{st:Stmt}{ps:LS}{f:Addr}{fd:FD}{sp:Sp}{e:Expr}{es:List Expr}{t:TA}{p pos:Pos}(D:Def X.K X.mg x st ps f fd)(F:FnOk X.prog X.w X.K X.mg X.base (CXR X.prog X.w) j f fd ps sp)(hr:Room k X.A)(hg:Gl X x)
 (ha:PA (X.wish<|XES X Ex) (e::es) t) (hj:j<=k:=by decide) (ad:X.ex=[]:=by rfl)
 (ac:(x==("__debug__":Str))=false:=by decide) (he:starEach (e::es) X.env=(false,eval e X.env)::starEach es X.env:=by rfl) (aa:(backTo pos<|starEach es X.env).any (·.1)=false:=by rfl):
 PE (X.wish<|XES X Ex) (.Call (.Name x p) (e::es) [] pos) (qZd sp Ex t):=by
 ext;show wpAny_Call_Name_kw<|vp I hg D.m ?_ ac;show W.callWith_K (h₀:=X.base) I.ok.mod.kin D.F.kp (tW (ha pos pins s σ H _ I h) λus s1 vs H1 J r q=>#[J.kIn,?_]) he aa;have r2:Vals (vs++[]) (us++[]):=r.append .nil;have hl:(us++[]).length=ps.length:=by rw[<-r2.length];show F.len _ _ _ _ q
 show wpAny_call (codeAny_mono (F.run X.A X.stack s1 H1 #[us,[]] (us++[]) (vs++[]) Q _ (hr.mono hj) J.env0 (D.b s1 us J.kIn hl) r2 q) λr s' hq=>?_);cases r with
 |error e=>show qR1 ad J hq
 |ok fl=>
  cases fl with
  |ret u=>show J.after hq
  |next=>show XD hq
  |brk=>show XD hq
  |cont=>show XD hq
def jBb(K:Fg)(Ex:Value->Option Addr->L2.St->Hp->Prop)(C:Addr)(i:Option Nat)(tb ts:TS):TS:=λD σ H=>tb D σ H/\∀(ea:Addr) (B:EC) (σ':L2.St) (H':Hp),Ex B.1 B.2 σ' H'->H' ea=none->σ'.length=σ.length->
 W.exmOne K B.1 (.ref C)=some true/\ts (qXr D i) (jBh i ea σ') (upd H' ea<|qE6 ea B)
def qNk{X:Cx}{ah:List Stmt}{ae:Stmt}{ac:List Stmt}{x:Str}{C:Addr}{nm:Option Str}{i:Option Nat}{np an pos:Pos}{tb ts:TS}(Ex:Value->Option Addr->L2.St->Hp->Prop)
 (ap:qRr X nm i) (hN:X.N.Nodup) (hg:Gl X x) (hm:X.mg x=some (.ref C))
 (hb:∀l,PSs ((pnX X l).wish<|XES (pnX X l) Ex) ah tb) (hs:∀l ea,PSs (hdX (pnX X l) ea).nox (ae::ac) ts)
 (af:X.stack=X.env::X.outer:=by rfl) (ao:X.env.frame=some X.env.locals:=by rfl) (ad:X.ex=[]:=by rfl) (aq:(x==("__debug__":Str))=false:=by decide):
 PS X (.Try ah [.ExceptHandler (some<|.Name x np) nm (ae::ac) an] [] [] pos) (jBb X.K Ex C i tb ts):=by
 rintro pins s σ H D I ⟨h1,h2⟩;have I0:=qYi I;show wpAny_Try_except (YL (hb (X.pn++pins) [] s σ H D (I0.wish _) h1) (λf s1 q=>?_) λe s1 q=>?_)
 . have q:=q.unwish
   cases f with
   |next=>
    let#[σ',H',J,z]:=q;show wpAny_execs_nil #[σ',H',qDy J,z]
   |brk=>
    let#[σ',H',J,z]:=q;show#[σ',H',qDy J,z]
   |cont=>
    let#[σ',H',J,z]:=q;show#[σ',H',qDy J,z]
   |ret u=>
    let#[v,σ',H',J,r,z]:=q;show#[v,σ',H',qDy J,r,z]
 . let#[ea,B,σ',H',rfl,I1,#[n1,hd,r,n3],ex]:=q
   have al:σ'.length=σ.length:=I1.len.trans I.len.symm;let#[hx,ht]:=h2 ea B σ' H' ex n1.2.1 al;have fr:X.A.frames=some (X.env::X.outer):=by rw[<-af];show I.ok.frames
   have ff:s1.heap.FunFrames X.base (X.env::X.outer):=by have z:=I1.stack;rw[show (pnX X<|X.pn++pins).stack=X.env::X.outer from af]at z;show z
   show qS6 fr ff ao r λh' N'=>?_;have N':Noted (frs X.stack) ea hd B s1.heap h':=by rw[af];show N'
   let#[I2,n1,ai,r2,n3]:=wY I1 ad r n1 n3 N';show wpAny_handleBy_cons (codeAny_handlers_test<|vp (X:=hdX (pnX X<|X.pn++pins) ea) (qOf I2) hg hm ?_ aq) (by intro z;cases z);have LT:W.Looks (model X.prog X.w) h' (typeOf<|.ref ea) B.1:=by let#[vs,sl,qe,_]:=r2;show(W.Looks.ld qe).andThen .now
   show(W.exm_one (M:=model X.prog X.w) I2.kIn LT hx).here ?_;change codeAny _ _ _ _ _;let#[T,rfl,r3]:∃T,ai=some T/\vj h' ea B (some T):=by
    let#[T,_,_]:=N'.ent;cases ai with
    |some T=>show#[T,rfl,r2]
    |none=>
     let#[T,_,rT]:=N'.ent;let#[vs,sl,q1,q2]:=r2;let#[au,as,aj,ak,_]:=rT;rw[q1]at aj;cases aj;rw[q2]at ak;cases ak
   have am:∀(s4:Shared) (ag:L2.St) (Q:Flow->Shared->Prop) (E:Ba),Inv (hdX (pnX X<|X.pn++pins) ea) [] ag (upd H' ea<|qE6 ea B) s4->ts (qXr D i) ag (upd H' ea<|qE6 ea B)->
    (∀f s5,SP (hdX (pnX X<|X.pn++pins) ea) [] (qXr D i) f s5->Q f s5)->wpAny (model X.prog X.w) (X.A.mark (some<|.ref ea)) (execs (ae::ac) X.env) Q E s4:=λs4 ag Q E I4 z k=>
    YL (hs (X.pn++pins) ea [] s4 ag _ _ (I4.wish _) z) (λf s5 q=>k f s5 q.unwish) λ_ _ z=>z.elim
   have aa:(pnX X<|X.pn++pins).calm=true->(pnX X<|X.pn++pins).A.handled=none:=I2.ok.hd;cases ap with
   |none=>
    show codeAny_handlers_suite (qE5 r3 λh3 N3=>?_);let#[I3,n1,ar,r4,n3]:=wY I2 ad r3 n1 n3<|N3 _;show am _ _ _ _ (qOf<|qKd I3 ad n1 r4) ht λf s5 q=>?_;cases f with
    |next=>let#[F,H5,J,z]:=q;show#[F,H5,qDy<|qMh J aa,z]
    |brk=>let#[F,H5,J,z]:=q;show#[F,H5,qDy<|qMh J aa,z]
    |cont=>let#[F,H5,J,z]:=q;show#[F,H5,qDy<|qMh J aa,z]
    |ret u=>let#[v,F,H5,J,rv,z]:=q;show#[v,F,H5,qDy<|qMh J aa,rv,z]
   |some hi hl=>
    show codeAny_handlers_suite_as (qE5 r3 λh3 N3=>?_);let#[I3,n1,ar,r4,n3]:=wY I2 ad r3 n1 n3<|N3 _;show qEk (X:=hdX (pnX X<|X.pn++pins) ea) (v:=.ref ea) (qOf<|qKd I3 ad n1 r4) hN hi (.inl hl) rfl (λs4 I4=>?_)<|.inr hl;show am _ _ _ _ I4 ht λf s5 q=>?_;cases f with
    |next=>let#[F,H5,J,z]:=q;show qBz (X:=pnX X<|X.pn++pins) (qMh J aa) hN hi hl λs6 J6=>#[_,H5,qDy J6,z]
    |brk=>let#[F,H5,J,z]:=q;show qBz (X:=pnX X<|X.pn++pins) (qMh J aa) hN hi hl λs6 J6=>#[_,H5,qDy J6,z]
    |cont=>let#[F,H5,J,z]:=q;show qBz (X:=pnX X<|X.pn++pins) (qMh J aa) hN hi hl λs6 J6=>#[_,H5,qDy J6,z]
    |ret u=>let#[v,F,H5,J,rv,z]:=q;show qBz (X:=pnX X<|X.pn++pins) (qMh J aa) hN hi hl λs6 J6=>#[v,_,H5,qDy J6,rv,z]
section
variable{X:Cx}
def qJ{a:Expr}{ta:TE}{i:Int}{j}{p pos:Pos}(F:PE X a ta):PE X (.Subscript a (.Constant (.int i) j p) pos) (tOp (qYd X.K) ta (tC<|.int i)):=jI qHk F qH (λ_ _=>rfl)
def qc(i:Nat){x:Str}{e:Expr}{te:TE}{pos pos':Pos}(hN:X.N.Nodup)(J:PE X e te)(hi:X.N[i]?=some x:=by rfl)(hx:Loc X.env.scope x:=by trivial)(F:swapsWith e (some<|.Name x pos') pos.line X.env=pure false:=by rfl)(hf:X.fn x=true\/X.env.scope.names.lookup x=some .local:=by trivial):
 PS X (.Assign [.Name x pos'] e pos) (qZo te<|qD5 i):=qSr hN hi hx J F hf
end
end L3
namespace L3
open PySem PySem.Spec PyProof.Rows L2
def g5(K:Fg):TG:=jBn K 5<|qQt (qD5 0) (qQt (qD5 1)<|qQt (qD5 2) (qQt (qD5 3)<|qQt (qD5 4) jBq))
variable{X:Cx}
end L3
namespace L3
open PySem PySem.Spec PyProof.Rows L2
variable{X:Cx}
def qP6:vM X (.type "dict") (λxs H Q=> ∃(a:Addr) (kvs:List<|Key×V),xs=[.ref a]/\Rd H a (.dK kvs)/\∀p,H p=none->Q (.ref p) (upd H p<|.dK kvs)):=by intro pins s σ H xs us Q I r h;let#[a,kvs,rfl,e,q]:=h;let#[u,rfl,F]:=qFw r;cases F;show qO4 I e λp s' hp J=>#[.ref p,_,J,O,q p hp]
end L3
namespace WS
open PySem PySem.Spec PyProof.Rows
section
variable{prog:Program}{w:World}{A:Around}{E:Ba}{s:Shared}
section
variable{I S:Addr}{k i j ep:Nat}{os:Obj}{es:Array (Int×Value)}{t:SetTable}{x:Value}{Q:Option Value->Shared->Prop}(hS:s.heap.get? S=some os)(hd:os.data=.set es ep t)(hf:t.fits es.size=true)
include hS hd hf
end
end
section
variable{prog:Program}{w:World}{A:Around}{E:Ba}{s:Shared}
section
variable{S:Addr}{k i ep:Nat}{os:Obj}{es:Array (Int×Value)}{t:SetTable}(hS:s.heap.get? S=some os)(hd:os.data=.set es ep t)(hf:t.fits es.size=true)
include hS hd hf
end
section
variable{I S:Addr}{ep:Nat}{es:Array (Int×Value)}{t:SetTable}(hf:t.fits es.size=true)(hne:S≠I)(hh:A.handled=none)
include hf hne hh
end
end
end WS
set_option linter.all false
namespace L3
open PySem PySem.Spec PyProof.Rows L2
structure MD(K:Fg)(C:Addr)(m q:Str)(st:Stmt)(ps:LS)(f:Addr)(fd:FD):Prop where
 F:Fun K m q st f fd
 b:Binds K fd ps []
 t:qZs K C m f
section
variable{X:Cx}{k j:Nat}{C:Addr}{m q:Str}{st:Stmt}{ps:LS}{f:Addr}{fd:FD}{sp:Sp}{o e:Expr}{es:List Expr}{ta:TE}{t:TA}{apos pos:Pos}{pl:Sem Bool}
def qCc(J:PE X o ta)(c:Cls X.K C)(D:MD X.K C m q st ps f fd)(F:FnOk X.prog X.w X.K X.mg X.base CX0 j f fd ps sp)(hr:Room k X.A)(hj:j<=k:=by decide)
 (ht:eval (.Call (.Attribute o m apos) [] [] pos) X.env=(do
   let ov<-eval o X.env
   standAt apos.atName
   let (f,first)<-holding [ov] (getMethod ov m pl)
   callWith pos f first (backTo pos<|starEach [] X.env) (backToKw pos<|keywordEach [] X.env)):=by rfl):
 PE X (.Call (.Attribute o m apos) [] [] pos) (qU6 C m sp [] E0 ta qYb):=qTy J c D.t F (hr.mono hj) D.b .nil qXz ht
def qV1{J:Value->Option Addr->Hp->Prop}(ho:PE (X.wish<|XE X J) o ta)(c:Cls X.K C)(D:MD X.K C m q st ps f fd)(F:FnOk X.prog X.w X.K X.mg X.base (CXR X.prog X.w) j f fd ps sp)(hr:Room k X.A)(ha:PA (X.wish<|XE X J) (e::es) t)(hj:j<=k:=by decide)(ac:X.ex=[]:=by rfl)
 (ad:starEach (e::es) X.env=(false,eval e X.env)::starEach es X.env:=by rfl) (aa:(backTo pos<|starEach es X.env).any (·.1)=false:=by rfl)
 (ht:eval (.Call (.Attribute o m apos) (e::es) [] pos) X.env=(do
   let ov<-eval o X.env
   standAt apos.atName
   let (f,first)<-holding [ov] (getMethod ov m pl)
   callWith pos f first (backTo pos<|starEach (e::es) X.env) (backToKw pos<|keywordEach [] X.env)):=by rfl):
 PE (X.wish<|XE X J) (.Call (.Attribute o m apos) (e::es) [] pos) (qU6 C m sp [] J ta t):=
 qWv (X:=X.wish<|XE X J) (CX:=CXR X.prog X.w) ho c D.t F (hr.mono hj) D.b .nil (qYn ac) ha ad aa ht
def jAo{x:Str}{p:Pos}(M:Mk X.K C f)(F:FnOk X.prog X.w X.K X.mg X.base CX0 j f fd ps sp)(hr:Room k X.A)(hg:Gl X x)(hm:X.mg x=some (.ref C))(hb:Binds X.K fd ps [])(ha:PA X (e::es) t)(hj:j+1<=k:=by decide)
 (aa:(x==("__debug__":Str))=false:=by decide) (he:starEach (e::es) X.env=(false,eval e X.env)::starEach es X.env:=by rfl) (J:(backTo pos<|starEach es X.env).any (·.1)=false:=by rfl):
 PE X (.Call (.Name x p) (e::es) [] pos) (qYz C sp [] E0 t):=qXf M F (hr.mono hj) hg hm hb .nil qXz ha aa he J
end
end L3
set_option linter.all false
set_option linter.all false
set_option linter.all false
set_option linter.all false
namespace L3
open PySem PySem.Spec PyProof.Rows L2
def qWh(C:Addr)(m:Str)(sp:Sp)(Ex:Value->Option Addr->L2.St->Hp->Prop)(ta:TE)(t:TA):TE:=λσ H Q=>ta σ H λx H1=> ∃a dx fs,x=.ref a/\H1 a=some (.ins C dx fs)/\fs.lookup m=none/\t σ H1 λvs H2=>sp (x::(vs++[])) H2 Q λC od H'=>Ex C od σ H'
def qWi{X:Cx}{pl:Sem Bool}{C:Addr}{k j:Nat}{m q:Str}{st:Stmt}{o e:Expr}{es:List Expr}{ta:TE}{t:TA}{apos pos:PySem.Pos}{f:Addr}{fd:FD}{ps:LS}{sp:Sp}{Ex:Value->Option Addr->L2.St->Hp->Prop}(ho:PE (X.wish<|XES X Ex) o ta)(c:Cls X.K C)(D:MD X.K C m q st ps f fd)(F:FnOk X.prog X.w X.K X.mg X.base (CXR X.prog X.w) j f fd ps sp)(hr:Room k X.A)(ha:PA (X.wish<|XES X Ex) (e::es) t)(hj:j<=k:=by decide)(ac:X.ex=[]:=by rfl)
 (ad:starEach (e::es) X.env=(false,eval e X.env)::starEach es X.env:=by rfl) (aa:(backTo pos<|starEach es X.env).any (·.1)=false:=by rfl)
 (ht:eval (.Call (.Attribute o m apos) (e::es) [] pos) X.env=(do
   let ov<-eval o X.env
   standAt apos.atName
   let (f,first)<-holding [ov] (getMethod ov m pl)
   callWith pos f first (backTo pos<|starEach (e::es) X.env) (backToKw pos<|keywordEach [] X.env)):=by rfl):
 PE (X.wish<|XES X Ex) (.Call (.Attribute o m apos) (e::es) [] pos) (qWh C m sp Ex ta t):=by
 ext;show W.methodCall_KW (pl:=pl) (tW (ho pins s σ H _ I h) λu s1 x H1 I1 rx zZ0=>?_) ht;let#[b,dx,fs,ex,ea,l,q]:=zZ0;subst ex;obtain rfl:u=Value.ref b:=rx;show wj I1 ea c D.t l ?_;show W.callWith_K (first:=[.ref b]) (h₀:=X.base) I.ok.mod.kin D.t.kp (tW (ha pos pins s1 σ H1 _ I1 q) λus s2 vs H2 I2 r q2=>#[I2.kIn,?_]) ad aa;have r2:Vals (V.ref b::(vs++[])) (Value.ref b::(us++[])):=.cons rfl<|r.append .nil;have hl:(Value.ref b::(us++[])).length=ps.length:=by rw[<-r2.length];show F.len _ _ _ _ q2
 show wpAny_call (codeAny_mono (F.run X.A X.stack s2 H2 #[.ref b::us,[]] (.ref b::us++[]) (.ref b::vs++[]) Q _ (hr.mono hj) I2.env0 (D.b s2 (.ref b::us) I2.kIn hl) r2 q2) λr s' J=>?_);cases r with
 |error e=>show qR1 ac I2 J
 |ok fl=>
  cases fl with
  |ret u=>show I2.after J
  |next=>show XD J
  |brk=>show XD J
  |cont=>show XD J
end L3
set_option linter.all false
set_option linter.all false
namespace L3
open PySem PySem.Spec PyProof.Rows L2
section
variable{X:Cx}{pins pins':LO}{σ σ':L2.St}{H H1:Hp}{s s1:Shared}{d:Addr}{xs ys:LV}{o:Obj}
def qWo(I:Inv X pins σ H s)(e:H d=some (.lst xs))(ho:s.heap.get? d=some o):Inv X pins σ (upd H d (.frz o<|.lst xs)) s:=by
 have F:∀b u,H b=some u->u≠ .lst xs->upd H d (.frz o<|.lst xs) b=some u:=λb u h hu=>by rw[qS (λz=>by subst z;rw[e]at h;show hu (Yb h).symm)];show h
 show I.step (g':=s.gens) (d':=s.drawn) (t':=s.toks) (h':=s.heap) (ch:=[]) (λ_ z=>nomatch z) (λb o _ _ _ h _=>h) (λb o _ _ _ h _=>#[o.slots,h]) (λb ob _ h n=>?_) (λb o _ h=>#[o,h]) (λb xs h=>F b _ h (by intro z;cases z)) (λb ob u h=>F b _ h (by intro z;cases z)) (λb ps h=>#[%[|0],by rw[F b _ h (by intro z;cases z)];simp]) (λm hm=>hm) (λb u h=>?_) I.bare
 . rw[qS (λz=>by subst z;rw[e]at n;cases n)];show n
 . by_cases J:b=d
   . subst J
     rw[qC]at h;cases h;show#[ho,I.hok _ _ e]
   . rw[qS J]at h
     show(I.hok b u h).stay (λc v _ q=>q) (λc q=>F c _ q (by intro z;cases z)) λc xs q=>F c _ q (by intro z;cases z)
def jAs(I0:Inv X pins' σ' H s)(e0:H d=some (.lst ys))(I:Inv X pins σ H1 s1)(e:H1 d=some (.frz o<|.lst xs)):Inv X pins σ (upd H1 d<|.lst xs) s1:=by
 have n0:∀o u,X.H₀ d≠some (.frz o u):=λo u z=>by have:=I0.base.frzs d o u z;rw[e0]at this;cases this
 have F:∀b,H1 b=none->upd H1 d (.lst xs) b=none:=λb h=>by rw[qS (λz=>by subst z;rw[e]at h;cases h)];show h
 have J:∀b u,H1 b=some u->u≠ .frz o (.lst xs)->upd H1 d (.lst xs) b=some u:=λb u h hu=>by rw[qS (λz=>by subst z;rw[e]at h;show hu (Yb h).symm)];show h
 show#[I.ok,I.os,I.bare,#[I.base.keep,I.base.slot,λb ob h n hx=>F b<|I.base.free b ob h n hx,I.base.there,λb xs h=>J b _ (I.base.tups b xs h) (by intro z;cases z),λb ob u h=>?_,λb ps h=>let #[more,q]:=I.base.tbls b ps h;#[more,J b _ q (by intro z;cases z)]],I.loc,I.cell,F _ I.free,λx c h=>F _<|I.freeC x c h,λp hp=>let #[h1,h2,h3]:=I.pin p hp;#[h1,F _ h2,h3],λb u h=>?_,I.len]
 . rw[qS (λhb=>by subst hb;show n0 ob u h)]
   show I.base.frzs b ob u h
 . have st:∀{b u},ObjOk X.prog X.w H1 s1.heap b u->ObjOk X.prog X.w (upd H1 d<|.lst xs) s1.heap b u:=λh=>h.stay (λc v _ q=>q) (λc q=>J c _ q (by intro z;cases z)) λc xs q=>J c _ q (by intro z;cases z)
   by_cases hb:b=d
   . subst hb
     rw[qC]at h;cases h;show st (show s1.heap.get? b=some o/\ObjOk X.prog X.w H1 s1.heap b (.lst xs)from I.hok b _ e).2
   . rw[qS hb]at h
     show st<|I.hok b u h
end
def jAy(t:TE):TE:=λσ H Q=> ∃a xs,H a=some (.lst xs)/\∀o,t σ (upd H a (.frz o<|.lst xs)) λv H1=>H1 a=some (.frz o<|.lst xs)/\Q v (upd H1 a<|.lst xs)
def qC5{X:Cx}{e:Expr}{t:TE}(h:PE X e t):PE X e (jAy t):=by intro pins s σ H Q I #[a,xs,F,h'];let#[_,aa,n,_,q0]:=(show ObjOk X.prog X.w H s.heap a (.lst xs)from I.hok a _ F);show tW (h pins s σ _ _ (qWo I F q0)<|h' _) λu s1 v H1 J r #[e1,q]=>#[v,_,jAs I F J e1,r,q]
end L3
set_option linter.all false
namespace L3
open PySem PySem.Spec PyProof.Rows L2
def qRl:typeLookup (.type "list_reverseiterator") "__len__"=pure none:=by rw[typeLookup_type,builtinLookup_eq_fast];kernel_rfl
def qVd:typeLookup (.type "list_reverseiterator") "__length_hint__"=pure (some<|.builtin "list_reverseiterator.__length_hint__"):=by rw[typeLookup_type,builtinLookup_eq_fast];kernel_rfl
section
variable{prog:Program}{w:World}{A:Around}{E:Ba}{s:Shared}{it l:Addr}{items:Array Value}
def qUe{Q:Bool->Shared->Prop}(ty:s.TypeIs (.ref it) "list_reverseiterator")(h:Q false s):wpAny (model prog w) A (Builtin.List.listLengthHint<|.ref it) Q E s:=by
 unfold Builtin.List.listLengthHint;show YJ (wpAny_specialOf ty qRl ?_)
 wp_delta
 show YJ<|wpAny_specialOf ty qVd ?_;generalize F:("list_reverseiterator.__length_hint__":String)=id0
 wp_delta
 rw[show splitId id0=some ("list_reverseiterator","__length_hint__")from by subst F;decide+kernel];subst F;show YJ (wpAny_isInstance (T:="list_reverseiterator") (b:=true) ty (by rw[isSubtype_type];kernel_rfl) ?_);show wpAny_ite_split (λz=>YC z #[]) (λ_=>wpAny_ite_split (λ_=>?_) (λz=>YC ⋯ z));show wpAny_ite_split (λz=>YC z ⋯) (λ_=>YK h)
def qVo{Q:Ba}(hh:A.handled=none)(ag:s.heap.IsRevIter it l<|(items.size:Int)-1)(hl:s.heap.IsList l items)(ne:l≠it)(hn:items.size<=sizeLine)
 (kk:∀h' tk J c,(∀b o,b≠it->s.heap.get? b=some o->h'.get? b=some o)->h'.get? s.heap.objs.size=some {cls:=.type "list",dict:=none,data:=.seq J c,slots:= %[|0]}->ItemsOf (λi v=>items[items.size-1-i]?=some v) J items.size->Q (.ref s.heap.objs.size) {s with heap:=h',toks:=tk}):
 wpAny (model prog w) A (call (.type "list") [.ref it]) Q E s:=by
 show callType_codes (Q₁:=λaf s1=>af=.ref s.heap.objs.size/\s1={s with heap:=s.heap.push {cls:=.type "list",data:=.seq %[|0]}}) F.called_list (F.typeCall_list_1 _) F.entry_list_init (code_list_new _ #[O,O]) λaf s1 q1=>?_;let#[rfl,rfl]:=q1;have hS:(s.heap.push {cls:=.type "list",data:=.seq %[|0]}).get? s.heap.objs.size=some {cls:=.type "list",data:=.seq %[|0]}:=Yn _ rfl;have nI:s.heap.objs.size≠it:=λz=>by let#[o,e,_]:=ag;show YC (YV e) (by rw[z];show XG _)
 have nl:s.heap.objs.size≠l:=λz=>by let#[o,e,_]:=hl;show YC (YV e) (by rw[z];show XG _)
 show#[#[_,hS,O],F.args_list_init_2 _ _,?_];show(show wpAny _ _ (do let old<-Builtin.List.listItems (.ref s.heap.objs.size);Builtin.List.listUpdate (.ref s.heap.objs.size) (λ_=> %[|0]);letGo old.toList.reverse;Builtin.List.listExtendWith (.ref s.heap.objs.size) (.ref it) .none) _ _ _ from YJ ?_);unfold Builtin.List.listItems;show YJ (wpAny_seqItems hS rfl (YK (show wpAny _ _ (updateSeq s.heap.objs.size (λ_=> %[|0])>>=_) _ _ _ from YJ (wpAny_updateSeq hS rfl (YJ<|wpAny_letGo ?_)))));have ad:=Heap.get?_update_self (Obj.mapSeq (λ_=>(%[|0]:Array Value))) hS rfl;have aa:∀b o,b≠s.heap.objs.size->s.heap.get? b=some o->((s.heap.push {cls:=.type "list",data:=.seq %[|0]}).update s.heap.objs.size (Obj.mapSeq (λ_=>(%[|0]:Array Value)))).get? b=some o:=λb o hb e=>(ZB _ _<|ZG hb).trans<|YM _ e;dsimp only;generalize (s.heap.push {cls:=.type "list",data:=.seq %[|0]}).update s.heap.objs.size (Obj.mapSeq (λ_=>(%[|0]:Array Value)))=g at ad aa⊢;have ac:g.IsRevIter it l ((items.size:Int)-1):=ag.at λo e=>aa _ o nI.symm e;have aj:g.IsList l items:=let #[o,e,r]:=hl;#[o,aa _ o nl.symm e,r]
 have Wk:=Walks.listRev (prog:=prog) (w:=w) (A:=A.in1.in1) hh it l ne items;have ai:∀(g2:Heap) (c tk:Nat),(∀b o,b≠s.heap.objs.size->g.get? b=some o->g2.get? b=some o)->g2.get? s.heap.objs.size=some {cls:=.type "list",data:=.seq %[|0] c}->
  codeAny (model prog w) A.in1 (.builtin "list.extend.loop" #[[.ref s.heap.objs.size,.ref it,.none],[]]) (wants (λr ae=>r=Value.none/\Q (.ref s.heap.objs.size) ae) E) {s with heap:=g2,toks:=tk}:=λg2 c tk k2 ak=>by
  show codeAny_extend_loopS Wk.toS hn s.heap.objs.size (by simp[nI,nl]) .none items.size 0 _ %[|0] c rfl (ZT _) #[ZT _,by simpa using ac.at λo e=>k2 _ o nI.symm e,let #[o,e,r]:=aj;#[o,k2 _ o nl.symm e,r]] ak (ItemsOf.nil _) λs' J c' hm ah ha=>#[rfl,?_];rw[Moved.eq_with hm];show kk s'.heap s'.toks J c' (λb o hb e=>hm.heap b o (by simp[hb];show λz=>YC (YV e) (by rw[z];show XG _)) (k2 b o (λz=>YC (YV e) (by rw[z];show XG _)) (aa b o (λz=>YC (YV e) (by rw[z];show XG _)) e))) ah ha
 unfold Builtin.List.listExtendWith;have sr:Builtin.List.listSameRef (.ref s.heap.objs.size) (.ref it)=false:=by simp[Builtin.List.listSameRef,nI]
 show YJ<|wpAny_typeOf (T:="list_reverseiterator") ac.typeIs ?_;simp only[sr,show (Value.type "list_reverseiterator"==Value.type "list")=false by decide,show (Value.type "list_reverseiterator"==Value.type "tuple")=false by decide,Bool.or_false,Bool.false_eq_true,if_false];show YJ (wpAny_pyIter_revIter ac<|YJ (wpAny_holding<|qUe ac.typeIs ?_));show wpAny_ite_split (λz=>YC z ⋯) (λ_=>YK #[plainId_quiet F.plain_extend_loop _,ai g _ _ (λb o _ e=>e) ad])
end
def jAp(t:TE):TE:=λσ H Q=>t σ H λx H1=> ∃l ys,x=.ref l/\H1 l=some (.lst ys)/\∀D,H1 D=none->Q (.ref D) (upd H1 D<|.lst ys.reverse)
def qQd{X:Cx}{e:Expr}{t:TE}{p1 p2 q1 q2:Pos}(hc:X.calm=true)(af:Gl X "list")(ag:X.mg "list"=none)(ae:Gl X "reversed")(ac:X.mg "reversed"=none)(he:PE X e t)
 (s1:starEach [Expr.Call (.Name "reversed" p2) [e] [] q2] X.env=[(false,eval (Expr.Call (.Name "reversed" p2) [e] [] q2) X.env)]:=by rfl) (s2:starEach [e] X.env=[(false,eval e X.env)]:=by rfl):
 PE X (.Call (.Name "list" p1) [.Call (.Name "reversed" p2) [e] [] q2] [] q1) (jAp t):=by
 ext;show wpAny_Call_Name_kw (qDe (u:=.type "list") I af ag (by kernel_rfl) ?_ #[] #[]);show callWith_type1 ?_ s1 rfl;rw[s1];show Calls.spliced_cons (wpAny_Call_Name_kw (qDe (u:=.type "reversed") I ae ac (by kernel_rfl) ?_ #[] #[]));show callWith_type1 ?_ s2 rfl;rw[s2];show Calls.spliced_cons (tW (he pins s σ H _ I h) λu s1 x H1 I1 rx #[l,ys,ex,hy,q]=>Calls.spliced_nil ?_);subst ex;cases rx;let#[z,F,n,rv,ho]:=(show ObjOk X.prog X.w H1 s1.heap l (.lst ys)from I1.hok l _ hy);have hl:s1.heap.IsList l F.toArray:=#[_,ho,rfl,_,rfl];show call_reversed_list hl<|Calls.spliced_nil ?_;have lv:=rv.length;have I2:Inv X pins σ H1 {s1 with heap:=s1.heap.push (revObj l<|(F.toArray.size:Int)-1)}:=I1.kept (t':=s1.toks) λb ob e=>YM _ e;show qVo (l:=l) (items:=F.toArray) (I.ok.hd hc) #[_,Yn _ rfl,rfl,rfl] (let #[o,e,r]:=hl;#[o,YM _ e,r]) (Yo<|YV ho) (by simpa[<-lv]using z) λh' tk J c kp hS hi=>?_;generalize hg:s1.heap.push (revObj l<|(F.toArray.size:Int)-1)=g at I2 kp hS;have gs:g.objs.size=s1.heap.objs.size+1:=by rw[<-hg];show Array.size_push _
 have va:Vals ys.reverse J.toList:=by
  show qXk (by have h1:=hi.1;have h2:=Array.length_toList (xs:=J);rw[List.length_reverse,lv];simp at h1;lia) λj x u e1 e2=>?_;have e3:=hi.2 j u (by rw[<-Array.getElem?_toList];show e2);have hj:j<ys.length:=by have:=(Ya.mp e1).1;rwa [List.length_reverse]at this
  rw[List.getElem?_reverse hj]at e1;let#[u',q1,q2]:=rv.get e1;have e3:F[ys.length-1-j]?=some u:=by simpa[lv]using e3
  rw[e3]at q1;cases q1;show q2
 have ad:ObjOk X.prog X.w (upd H1 g.objs.size<|.lst ys.reverse) (g.push {cls:=.type "list",dict:=none,data:=.seq J c,slots:= %[|0]}) g.objs.size (.lst ys.reverse):=#[by rw[List.length_reverse];show z,J.toList,c,va, ~~~Yn _ rfl];have I3:=I2.laid (t':=tk) (λb o e=>YM _ e) (YI _) ad;have n1:upd H1 g.objs.size (.lst ys.reverse) s1.heap.objs.size=none:=by rw[qS (by change s1.heap.objs.size≠g.objs.size;lia)];show I1.hok.fresh (YI _)
 let#[f0,f1,f2,f3,f4,f5]:=I1.fpOk (YI _) n1;show#[.ref g.objs.size,_,I3.turned (t':=tk) (h':=h') (λb o hb e=>?_) f0 f1 f3 f4 f5,O,q _ (I2.hok.fresh<|YI _)];by_cases aa:b=g.objs.size
 . subst aa
   rw[Yn _ rfl]at e;cases e;show hS
 . show kp b o hb (by rwa [Heap.get?_push_ne _ _ _ aa]at e)
end L3
set_option linter.all false
namespace L3
open PySem PySem.Spec PyProof.Rows L2
def qGo{X:Cx}{K:Fg}(h:X.K=K):vM X (.builtin "isinstance") (λxs H Q=> ∃e D od F A B,xs=[.ref e,.ref F]/\H e=some (qE6 e (.ref D,od))/\OwnD H od/\ExcK K D/\H F=some (.tup [.ref A,.ref B])/\W.kitOne K (.ref D) (.ref A)=some false/\W.kitOne K (.ref D) (.ref B)=some false/\Q (.bl false) H):=by subst h;intro pins s σ H xs us Q I r h;let#[e,D,od,F,A,B,rfl,he,aa,hc,ht,h1,h2,q]:=h;let#[u,u',rfl,rx,rc]:=qQu r;cases rx;cases rc;let#[#[vs,sl,qe],_]:=I.hok e _ he;let#[oo,J]:=aa.at I qe;let#[_,af,rv,o,ho,ac,n,hd]:=(show ObjOk X.prog X.w H s.heap F (.tup [.ref A,.ref B])from I.hok F _ ht);let#[v1,v2,rfl,r1,r2]:=qQu rv;cases r1;cases r2;let#[oc,ag,ae,ad]:=o;cases ac;cases hd;show W.kia_tup (qH0 hc) I.kIn J ho (by unfold W.kitAny W.kitAny W.kitAny;rw[h1,h2]) (λz=>nomatch z) λtk=>#[.bl false,H,I.tok _,O,q]
end L3
set_option linter.all false
namespace L3
open PySem PySem.Spec PyProof.Rows L2
abbrev qNu(A:Around):Around:={A with handled:=none}
structure FnH(P:Program)(w:World)(K:Fg)(mg:SV)(base:Heap)(k:Nat)(f:Addr)(fd:FD)(ps:LS)(sp:Sp):Prop where
 len:∀vs H Q E,sp vs H Q E->vs.length=ps.length
 run:∀(A:Around) (ea:Addr) (outer:List Env) (s:Shared) (H:Hp) (args:Args) (us:LW) (vs:LV) (Q:VK) (E:XK),A.handled=some (.ref ea)->Room k (qNu A)->Env0 P w K mg base A outer s H->BindsTo s fd args (ps.zip us)->Vals vs us->sp vs H Q E->codeAny (model P w) A (.call (.ref f) args) (CR CX0 outer P w H s Q E) s
def okH{P:Program}{w:World}{K:Fg}{mg:SV}{base:Heap}{x qual:Str}{st:Stmt}{f:Addr}{fd:FD}{N ps:LS}{k:Nat}{sp:Sp}(F:Fun K x qual st f fd)(S:qN N ps<|qG st)(ae:∀vs H Q E,sp vs H Q E->vs.length=ps.length)
 (ac:∀(cdv:Value) (A:Around) (ea:Addr) (outer:List Env) (s:Shared) (H:Hp) (vs:LV) (Q:VK) (E:XK),Room k ((qNu A).deeper<|envOfC qual (qG st) s.heap.objs.size f cdv)->sp vs H Q E->
   ∃t,PSs (hdX (qMj CX0 P w K mg base N qual (qG st) f cdv (qNu A) outer s H E) ea).nox (j9 st) t/\t {nx:=λ_ H'=>Q .non H',rt:=Q} (qBr N vs) H):FnH P w K mg base (k+1) f fd ps sp:=by
 let#[oc,od,kV,ai,pm,an,cdv,ct,ah,rfl,lk,af]:=F.ex;show#[ae,λA ea outer s H ag us vs Q E hd hr e0 hb r ad=>?_];have hl:=ae _ _ _ _ ad;have kp:=λb o e=>(e0.bs b o e).1;have KX:K.In s.heap:=e0.mod.kin.keeps kp;have aa:∀y∈ps.zip us,(qG st).names.lookup y.1=some .local\/((qG st).names.lookup y.1=some .cell/\((cellsFrom (s.heap.objs.size+1) (qG st).names []).lookup y.1).isSome=true):=λy hy=>(S.par y.1 (List.of_mem_zip hy).1).imp id λq=>#[q,W.cellsFrom_some _ _ _<|.inl q];show codeAny_call_function (show A.depth<_ from hr.depth) (KX _ _ lk) rfl S.co S.gen rfl (W.codeRec_of KX af)<|hb _ _ _ _ ?_;show wpAny_newFunctionEnv_cells S.kind aa λenv he s1 x=>?_;subst he;show#[(e0.mod.nolimit.keeps kp).keeps x.toInCall.keep,codeAny_func ?_];let#[t,ht,hq]:=ac cdv A ea outer s H vs Q E (hr.deeper _) ad;have eA:(hdX (qMj CX0 P w K mg base N qual (qG st) f cdv (qNu A) outer s H E) ea).nox.A=A.deeper (envOfC qual (qG st) s.heap.objs.size f cdv):=by change {(qNu A).deeper (envOfC qual (qG st) s.heap.objs.size f cdv)with handled:=some<|Value.ref ea}=_;rw[<-hd];rfl
 have I:=qOf (ea:=ea)<|qKa (CX:=CX0) (qual:=qual) (f:=f) (cd:=cdv) (A:=qNu A) (outer:=outer) (E:=E) S rfl #[e0.frames,e0.mod,e0.bs,e0.bsz,e0.funs,e0.frf,e0.hok,e0.bare] hl r x;have I2:Inv (hdX (qMj CX0 P w K mg base N qual (qG st) f cdv (qNu A) outer s H E) ea).nox [] (qBr N vs) H s1:=#[#[I.ok.1,I.ok.2,I.ok.3,I.ok.4,I.ok.5,I.ok.6,I.ok.7,I.ok.8,I.ok.9,I.ok.10,I.ok.11,I.ok.12,I.ok.13,I.ok.14,I.ok.15,I.ok.16,I.ok.17,I.ok.18],I.os,I.bare,I.base,I.loc,I.cell,I.free,I.freeC,I.pin,I.hok,I.len];have go:=ht [] s1 (qBr N vs) H _ I2 hq;rw[eA]at go;show YL go (λfl s' hs=>?_) λe s' hs=>hs.elim;cases fl with
 |ret u=>let#[v,σ',H',J,rv,q]:=hs;show#[v,H',J.os,J.bare,J.base,J.hok,rv,q]
 |next=>let#[σ',H',J,q]:=hs;show#[.non,H',J.os,J.bare,J.base,J.hok,rfl,q]
 |brk=>let#[_,_,_,q]:=hs;show XD q
 |cont=>let#[_,_,_,q]:=hs;show XD q
def qR3{X:Cx}{l:LO}{ea:Addr}{k j:Nat}{x:Str}{st:Stmt}{ps:LS}{f:Addr}{fd:FD}{sp:Sp}{e:Expr}{es:List Expr}{t:TA}{p pos:Pos}(D:Def X.K X.mg x st ps f fd)(F:FnH X.prog X.w X.K X.mg X.base j f fd ps sp)(hr:Room k X.A)(hg:Gl X x)(ha:PA (hdX (pnX X l) ea).nox (e::es) t)(hj:j<=k:=by decide)
 (ac:(x==("__debug__":Str))=false:=by decide) (he:starEach (e::es) X.env=(false,eval e X.env)::starEach es X.env:=by rfl) (aa:(backTo pos<|starEach es X.env).any (·.1)=false:=by rfl):
 PE (hdX (pnX X l) ea).nox (.Call (.Name x p) (e::es) [] pos) (qVq sp [] E0 t):=by
 ext;show wpAny_Call_Name_kw<|vp I hg D.m ?_ ac;show W.callWith_K (h₀:=X.base) I.ok.mod.kin D.F.kp (tW (ha pos pins s σ H _ I h) λus s1 vs H1 I1 r q=>#[I1.kIn,?_]) he aa;have r2:Vals (vs++[]) (us++[]):=r.append .nil;have hl:(us++[]).length=ps.length:=by rw[<-r2.length];show F.len _ _ _ _ q
 show wpAny_call (codeAny_mono (F.run _ ea _ s1 H1 #[us,[]] (us++[]) (vs++[]) Q E0 rfl #[O,(hr.mono hj).dp,(hr.mono hj).un] I1.env0 (D.b s1 us I1.kIn hl) r2 q) λr s' J=>?_);cases r with
 |error e=>show J.elim
 |ok fl=>
  cases fl with
  |ret u=>show I1.after J
  |next=>show XD J
  |brk=>show XD J
  |cont=>show XD J
end L3
set_option linter.all false
namespace L3
open PySem PySem.Spec PyProof.Rows L2
def qO1{X:Cx}{pl:Sem Bool}{C:Addr}{k j:Nat}{m q:Str}{st:Stmt}{o:Expr}{ta:TE}{apos pos:PySem.Pos}{f:Addr}{fd:FD}{ps:LS}{sp:Sp}{Ex:Value->Option Addr->L2.St->Hp->Prop}(ho:PE (X.wish<|XES X Ex) o ta)(c:Cls X.K C)(D:MD X.K C m q st ps f fd)(F:FnOk X.prog X.w X.K X.mg X.base (CXR X.prog X.w) j f fd ps sp)(hr:Room k X.A)(hj:j<=k:=by decide)(aa:X.ex=[]:=by rfl)
 (ht:eval (.Call (.Attribute o m apos) [] [] pos) X.env=(do
   let ov<-eval o X.env
   standAt apos.atName
   let (f,first)<-holding [ov] (getMethod ov m pl)
   callWith pos f first (backTo pos<|starEach [] X.env) (backToKw pos<|keywordEach [] X.env)):=by rfl):
 PE (X.wish<|XES X Ex) (.Call (.Attribute o m apos) [] [] pos) (qWh C m sp Ex ta qYb):=by
 ext;show W.methodCall_KW (pl:=pl) (tW (ho pins s σ H _ I h) λu s1 x H1 J rx zZ0=>?_) ht;let#[b,dx,fs,ex,ea,l,q2]:=zZ0;subst ex;obtain rfl:u=Value.ref b:=rx;show wj J ea c D.t l ?_;have r2:Vals [V.ref b] [Value.ref b]:=.cons rfl .nil;have hl:[Value.ref b].length=ps.length:=by rw[<-r2.length];show F.len _ _ _ _ q2
 show W.callWith_K0 (first:=[.ref b]) J.kIn D.t.kp ?_;show wpAny_call (codeAny_mono (F.run X.A X.stack s1 H1 #[[.ref b],[]] [.ref b] [.ref b] Q _ (hr.mono hj) J.env0 (D.b s1 [.ref b] J.kIn hl) r2 q2) λr s' hq=>?_);cases r with
 |error e=>show qR1 aa J hq
 |ok fl=>
  cases fl with
  |ret u=>show J.after hq
  |next=>show XD hq
  |brk=>show XD hq
  |cont=>show XD hq
end L3
set_option linter.all false
namespace L3
open PySem PySem.Spec PyProof.Rows L2
def qXg:V->LV->Hp->VK->Prop:=λx vs H Q=> ∃d kvs,x=.ref d/\vs=[]/\H d=some (.dK kvs)/\Q .non (upd H d<|.dK [])
def qR2{X:Cx}:MtM X "dict.clear" qXg:=by intro pins s σ H x vs v us Q I J rv h;let#[d,kvs,rfl,rfl,hH,q]:=h;cases J;have F:=rv.zero;subst F;show qXq I hH λs' I'=>#[.non,_,I',O,q]
end L3
namespace Lw
open PySem L2 L3 Mt
seal L2.PSs L2.PS L2.PE L2.PA L2.PT L2.PW L2.PC L2.PI L2.PG L2.PGs L2.PO
variable {N s p j b q r M p' lo q' r' s' tb l' M' C:Int}{sc:List (Addr×LV)}{ns tie is:LN}{n i c c' L:Nat}{cdv:Value}{A:Rg}{H H' H1 H2 G' H0:Hp}{E E':XK}{σ:St}{xs vs:LV}{v x0 x1 x2 x3 x4:V}{Q Q':VK}{x y m m' x':Im}{st:Stmt}{f rd z dz tz dx dl ul S tl gl rr t0:Addr}{fd:FD}{ps:LS}{o:HO}{ms B ls rest U ms' Z:List Im}{rl:Rls}{R:Im->Int->Im->Prop}{n':Str}{X gs tbs:List Addr}{Pm:Im->Prop}{ts' cu:List (List Im)}{G:List Im->Prop}{O9:De->Prop}{od:Option Addr}{tss:List (List (List Im))}{nds:List (Nat×De)}
noncomputable def top(i:Nat):Stmt:=PySem.Challenge.pw_reelcut_k55_hand_there_and_back.main.body.getD i (.Pass #[0,0,0,0])
def scA{N P:LS}{sc:Scope}(h1:sc.kind=.function:=by rfl)(h2:sc.isCoroutine=false:=by rfl)(J:sc.isGenerator=false:=by rfl)(F:N.Nodup:=by decide+kernel)(h5:N.take P.length=P:=by rfl)(h6:∀x∈P,sc.names.lookup x=some .local\/sc.names.lookup x=some .cell:=by decide+kernel)(h7:∀y∈sc.names,y.2≠ .free:=by decide+kernel):qN N P sc:=#[h1,h2,J,F,h5,h6,h7]
abbrev qCj:Stmt:=top 9
abbrev zD:Stmt:=top 10
abbrev vE:Stmt:=top 11
abbrev qC7:Stmt:=top 12
abbrev qIt:Stmt:=top 13
abbrev qFr:Stmt:=top 14
abbrev qCx:Stmt:=top 15
abbrev qC6:Stmt:=top 16
abbrev qA6:Stmt:=top 17
abbrev qDa:Stmt:=top 18
abbrev qE1:Stmt:=top 24
abbrev zg:Stmt:=top 25
abbrev qCr:Stmt:=top 26
abbrev wK:Stmt:=top 27
abbrev qC8:Stmt:=top 28
abbrev ve:Stmt:=top 29
abbrev qA9:Stmt:=top 30
abbrev qEx:Stmt:=top 31
abbrev zW:Stmt:=top 32
abbrev qA3:Stmt:=top 33
abbrev qAv:Stmt:=top 34
abbrev qAo:Stmt:=top 36
abbrev zd:Stmt:=top 37
abbrev wB:Stmt:=top 38
abbrev qCz:Stmt:=top 39
abbrev qAt:Stmt:=top 40
abbrev qE8:Stmt:=top 41
abbrev qEy:Stmt:=top 42
abbrev kf:Stmt:=top 43
abbrev kN:Stmt:=top 44
abbrev zj:Stmt:=top 45
abbrev xq:Stmt:=top 46
abbrev ki:Stmt:=top 47
abbrev qBb:Stmt:=top 48
abbrev zU:Stmt:=top 49
abbrev wI:Stmt:=top 51
abbrev vA:Stmt:=top 52
abbrev qAs:Stmt:=top 53
abbrev zH:Stmt:=top 54
abbrev kG:Stmt:=top 55
abbrev qCq:Stmt:=top 56
abbrev vL:Stmt:=top 59
abbrev qC3:Stmt:=top 60
abbrev wa:Stmt:=top 61
abbrev zC:Stmt:=top 62
abbrev kJ:Stmt:=top 63
abbrev qE4:Stmt:=top 64
abbrev vR:Stmt:=top 65
abbrev qAp:Stmt:=top 66
abbrev qAu:Stmt:=top 67
abbrev qF4:Stmt:=top 68
abbrev xT:Stmt:=top 69
abbrev vh:Stmt:=top 70
abbrev qJd:Stmt:=top 71
abbrev v9:Stmt:=top 77
abbrev qF5:Stmt:=top 78
abbrev kI:Stmt:=top 79
abbrev zE:Stmt:=top 80
abbrev ze:Stmt:=top 81
abbrev vI:Stmt:=top 82
abbrev vO:Stmt:=top 83
abbrev kA:Stmt:=top 84
abbrev kF:Stmt:=top 85
abbrev qC1:Stmt:=top 86
abbrev qJc:Stmt:=top 87
abbrev qM3:Stmt:=top 88
abbrev qEu:Stmt:=top 89
abbrev qH4:Stmt:=top 90
abbrev qFo:Stmt:=top 91
abbrev qA4:Stmt:=top 92
abbrev qNd:Stmt:=top 94
abbrev wP:Stmt:=top 95
abbrev vD:Stmt:=top 96
abbrev kH:Stmt:=top 97
abbrev xo:Stmt:=top 98
abbrev qFv:Stmt:=top 99
abbrev qGg:Stmt:=top 101
abbrev kK:Stmt:=top 104
abbrev vq:Stmt:=top 105
abbrev wb:Stmt:=top 106
abbrev qBe:Stmt:=top 107
abbrev qAy:Stmt:=top 108
abbrev qAx:Stmt:=top 109
abbrev wJ:Stmt:=top 110
abbrev vf:Stmt:=top 111
abbrev wD:Stmt:=top 112
abbrev vQ:Stmt:=top 113
abbrev vG:Stmt:=top 114
abbrev wM:Stmt:=top 115
abbrev qAz:Stmt:=top 116
abbrev qBc:Stmt:=top 117
abbrev wE:Stmt:=top 118
abbrev qA2:Stmt:=top 119
abbrev wT:Stmt:=top 120
abbrev qXi:Stmt:=top 121
abbrev zo:Stmt:=vN (top 102) 0
abbrev qAw:Stmt:=vN (top 102) 1
abbrev qGa:Stmt:=vN (top 102) 2
abbrev qA7:Stmt:=vN (top 102) 3
abbrev qBf:Stmt:=vN (top 102) 4
abbrev wF:Stmt:=vN (top 102) 5
abbrev qAq:Stmt:=vN (top 102) 6
abbrev vo:Stmt:=vN (top 102) 7
def qNi:qN ["x"] ["x"] (qG qCj):=scA
def j4:qN ["one","other","rest"] ["one","other"] (qG zD):=scA
def qGz:qN ["x"] ["x"] (qG vE):=scA
def qA1:qN ["top","bottom","divisor"] ["top","bottom"] (qG qC7):=scA
def qRt:qN ["one","other"] ["one","other"] (qG qIt):=scA
def qPx:qN ["one","other"] ["one","other"] (qG qFr):=scA
def qNh:qN ["one","other"] ["one","other"] (qG qCx):=scA
def qM4:qN ["one","other"] ["one","other"] (qG qC6):=scA
def qLi:qN ["one","other"] ["one","other"] (qG qA6):=scA
def qMv:qN ["one"] ["one"] (qG qDa):=scA
def qQ3:qN ["thing"] ["thing"] (qG qE1):=scA
def qDx:qN ["item"] ["item"] (qG zg):=scA
def qMu:qN ["clip","k"] ["clip","k"] (qG qCr):=scA
def qHo:qN ["clip","k"] ["clip","k"] (qG wK):=scA
def qMt:qN ["picture","many"] ["picture","many"] (qG qC8):=scA
def qBt:qN ["item","reels","many"] ["item","reels"] (qG ve):=scA
def qMg:qN ["clip","low","high"] ["clip","low","high"] (qG qA9):=scA
def qP2:qN ["one","other"] ["one","other"] (qG qEx):=scA
def zF:qN ["first","step","many","room"] ["first","step","many"] (qG zW):=scA
def qLq:qN ["clip","reels"] ["clip","reels"] (qG qA3):=scA
def qLd:qN ["clip","reels"] ["clip","reels"] (qG qAv):=scA
def qKb:qN ["thing"] ["thing"] (qG qAo):=scA
def qD9:qN ["item"] ["item"] (qG zd):=scA
def qI7:qN ["item"] ["item"] (qG wB):=scA
def xp:qN ["some","track","waiting","item"] ["some"] (qG qCz):=scA
def qJ3:qN ["track"] ["track"] (qG qAt):=scA
def zP:qN ["track","moment","begin","place","item","end"] ["track","moment"] (qG qE8):=scA
def qQp:qN ["track","place"] ["track","place"] (qG qEy):=scA
def qGw:qN ["track","place"] ["track","place"] (qG kf):=scA
def qFk:qN ["track","place"] ["track","place"] (qG kN):=scA
def vV:qN ["track","moment","found"] ["track","moment"] (qG zj):=scA
def zx:qN ["track","moment","places"] ["track","moment"] (qG xq):=scA
def qAn:qN ["track","moment","found"] ["track","moment"] (qG ki):=scA
def qLu:qN ["item","low","high"] ["item","low","high"] (qG qBb):=scA
def jD:qN ["track","low","high","parts","begin","item","end","first","last"] ["track","low","high"] (qG zU):=scA
def qJf:qN ["length"] ["length"] (qG wI):=scA
def qGy:qN ["length"] ["length"] (qG vA):=scA
def x9:qN ["track","spans","border","item"] ["track"] (qG qAs):=scA
def qDb:qN ["track","place"] ["track","place"] (qG zH):=scA
def qFa:qN ["track","place"] ["track","place"] (qG kG):=scA
def xr:qN ["track","moment","reels","places","ahead","behind","most_ahead","most_behind"] ["track","moment","reels"] (qG qCq):=scA
def qG0:qN ["table","number","moment"] ["table","number","moment"] (qG vL):=scA
def qMp:qN ["by"] ["by"] (qG qC3):=scA
def qB4:qN ["track","moment","found"] ["track","moment"] (qG wa):=scA
def j6:qN ["track","moment","found","left","right"] ["track","moment"] (qG zC):=scA
def qFm:qN ["track","deed"] ["track","deed"] (qG kJ):=scA
def qQ4:qN ["track","place"] ["track","place"] (qG qE4):=scA
def qG3:qN ["most","by"] ["most","by"] (qG vR):=scA
def qJ1:qN ["clip","by","reels"] ["clip","by","reels"] (qG qAp):=scA
def qK8:qN ["left","right","by","reels"] ["left","right","by","reels"] (qG qAu):=scA
def qCl:qN ["track","place","by","reels","clip","changed"] ["track","place","by","reels"] (qG qF4):=scA
def jk:qN ["track","first","last","by","reels","left","right","changed"] ["track","first","last","by","reels"] (qG xT):=scA
def qB7:qN ["table","number","track","tracks"] ["table","number","track"] (qG vh):=scA
def qGd:qN ["table","deed","reels","track","places"] ["table","deed","reels"] (qG qJd):=scA
def qIa:qN ["deed"] ["deed"] (qG v9):=scA
def qPs:qN ["deed"] ["deed"] (qG qF5):=scA
def qFb:qN ["deed"] ["deed"] (qG kI):=scA
def qCy:qN ["table","deed"] ["table","deed"] (qG zE):=scA
def qD0:qN ["deed"] ["deed"] (qG ze):=scA
def qAi:qN ["track","low","high","span"] ["track","low","high"] (qG vI):=scA
def kC:qN ["table","deed","stretch","number"] ["table","deed"] (qG vO):=scA
def qEr:qN ["table","deed","reels"] ["table","deed","reels"] (qG kA):=scA
def qEw:qN ["one","other"] ["one","other"] (qG kF):=scA
def qBd:qN ["track","places","one","other"] ["track","places"] (qG qC1):=scA
def wG:qN ["table","deed","track","places","one","whole"] ["table","deed"] (qG qJc):=scA
def qEi:qN ["table","deed","reels","track","places","most"] ["table","deed","reels"] (qG qM3):=scA
def qCn:qN ["table","deed","track","places"] ["table","deed"] (qG qEu):=scA
def qKm:qN ["track","low","high","laid","filling"] ["track","low","high","laid"] (qG qH4):=scA
def zQ:qN ["table","deed","stretch","told","number","laid"] ["table","deed"] (qG qFo):=scA
def qL3:qN ["table","deed","reels"] ["table","deed","reels"] (qG qA4):=scA
def qU4:qN ["table","number","moments"] ["table","number","moments"] (qG qNd):=scA
def xQ:qN ["table","number","low","high","deeds","moment","item"] ["table","number","low","high"] (qG wP):=scA
def kB:qN ["table","deed","track","places"] ["table","deed"] (qG vD):=scA
def xN:qN ["table","deed","length","deeds","number"] ["table","deed"] (qG kH):=scA
def jv:qN ["table","deed","stretch","deeds","number"] ["table","deed"] (qG xo):=scA
def qQa:qN ["table","deed","reels"] ["table","deed","reels"] (qG qFv):=scA
def qQ2:qN ["table"] ["table"] (qG qGg):=scA
def qF2:qN ["_law_script","_law_k"] ["_law_script","_law_k"] (qG kK):=scA
def xU:qN ["_law_number","_law_many","_law_found","_law_x","_law_k"] ["_law_number","_law_many"] (qG vq):=scA
def qH6:qN ["_law_cell"] ["_law_cell"] (qG wb):=scA
def wC:qN ["_law_x","_law_step_here","_law_start"] ["_law_x"] (qG qBe):=scA
def qJ7:qN ["_law_x"] ["_law_x"] (qG qAy):=scA
def zw:qN ["_law_x","_law_y","_law_tracks","_law_track","_law_moment","_law_way"] ["_law_x","_law_y","_law_tracks"] (qG qAx):=scA
def vT:qN ["_law_cell","_law_tracks","_law_tied"] ["_law_cell"] (qG wJ):=scA
def qJl:qN ["_law_e"] ["_law_e"] (qG vf):=scA
def xR:qN ["_law_table_here","_law_deed_here","_law_reels_here","_law_found","_law_e"] ["_law_table_here","_law_deed_here","_law_reels_here"] (qG wD):=scA
def xD:qN ["_law_hand","_law_deed_here","_law_found","_law_e"] ["_law_hand","_law_deed_here"] (qG vQ):=scA
def jq:qN ["_law_hand","_law_word","_law_found","_law_e"] ["_law_hand","_law_word"] (qG vG):=scA
def qB8:qN ["_law_table_here","_law_track"] ["_law_table_here"] (qG wM):=scA
def j3:qN ["_law_hand","_law_state","_law_x","_law_y","_law_reels_here","_law_tables","_law_deeds","_law_at","_law_deed_here","_law_due","_law_found"] ["_law_hand","_law_state","_law_x","_law_y","_law_reels_here"] (qG qAz):=scA
def zA:qN ["_law_hand","_law_state","_law_tables","_law_deeds","_law_at","_law_found"] ["_law_hand","_law_state"] (qG qBc):=scA
def xM:qN ["_law_hand","_law_state","_law_tables","_law_deeds","_law_at","_law_found"] ["_law_hand","_law_state"] (qG wE):=scA
def xJ:qN ["_law_hand","_law_state","_law_cell","_law_reels_here","_law_xs","_law_k"] ["_law_hand","_law_state","_law_cell","_law_reels_here"] (qG qA2):=scA
def zL:qN ["_law_hand","_law_state","_law_tables","_law_deeds","_law_at"] ["_law_hand","_law_state"] (qG wT):=scA
def wL:qN ["_law_script","_law_reels_here","_law_table_here","_law_handed_here","_law_given","_law_hand","_law_state","_law_k"] ["_law_script"] (qG qXi):=scA
def qEd:qN ["self","table","reels"] ["self","table","reels"] (qG zo):=scA
def qDh:qN ["self","deed","back"] ["self","deed"] (qG qAw):=scA
def qHf:qN ["self","deed","told"] ["self","deed"] (qG qGa):=scA
def x6:qN ["self","last","told","deed"] ["self"] (qG qA7):=scA
def qDs:qN ["self","told"] ["self"] (qG qBf):=scA
def qIk:qN ["self"] ["self"] (qG wF):=scA
def qLn:qN ["self"] ["self"] (qG qAq):=scA
def qIp:qN ["self"] ["self"] (qG vo):=scA
abbrev wl:Stmt:=vN (top 7) 0
def qRk:qN ["self","most"] ["self","most"] (qG wl):=#[rfl,rfl,rfl,⋯,rfl,⋯,⋯]
set_option genInjectivity false
set_option genSizeOf false
structure Ads where
 A0:Addr
 B0:FD
 A1:Addr
 B1:FD
 A2:Addr
 B2:FD
 A3:Addr
 B3:FD
 A4:Addr
 B4:FD
 A5:Addr
 B5:FD
 A6:Addr
 B6:FD
 A7:Addr
 B7:FD
 A8:Addr
 B8:FD
 A9:Addr
 B9:FD
 A10:Addr
 B10:FD
 A11:Addr
 B11:FD
 A12:Addr
 B12:FD
 A13:Addr
 B13:FD
 A14:Addr
 B14:FD
 A15:Addr
 B15:FD
 A16:Addr
 B16:FD
 A17:Addr
 B17:FD
 A18:Addr
 B18:FD
 A19:Addr
 B19:FD
 A20:Addr
 B20:FD
 A21:Addr
 B21:FD
 A22:Addr
 B22:FD
 A23:Addr
 B23:FD
 A24:Addr
 B24:FD
 A25:Addr
 B25:FD
 A26:Addr
 B26:FD
 A27:Addr
 B27:FD
 A28:Addr
 B28:FD
 A29:Addr
 B29:FD
 A30:Addr
 B30:FD
 A31:Addr
 B31:FD
 A32:Addr
 B32:FD
 A33:Addr
 B33:FD
 A34:Addr
 B34:FD
 A35:Addr
 B35:FD
 A36:Addr
 B36:FD
 A37:Addr
 B37:FD
 A38:Addr
 B38:FD
 A39:Addr
 B39:FD
 A40:Addr
 B40:FD
 A41:Addr
 B41:FD
 A42:Addr
 B42:FD
 A43:Addr
 B43:FD
 A44:Addr
 B44:FD
 A45:Addr
 B45:FD
 A46:Addr
 B46:FD
 A47:Addr
 B47:FD
 A48:Addr
 B48:FD
 A49:Addr
 B49:FD
 A50:Addr
 B50:FD
 A51:Addr
 B51:FD
 A52:Addr
 B52:FD
 A53:Addr
 B53:FD
 A54:Addr
 B54:FD
 A55:Addr
 B55:FD
 A56:Addr
 B56:FD
 A57:Addr
 B57:FD
 A58:Addr
 B58:FD
 A59:Addr
 B59:FD
 A60:Addr
 B60:FD
 A61:Addr
 B61:FD
 A62:Addr
 B62:FD
 A63:Addr
 B63:FD
 A64:Addr
 B64:FD
 A65:Addr
 B65:FD
 A66:Addr
 B66:FD
 A67:Addr
 B67:FD
 A68:Addr
 B68:FD
 A69:Addr
 B69:FD
 A70:Addr
 B70:FD
 A71:Addr
 B71:FD
 A72:Addr
 B72:FD
 A73:Addr
 B73:FD
 A74:Addr
 B74:FD
 A75:Addr
 B75:FD
 A76:Addr
 B76:FD
 A77:Addr
 B77:FD
 A78:Addr
 B78:FD
 A79:Addr
 B79:FD
 A80:Addr
 B80:FD
 A81:Addr
 B81:FD
 A82:Addr
 B82:FD
 A83:Addr
 B83:FD
 A84:Addr
 B84:FD
 A85:Addr
 B85:FD
 A86:Addr
 B86:FD
 A87:Addr
 B87:FD
 A88:Addr
 B88:FD
 A89:Addr
 B89:FD
 A90:Addr
 B90:FD
 A91:Addr
 B91:FD
 A92:Addr
 B92:FD
 A93:Addr
 B93:FD
 A94:Addr
 B94:FD
 A95:Addr
 B95:FD
 A96:Addr
 B96:FD
 A97:Addr
 B97:FD
 A98:Addr
 B98:FD
 A99:Addr
 B99:FD
 A100:Addr
 B100:FD
 A101:Addr
 B101:FD
 A102:Addr
 B102:FD
 k_CutError:Addr
 k_NoNumber:Addr
 k_NoClip:Addr
 k_NoPlace:Addr
 k_Mixed:Addr
 k_NoOrder:Addr
 k_Short:Addr
 k_Hand:Addr
 t_LETTERS:Tok
 t_LONGEST_NAME:Tok
 t_MOST_ROOM:Tok
 n_NOUGHT:Addr
 t_MOST_BY:Tok
 n_ROLLS:Addr
 n_LAYS:Addr
 n_PUSHES:Addr
 n_CHANGES:Addr
 fi_Short:Addr
 gi_Short:FD
structure Tx(K:Fg)(mg:SV)(a:Ads):Prop where
 D0:L3.Def K mg "is_whole" qCj ["x"] a.A0 a.B0
 D1:L3.Def K mg "common_divisor" zD ["one","other"] a.A1 a.B1
 D2:L3.Def K mg "is_fraction" vE ["x"] a.A2 a.B2
 D3:L3.Def K mg "fraction" qC7 ["top","bottom"] a.A3 a.B3
 D4:L3.Def K mg "sum_of" qIt ["one","other"] a.A4 a.B4
 D5:L3.Def K mg "less_by" qFr ["one","other"] a.A5 a.B5
 D6:L3.Def K mg "times_of" qCx ["one","other"] a.A6 a.B6
 D7:L3.Def K mg "quotient" qC6 ["one","other"] a.A7 a.B7
 D8:L3.Def K mg "is_before" qA6 ["one","other"] a.A8 a.B8
 D9:L3.Def K mg "floor_of" qDa ["one"] a.A9 a.B9
 D10:L3.Def K mg "is_name" qE1 ["thing"] a.A10 a.B10
 D11:L3.Def K mg "has_clip_form" zg ["item"] a.A11 a.B11
 D12:L3.Def K mg "place_at" qCr ["clip","k"] a.A12 a.B12
 D13:L3.Def K mg "picture_at" wK ["clip","k"] a.A13 a.B13
 D14:L3.Def K mg "is_there" qC8 ["picture","many"] a.A14 a.B14
 D15:L3.Def K mg "check_clip" ve ["item","reels"] a.A15 a.B15
 D16:L3.Def K mg "clip_part" qA9 ["clip","low","high"] a.A16 a.B16
 D17:L3.Def K mg "goes_on" qEx ["one","other"] a.A17 a.B17
 D18:L3.Def K mg "moments_there" zW ["first","step","many"] a.A18 a.B18
 D19:L3.Def K mg "head_room" qA3 ["clip","reels"] a.A19 a.B19
 D20:L3.Def K mg "tail_room" qAv ["clip","reels"] a.A20 a.B20
 D21:L3.Def K mg "is_length" qAo ["thing"] a.A21 a.B21
 D22:L3.Def K mg "has_nest_form" zd ["item"] a.A22 a.B22
 D23:L3.Def K mg "moments_of" wB ["item"] a.A23 a.B23
 D24:L3.Def K mg "one_form" qCz ["some"] a.A24 a.B24
 D25:L3.Def K mg "length_of" qAt ["track"] a.A25 a.B25
 D26:L3.Def K mg "item_at" qE8 ["track","moment"] a.A26 a.B26
 D27:L3.Def K mg "kind_at" qEy ["track","place"] a.A27 a.B27
 D28:L3.Def K mg "place_ahead" kf ["track","place"] a.A28 a.B28
 D29:L3.Def K mg "place_behind" kN ["track","place"] a.A29 a.B29
 D30:L3.Def K mg "neighbours_at" zj ["track","moment"] a.A30 a.B30
 D31:L3.Def K mg "clips_at_border" xq ["track","moment"] a.A31 a.B31
 D32:L3.Def K mg "lies_within" ki ["track","moment"] a.A32 a.B32
 D33:L3.Def K mg "item_part" qBb ["item","low","high"] a.A33 a.B33
 D34:L3.Def K mg "part_of_track" zU ["track","low","high"] a.A34 a.B34
 D35:L3.Def K mg "part_ahead" wI ["length"] a.A35 a.B35
 D36:L3.Def K mg "part_behind" vA ["length"] a.A36 a.B36
 D37:L3.Def K mg "mix_spans" qAs ["track"] a.A37 a.B37
 D38:L3.Def K mg "taken_at_begin" zH ["track","place"] a.A38 a.B38
 D39:L3.Def K mg "taken_at_end" kG ["track","place"] a.A39 a.B39
 D40:L3.Def K mg "most_mix" qCq ["track","moment","reels"] a.A40 a.B40
 D41:L3.Def K mg "check_place" vL ["table","number","moment"] a.A41 a.B41
 D42:L3.Def K mg "check_by" qC3 ["by"] a.A42 a.B42
 D43:L3.Def K mg "clip_there" wa ["track","moment"] a.A43 a.B43
 D44:L3.Def K mg "clip_and_sides" zC ["track","moment"] a.A44 a.B44
 D45:L3.Def K mg "places_named" kJ ["track","deed"] a.A45 a.B45
 D46:L3.Def K mg "has_mix" qE4 ["track","place"] a.A46 a.B46
 D47:L3.Def K mg "check_short" vR ["most","by"] a.A47 a.B47
 D48:L3.Def K mg "most_slip" qAp ["clip","by","reels"] a.A48 a.B48
 D49:L3.Def K mg "most_roll" qAu ["left","right","by","reels"] a.A49 a.B49
 D50:L3.Def K mg "slipped" qF4 ["track","place","by","reels"] a.A50 a.B50
 D51:L3.Def K mg "with_rolled_ends" xT ["track","first","last","by","reels"] a.A51 a.B51
 D52:L3.Def K mg "table_with" vh ["table","number","track"] a.A52 a.B52
 D53:L3.Def K mg "rolled" qJd ["table","deed","reels"] a.A53 a.B53
 D54:L3.Def K mg "stretch_of" v9 ["deed"] a.A54 a.B54
 D55:L3.Def K mg "laid_by" qF5 ["deed"] a.A55 a.B55
 D56:L3.Def K mg "laid_on_tied" kI ["deed"] a.A56 a.B56
 D57:L3.Def K mg "tracks_changed" zE ["table","deed"] a.A57 a.B57
 D58:L3.Def K mg "check_numbers" ze ["deed"] a.A58 a.B58
 D59:L3.Def K mg "touches_mix" vI ["track","low","high"] a.A59 a.B59
 D60:L3.Def K mg "check_mixes" vO ["table","deed"] a.A60 a.B60
 D61:L3.Def K mg "check_change" kA ["table","deed","reels"] a.A61 a.B61
 D62:L3.Def K mg "nest_goes_on" kF ["one","other"] a.A62 a.B62
 D63:L3.Def K mg "can_heal" qC1 ["track","places"] a.A63 a.B63
 D64:L3.Def K mg "healed" qJc ["table","deed"] a.A64 a.B64
 D65:L3.Def K mg "mixed" qM3 ["table","deed","reels"] a.A65 a.B65
 D66:L3.Def K mg "unmixed" qEu ["table","deed"] a.A66 a.B66
 D67:L3.Def K mg "relaid" qH4 ["track","low","high","laid"] a.A67 a.B67
 D68:L3.Def K mg "changed" qFo ["table","deed"] a.A68 a.B68
 D69:L3.Def K mg "deed_done" qA4 ["table","deed","reels"] a.A69 a.B69
 D70:L3.Def K mg "heals" qNd ["table","number","moments"] a.A70 a.B70
 D71:L3.Def K mg "laid_again" wP ["table","number","low","high"] a.A71 a.B71
 D72:L3.Def K mg "back_of_mix" vD ["table","deed"] a.A72 a.B72
 D73:L3.Def K mg "back_of_room" kH ["table","deed"] a.A73 a.B73
 D74:L3.Def K mg "back_of_stretch" xo ["table","deed"] a.A74 a.B74
 D75:L3.Def K mg "back_of" qFv ["table","deed","reels"] a.A75 a.B75
 D76:L3.Def K mg "copy_of" qGg ["table"] a.A76 a.B76
 D77:L3.Def K mg "_law_cell_at" kK ["_law_script","_law_k"] a.A77 a.B77
 D78:L3.Def K mg "_law_drawn" vq ["_law_number","_law_many"] a.A78 a.B78
 D79:L3.Def K mg "_law_reels" wb ["_law_cell"] a.A79 a.B79
 D80:L3.Def K mg "_law_clip" qBe ["_law_x"] a.A80 a.B80
 D81:L3.Def K mg "_law_item" qAy ["_law_x"] a.A81 a.B81
 D82:L3.Def K mg "_law_deed" qAx ["_law_x","_law_y","_law_tracks"] a.A82 a.B82
 D83:L3.Def K mg "_law_table" wJ ["_law_cell"] a.A83 a.B83
 D84:L3.Def K mg "_law_which" vf ["_law_e"] a.A84 a.B84
 D85:L3.Def K mg "_law_tried" wD ["_law_table_here","_law_deed_here","_law_reels_here"] a.A85 a.B85
 D86:L3.Def K mg "_law_handed" vQ ["_law_hand","_law_deed_here"] a.A86 a.B86
 D87:L3.Def K mg "_law_turned" vG ["_law_hand","_law_word"] a.A87 a.B87
 D88:L3.Def K mg "_law_spoil" wM ["_law_table_here"] a.A88 a.B88
 D89:L3.Def K mg "_law_done" qAz ["_law_hand","_law_state","_law_x","_law_y","_law_reels_here"] a.A89 a.B89
 D90:L3.Def K mg "_law_back" qBc ["_law_hand","_law_state"] a.A90 a.B90
 D91:L3.Def K mg "_law_again" wE ["_law_hand","_law_state"] a.A91 a.B91
 D92:L3.Def K mg "_law_step" qA2 ["_law_hand","_law_state","_law_cell","_law_reels_here"] a.A92 a.B92
 D93:L3.Def K mg "_law_right" wT ["_law_hand","_law_state"] a.A93 a.B93
 D94:L3.Def K mg "law" qXi ["_law_script"] a.A94 a.B94
 D95:L3.MD K a.k_Hand "__init__" "Hand.__init__" zo ["self","table","reels"] a.A95 a.B95
 D96:L3.MD K a.k_Hand "keep" "Hand.keep" qAw ["self","deed"] a.A96 a.B96
 D97:L3.MD K a.k_Hand "do" "Hand.do" qGa ["self","deed"] a.A97 a.B97
 D98:L3.MD K a.k_Hand "undo" "Hand.undo" qA7 ["self"] a.A98 a.B98
 D99:L3.MD K a.k_Hand "redo" "Hand.redo" qBf ["self"] a.A99 a.B99
 D100:L3.MD K a.k_Hand "table" "Hand.table" wF ["self"] a.A100 a.B100
 D101:L3.MD K a.k_Hand "past" "Hand.past" qAq ["self"] a.A101 a.B101
 D102:L3.MD K a.k_Hand "ahead" "Hand.ahead" vo ["self"] a.A102 a.B102
 c_CutError:mg "CutError"=some (.ref a.k_CutError)
 c_NoNumber:mg "NoNumber"=some (.ref a.k_NoNumber)
 c_NoClip:mg "NoClip"=some (.ref a.k_NoClip)
 c_NoPlace:mg "NoPlace"=some (.ref a.k_NoPlace)
 c_Mixed:mg "Mixed"=some (.ref a.k_Mixed)
 c_NoOrder:mg "NoOrder"=some (.ref a.k_NoOrder)
 c_Short:mg "Short"=some (.ref a.k_Short)
 c_Hand:mg "Hand"=some (.ref a.k_Hand)
 cl_Hand:Cls K a.k_Hand
 mk_Hand:Mk K a.k_Hand a.A95
 na_Hand_held:NoAttr K a.k_Hand "held"
 na_Hand_reels:NoAttr K a.k_Hand "reels"
 na_Hand_done:NoAttr K a.k_Hand "done"
 na_Hand_undone:NoAttr K a.k_Hand "undone"
 b_isinstance:mg "isinstance"=none
 b_int:mg "int"=none
 b_bool:mg "bool"=none
 b_abs:mg "abs"=none
 b_tuple:mg "tuple"=none
 b_len:mg "len"=none
 b_all:mg "all"=none
 b_str:mg "str"=none
 b_min:mg "min"=none
 b_sum:mg "sum"=none
 b_enumerate:mg "enumerate"=none
 b_max:mg "max"=none
 b_list:mg "list"=none
 b_any:mg "any"=none
 b_range:mg "range"=none
 b_dict:mg "dict"=none
 b_reversed:mg "reversed"=none
 g_LETTERS:mg "LETTERS"=some (.str "abcdefghijklmnopqrstuvwxyz" a.t_LETTERS)
 g_LONGEST_NAME:mg "LONGEST_NAME"=some (.int 8 a.t_LONGEST_NAME)
 g_MOST_ROOM:mg "MOST_ROOM"=some (.int 1000000 a.t_MOST_ROOM)
 g_NOUGHT:mg "NOUGHT"=some (.ref a.n_NOUGHT)
 sq_NOUGHT:∀H,SqT K H a.n_NOUGHT [.int 0,.int 1]
 g_MOST_BY:mg "MOST_BY"=some (.int 1000000 a.t_MOST_BY)
 g_ROLLS:mg "ROLLS"=some (.ref a.n_ROLLS)
 sq_ROLLS:∀H,SqT K H a.n_ROLLS [.str "roll",.str "slip",.str "slide"]
 g_LAYS:mg "LAYS"=some (.ref a.n_LAYS)
 sq_LAYS:∀H,SqT K H a.n_LAYS [.str "lay_in",.str "lay_over"]
 g_PUSHES:mg "PUSHES"=some (.ref a.n_PUSHES)
 sq_PUSHES:∀H,SqT K H a.n_PUSHES [.str "lay_in",.str "open",.str "close"]
 g_CHANGES:mg "CHANGES"=some (.ref a.n_CHANGES)
 sq_CHANGES:∀H,SqT K H a.n_CHANGES [.str "cut",.str "lay_in",.str "open",.str "close",.str "lift",.str "lay_over"]
 yPC:W.exmOne K (.ref a.k_NoPlace) (.ref a.k_CutError)=some true
 yMC:W.exmOne K (.ref a.k_Mixed) (.ref a.k_CutError)=some true
 ySC:W.exmOne K (.ref a.k_Short) (.ref a.k_CutError)=some true
 yOO:W.exmOne K (.ref a.k_NoOrder) (.ref a.k_NoOrder)=some true
 rPP:W.kitOne K (.ref a.k_NoPlace) (.ref a.k_NoPlace)=some true
 rPN:W.kitOne K (.ref a.k_NoPlace) (.ref a.k_NoClip)=some false
 rPM:W.kitOne K (.ref a.k_NoPlace) (.ref a.k_Mixed)=some false
 rPS:W.kitOne K (.ref a.k_NoPlace) (.ref a.k_Short)=some false
 rMP:W.kitOne K (.ref a.k_Mixed) (.ref a.k_NoPlace)=some false
 rMN:W.kitOne K (.ref a.k_Mixed) (.ref a.k_NoClip)=some false
 rMM:W.kitOne K (.ref a.k_Mixed) (.ref a.k_Mixed)=some true
 rMS:W.kitOne K (.ref a.k_Mixed) (.ref a.k_Short)=some false
 rSP:W.kitOne K (.ref a.k_Short) (.ref a.k_NoPlace)=some false
 rSN:W.kitOne K (.ref a.k_Short) (.ref a.k_NoClip)=some false
 rSM:W.kitOne K (.ref a.k_Short) (.ref a.k_Mixed)=some false
 rSS:W.kitOne K (.ref a.k_Short) (.ref a.k_Short)=some true
 rOP:W.kitOne K (.ref a.k_NoOrder) (.ref a.k_NoPlace)=some false
 rOS:W.kitOne K (.ref a.k_NoOrder) (.ref a.k_Short)=some false
 e_NoPlace:L3.ExcK K a.k_NoPlace
 e_Mixed:L3.ExcK K a.k_Mixed
 e_Short:L3.ExcK K a.k_Short
 e_NoOrder:L3.ExcK K a.k_NoOrder
 x_NoOrder:L3.OwnX K a.k_NoOrder
 x_NoPlace:L3.OwnX K a.k_NoPlace
 x_Mixed:L3.OwnX K a.k_Mixed
 i_Short:Fun K "__init__" "Short.__init__" wl a.fi_Short a.gi_Short
 ib_Short:Binds K a.gi_Short ["self","most"] []
 m_Short:L3.XMk K a.k_Short a.k_CutError a.fi_Short
 tk_Short:W.takerIn K a.k_Short "most"=some none
inductive qUp(K:Fg)(vs:LV)(H:Hp)(Q:VK)(_:XK):Prop
|mk (a:Addr) (ns:LN) (_:vs=[.ref a]) (_:SqL K H a (ns.map V.int)) (_:ns.length<=63) (_:∀H',Q (.bl true) H')
def qW9(H:Hp)(Q:VK)(p q:Int):Prop:= ∀z,H z=none->Q (.ref z) (upd H z<|.tup [.int p,.int q])
def jK{CX:CXT}{P:Program}{w:World}{K:Fg}{mg:SV}{base:Heap}{ns:LS}{n:Str}{sc:Scope}{F:Addr}{A:Around}{outer:List Env}{s:Shared}:(qMj CX P w K mg base ns n sc F cdv A outer s H E).K=K:=rfl
def qi{CX:CXT}{P:Program}{w:World}{K:Fg}{mg:SV}{base:Heap}{ns:LS}{n:Str}{sc:Scope}{F:Addr}{A:Around}{outer:List Env}{s:Shared}:(qMj CX P w K mg base ns n sc F cdv A outer s H E).nox.K=K:=rfl
def sL0:(0:Nat)<=sizeLine:=#[]
def sL1:(1:Nat)<=sizeLine:=#[]
def sL2:(2:Nat)<=sizeLine:=#[]
def sL3:(3:Nat)<=sizeLine:=#[]
def sL4:(4:Nat)<=sizeLine:=#[]
def sL5:(5:Nat)<=sizeLine:=#[]
def glt{α:Type}{xs:List α}{x:α}(h:xs[i]?=some x):i<xs.length:=(Ya.mp h).1
def ixT{K:Fg}{p:Addr}{i:Int}(h:SqT K H p xs)(a:atI xs i=some v)(q:Q v H):tC (.int i) σ H (λy H2=>qYd K (.ref p) y H2 Q):=#[p,xs,i,v,rfl,rfl,h,a,q]
def z7{K:Fg}{p:Addr}{i:Int}{j:Nat}(e:σ[j]?=some (some<|.ref p))(h:SqT K H p xs)(a:atI xs i=some v)(q:Q v H):tOp (qYd K) (qZ5 j) (tC<|.int i) σ H Q:=#[.ref p,e,p,xs,i,v,rfl,rfl,h,a,q]
def ixO{K:Fg}{p:Addr}{i:Int}{j:Nat}(h:H p=some (.tup xs))(a:atI xs i=some v)(q:Q v H)(e:σ[j]?=some (some<|.ref p):=by rfl):tOp (qYd K) (qZ5 j) (tC<|.int i) σ H Q:=z7 e (SqT.of h) a q
section
variable{P:Program}{w:World}{K:Fg}{mg:SV}{base:Heap}{a:Ads}
abbrev Fo(P:Program)(w:World)(base:Heap){K:Fg}{mg:SV}{x:Str}{st:Stmt}{ps:LS}{f:Addr}{fd:FD}(_:L3.Def K mg x st ps f fd)(k:Nat)(sp:Sp):=FnOk P w K mg base CX0 k f fd ps sp
abbrev Fx(P:Program)(w:World)(base:Heap){K:Fg}{mg:SV}{x:Str}{st:Stmt}{ps:LS}{f:Addr}{fd:FD}(_:L3.Def K mg x st ps f fd)(k:Nat)(sp:Sp):=FnOk P w K mg base (CXR P w) k f fd ps sp
abbrev Fm(P:Program)(w:World)(mg:SV)(base:Heap){K:Fg}{x q:Str}{st:Stmt}{ps:LS}{f:Addr}{fd:FD}{C:Addr}(_:L3.MD K C x q st ps f fd)(k:Nat)(sp:Sp):=FnOk P w K mg base CX0 k f fd ps sp
abbrev Fy(P:Program)(w:World)(mg:SV)(base:Heap){K:Fg}{x q:Str}{st:Stmt}{ps:LS}{f:Addr}{fd:FD}{C:Addr}(_:L3.MD K C x q st ps f fd)(k:Nat)(sp:Sp):=FnOk P w K mg base (CXR P w) k f fd ps sp
variable(T:Tx K mg a)
def oL{x qual:Str}{N:LS}{k:Nat}{sp:Sp}(F:Fun K x qual st f fd)(S:qN N ps<|qG st)
 (hb:∀(cdv:Value) (A:Around) (outer:List Env) (s:Shared) (H:Hp) (vs:LV) (Q:VK) (E:XK),Room k (A.deeper<|PyProof.Rows.envOfC qual (qG st) s.heap.objs.size f cdv)->sp vs H Q E->N.Nodup->
   ∀X:Prop,((∃t,PSs (qMj CX0 P w K mg base N qual (qG st) f cdv A outer s H E).nox (j9 st) t/\t {nx:=λ_ H'=>Q .non H',rt:=Q} (qBr N vs) H)->X)->X)
 (J:∀vs H Q E,sp vs H Q E->vs.length=ps.length:=by trivial):FnOk P w K mg base CX0 (k+1) f fd ps sp:=
 F.ok S J λcdv A outer s H vs Q E hr h=>hb cdv A outer s H vs Q E hr h S.nd _ id
def oX{x qual:Str}{N:LS}{k:Nat}{sp:Sp}(F:Fun K x qual st f fd)(S:qN N ps<|qG st)
 (hb:∀(cdv:Value) (A:Around) (outer:List Env) (s:Shared) (H:Hp) (vs:LV) (Q:VK) (E:XK),Room k (A.deeper<|PyProof.Rows.envOfC qual (qG st) s.heap.objs.size f cdv)->sp vs H Q E->N.Nodup->
   ∀X:Prop,((∃t,PSs ((qMj (CXR P w) P w K mg base N qual (qG st) f cdv A outer s H E).wish<|XE (qMj (CXR P w) P w K mg base N qual (qG st) f cdv A outer s H E) E) (j9 st) t/\t {nx:=λ_ H'=>Q .non H',rt:=Q} (qBr N vs) H)->X)->X)
 (J:∀vs H Q E,sp vs H Q E->vs.length=ps.length:=by trivial):FnOk P w K mg base (CXR P w) (k+1) f fd ps sp:=
 okX F S J λcdv A outer s H vs Q E hr h=>hb cdv A outer s H vs Q E hr h S.nd _ id
set_option hygiene false
local macro_rules|`(tactic|rcases $d:term,$s:term with $p)=>`(tactic|(refine $d $s fun _ A _ s H vs Q E hr h nd _ Y=>?_;rcases h with $p))
def rf2{α β γ:Sort _}{f:α->β->γ}(a:α)(b:β):f a b=f a b:=rfl
local macro_rules|`(tactic|exists $t)=>let i n:Lean.Syntax:=Lean.mkIdent n;let p f (a:Array Lean.Syntax):Lean.Syntax:=Lean.mkNode `Lean.Parser.Term.app %[i f,Lean.mkNullNode a|0];let t:=t.raw.rewriteBottomUp fun x=>let a:=x[1].getSepArgs;let b:=x[1].getArgs;let k:=x.getKind;if k==`num&&x[0].getAtomVal.length<3 then p `pv %[x|0] else if k==`«term[_]» then a.foldr (p `qA %[·,·|0]) (i `qB) else if k==`«term#[_,]»&&a.size>0 then a.pop.foldr (p `qD %[·,·|0]) (p `qF %[a.back!|0]) else let f:=x[0].getId;if b.size==3&&(f==`qK||f==`xA)&&b[1]!.isIdent then p f %[b[0]!,p b[1]!.getId %[i `T|0],i `hr,i `rfl,b[2]!|0] else if b.size==2&&f==`qc then p f %[b[0]![1][0],i `nd,b[1]!|0] else if b.size==3&&f==`qM then p f (b.push (p `qP %[Lean.mkHole x|0])) else if b.size==3&&f==`jR then p f (b.push (p `qP %[Lean.mkHole x|0])) else if b.size==3&&f==`jI then p f (b.push (i `rf2)) else  x;`(tactic|(refine Y ⟨_,$(⟨t⟩),?_⟩;try dsimp only[jK,qi]))
local macro_rules|`(tactic|ext)=>`(tactic|refine qU fun _ Y=>?_)|`(tactic|symm)=>`(tactic|apply Y)
set_option hygiene true
inductive qNo(vs:LV)(H:Hp)(Q:VK)(_:XK):Prop
|mk (i:Int) (_:vs=[.int i]) (_:Q (.bl true) H)
def jL:Fo P w base T.D0 1 qNo:=by
 rcases oL T.D0.F,qNi with⟨i,rfl,q⟩;exists #[qL (zf (qg xw rfl T.b_isinstance rfl [0,qQ5 rfl T.b_int rfl]) (vY (qYo (qg xw rfl T.b_isinstance rfl [0,qQ5 rfl T.b_bool rfl]))))]
 show#[_,O,_,_,_,true,O,.int i,#[_,.inl #[O,O]],true,O,ju ?_];show#[_,O,_,_,_,false,O,.int i,#[_,.inl #[O,by kernel_rfl]],false,O,?_];show q
inductive qCs(vs:LV)(H:Hp)(Q:VK)(_:XK):Prop
|mk (i j:Int) (_:vs=[.int i,.int j]) (_:Q (.int ((Int.gcd i j:Nat):Int)) H)
def kP:Fo P w base T.D1 1 qCs:=by
 rcases oL T.D1.F,j4 with⟨i,j,rfl,q⟩;exists #[qHp PassesOwn.never (qM wH 1 qH) #[qc 2 (qR jF 0 1),qc 0 1,qc 1 2],qL (qg qJe rfl T.b_abs rfl [0])]
 show qU0 (λσ H'=>H'=H/\∃(x y:Int) (v:Option V),σ=[some<|.int x,some<|.int y,v]/\Int.gcd x y=Int.gcd i j)
  (λσ _=>match σ with|[_,some<|.int y,_]=>y.natAbs|_=>0) #[rfl,i,j,none,rfl,rfl] ?_ ?_
 . rintro σ H1 ⟨rfl,x,y,v,rfl,e⟩
   show#[_,O,O,_,O,?_];show jw (λc=>?_) (λc=>?_)
   . have F:y≠0:= ~~~c
     show#[_,O,_,O,_,_,O,O,F,_,O,_,O,#[O,y,x.fmod y,_,O,?_],?_]
     . rw[qVb];show e
     . show qWj x y F
   . have F:y=0:= ~~~c
     subst F;show#[_,O,x,O,?_];have e2:(if x<0 then-x else x)=((Int.gcd i j:Nat):Int):=by rw[<-e,Int.gcd_zero_right];split <;> lia
     rw[e2];show q
 . rintro σ H1 Q1 Q2 J h
   ext;let#[v,e,s,k,hk,z]:=h;symm;show#[v,e,s,k,hk,J _ _ z]
def qU9{t:Int}(h:b≠0)(F:b.natAbs<2 ^ 8000):CDivB t (sg t b)/\CDivB b (sg t b):=by
 have h1:=jA8 (t:=t) h;have h2:(sg t b).natAbs<2 ^ 8000:=by rw[qOg];show Yd (Nat.le_of_dvd ()<|Int.gcd_dvd_natAbs_right ..) F
 show#[#[h1,h2],#[h1,h2]]
inductive qNr(vs:LV)(H:Hp)(Q:VK)(_:XK):Prop
|mk (t b:Int) (_:vs=[.int t,.int b]) (_:b≠0) (_:b.natAbs<2 ^ 8000) (_:qW9 H Q (zN t b) (xk t b))
def xx:Fo P w base T.D3 2 qNr:=by
 rcases oL T.D3.F,qA1 with⟨t,b,rfl,hb,hs,q⟩;exists #[qh (PW.pt (xK (jg (jQ (qK T.D0 jL [0]))) (jf (jg (jQ (qK T.D0 jL [1])))))) xF qO,qh (qM jP 1 qH) xF qO,qc 2 (qK T.D1 kP [0,1]),qh (qM zV 1 qH) #[qc 2 (qA0 zX 2)] qO,qL (qZ [qR jA 0 2,qR jA 1 2])]
 show#[_,O,t,O,true,O,jH ?_];show#[_,O,b,O,true,O,jH ?_];show#[_,O,O,_,O,?_];show jw (λc=>YC ( ~~~c) hb) (λ_=>?_);show#[_,O,_,O,t,b,O,?_];show#[_,O,_,_,O,O,_,O,?_];let#[F,J]:=qU9 (t:=t) hb hs;show jw (λc=>?_) (λc=>?_)
 . have c':b<0:= ~~~c
   have e: -((Int.gcd t b:Nat):Int)=sg t b:=by delta sg;rw[YB c']
   have q':qW9 H Q (t.fdiv (-((Int.gcd t b:Nat):Int))) (b.fdiv (-((Int.gcd t b:Nat):Int))):=by rw[e];show q
   show#[_,O,_,O,_,O,_,O,_,_,O,O,(by rw[e];show F),_,O,_,O,_,_,O,O,(by rw[e];show J),sL2,q']
 . have c':¬b<0:= ~~~c
   have e:((Int.gcd t b:Nat):Int)=sg t b:=by delta sg;rw[YA c']
   have q':qW9 H Q (t.fdiv ((Int.gcd t b:Nat):Int)) (b.fdiv ((Int.gcd t b:Nat):Int)):=by rw[e];show q
   show#[_,O,_,O,_,_,O,O,(by rw[e];show F),_,O,_,O,_,_,O,O,(by rw[e];show J),sL2,q']
def Pr(K:Fg)(H:Hp)(v:V)(p q:Int):Prop:= ∃z,v=.ref z/\SqT K H z [.int p,.int q]
def Sm(i:Int):Prop:=i.natAbs<2 ^ 3000
def Sm.mul{i:Int}(h1:Sm i)(h2:Sm j):CMulB i j:=by delta Sm at h1 h2;have:(2:Nat) ^ 3000<=2 ^ 60000:=Yh #[] #[];show .inr #[(),()]
def Sm.prod{i:Int}(h1:Sm i)(h2:Sm j):(i*j).natAbs<2 ^ 8000:=by delta Sm at h1 h2;rw[Int.natAbs_mul];have F:i.natAbs*j.natAbs<2 ^ 3000*2 ^ 3000:=Nat.mul_lt_mul'' h1 h2;rw[<-Nat.pow_add]at F;show YR F<|Yh #[] #[]
def at0{x y:V}:atI [x,y] 0=some x:=rfl
def at1{x y:V}:atI [x,y] 1=some y:=rfl
inductive qR6(K:Fg)(vs:LV)(H:Hp)(Q:VK)(_:XK):Prop
|mk (x y:V) (p q r s:Int) (_:vs=[x,y]) (_:Pr K H x p q) (_:Pr K H y r s) (_:q≠0) (_:s≠0) (_:Sm p) (_:Sm q) (_:Sm r) (_:Sm s) (_:qW9 H Q (zN (p*s+r*q) (q*s)) (xk (p*s+r*q) (q*s)))
def qRa:Fo P w base T.D4 3 (qR6 K):=by
 rcases oL T.D4.F,qRt with⟨x,y,p,q,r,s',rfl,⟨z1,rfl,h1⟩,⟨z2,rfl,h2⟩,hq,hs,J,F,br,bs,k⟩;exists #[qL (qK T.D3 xx [qR qx (qR jd (qJ 0) (qJ 1)) (qR jd (qJ 1) (qJ 0)),qR jd (qJ 0) (qJ 1)])]
 show(z7 rfl h1 at0<|z7 rfl h2 at1 #[_,_,O,O,J.mul bs,?_]);show(z7 rfl h2 at0<|z7 rfl h1 at1 #[_,_,O,O,br.mul F,_,_,O,O,?_]);show(z7 rfl h1 at1<|z7 rfl h2 at1 #[_,_,O,O,F.mul bs,?_]);show#[_,_,O,ZW hq hs,F.prod bs,k]
inductive qNa(K:Fg)(vs:LV)(H:Hp)(Q:VK)(_:XK):Prop
|mk (x:V) (p q:Int) (_:vs=[x]) (_:Pr K H x p q) (_:q≠0) (_:q.natAbs<2 ^ 8000) (_:Q (.int (p.fdiv q)) H)
def vK:Fo P w base T.D9 1 (qNa K):=by
 rcases oL T.D9.F,qMv with⟨x,p,q,rfl,⟨z1,rfl,h1⟩,J,F,k⟩;exists #[qL (qR jA (qJ 0) (qJ 0))]
 show(z7 rfl h1 at0<|z7 rfl h1 at1 #[_,_,O,O,#[J,F],k])
def nz(h:j≠0:=by decide):j≠0:=h
def cdB{i:Int}(F:j≠0)(h:j.natAbs<18446744073709551616):CDivB i j:=
 #[F,YR h (ZD (by decide:18446744073709551616<=2 ^ 64)<|Yh #[] #[])]
def cmL{i:Int}(h1: -(18446744073709551616:Int)<i)(h2:i<18446744073709551616):CMulB i j:=.inl<|.inl #[h1,h2]
def fm(i:Int)(h:0<j):0<=i.fmod j/\i.fmod j<j:=#[Int.fmod_nonneg_of_pos i h,Int.fmod_lt_of_pos i h]
def cpw(h:n<=1000000):jBj 10 (n:Int):=#[(),(),#[]]
def qYa(n:Nat)(p q:Int):Prop:=0<q/\Int.gcd p q=1/\p.natAbs<2 ^ n/\q.natAbs<2 ^ n
def Sm.of200{i:Int}(h:i.natAbs<2 ^ 200):Sm i:=YR h<|Yh #[] #[]
inductive qMw(K:Fg)(vs:LV)(H:Hp)(Q:VK)(_:XK):Prop
|mk (x y:V) (p q r s:Int) (_:vs=[x,y]) (_:Pr K H x p q) (_:Pr K H y r s) (_:q≠0) (_:s≠0) (_:Sm p) (_:Sm q) (_:Sm r) (_:Sm s) (_:qW9 H Q (zN (p*r) (q*s)) (xk (p*r) (q*s)))
def qNg:Fo P w base T.D6 3 (qMw K):=by
 rcases oL T.D6.F,qNh with⟨x,y,p,q,r,s',rfl,⟨z1,rfl,h1⟩,⟨z2,rfl,h2⟩,hq,hs,J,F,br,bs,k⟩;exists #[qL (qK T.D3 xx [qR jd (qJ 0) (qJ 1),qR jd (qJ 0) (qJ 1)])]
 show(z7 rfl h1 at0<|z7 rfl h2 at0 #[_,_,O,O,J.mul br,?_]);show(z7 rfl h1 at1<|z7 rfl h2 at1 #[_,_,O,O,F.mul bs,?_]);show#[_,_,O,ZW hq hs,F.prod bs,k]
inductive qQo(K:Fg)(vs:LV)(H:Hp)(Q:VK)(_:XK):Prop
|mk (x y:V) (p q r s:Int) (_:vs=[x,y]) (_:Pr K H x p q) (_:Pr K H y r s) (_:q≠0) (_:s≠0) (_:Sm p) (_:Sm q) (_:Sm r) (_:Sm s) (_:qW9 H Q (zN (p*s-r*q) (q*s)) (xk (p*s-r*q) (q*s)))
def qCm:Fo P w base T.D5 3 (qQo K):=by
 rcases oL T.D5.F,qPx with⟨x,y,p,q,r,s',rfl,⟨z1,rfl,h1⟩,⟨z2,rfl,h2⟩,hq,hs,J,F,br,bs,k⟩;exists #[qL (qK T.D3 xx [qR jU (qR jd (qJ 0) (qJ 1)) (qR jd (qJ 1) (qJ 0)),qR jd (qJ 0) (qJ 1)])]
 show(z7 rfl h1 at0<|z7 rfl h2 at1 #[_,_,O,O,J.mul bs,?_]);show(z7 rfl h2 at0<|z7 rfl h1 at1 #[_,_,O,O,br.mul F,_,_,O,O,?_]);show(z7 rfl h1 at1<|z7 rfl h2 at1 #[_,_,O,O,F.mul bs,?_]);show#[_,_,O,ZW hq hs,F.prod bs,k]
inductive qN1(K:Fg)(vs:LV)(H:Hp)(Q:VK)(_:XK):Prop
|mk (x y:V) (p q r s:Int) (_:vs=[x,y]) (_:Pr K H x p q) (_:Pr K H y r s) (_:q≠0) (_:r≠0) (_:Sm p) (_:Sm q) (_:Sm r) (_:Sm s) (_:qW9 H Q (zN (p*s) (q*r)) (xk (p*s) (q*r)))
def qF9:Fo P w base T.D7 3 (qN1 K):=by
 rcases oL T.D7.F,qM4 with⟨x,y,p,q,r,s',rfl,⟨z1,rfl,h1⟩,⟨z2,rfl,h2⟩,hq,F,bp,bq,J,bs,k⟩;exists #[qL (qK T.D3 xx [qR jd (qJ 0) (qJ 1),qR jd (qJ 0) (qJ 1)])]
 show(z7 rfl h1 at0<|z7 rfl h2 at1 #[_,_,O,O,bp.mul bs,?_]);show(z7 rfl h1 at1<|z7 rfl h2 at0 #[_,_,O,O,bq.mul J,?_]);show#[_,_,O,ZW hq F,bq.prod J,k]
inductive qLx(K:Fg)(vs:LV)(H:Hp)(Q:VK)(_:XK):Prop
|mk (x y:V) (p q r s:Int) (_:vs=[x,y]) (_:Pr K H x p q) (_:Pr K H y r s) (_:Sm p) (_:Sm q) (_:Sm r) (_:Sm s) (_:Q (.bl (decide (p*s<r*q))) H)
def qK4:Fo P w base T.D8 1 (qLx K):=by
 rcases oL T.D8.F,qLi with⟨x,y,p,q,r,s',rfl,⟨z1,rfl,h1⟩,⟨z2,rfl,h2⟩,F,bq,J,bs,k⟩;exists #[qL (jR zV (qR jd (qJ 0) (qJ 1)) (qR jd (qJ 1) (qJ 0)))]
 show(z7 rfl h1 at0<|z7 rfl h2 at1 #[_,_,O,O,F.mul bs,?_]);show(z7 rfl h2 at0<|z7 rfl h1 at1 #[_,_,O,O,J.mul bq,_,_,O,O,k])
structure Cp(K:Fg)(H:Hp)(v:V)(n:Str)(p q r s len:Int):Prop where
 ex:∃z z1 z2,v=.ref z/\SqT K H z [.str "clip",.str n,.ref z1,.ref z2,.int len]/\SqT K H z1 [.int p,.int q]/\SqT K H z2 [.int r,.int s]
def Cp.same{n:Str}{F:Int}(e:Same H H')(h:Cp K H v n p q r s F):Cp K H' v n p q r s F:=by let#[z,z1,z2,h1,h2,h3,h4]:=h.ex;show#[z,z1,z2,h1,L3.Same.tup e h2,L3.Same.tup e h3,L3.Same.tup e h4]
def qXe:atI [x0,x1,x2,x3,x4] 2=some x2:=rfl
def qN2:atI [x0,x1,x2,x3,x4] 3=some x3:=rfl
def qT4{k:Int}(hq:0<q)(hs:0<s):
 zN (p*xk (k*r) (1*s)+zN (k*r) (1*s)*q) (q*xk (k*r) (1*s))=zN (p*s+k*r*q) (q*s)/\
 xk (p*xk (k*r) (1*s)+zN (k*r) (1*s)*q) (q*xk (k*r) (1*s))=xk (p*s+k*r*q) (q*s):=by
 rw[Int.one_mul];have c:=kR (k*r) s;have n0:=zn (t:=k*r) (b:=s) ();generalize zN (k*r) s=m at c⊢;generalize xk (k*r) s=n at c n0⊢;have F:q*s≠0:=ZW () ();have b2:q*n≠0:=ZW () ();show qMa b2 (zn F) (qJv F) ?_;have e:=kR (p*s+k*r*q)<|q*s;generalize zN (p*s+k*r*q) (q*s)=u at e⊢;generalize xk (p*s+k*r*q) (q*s)=v at e⊢;have h:(u*(q*n))*s=((p*n+m*q)*v)*s:=by
  calc (u*(q*n))*s=(u*(q*s))*n:=by rw[Yi,Yi,Yi,Yi,ZK n s]
   _=((p*s+k*r*q)*v)*n:=by rw[e]
   _=(p*n*s+(k*r*n)*q)*v:=by
    have h1:(p*s+k*r*q)*v*n=(p*s+k*r*q)*n*v:=by rw[Yi,ZK v n,<-Yi]
    have h2:(p*s+k*r*q)*n=p*n*s+k*r*n*q:=by rw[Int.add_mul,Yi p s n,ZK s n,<-Yi,Yi (k*r) q n,ZK q n,<-Yi]
    rw[h1,h2]
   _=(p*n*s+(m*s)*q)*v:=by rw[<-c]
   _=((p*n+m*q)*v)*s:=by
    have J:p*n*s+m*s*q=(p*n+m*q)*s:=by rw[Int.add_mul,Yi m s q,ZK s q,<-Yi]
    rw[J,Yi,ZK s v,<-Yi]
 show ZX () h
def Sm2(i:Int):Prop:=i.natAbs<2 ^ 700
def Sm2.sm{i:Int}(h:Sm2 i):Sm i:=YR h<|Yh #[] #[]
def j7{i:Int}{m:Nat}(h1:i.natAbs<2 ^ n)(h2:j.natAbs<2 ^ m):(i*j).natAbs<2 ^ (n+m):=by rw[Int.natAbs_mul,Nat.pow_add];show Nat.mul_lt_mul'' h1 h2
inductive qM5(K:Fg)(vs:LV)(H:Hp)(Q:VK)(_:XK):Prop
|mk (v:V) (n:Str) (p q r s len k:Int) (_:vs=[v,.int k]) (_:Cp K H v n p q r s len) (_:0<q) (_:0<s) (_:Sm2 p) (_:Sm2 q) (_:Sm2 r) (_:Sm2 s) (_:Sm2 k) (_:∀z H',Same H H'->H' z=some (.tup [.int (zN (p*s+k*r*q) (q*s)),.int (xk (p*s+k*r*q) (q*s))])->Q (.ref z) H')
def zr:Fo P w base T.D12 4 (qM5 K):=by
 rcases oL T.D12.F,qMu with⟨v,n,p,q,r,s',aa,k,rfl,⟨z,z1,z2,rfl,hc,h1,h2⟩,hq,hs,bp,bq,br,bs,bk,kk⟩;exists #[qL (qK T.D4 qRa [qJ 0,qK T.D6 qNg [qK T.D3 xx [1,qH],qJ 0]])]
 show#[_,O,z,_,_,_,O,O,hc,qXe,_,O,k,1,O,#[],YR (m:=2 ^ 1) #[]<|Yh #[] #[],λy hy=>?_];have s1:=qE hy<|.tup [.int<|zN k 1,.int<|xk k 1];let#[l1,l2]:=qPd (p:=k) (q:=1) #[]<|Int.gcd_one_right ..;show#[_,O,z,_,_,_,O,O,L3.Same.tup s1 hc,qN2,?_];have J:Sm 1:=YR (m:=2 ^ 1) #[]<|Yh #[] #[];show#[_,_,k,1,r,s',O,#[y,O,?_],#[z2,O,L3.Same.tup s1 h2],#[],(),bk.sm,J,br.sm,bs.sm,λx hx=>?_]
 . have e:SqT K (upd H y<|.tup [.int<|zN k 1,.int<|xk k 1]) y [.int<|zN k 1,.int<|xk k 1]:=SqT.of qC
   rw[l1,l2]at e⊢;show e
 have s2:=s1.trans (qE hx<|.tup [.int (zN (k*r)<|1*s'),.int (xk (k*r)<|1*s')]);have F:(1*s')≠0:=()
 have n0:=zn (t:=k*r) F;have bm:Sm (zN (k*r)<|1*s'):=by show Yd (qI5 F) (YR (j7 bk br)<|Yh #[] #[])
 have bn:Sm (xk (k*r)<|1*s'):=by show Yd (wo F) ?_;rw[Int.one_mul];show bs.sm
 show#[_,_,p,q,_,_,O,#[z1,O,L3.Same.tup s2 h1],#[x,O,SqT.of qC],(),(),bp.sm,bq.sm,bm,bn,λu hu=>?_];let#[e1,e2]:=qT4 (p:=p) (r:=r) (k:=k) hq hs;show kk u _ (s2.trans<|qE hu _) ?_;rw[qC,e1,e2]
def qE7{t:Int}(hb:0<b):(zN t b).fdiv (xk t b)=t.fdiv b:=by
 have F:=qUx t b;have e2:=qSm t b;have sp:0<sg t b:=by have g:=qCi (t:=t) (b:=b) ();delta sg;rw[YA ()];lia
 have q0:=zn (t:=t) (b:=b) ();let#[h1,h2]:=jM (p:=zN t b) q0;let#[h3,J]:=jM (p:=t) hb;generalize (zN t b).fdiv (xk t b)=f at h1 h2⊢;generalize t.fdiv b=g at h3 J⊢;generalize zN t b=u at F h1 h2;generalize xk t b=v at e2 h1 h2 q0;generalize sg t b=w at F e2 sp;subst F e2;have k1:g*v<=u:=by rw[<-Yi]at h3;show Int.le_of_mul_le_mul_right h3 sp
 have k2:u<(g+1)*v:=by rw[<-Yi]at J;show Yr J ()
 have k3:f<g+1:=Yr (a:=v) () ();have k4:g<f+1:=Yr (a:=v) () ();lia
inductive qIu(K:Fg)(vs:LV)(H:Hp)(Q:VK)(_:XK):Prop
|mk (v:V) (n:Str) (p q r s len k:Int) (_:vs=[v,.int k]) (_:Cp K H v n p q r s len) (_:0<q) (_:0<s) (_:Sm2 p) (_:Sm2 q) (_:Sm2 r) (_:Sm2 s) (_:Sm2 k) (_:∀H',Same H H'->Q (.int ((p*s+k*r*q).fdiv (q*s))) H')
def qBm:Fo P w base T.D13 5 (qIu K):=by
 rcases oL T.D13.F,qHo with⟨v,n,p,q,r,s',F,k,rfl,hc,J,hs,bp,bq,br,bs,bk,kk⟩;exists #[qL (qK T.D9 vK [qK T.D12 zr [0,1]])]
 show#[_,O,_,O,v,n,p,q,r,s',F,k,O,hc,J,hs,bp,bq,br,bs,bk,λz H' sH hz=>?_];have b1:q*s'≠0:=ZW () ();show#[_,_,_,O,#[z,O,SqT.of hz],?_,?_,?_]
 . have:=zn (t:=p*s'+k*r*q) b1;lia
 . show Yd (wo b1) (YR (j7 bq bs)<|Yh #[] #[])
 . rw[qE7<|Yu J hs]
   show kk H' sH
def qY2:atI [x0,x1,x2,x3,x4] 0=some x0:=rfl
def qLk:atI [x0,x1,x2,x3,x4] 1=some x1:=rfl
def qDw:atI [x0,x1,x2,x3,x4] 4=some x4:=rfl
def eq2(a b c d:Int):qL6 [.int a,.int b] [.int c,.int d]=(a==c && b==d):=by simp[qL6,eqV,List.range_succ]
structure Bn(n:Nat)(p q r s:Int):Prop where
 q0:0<q
 s0:0<s
 bp:p.natAbs<2 ^ n
 bq:q.natAbs<2 ^ n
 br:r.natAbs<2 ^ n
 bs:s.natAbs<2 ^ n
def qCe{i:Int}{m:Nat}(h:i.natAbs<2 ^ n)(l:n<=m:=by decide):i.natAbs<2 ^ m:=YR h<|Yh #[] l
def Bn.mono{m:Nat}(h:Bn n p q r s)(l:n<=m:=by decide):Bn m p q r s:=#[h.q0,h.s0,qCe h.bp l,qCe h.bq l,qCe h.br l,qCe h.bs l]
def Bn.part{k:Int}(h:Bn 110 p q r s)(hk:k.natAbs<2 ^ 30):Bn 340 (plP p q r s k) (plQ p q r s k) r s:=by
 let#[J,F,bp,bq,br,bs]:=h;show#[qG9 J F,F,Yd (qXd J F) ?_,Yd (qX4 J F) (qCe<|j7 bq bs),qCe br,qCe bs];have h1:=j7 bp bs;have h2:=j7 (j7 hk br) bq;have e:(2:Nat) ^ (110+110)+2 ^ (30+110+110)<=2 ^ 340:=#[]
 lia
def qT8{i:Int}(h:i.natAbs<2 ^ n)(l:n<=8000:=by decide):i.natAbs<2 ^ 8000:=qCe h l
inductive qEt(K:Fg)(vs:LV)(H:Hp)(Q:VK)(_:XK):Prop
|mk (z:Addr) (ns:LN) (i:Int) (_:vs=[.ref z,.int i]) (_:SqL K H z (ns.map V.int)) (_:ns.length<=63) (_:0<=i) (_:∀c:Int,Q (.int c) H)
def vt:Fo P w base T.D77 1 (qEt K):=by
 rcases oL T.D77.F,qF2 with⟨z,ns,i,rfl,hS,hl,h0,k⟩;exists #[qh (qM zV 1 (qg jE rfl T.b_len rfl [0])) #[qL (jI qk 0 1)] qO,qL qH]
 have J:(ns.map V.int).length=ns.length:=YS _;show#[_,O,_,O,z,_,O,.inl hS,_,_,O,O,_,O,?_];show jw (λc=>?_) (λ_=>?_)
 . have c':i<((ns.map V.int).length:Int):=ZM c
   rw[J]at c';have hi:i.toNat<ns.length:=()
   have e:i=((i.toNat:Nat):Int):=()
   have F:atI (ns.map V.int) ((i.toNat:Nat):Int)=some (.int ns[i.toNat]):=jC (by rw[Yj,YD hi];rfl);rw[<-e]at F;show#[_,O,_,O,z,_,_,.int ns[i.toNat],O,O,hS,F,k _]
 . show k 0
noncomputable def thB(i m:Int):Bool:=decide (0<=i) && decide (i<m)
def qSl{D m:Int}(F:0<D):thB (N.fdiv D) m=true↔InR N D m:=by rw[qGj F];simp[thB]
inductive qNn(vs:LV)(H:Hp)(Q:VK)(_:XK):Prop
|mk (i m:Int) (_:vs=[.int i,.int m]) (_:Q (.bl (thB i m)) H)
def qAr:Fo P w base T.D14 1 qNn:=by
 rcases oL T.D14.F,qMt with⟨i,m,rfl,q⟩;exists #[qL (zf (jR qU5 qH 0) (vY (jR zV 0 1)))]
 show#[_,O,_,_,O,O,_,O,?_];delta thB at q;by_cases F:0<=i
 . rw[YX F]at q⊢
   show ju #[_,O,_,O,_,_,O,O,q]
 . rw[YW F]at q⊢
   show jH q
noncomputable def jA6(c:Nat):Bool:=!(Builtin.Str.occurrences "abcdefghijklmnopqrstuvwxyz" #[%[c|0]] 0 ("abcdefghijklmnopqrstuvwxyz":Str).length 1).isEmpty
def qJg(z:Str):Bool:=decide (1<=z.length/\z.length<=8) && z.cps.toList.all jA6
def qJs{c d:Int}(hd:0<d)(g:Int.gcd c d=1):zN (0*d-c*1) (1*d)=-c/\xk (0*d-c*1) (1*d)=d:=by
 show qMa () hd (by rw[Int.neg_gcd];show g) ?_
 grind
inductive qD3(K:Fg)(vs:LV)(H:Hp)(Q:VK)(_:XK):Prop
|mk (x y:V) (A B c d m:Int) (_:vs=[x,y,.int m]) (_:Pr K H x A B) (_:Pr K H y c d) (_:0<B) (_:0<d) (_:Int.gcd c d=1) (_:A.natAbs<2 ^ 700) (_:B.natAbs<2 ^ 700) (_:c.natAbs<2 ^ 700) (_:d.natAbs<2 ^ 700) (_:m.natAbs<2 ^ 700) (_:∀H',Same H H'->Q (.int (zk (A*d) (c*B) (B*d) m)) H')
def vZ:Fo P w base T.D18 4 (qD3 K):=by
 rcases oL T.D18.F,zF with⟨x,y,F,B,c,d,m,rfl,⟨z1,rfl,h1⟩,⟨z2,rfl,h2⟩,hB,hd,hg,bA,bB,bc,bd,bm,kk⟩;symm;have hu:=hr.units0;show#[_,(qD (qh (qM (qV3 hu) (pv 1) (jb (v:=.ref a.n_NOUGHT) rfl T.g_NOUGHT rfl)<|qP _) (qF (qL<|jb (v:=.int 1000000) rfl T.g_MOST_ROOM #[_,O])) qO)
  (qD (qh (jg (jQ<|qK T.D14 (qAr T) hr rfl (qA (qK T.D9 (vK T) hr rfl<|qA (pv 0) qB)<|qA (pv 2) qB))) (qF<|qL qH) qO)
  (qD (wZ (qh (jQ<|qK T.D8 (qK4 T) hr rfl (qA (pv 1)<|qA (jb (v:=.ref a.n_NOUGHT) rfl T.g_NOUGHT rfl) qB)) (qF (qc 3 zF.nd<|qR qx (qK T.D9 (vK T) hr rfl<|qA (qK T.D7 (qF9 T) hr rfl (qA (pv 0)<|qA (qK T.D5 (qCm T) hr rfl (qA (jb (v:=.ref a.n_NOUGHT) rfl T.g_NOUGHT rfl)<|qA (pv 1) qB)) qB)) qB) qH))<|qF (qc 3 zF.nd<|qA0 zX (qK T.D9 (vK T) hr rfl<|qA (qK T.D7 (qF9 T) hr rfl (qA (qK T.D5 (qCm T) hr rfl (qA (pv 0)<|qA (qK T.D3 (xx T) hr rfl (qA (pv 2)<|qA qH qB)) qB))<|qA (pv 1) qB)) qB))))
  (qF (qL<|qg (zm rfl) rfl T.b_min rfl (qA (pv 3)<|qA (jb (v:=.int 1000000) rfl T.g_MOST_ROOM #[_,rfl]) qB)))))),?_]
 try dsimp only[jK,qi]
 have S:∀{i:Int},i.natAbs<2 ^ 700->Sm i:=λh=>qCe h;have aa:Sm 1:=Sm.of200 #[];have ae:Sm 0:=Sm.of200 #[];have ak:=Yu hB hd;have H1:∀{H':Hp},Same H H'->SqT K H' z1 [.int F,.int B]:=λe=>L3.Same.tup e h1;have H2:∀{H':Hp},Same H H'->SqT K H' z2 [.int c,.int d]:=λe=>L3.Same.tup e h2;show#[_,O,_,_,_,_,O,O,h2,T.sq_NOUGHT _,O,O,_,O,?_];rw[YA (by decide:¬(false=true)),eq2];by_cases hc:c=0
 . have d1:d=1:=by subst hc;rw[Int.gcd_zero_left]at hg;lia
   rw[show (c==0 && d==1)=true by simp[hc,d1]];show ju ?_;have:=kk H<|Same.refl _;unfold zk at this;rw[YB (by rw[hc,Int.zero_mul])]at this;show this
 rw[show (c==0 && d==1)=false by simp[hc]];show jH ?_;have ag:¬(c*B=0):=ZW hc ();have ef:F.fdiv B=(F*d).fdiv (B*d):=qC2 hB ak (by grind);show#[_,O,_,F,B,O,#[z1,O,h1],(),qT8 bB,_,O,_,_,O,_,O,?_];by_cases ht:0<=F.fdiv B/\F.fdiv B<m
 rotate_left
 . rw[show thB (F.fdiv B) m=false by delta thB;rw[Bool.eq_false_iff];simpa using ht]
   show ju ?_;have:=kk H<|Same.refl _;unfold zk at this;rw[YA ag,YB (by rw[<-ef];show ht)]at this;show this
 rw[show thB (F.fdiv B) m=true by simp[thB,ht]];show jH ?_;have ah:∀H',Same H H'->Q (.int (if 1000000<(if c*B<0 then (F*d).fdiv (-(c*B))+1 else-((F*d-m*(B*d)).fdiv<|c*B))then 1000000 else (if c*B<0 then (F*d).fdiv (-(c*B))+1 else-((F*d-m*(B*d)).fdiv<|c*B)))) H':=λH' e=>by have:=kk H' e;unfold zk at this;rw[YA ag,YA (by rw[<-ef];simpa using ht)]at this;show this
 generalize aj:(if c*B<0 then (F*d).fdiv (-(c*B))+1 else-((F*d-m*(B*d)).fdiv<|c*B))=g at ah;show#[λσ' H'=>σ'=[some<|.ref z1,some<|.ref z2,some<|.int m,some<|.int g]/\Same H H',?_,?_]
 . show#[_,O,_,_,c,d,0,1,O,#[z2,O,h2],#[_,O,T.sq_NOUGHT _],S bc,S bd,ae,aa,_,O,?_]
   by_cases hn:c*1<0*d
   . rw[YX hn]
     show ju ?_;have c0:c<0:=()
     show#[_,O,_,O,_,_,0,1,c,d,O,#[_,O,T.sq_NOUGHT _],#[z2,O,h2],#[],(),ae,aa,S bc,S bd,λu ac=>?_];rw[(qJs hd hg).1,(qJs hd hg).2];have w1:=qE ac<|.tup [.int (-c),.int d];have ai:(-c).natAbs<2 ^ 700:=by rw[Int.natAbs_neg];show bc
     have J:0<B*(-c):=Yu hB ();show#[_,_,F,B,-c,d,O,#[z1,O,H1 w1],#[u,O,SqT.of qC],(),(),S bA,S bB,S ai,S bd,λv hv=>?_];have w2:=w1.trans (qE hv<|.tup [.int (zN (F*d)<|B*(-c)),.int (xk (F*d)<|B*(-c))]);have lq:=zn (t:=F*d) (b:=B*(-c)) ();show#[_,_,_,O,#[v,O,SqT.of qC],(),Yd (wo ()) (qT8<|j7 bB ai),?_];rw[qE7 J];show#[_,_,O,O,?_,w2];have e:g=(F*d).fdiv (B* -c)+1:=by rw[<-aj,YB (by have:=Int.mul_neg_of_neg_of_pos c0 hB;show this)];rw[show-(c*B)=B* -c by grind]
     rw[e];rfl
   . rw[YW hn]
     show jH ?_;have c0:0<c:=()
     let#[l1,l2]:=qPd (p:=m) (q:=1) #[]<|Int.gcd_one_right ..;show#[_,O,_,O,m,1,O,#[],qT8 (n:=1) #[],λu ac=>?_];rw[l1,l2];have w1:=qE ac<|.tup [.int m,.int 1];show#[_,_,F,B,m,1,O,#[z1,O,H1 w1],#[u,O,SqT.of qC],(),#[],S bA,S bB,S bm,aa,λv hv=>?_];have ad:B*1≠0:=()
     have cr:=kR (F*1-m*B)<|B*1;have lq:=zn (t:=F*1-m*B) ad;have aP:=qI5 (t:=F*1-m*B) ad;have aQ:=wo (t:=F*1-m*B) ad;have w2:=w1.trans (qE hv<|.tup [.int (zN (F*1-m*B)<|B*1),.int (xk (F*1-m*B)<|B*1)]);have ev:=qC (H:=upd H u<|.tup [.int m,.int 1]) (a:=v) (o:=.tup [.int (zN (F*1-m*B)<|B*1),.int (xk (F*1-m*B)<|B*1)]);generalize upd (upd H u<|.tup [.int m,.int 1]) v (.tup [.int (zN (F*1-m*B)<|B*1),.int (xk (F*1-m*B)<|B*1)])=H3 at w2 ev⊢;generalize zN (F*1-m*B) (B*1)=P' at cr aP ev⊢;generalize xk (F*1-m*B) (B*1)=Q' at cr aQ lq ev⊢;have sP:Sm P':=by
      have t:=j7 bm bB;have:(F*1-m*B).natAbs<2 ^ 1500:=by
       have e:(2:Nat) ^ 700+2 ^ (700+700)<=2 ^ 1500:=#[]
       rw[Int.mul_one];show YR (Yd (Int.natAbs_sub_le _ _)<|Nat.add_lt_add bA t) e
      show Yd aP (qCe this)
     have bQ:Q'.natAbs<2 ^ 700:=by rw[Int.mul_one]at aQ;lia
     show#[_,O,_,_,P',Q',c,d,O,#[v,O,SqT.of ev],#[z2,O,H2 w2],(),hc,sP,S bQ,S bc,S bd,λx hx=>?_];have J:0<Q'*c:=Yu lq c0;have w3:=w2.trans (qE hx<|.tup [.int (zN (P'*d)<|Q'*c),.int (xk (P'*d)<|Q'*c)]);have al:=zn (t:=P'*d) (b:=Q'*c) ();show#[_,_,_,O,#[x,O,SqT.of qC],(),Yd (wo ()) (qT8<|j7 bQ bc),?_];rw[qE7 J];show#[_,O,?_,w3];have e:g=-(P'*d).fdiv (Q'*c):=by have af:=Yu c0 hB;rw[<-aj,YA ()];rw[qC2 af J (by grind:(F*d-m*(B*d))*(Q'*c)=P'*d*(c*B))]
     rw[e];rfl
 rintro σ' H' ⟨rfl,sH⟩;show#[_,O,_,_,O,ah H' sH]
def qMr(e:Same H H'){a:Addr}{u:HO}(h:Rd H a u):Rd H' a u:=by
 rcases h with h|⟨o,h⟩
 . show .inl (e _ _ h)
 . show .inr #[o,e _ _ h]
def Reel(H:Hp)(rd:Addr)(n:Str)(m:Int):Prop:= ∃kvs,Rd H rd (.dK kvs)/\qTx kvs (Sum.inr n)=some (.int m)
def Reel.same{n:Str}{m:Int}(e:Same H H')(h:Reel H rd n m):Reel H' rd n m:=by let#[k,h1,h2]:=h;show#[k,qMr e h1,h2]
def Reel.get{n:Str}{m:Int}(h:Reel H rd n m):qX9 H rd (.str n) (some<|.int m):=let #[k,h1,h2]:=h;.inl #[k,Sum.inr n,h1,rfl,h2.symm]
noncomputable def Vk(p q r s k:Int):Int:=p*s+k*r*q
structure Ch(H:Hp)(z:Addr)(n:Str)(p q r s len:Int):Prop where
 ex:∃z1 z2,H z=some (.tup [.str "clip",.str n,.ref z1,.ref z2,.int len])/\H z1=some (.tup [.int p,.int q])/\H z2=some (.tup [.int r,.int s])
def Ch.same{n:Str}{F:Int}(e:Same H H')(h:Ch H z n p q r s F):Ch H' z n p q r s F:=by let#[z1,z2,h1,h2,h3]:=h.ex;show#[z1,z2,e _ _ h1,e _ _ h2,e _ _ h3]
def Ch.cp{n:Str}{F:Int}(h:Ch H z n p q r s F):Cp K H (.ref z) n p q r s F:=by let#[z1,z2,h1,h2,h3]:=h.ex;show#[z,z1,z2,rfl,SqT.of h1,SqT.of h2,SqT.of h3]
def qHn{k0 e m:Int}(hq:0<q)(hs:0<s)(he:e=1\/e=-1)(h0:r=0->InR (Vk p q r s 0) (q*s) m):
 let g:=zk (plP p q r s k0*s) (e*r*plQ p q r s k0) (plQ p q r s k0*s) m
 0<=g/\g<=1000000/\(∀j,0<=j->j<g->InR (Vk p q r s<|k0+e*j) (q*s) m)/\(g<1000000->¬InR (Vk p q r s<|k0+e*g) (q*s) m)/\(r=0->g=1000000):=by
 intro g;have c:=qEp p q r s k0;have hb:=qG9 (p:=p) (r:=r) (k:=k0) hq hs;have J:=Yu hb hs;have ac:=Yu hq hs;have F:∀j:Int,InR (plP p q r s k0*s+j*(e*r*plQ p q r s k0)) (plQ p q r s k0*s) m↔InR (Vk p q r s<|k0+e*j) (q*s) m:=λj=>by
  show qKe J ac ?_;delta Vk;generalize plP p q r s k0=u at c⊢;generalize plQ p q r s k0=v at c⊢
  grind
 have aa:=qW0 (N:=plP p q r s k0*s) (R:=e*r*plQ p q r s k0) (D:=plQ p q r s k0*s) (m:=m) J (λz=>by
  have r0:r=0:=by
   rcases Int.mul_eq_zero.mp z with z|z
   . rcases Int.mul_eq_zero.mp z with z|z
     . lia
     . show z
   . lia
  have:=h0 r0;have e0:=(F 0).mpr (by
   have e:Vk p q r s (k0+e*0)=Vk p q r s 0:=by delta Vk;rw[r0];grind
   rw[e];show this)
  rw[Int.zero_mul,Yc]at e0;show e0)
 let#[k1,k2,k3,k4,k5]:=aa;show#[k1,k2,λj a b=>(F j).mp<|k3 j a b,λz w=>k4 z<|(F _).mpr w,λz=>k5 ?_];rw[z]
 grind
inductive qLy(K:Fg)(vs:LV)(H:Hp)(Q:VK)(_:XK):Prop
|mk (v:V) (n:Str) (p q r s len m:Int) (rd:Addr) (_:vs=[v,.ref rd]) (_:Cp K H v n p q r s len) (_:qYa 110 p q) (_:qYa 110 r s) (_:Reel H rd n m) (_:m.natAbs<2 ^ 700) (_:∀H',Same H H'->Q (.int (zk (plP p q r s (-1)*s) (-1*r*plQ p q r s (-1)) (plQ p q r s (-1)*s) m)) H')
def wQ:Fo P w base T.D19 5 (qLy K):=by
 rcases oL T.D19.F,qLq with⟨v,n,p,q,r,s',ad,m,rd,rfl,hc,g1,J,ac,bm,kk⟩;symm;have aa:=qXy hr;show#[_,(qF (qL (qK T.D18 (vZ T) hr rfl (qA (qK T.D12 (zr T) hr rfl (qA (pv 0)<|qA (qA0 zX qH) qB)) (qA (qK T.D5 (qCm T) hr rfl (qA (jb (v:=.ref a.n_NOUGHT) rfl T.g_NOUGHT rfl)<|qA (qJ<|pv 0) qB)) (qA (qNv aa (pv 1) (qJ<|pv 0) (λ_ _=>rfl)) qB)))))),?_]
 try dsimp only[jK,qi]
 have hb:Bn 110 p q r s':=#[g1.1,J.1,g1.2.2.1,g1.2.2.2,J.2.2.1,J.2.2.2];have F:=hb.mono (m:=700);have hp:=(hb.part (k:= -1) #[]).mono (m:=700);show#[_,O,_,O,v,n,p,q,r,s',ad,-1,O,hc,F.q0,F.s0,F.bp,F.bq,F.br,F.bs,qCe (n:=30) #[],λy H1 s1 e1=>?_];ext;let#[z,z1,z2,e,h0,h1,h2]:=(hc.same s1).ex;subst e;symm;have S:∀{i:Int},i.natAbs<2 ^ 700->Sm i:=λh=>qCe h;show(z7 rfl h0 qN2 ?_);show#[_,_,0,1,r,s',rfl,#[_,rfl,T.sq_NOUGHT _],#[z2,rfl,h2],#[],by have:=hb.s0;lia,Sm.of200 #[],Sm.of200 #[],S F.br,S F.bs,λu ae=>?_];rw[(qJs hb.s0 J.2.1).1,(qJs hb.s0 J.2.1).2];have w1:=qE ae<|.tup [.int (-r),.int s'];show#[_,O,_,O,z,_,_,_,O,O,L3.Same.tup w1 h0,qLk,rd,_,O,(ac.same<|s1.trans w1).get,?_];show#[_,_,_,_,-r,s',m,O,#[y,O,SqT.of<|w1 _ _ e1],#[u,O,SqT.of qC],hp.q0,hb.s0,by rw[Int.neg_gcd];show J.2.1,hp.bp,hp.bq,by rw[Int.natAbs_neg];show F.br,F.bs,bm,λH' sH=>?_];have:=kk H' (s1.trans<|w1.trans sH);rw[show-1*r*plQ p q r s' (-1)=-r*plQ p q r s' (-1) by grind]at this;show this
inductive qKg(K:Fg)(vs:LV)(H:Hp)(Q:VK)(_:XK):Prop
|mk (v:V) (n:Str) (p q r s len m:Int) (rd:Addr) (_:vs=[v,.ref rd]) (_:Cp K H v n p q r s len) (_:qYa 110 p q) (_:qYa 110 r s) (_:len.natAbs<2 ^ 30) (_:Reel H rd n m) (_:m.natAbs<2 ^ 700) (_:∀H',Same H H'->Q (.int (zk (plP p q r s len*s) (1*r*plQ p q r s len) (plQ p q r s len*s) m)) H')
def v6:Fo P w base T.D20 5 (qKg K):=by
 rcases oL T.D20.F,qLd with⟨v,n,p,q,r,s',J,m,rd,rfl,hc,g1,g2,bl,ac,bm,kk⟩;symm;have aa:=qXy hr;show#[_,(qF (qL (qK T.D18 (vZ T) hr rfl (qA (qK T.D12 (zr T) hr rfl (qA (pv 0)<|qA (qJ<|pv 0) qB)) (qA (qJ<|pv 0) (qA (qNv aa (pv 1) (qJ<|pv 0) (λ_ _=>rfl)) qB)))))),?_]
 try dsimp only[jK,qi]
 have hb:Bn 110 p q r s':=#[g1.1,g2.1,g1.2.2.1,g1.2.2.2,g2.2.2.1,g2.2.2.2];have F:=hb.mono (m:=700);have hp:=(hb.part (k:=J) bl).mono (m:=700);have ad:=hc;ext;let#[z,z1,z2,e,h0,h1,h2]:=ad.ex;subst e;symm;show#[_,O,z7 rfl h0 qDw #[_,n,p,q,r,s',J,J,O,hc,F.q0,F.s0,F.bp,F.bq,F.br,F.bs,qCe bl,λy H1 s1 e1=>?_]];show#[_,O,z,_,_,_,O,O,L3.Same.tup s1 h0,qN2,?_];show#[_,O,_,O,z,_,_,_,O,O,L3.Same.tup s1 h0,qLk,rd,_,O,(ac.same s1).get,?_];show#[_,_,_,_,r,s',m,O,#[y,O,SqT.of e1],#[z2,O,L3.Same.tup s1 h2],hp.q0,hb.s0,g2.2.1,hp.bp,hp.bq,F.br,F.bs,bm,λH' sH=>?_];have:=kk H'<|s1.trans sH;rw[Int.one_mul]at this;show this
inductive Im where
 |clip (n:Str) (p q r s l:Int)
 |nest (n:Str) (b l:Int)
 |gap (l:Int)
 |mix (l:Int)
abbrev LI:=List Im
abbrev LL:=List LI
noncomputable def Im.d:Im->D
 |.clip n p q r s l=>.tup [.leaf (.str "clip"),.leaf (.str n),.tup [.leaf (.int p),.leaf (.int q)],.tup [.leaf (.int r),.leaf (.int s)],.leaf (.int l)]
 |.nest n b l=>.tup [.leaf (.str "nest"),.leaf (.str n),.leaf (.int b),.leaf (.int l)]
 |.gap l=>.tup [.leaf (.str "gap"),.leaf (.int l)]
 |.mix l=>.tup [.leaf (.str "mix"),.leaf (.int l)]
noncomputable def Im.wd:Im->Str
 |.clip .. =>"clip"
 |.nest .. =>"nest"
 |.gap _=>"gap"
 |.mix _=>"mix"
noncomputable def Im.l:Im->Int
 |.clip _ _ _ _ _ l=>l
 |.nest _ _ l=>l
 |.gap l=>l
 |.mix l=>l
def TS(H H':Hp):Prop:= ∀b xs,H b=some (.tup xs)->H' b=some (.tup xs)
def qd(e:Same H H'):TS H H':=λ_ _ h=>e _ _ h
def xS{l:Addr}(h:H l=some (.lst xs)):TS H (upd H l o):=λb ys F=>by rw[qS (xt F h (by intro z;cases z))];show F
def jX{y:Addr}(e:Same H H')(h:H y=none):Same H (upd H' y o):=λb u F=>by rw[qS<|qW F h];show e b u F
def IsI(H:Hp):Im->V->Prop
 |.clip n p q r s l,v=> ∃z x y:Addr,v=.ref z/\H z=some (.tup [.str "clip",.str n,.ref x,.ref y,.int l])/\H x=some (.tup [.int p,.int q])/\H y=some (.tup [.int r,.int s])
 |.nest n b l,v=> ∃z:Addr,v=.ref z/\H z=some (.tup [.str "nest",.str n,.int b,.int l])
 |.gap l,v=> ∃z:Addr,v=.ref z/\H z=some (.tup [.str "gap",.int l])
 |.mix l,v=> ∃z:Addr,v=.ref z/\H z=some (.tup [.str "mix",.int l])
def isG{l:Int}(h:H z=some (.tup [.str "gap",.int l])):IsI H (.gap l) (.ref z):=#[z,rfl,h]
def isM{l:Int}(h:H z=some (.tup [.str "mix",.int l])):IsI H (.mix l) (.ref z):=#[z,rfl,h]
def isN{n:Str}{l:Int}(h:H z=some (.tup [.str "nest",.str n,.int b,.int l])):IsI H (.nest n b l) (.ref z):=#[z,rfl,h]
theorem IsI.ts(e:TS H H'):∀{m:Im} {v:V},IsI H m v->IsI H' m v
 |.clip ..,_,#[z,x,y,h,hz,hx,hy]=>#[z,x,y,h,e _ _ hz,e _ _ hx,e _ _ hy]
 |.nest ..,_,#[z,h,hz]=>#[z,h,e _ _ hz]
 |.gap _,_,#[z,h,hz]=>#[z,h,e _ _ hz]
 |.mix _,_,#[z,h,hz]=>#[z,h,e _ _ hz]
def IsI.opn(h:IsI H m v):∃(z:Addr) (xs:LV),v=.ref z/\H z=some (.tup xs)/\atI xs 0=some (.str m.wd)/\atI xs (-1)=some (.int m.l):=by
 cases m with
 |clip n p q r s l=>let#[z,x,y,h,F,_]:=h;show#[z,_,h,F,rfl,rfl]
 |nest n b l=>let#[z,h,F]:=h;show#[z,_,h,F,rfl,rfl]
 |gap l=>let#[z,h,F]:=h;show#[z,_,h,F,rfl,rfl]
 |mix l=>let#[z,h,F]:=h;show#[z,_,h,F,rfl,rfl]
theorem qJp{H:Hp}:∀{xs:LV},xs.all kL=true->Reps K H (xs.map D.leaf) xs
 |[],_=>by simp[Reps]
 |x::xs,h=>by rw[List.all_cons,Yl]at h;rw[ZH];unfold Reps Rep;show#[#[O,h.1],qJp h.2]
def wk(F:H z=some (.tup xs))(h:xs.all kL=true):Rep K H (.tup<|xs.map D.leaf) (.ref z):=by unfold Rep;show#[z,xs,O,SqT.of F,qJp h]
theorem IsI.rep:∀{m:Im} {v:V},IsI H m v->Rep K H m.d v
 |.clip n p q r s l,_,#[z,x,y,h,hz,hx,hy]=>by
  subst h;have h1:Rep K H (.tup [.leaf<|.int p,.leaf<|.int q]) (.ref x):=wk hx rfl;have h2:Rep K H (.tup [.leaf<|.int r,.leaf<|.int s]) (.ref y):=wk hy rfl;unfold Im.d Rep;show#[z,_,O,SqT.of hz,?_];unfold Reps Reps Reps Reps Reps Reps;show#[?_,?_,h1,h2,?_,trivial]
  . unfold Rep;show#[rfl,rfl]
  . unfold Rep;show#[rfl,rfl]
  . unfold Rep;show#[rfl,rfl]
 |.nest n b l,_,#[z,h,hz]=>by subst h;show wk hz rfl
 |.gap l,_,#[z,h,hz]=>by subst h;show wk hz rfl
 |.mix l,_,#[z,h,hz]=>by subst h;show wk hz rfl
def qOi(m:Im):eqD m.d m.d=true:=by cases m <;> simp[Im.d,eqD,kO,eqV]
def qZk(m:Im):dep m.d<=2:=by cases m <;> simp[Im.d,dep,wN]
def IsIs(H:Hp):LI->LV->Prop
 |[],[]=>True
 |m::ms,v::vs=>IsI H m v/\IsIs H ms vs
 |_,_=>False
theorem IsIs.len{H:Hp}:∀{ms:LI} {vs:LV},IsIs H ms vs->vs.length=ms.length
 |[],[],_=>rfl
 |_::_,_::_,h=>by rw[YE,YE,IsIs.len h.2]
 |[],_::_,h=>h.elim
 |_::_,[],h=>h.elim
theorem IsIs.ts{H H':Hp}(e:TS H H'):∀{ms:LI} {vs:LV},IsIs H ms vs->IsIs H' ms vs
 |[],[],_=>trivial
 |_::_,_::_,h=>#[IsI.ts e h.1,IsIs.ts e h.2]
 |[],_::_,h=>h.elim
 |_::_,[],h=>h.elim
theorem IsIs.get{H:Hp}:∀{ms:LI} {vs:LV} {i:Nat} {v:V},IsIs H ms vs->vs[i]?=some v->∃m,ms[i]?=some m/\IsI H m v
 |[],[],_,_,_,h=>by simp at h
 |m::_,x::_,0,v,h,e=>by
  have F:x=v:= ~~~e
  subst F;show#[m,O,h.1]
 |_::ms,_::vs,i+1,v,h,e=>by let#[m,h1,h2]:=IsIs.get (i:=i) h.2<| ~~~e;show#[m, ~~~h1,h2]
 |[],_::_,_,_,h,_=>h.elim
 |_::_,[],_,_,h,_=>h.elim
def IsIs.get'(h:IsIs H ms vs)(e:ms[i]?=some m):∃v,vs[i]?=some v/\IsI H m v:=by
 have hi:i<vs.length:=by rw[h.len];show(glt e)
 have F:vs[i]?=some vs[i]:=YD hi;let#[m',h1,h2]:=h.get F;rw[e]at h1;cases h1;show#[_,F,h2]
theorem IsIs.app{H:Hp}:∀{ms:LI} {vs:LV} {ms':LI} {F:LV},IsIs H ms vs->IsIs H ms' F->IsIs H (ms++ms') (vs++F)
 |[],[],_,_,_,h'=>h'
 |_::_,_::_,_,_,h,h'=>#[h.1,h.2.app h']
 |[],_::_,_,_,h,_=>h.elim
 |_::_,[],_,_,h,_=>h.elim
def IsIs.one(h:IsI H m v):IsIs H [m] [v]:=#[h,trivial]
theorem IsIs.rep{H:Hp}:∀{ms:LI} {vs:LV},IsIs H ms vs->Reps K H (ms.map Im.d) vs
 |[],[],_=>by unfold List.map Reps;trivial
 |_::_,_::_,h=>by unfold List.map Reps;show#[h.1.rep,h.2.rep]
 |[],_::_,h=>h.elim
 |_::_,[],h=>h.elim
theorem qJ5:∀ms:LI,kO (ms.map Im.d) (ms.map Im.d)=true
 |[]=>by simp[kO]
 |m::ms=>by unfold List.map kO;rw[qOi,qJ5 ms];rfl
theorem qWg:∀ms:LI,wN (ms.map Im.d)<=2
 |[]=>by simp[wN]
 |m::ms=>by have h1:=qZk m;have h2:=qWg ms;unfold List.map wN;lia
def Tr(H:Hp)(z:Addr)(ms:LI):Prop:= ∃vs,H z=some (.lst vs)/\IsIs H ms vs
def Tr.same(e:Same H H')(h:Tr H z ms):Tr H' z ms:=by let#[vs,h1,h2]:=h;show#[vs,e _ _ h1,h2.ts<|qd e]
theorem Tr.rep{H:Hp}{z:Addr}{ms:LI}(h:Tr H z ms):Rep K H (.lst<|ms.map Im.d) (.ref z):=by let#[vs,h1,h2]:=h;unfold Rep;show#[z,vs,O,SqL.of h1,h2.rep]
def qVt{x:Addr}(h:H x=some (.lst<|ns.map V.int)):Rep K H (.lst<|(ns.map V.int).map D.leaf) (.ref x):=by unfold Rep;show#[x,_,rfl,SqL.of h,qJp (by rw[List.all_map,List.all_eq_true];intro _ _;rfl)]
theorem qPa:∀ns:LN,kO ((ns.map V.int).map D.leaf) ((ns.map V.int).map D.leaf)=true
 |[]=>by simp[kO]
 |n::ns=>by have F:=qPa ns;simp only[ZH];unfold kO;rw[F];simp[eqD,eqV]
theorem qKi:∀vs:LV,wN (vs.map D.leaf)=0
 |[]=>by simp[wN]
 |n::ns=>by have F:=qKi ns;simp only[ZH];unfold wN;rw[F];simp[dep]
def zc(h:m.wd="gap"):∃l,m=.gap l:=by
 cases m with
 |gap l=>show#[l,rfl]
 |clip=>show YC (show ("clip":Str)="gap" from h) ⋯
 |nest=>show YC (show ("nest":Str)="gap" from h) ⋯
 |mix=>show YC (show ("mix":Str)="gap" from h) ⋯
noncomputable def q8:Int->LI->LI
 |_,[]=>[]
 |w,.gap l::ms=>q8 (w+l) ms
 |w,.clip n p q r s l::ms=>if 0<w then .gap w:: .clip n p q r s l::q8 0 ms else .clip n p q r s l::q8 0 ms
 |w,.nest n b l::ms=>if 0<w then .gap w:: .nest n b l::q8 0 ms else .nest n b l::q8 0 ms
 |w,.mix l::ms=>if 0<w then .gap w:: .mix l::q8 0 ms else .mix l::q8 0 ms
def qX(h:m.wd≠"gap")(w:Int)(ms:LI):q8 w (m::ms)=if 0<w then .gap w::m::q8 0 ms else m::q8 0 ms:=by
 cases m with
 |gap l=>show YC rfl h
 |_=>rw[q8]
theorem qCd(j:Int):∀(w:Int) (ms:LI),q8 w (ms++[.gap j])=q8 w ms
 |_,[]=>rfl
 |w,m::ms=>by
  by_cases h:m.wd="gap"
  . let#[l,rfl]:=zc h
    rw[YT,q8,q8];show qCd j _ ms
  . rw[YT,qX h,qX h,qCd j 0 ms]
inductive qMn(vs:LV)(H:Hp)(Q:VK)(_:XK):Prop
|mk (z:Addr) (ms:LI) (_:vs=[.ref z]) (_:Tr H z ms) (_:ms.length<=300) (_:∀(y:Addr) (H':Hp),Same H H'->H y=none->Tr H' y (q8 0 ms)->Q (.ref y) H')
def qNz:Fo P w base T.D24 1 qMn:=by
 rcases oL T.D24.F,xp with⟨z,ms,rfl,⟨xs,hz,ad⟩,hl,kk⟩;exists #[qc 1 (qr qB),qc 2 qH,zZ PassesOwn.never rfl (jh 0) (jB (i:=0x03) xp.nd rfl (Or.inl rfl)) #[qh (qM jP (qJ 3) qQ) #[qc 2 (qR qx 2 (qJ 3))] #[qh (qM qFd 2 qH) #[qt (vd XA XB XC jN 1 [qZ [qQ,2]])] qO,qc 2 qH,qt (vd XA XB XC jN 1 [3])]],qL 1]
 show#[sL0,λy hy=>?_];show#[_,O,z,O,#[_,SqL.of<|(qE hy _) _ _ hz],xY (K:=K) (a:=z) (xs:=xs) (λi σ H'=> ∃(w:Int) (as:LI) (o:Option V) (vs:LV),σ=[some<|.ref z,some<|.ref y,some<|.int w,o]/\H' y=some (.lst vs)/\IsIs H' as vs/\as.length<=2*i/\as++q8 w (ms.drop i)=q8 0 ms/\Same H H')
  #[0,[],none,[],rfl,qC,trivial,#[],rfl,qE hy _] ?_ ?_ ?_]
 . rintro i σ H' hi ⟨w,as,o,vs,rfl,_,_,_,_,e⟩
   show SqL.of (e _ _ hz)
 . rintro i x σ H' hx ⟨w,as,o,vs,rfl,hv,aa,af,J,e⟩
   ext;let#[m,hm,ag]:=ad.get hx;have hI:=ag.ts<|qd e;have hi:i<ms.length:=(glt hm);have hd:ms.drop i=m::ms.drop (i+1):=by rw[List.drop_eq_getElem_cons hi];rw[YD hi]at hm;cases hm;rfl
   have ai:vs.length<=2*i:=by rw[aa.len];show af
   let#[zi,xi,rfl,ae,h0,h1]:=hI.opn;symm;show#[_,O,zi,xi,_,_,O,O,SqT.of ae,h0,O,_,O,jw (λc=>?_) (λc=>?_)]
   . let#[l,rfl]:=zc ( ~~~c)
     ext;let#[z2,e2,ah]:=hI;cases e2;symm;show#[_,O,ixO ah at1 #[_,_,O,O,w+l,as,_,vs,O,hv,aa,(),?_,e]];rw[hd,q8]at J;show J
   . have hne:m.wd≠"gap":= ~~~c
     rw[hd,qX hne]at J;show#[_,O,_,_,O,O,_,O,jw (λc=>?_) (λc=>?_)]
     . have c':0<w:= ~~~c
       rw[YB c']at J;show#[_,O,.inl #[O,_,SqL.of hv],_,O,sL2,λg hg=>?_];have w1:=qE hg<|.tup [.str "gap",.int w];show#[y,_,_,O,O,w1 _ _ hv,qf (),?_];have t2:TS (upd H' g<|.tup [.str "gap",.int w]) (upd (upd H' g<|.tup [.str "gap",.int w]) y (.lst<|vs++[.ref g])):=xS<|w1 _ _ hv;have k2:IsIs (upd (upd H' g<|.tup [.str "gap",.int w]) y (.lst<|vs++[.ref g])) (as++[.gap w]) (vs++[.ref g]):=((aa.ts<|qd w1).app (.one<|isG qC)).ts t2;have k1:IsI (upd (upd H' g<|.tup [.str "gap",.int w]) y (.lst<|vs++[.ref g])) m (.ref zi):=(hI.ts<|qd w1).ts t2;have e2:Same H (upd (upd H' g<|.tup [.str "gap",.int w]) y (.lst<|vs++[.ref g])):=jX (e.trans w1) hy;have ac:(upd (upd H' g<|.tup [.str "gap",.int w]) y (.lst<|vs++[.ref g])) y=some (.lst<|vs++[.ref g]):=qC;generalize upd (upd H' g<|.tup [.str "gap",.int w]) y (.lst<|vs++[.ref g])=H2 at k1 k2 e2 ac⊢;show#[_,O,.inl #[O,_,SqL.of ac],_,O,y,_,_,O,O,ac,qf (by rw[YN];simp;lia),?_];show#[0,as++[.gap w]++[m],_,_,O,qC,(k2.app<|.one k1).ts<|xS ac,by simp;lia,?_,jX e2 hy];rw[<-J];simp
     . have c':¬0<w:= ~~~c
       rw[YA c']at J;show#[_,O,.inl #[O,_,SqL.of hv],_,O,y,_,_,O,O,hv,qf (),?_];show#[0,as++[m],_,_,O,qC,(aa.app<|.one hI).ts<|xS hv,by simp;lia,?_,jX e hy];rw[<-J];simp
 . rintro σ H' ⟨w,as,o,vs,rfl,hv,aa,_,J,e⟩
   show#[_,O,kk y H' e hy #[vs,hv,?_]];rw[ad.len,ZJ,q8,Ye]at J;rw[<-J];show aa
noncomputable def Im.mo:Im->Int
 |.mix _=>0
 |.clip _ _ _ _ _ l=>l
 |.nest _ _ l=>l
 |.gap l=>l
def jZ(h:m.wd="mix"):∃l,m=.mix l:=by
 cases m with
 |mix l=>show#[l,rfl]
 |clip=>show YC (show ("clip":Str)="mix" from h) ⋯
 |nest=>show YC (show ("nest":Str)="mix" from h) ⋯
 |gap=>show YC (show ("gap":Str)="mix" from h) ⋯
def jB2(h:m.wd≠"mix"):m.mo=m.l:=by
 cases m with
 |mix l=>show YC rfl h
 |_=>rfl
def qX7{x y:Str}:decide (V.str x=V.str y)=decide (x=y):=by rw[Yv];simp
inductive qH9(vs:LV)(H:Hp)(Q:VK)(_:XK):Prop
|mk (v:V) (m:Im) (_:vs=[v]) (_:IsI H m v) (_:Q (.int m.mo) H)
def jW:Fo P w base T.D23 1 qH9:=by
 rcases oL T.D23.F,qI7 with⟨v,m,rfl,hI,F⟩;exists #[qL (zt (qM jP (qJ 0) qQ) qH (jI qHk 0 (qA0 zX qH)))]
 ext;let#[z,xs,rfl,J,h0,h1]:=hI.opn;symm;show#[_,O,z,xs,_,_,O,O,SqT.of J,h0,O,_,O,jw (λc=>?_) (λc=>?_)]
 . let#[l,rfl]:=jZ ( ~~~c)
   show F
 . rw[jB2<| ~~~c]at F
   show#[_,O,_,O,z,xs,_,_,O,O,SqT.of J,h1,F]
inductive qLo(vs:LV)(H:Hp)(Q:VK)(_:XK):Prop
|mk (z:Addr) (ms:LI) (_:vs=[.ref z]) (_:Tr H z ms) (_:ms.length<=300) (_:∀H',Same H H'->Q (.int (ms.map Im.mo).sum) H')
def qDl:Fo P w base T.D25 3 qLo:=by
 rcases oL T.D25.F,qJ3 with⟨z,ms,rfl,⟨xs,hz,J⟩,hl,kk⟩;exists #[qL (qg (qRy rfl) rfl T.b_sum rfl [vz .nil .nil rfl (jh 0) (λ_ _ _ _=>(qK T.D23 jW [0]))])]
 show#[_,O,z,O,#[_,SqL.of hz],kU (K:=K) (a:=z) (xs:=xs) (λi F H'=>H'=H/\F=((ms.take i).map Im.mo).map V.int) #[O,O] ?_ ?_ ?_]
 . rintro i F H' hi ⟨rfl,rfl⟩
   show#[SqL.of hz,qf (by simp;lia)]
 . rintro i x F H' hi hx ⟨rfl,rfl⟩
   ext;let#[m,hm,hI]:=J.get hx;symm;show#[_,O,x,m,O,hI,Nxt.mk hi #[O,?_]];rw[Yt,hm];simp
 . rintro F H' ⟨rfl,rfl⟩ d hd
   show#[d,(ms.map Im.mo),O,?_,kk _<|qE hd _];rw[J.len,Yx];show SqL.of qC
noncomputable def jo:Int->Nat->LI->Int->Option (Nat×Int)
 |_,_,[],_=>none
 |b,i,m::ms,t=>if b<=t/\t<b+m.mo then some (i,t-b)else jo (b+m.mo) (i+1) ms t
def AtR(H:Hp)(Q:VK)(r:Option<|Nat×Int):Prop:=match r with
 |none=> ∀H',Same H H'->Q .non H'
 |some (i,d)=> ∀(p:Addr) (H':Hp),Same H H'->H' p=some (.tup [.int (i:Int),.int d])->Q (.ref p) H'
def jy{α:Type}{xs:List α}{x:α}(h:xs[i]?=some x):xs.drop i=x::xs.drop (i+1):=by have hi:i<xs.length:=(glt h);rw[List.drop_eq_getElem_cons hi];rw[YD hi]at h;cases h;rfl
inductive qPv(vs:LV)(H:Hp)(Q:VK)(_:XK):Prop
|mk (z:Addr) (ms:LI) (t:Int) (_:vs=[.ref z,.int t]) (_:Tr H z ms) (_:AtR H Q (jo 0 0 ms t))
def qCo:Fo P w base T.D26 3 qPv:=by
 rcases oL T.D26.F,zP with⟨z,ms,t,rfl,⟨xs,hz,J⟩,kk⟩;exists #[qc 2 qH,zZ PassesOwn.never rfl (qXu rfl T.b_enumerate [0]) (qMc rfl (jr (jB (i:=0x03) zP.nd rfl (Or.inl rfl)) (jr (jB (i:=0x04) zP.nd rfl (Or.inl rfl)) qF7))) #[qc 5 (qR qx 2 (qK T.D23 jW [4])),qh (PW.pt (zy (qM qU5 2 1) (xW (qM zV 1 5)))) #[qL (qZ [3,qR jU 1 2])] qO,qc 2 5],qL xn]
 show#[_,O,z,O,#[_,SqL.of hz],qVl (K:=K) (a:=z) (xs:=xs) (λi σ H'=> ∃(b:Int) (o1 o2 o3:Option V),σ=[some<|.ref z,some<|.int t,some<|.int b,o1,o2,o3]/\jo b i (ms.drop i) t=jo 0 0 ms t/\Same H H')
  #[0,none,none,none,rfl,rfl,Same.refl _] ?_ ?_ ?_]
 . rintro i σ H' hi ⟨b,o1,o2,o3,rfl,_,e⟩
   show SqL.of (e _ _ hz)
 . rintro i x σ H' p hx ⟨b,o1,o2,o3,rfl,F,e⟩ hp
   ext;let#[m,hm,aa]:=J.get hx;symm;have w1:=qE hp<|.tup [.int (i:Int),x];have e1:=e.trans w1;have hI:=aa.ts<|qd e1;rw[jy hm,jo]at F;show#[p,_,O,SqT.of qC,O,_,_,O,_,_,O,O,?_];generalize upd H' p (.tup [.int (i:Int),x])=H1 at e1 hI⊢;show#[_,O,_,O,x,m,O,hI,_,_,O,O,?_];show#[_,O,_,O,_,_,O,O,_,O,?_];show jw (λc1=>?_) (λc1=>?_)
   . show#[_,O,_,O,_,_,O,O,_,O,?_]
     show jw (λc2=>?_) (λc2=>?_)
     . rw[YB #[ ~~~c1, ~~~c2]]at F
       rw[<-F]at kk;show#[_,O,_,O,_,O,_,_,O,O,sL2,λq hq=>?_];show kk q _ (e1.trans<|qE hq _) qC
     . rw[YA (λc=>c2<| ~~~c.2)]at F
       show#[_,O,_,_,_,_,O,F,e1]
   . rw[YA (λc=>c1<| ~~~c.1)]at F
     show jH #[_,O,_,_,_,_,O,F,e1]
 . rintro σ H' ⟨b,o1,o2,o3,rfl,F,e⟩
   rw[J.len,ZJ,jo]at F;rw[<-F]at kk;show kk H' e
noncomputable def qv(ms:LI)(i:Int):Str:=if i<0 then "" else match ms[i.toNat]? with
 |some m=>m.wd
 |none=>""
def jc(h:ms[i]?=some m){k:Int}(F:k=(i:Int)):qv ms k=m.wd:=by
 subst F;unfold qv;rw[YA ()];have e:((i:Int)).toNat=i:=()
 rw[e,h]
inductive qQm(vs:LV)(H:Hp)(Q:VK)(_:XK):Prop
|mk (z:Addr) (ms:LI) (i:Int) (_:vs=[.ref z,.int i]) (_:Tr H z ms) (_:Q (.str (qv ms i)) H)
def jV:Fo P w base T.D27 1 qQm:=by
 rcases oL T.D27.F,qQp with⟨z,ms,i,rfl,⟨vs,hz,F⟩,q⟩;exists #[qh (PW.pt (xK (qM zV 1 qH) (jf (qM qNq 1 (qg jE rfl T.b_len rfl [0]))))) #[qL qQ] qO,qL (qJ (jI qk 0 1))]
 have hl:=F.len;show#[_,O,_,_,O,O,_,O,?_];by_cases J:i<0
 . rw[YX J]
   have e:qv ms i="":=by unfold qv;rw[YB J]
   rw[e]at q;show ju (ju q)
 rw[YW J];show jH #[_,O,_,O,z,_,O,.inl<|SqL.of hz,_,_,O,O,_,O,?_];by_cases h1:((vs.length:Nat):Int)<=i
 . rw[YX (show i ≥ ((vs.length:Nat):Int)from h1)]
   have e:qv ms i="":=by unfold qv;rw[YA J,List.getElem?_eq_none ()]
   rw[e]at q;show ju q
 . rw[YW (show ¬i ≥ ((vs.length:Nat):Int)from h1)]
   show jH ?_;have hi:i.toNat<ms.length:=()
   have hm:ms[i.toNat]?=some ms[i.toNat]:=YD hi;ext;let#[v,hv,hI]:=F.get' hm;let#[zi,xi,rfl,ac,q0,_]:=hI.opn;symm;have ei:i=((i.toNat:Nat):Int):=()
   have aa:atI vs i=some (.ref zi):=by rw[ei];show jC hv
   have e:qv ms i=ms[i.toNat].wd:=jc hm ei;rw[e]at q;show#[_,O,_,O,z,_,_,_,O,O,SqL.of hz,aa,zi,xi,_,_,O,O,SqT.of ac,q0,q]
inductive qGq(vs:LV)(H:Hp)(Q:VK)(_:XK):Prop
|mk (z:Addr) (ms:LI) (i:Int) (_:vs=[.ref z,.int i]) (_:Tr H z ms) (_:Q (.int (if qv ms (i-1)="mix" then i-2 else i-1)) H)
def qAj:Fo P w base T.D28 2 qGq:=by
 rcases oL T.D28.F,qGw with⟨z,ms,i,rfl,F,q⟩;exists #[qL (zt (qM jP (qK T.D27 jV [0,qR jU 1 qH]) qQ) (qR jU 1 qH) (qR jU 1 qH))]
 show#[_,O,_,O,_,_,O,O,z,ms,_,O,F,O,_,O,jw (λc=>?_) (λc=>?_)]
 . rw[YB<| ~~~c]at q
   show#[_,O,_,_,O,O,q]
 . rw[YA<| ~~~c]at q
   show#[_,O,_,_,O,O,q]
def nbF(ms:LI)(t:Int):Option (Int×Int):=match jo 0 0 ms t with
 |some (i,d)=>if d≠0\/(i:Int)=0 then none else some (if qv ms ((i:Int)-1)="mix" then (i:Int)-2 else (i:Int)-1,(i:Int))
 |none=>none
def cbF(ms:LI)(t:Int):Option (Int×Int):=match nbF ms t with
 |some (i,j)=>if qv ms i="clip"/\qv ms j="clip" then some (i,j)else none
 |none=>none
def PrR(H:Hp)(Q:VK)(r:Option<|Int×Int):Prop:=match r with
 |none=> ∀H',Same H H'->Q .non H'
 |some (i,j)=> ∀(p:Addr) (H':Hp),Same H H'->H' p=some (.tup [.int i,.int j])->Q (.ref p) H'
inductive qEa(vs:LV)(H:Hp)(Q:VK)(_:XK):Prop
|mk (z:Addr) (ms:LI) (t:Int) (_:vs=[.ref z,.int t]) (_:Tr H z ms) (_:PrR H Q (nbF ms t))
def vc:Fo P w base T.D30 4 qEa:=by
 rcases oL T.D30.F,vV with⟨z,ms,t,rfl,tT,F⟩;exists #[qc 2 (qK T.D26 qCo [0,1]),qh (PW.pt (xK (xm (vX 2)) (xK (qM wH (qJ 2) qH) (jf (qM jP (qJ 2) qH))))) #[qL xn] qO,qL (qZ [qK T.D28 qAj [0,qJ 2],qJ 2])]
 show#[_,O,_,O,z,ms,_,O,tT,?_];delta nbF at F;cases hit:jo 0 0 ms t with
 |none=>
  rw[hit]at F;intro H1 J;show#[_,O,_,O,ju<|F H1 J]
 |some x=>
  let#[i,d]:=x;rw[hit]at F;dsimp only at F;intro p H1 J hp;show#[_,O,_,O,jw (λc=>YC c #[]) (λ_=>?_)];show(ixO hp at1 ?_);show#[O,_,O,jw (λc=>?_) (λc=>?_)]
  . rw[YB (.inl<| ~~~c)]at F
    show F H1 J
  . show(ixO hp at0 ?_)
    show#[O,_,O,jw (λc2=>?_) (λc2=>?_)]
    . rw[YB (.inr<| ~~~c2)]at F
      show F H1 J
    . rw[YA (λz=>z.elim (λz=>c<| ~~~z) (λz=>c2<| ~~~z))]at F
      show#[_,O,ixO hp at0 #[z,ms,_,O,tT.same J,?_]];show(ixO hp at0 #[sL2,λq hq=>?_]);show F q _ (J.trans<|qE hq _) qC
inductive qB9(vs:LV)(H:Hp)(Q:VK)(_:XK):Prop
|mk (z:Addr) (ms:LI) (t:Int) (_:vs=[.ref z,.int t]) (_:Tr H z ms) (_:PrR H Q (cbF ms t))
def jY:Fo P w base T.D31 5 qB9:=by
 rcases oL T.D31.F,zx with⟨z,ms,t,rfl,tT,F⟩;exists #[qc 2 (qK T.D30 vc [0,1]),qh (PW.pt (xK (xm (vX 2)) (xK (qM wH (qK T.D27 jV [0,qJ 2]) qQ) (jf (qM wH (qK T.D27 jV [0,qJ 2]) qQ))))) #[qL xn] qO,qL 2]
 show#[_,O,_,O,z,ms,_,O,tT,?_];delta cbF at F;cases hit:nbF ms t with
 |none=>
  rw[hit]at F;intro H1 J;show#[_,O,_,O,ju<|F H1 J]
 |some x=>
  let#[i,j]:=x;rw[hit]at F;dsimp only at F;intro p H1 J hp;show#[_,O,_,O,jw (λc=>YC c #[]) (λ_=>?_)];show#[_,O,ixO hp at0 #[z,ms,_,O,tT.same J,?_]];show#[O,_,O,jw (λc=>?_) (λc=>?_)]
  . rw[YA (λz=>YC c<| ~~~z.1)]at F
    show F H1 J
  . show#[_,O,ixO hp at1 #[z,ms,_,O,tT.same J,?_]]
    show#[O,_,O,jw (λc2=>?_) (λc2=>?_)]
    . rw[YA (λz=>YC c2<| ~~~z.2)]at F
      show F H1 J
    . rw[YB #[ ~~~c, ~~~c2]]at F
      show#[_,O,F p H1 J hp]
def TrsAt(H:Hp):LL->LV->Prop
 |[],[]=>True
 |ms::r,v::vs=>(∃z:Addr,v=.ref z/\Tr H z ms)/\TrsAt H r vs
 |_,_=>False
theorem TrsAt.same{H H':Hp}(e:Same H H'):∀{F:LL} {vs:LV},TrsAt H F vs->TrsAt H' F vs
 |[],[],_=>trivial
 |_::_,_::_,#[#[z,h1,h2],h]=>#[#[z,h1,h2.same e],TrsAt.same e h]
 |[],_::_,h=>h.elim
 |_::_,[],h=>h.elim
theorem TrsAt.len{H:Hp}:∀{F:LL} {vs:LV},TrsAt H F vs->vs.length=F.length
 |[],[],_=>rfl
 |_::_,_::_,h=>by rw[YE,YE,TrsAt.len h.2]
 |[],_::_,h=>h.elim
 |_::_,[],h=>h.elim
theorem TrsAt.get{H:Hp}:∀{F:LL} {vs:LV} {i:Nat} {v:V},TrsAt H F vs->vs[i]?=some v->∃(ms:LI) (z:Addr),F[i]?=some ms/\v=.ref z/\Tr H z ms
 |[],[],_,_,_,h=>by simp at h
 |ms::_,u::_,0,v,h,e=>by
  have J:u=v:= ~~~e
  subst J;let#[#[z,h1,h2],_]:=h;show#[ms,z,O,h1,h2]
 |_::_,_::_,i+1,v,h,e=>by let#[ms,z,h1,h2]:=TrsAt.get (i:=i) h.2<| ~~~e;show#[ms,z, ~~~h1,h2]
 |[],_::_,_,_,h,_=>h.elim
 |_::_,[],_,_,h,_=>h.elim
def qIi{n:Str}{l:Int}(h:IsI H (.clip n p q r s l) v):Cp K H v n p q r s l:=by let#[z,x,y,h0,J,hx,F]:=h;show#[z,x,y,h0,SqT.of J,SqT.of hx,SqT.of F]
def TabF(H:Hp)(v:V)(ts:LL)(tie:LN):Prop:= ∃(tt tl ti:Addr) (zs:LV),v=.ref tt/\H tt=some (.tup [.ref tl,.ref ti])/\H tl=some (.lst zs)/\TrsAt H ts zs/\H ti=some (.lst<|tie.map V.int)
theorem TabF.same{H H':Hp}(e:Same H H'){v:V}{F:LL}{tie:LN}(h:TabF H v F tie):TabF H' v F tie:=by let#[tt,tl,ti,zs,h1,h2,h3,h4,h5]:=h;show#[tt,tl,ti,zs,h1,e _ _ h2,e _ _ h3,h4.same e,e _ _ h5]
def tabD(ts:LL)(tie:LN):D:=.tup [.lst (ts.map λms=>.lst<|ms.map Im.d),.lst<|(tie.map V.int).map D.leaf]
theorem TrsAt.rep{H:Hp}:∀{F:LL} {vs:LV},TrsAt H F vs->Reps K H (F.map λms=>.lst<|ms.map Im.d) vs
 |[],[],_=>by unfold List.map Reps;trivial
 |_::_,_::_,#[#[z,h1,h2],r]=>by unfold List.map Reps;subst h1;show#[h2.rep,r.rep]
 |[],_::_,h=>h.elim
 |_::_,[],h=>h.elim
theorem TabF.rep{H:Hp}{v:V}{F:LL}{tie:LN}(h:TabF H v F tie):Rep K H (tabD F tie) v:=by let#[tt,tl,ti,zs,rfl,h2,h3,J,h5]:=h;unfold tabD Rep;show#[tt,_,O,SqT.of h2,?_];unfold Reps Reps Reps;show#[?_,qVt h5,trivial];unfold Rep;show#[tl,zs,O,SqL.of h3,J.rep]
theorem qO2:∀F:LL,kO (F.map λms=>.lst<|ms.map Im.d) (F.map λms=>.lst<|ms.map Im.d)=true
 |[]=>by simp[kO]
 |ms::r=>by
  unfold List.map kO;rw[qO2 r];have:eqD (.lst<|ms.map Im.d) (.lst<|ms.map Im.d)=true:=by unfold eqD;show qJ5 ms
  rw[this];rfl
theorem qS0:∀F:LL,wN (F.map λms=>.lst<|ms.map Im.d)<=3
 |[]=>by simp[wN]
 |ms::r=>by
  have h1:=qS0 r;have h2:dep (.lst<|ms.map Im.d)<=3:=by have:=qWg ms;unfold dep;lia
  unfold List.map wN;lia
def qB6(F:LL)(tie:LN):eqD (tabD F tie) (tabD F tie)=true/\dep (tabD F tie)<=50:=by
 constructor
 . unfold tabD eqD kO kO kO
   have h1:eqD (.lst (F.map λms=>.lst<|ms.map Im.d)) (.lst (F.map λms=>.lst<|ms.map Im.d))=true:=by unfold eqD;show qO2 F
   have h2:eqD (.lst<|(tie.map V.int).map D.leaf) (.lst<|(tie.map V.int).map D.leaf)=true:=by unfold eqD;show qPa tie
   rw[h1,h2];rfl
 . have h1:=qS0 F
   have h2:=qKi<|tie.map V.int;unfold tabD dep wN wN wN dep;lia
theorem qJq{H:Hp}:∀{F:LL} {vs:LV} {ms:LI} {z:Addr},TrsAt H F vs->Tr H z ms->TrsAt H (F++[ms]) (vs++[.ref z])
 |[],[],_,z,_,h=>#[#[z,rfl,h],trivial]
 |_::_,_::_,_,_,#[h1,h2],h=>#[h1,qJq h2 h]
 |[],_::_,_,_,h,_=>h.elim
 |_::_,[],_,_,h,_=>h.elim
def qCf{b:Bool}{A B:Prop}(h:b=false)(q:B):if b=true then A else B:=by subst h;show q
def qA8{b:Bool}{A B:Prop}(h:b=true)(q:A):if b=true then A else B:=by subst h;show q
inductive qQk(vs:LV)(H:Hp)(Q:VK)(_:XK):Prop
|mk (z:Str) (_:vs=[.str z]) (_:qJg z=true) (_:∀H',Same H H'->Q (.bl true) H')
def qHg:Fo P w base T.D10 1 qQk:=by
 rcases oL T.D10.F,qQ3 with⟨z,rfl,hn,kk⟩;exists #[qh (jg (jQ (qg xw rfl T.b_isinstance rfl [0,qQ5 rfl T.b_str rfl]))) #[qL vw] qO,qh (PW.pt (xK (qM zV (qg qDd rfl T.b_len rfl [0]) qH) (jf (qM qFd (qg qDd rfl T.b_len rfl [0]) (jb (v:=.int 0x08) rfl T.g_LONGEST_NAME ⟨_,rfl⟩))))) #[qL vw] qO,qL (qg (qSv rfl) rfl T.b_all rfl [vz .nil .nil rfl (qY0 0) (λ_ _ _ _=>(jR qZj 0 (jb (v:=.str "abcdefghijklmnopqrstuvwxyz") rfl T.g_LETTERS ⟨_,rfl⟩) rfl))])]
 delta qJg at hn;let#[h1,h2]:=Yl _ _ ▸ hn;have h1:=ZM h1;have J:z.length<=sizeLine:=Nat.le_of_lt<|qf ();show#[_,O,_,_,_,true,O,.str z,#[_,.inl #[O,by kernel_rfl]],true,O,jH ?_];show#[_,O,z,O,J,_,_,O,O,_,O,qCf (YW ()) #[_,O,z,O,J,_,_,O,O,_,O,qCf (YW (by change ¬(8:Int)<_;lia)) ?_]];show#[_,O,z,O,qVm (λi F H'=>H'=H/\F=((z.cps.toList.take i).map jA6).map V.bl) #[O,O] ?_ ?_ ?_]
 . rintro i F H' hi ⟨_,rfl⟩
   rw[YS,YS,Yk];show qf (by have:z.cps.size=z.length:=rfl;lia)
 . rintro i c F H' hi hc ⟨rfl,rfl⟩
   show#[_,O,_,_,O,O,Nxt.mk hi #[O,?_]];have aa:z.cps.toList[i]?=some c:= ~~~hc
   rw[List.take_succ,aa,Ys,Ys];rfl
 . rintro F H' ⟨rfl,rfl⟩ D hD
   show#[D,_,O,SqL.of qC,?_];rw[List.take_of_length_le #[],List.all_map,show (z.cps.toList.all<|id ∘ jA6)=true from h2];show kk _<|qE hD _
inductive qGs(vs:LV)(H:Hp)(Q:VK)(_:XK):Prop
|mk (z:Addr) (p q:Int) (_:vs=[.ref z]) (_:H z=some (.tup [.int p,.int q])) (_:1<=q) (_:Int.gcd p q=1) (_:Q (.bl true) H)
def qAc:Fo P w base T.D2 2 qGs:=by
 rcases oL T.D2.F,qGz with⟨z,p,q,rfl,F,hq,J,k⟩;symm;have h1:SqT K H z [.int p,.int q]:=SqT.of F;show#[_,(qD (qh (PW.pt (xK (jg (jQ<|qg xw rfl T.b_isinstance rfl (qA (pv 0)<|qA (qQ5 rfl T.b_tuple rfl) qB)))<|jf (qM wH (qg jE rfl T.b_len rfl<|qA (pv 0) qB) qH<|qP _))) (qF<|qL vw) qO)
  (qD (qh (PW.pt (xK (jg<|jQ (qK T.D0 (jL T) hr rfl<|qA (qJ<|pv 0) qB))<|jf (jg<|jQ (qK T.D0 (jL T) hr rfl<|qA (qJ<|pv 0) qB)))) (qF<|qL vw) qO)
  (qF<|qL (zf (jR qNq (qJ<|pv 0) qH<|qP _)<|vY (jR jP (qK T.D1 (kP T) hr rfl (qA (qJ<|pv 0)<|qA (qJ<|pv 0) qB)) qH<|qP _))))),?_]
 try dsimp only[jK,qi]
 show#[_,O,_,_,_,true,O,.tup F,#[_,.inl #[O,by kernel_rfl]],true,O,jH ?_];show#[_,O,_,_,O,.inr h1,O,_,O,jH ?_];show(z7 rfl h1 at0 #[p,O,true,O,jH ?_]);show(z7 rfl h1 at1 #[q,O,true,O,jH ?_]);show(z7 rfl h1 at1 #[_,_,O,O,true,?_,ju ?_])
 . have:decide (1<=q)=true:=YX hq
   rw[<-this]
 show(z7 rfl h1 at0<|z7 rfl h1 at1 #[p,q,O,O,?_]);rw[J];show k
structure GF(n:Str)(p q r s len:Int):Prop where
 hn:qJg n=true
 hl:n.length<=1000
 hb:Bn 700 p q r s
 gq:Int.gcd p q=1
 gs:Int.gcd r s=1
 l1:1<=len
 bl:len.natAbs<2 ^ 30
inductive qDv(vs:LV)(H:Hp)(Q:VK)(_:XK):Prop
|mk (z:Addr) (n:Str) (p q r s len:Int) (_:vs=[.ref z]) (_:Ch H z n p q r s len) (_:qJg n=true) (_:1<=q) (_:Int.gcd p q=1) (_:1<=s) (_:Int.gcd r s=1) (_:1<=len) (_:∀H',Same H H'->Q (.bl true) H')
def qEc:Fo P w base T.D11 3 qDv:=by
 rcases oL T.D11.F,qDx with⟨z,n,p,q,r,s',J,rfl,⟨z1,z2,e0,e1,e2⟩,hn,hq,gq,hs,gs,l1,kk⟩;exists #[qh (PW.pt (xK (jg (jQ (qg xw rfl T.b_isinstance rfl [0,qQ5 rfl T.b_tuple rfl]))) (jf (qM wH (qg jE rfl T.b_len rfl [0]) qH)))) #[qL vw] qO,qh (PW.pt (xK (qM wH (qJ 0) qQ) (jf (jg (jQ (qK T.D10 qHg [qJ 0])))))) #[qL vw] qO,qh (PW.pt (xK (jg (jQ (qK T.D2 qAc [qJ 0]))) (jf (jg (jQ (qK T.D2 qAc [qJ 0])))))) #[qL vw] qO,qL (zf (qK T.D0 jL [qJ 0]) (vY (jR qNq (qJ 0) qH)))]
 have F:∀{H':Hp},Same H H'->SqT K H' z [.str "clip",.str n,.ref z1,.ref z2,.int J]:=λe=>SqT.of<|e _ _ e0;show#[_,O,_,_,_,true,O,.tup e0,#[_,.inl #[O,by kernel_rfl]],true,O,jH ?_];show#[_,O,_,_,O,.inr (F<|Same.refl _),O,_,O,jH ?_];show#[_,O,_,_,_,_,O,O,F<|Same.refl _,qY2,O,_,O,qZq rfl ?_];show#[_,O,_,_,_,_,O,O,F<|Same.refl _,qLk,n,O,hn,λH1 s1=>#[true,O,jH ?_]];show#[_,O,_,_,_,_,O,O,F s1,qXe,z1,p,q,O,s1 _ _ e1,hq,gq,true,O,jH ?_];show#[_,O,_,_,_,_,O,O,F s1,qN2,z2,r,s',O,s1 _ _ e2,hs,gs,true,O,jH ?_];show#[_,O,_,_,_,_,O,O,F s1,qDw,J,O,true,O,ju ?_];show#[_,O,_,_,_,_,O,O,F s1,qDw,_,_,O,O,?_];have z:=kk H1 s1;rw[<-YX l1]at z;show z
inductive qJa(K:Fg)(vs:LV)(H:Hp)(Q:VK)(_:XK):Prop
|mk (v:V) (rd:Addr) (n:Str) (p q r s l N:Int) (_:vs=[v,.ref rd]) (_:IsI H (.clip n p q r s l) v) (_:GF n p q r s l) (_:Reel H rd n N) (_:InR (Vk p q r s 0) (q*s) N) (_:InR (Vk p q r s (l-1)) (q*s) N) (_:∀H',Same H H'->Q .non H')
def qH5:Fo P w base T.D15 6 (qJa K):=by
 rcases oL T.D15.F,qBt with⟨v,rd,n,p,q,r,s',F,m,rfl,⟨z,x,y,rfl,hz,hx,hy⟩,⟨hn,hl,J,gq,gs,l1,bl⟩,ac,i0,i1,kg⟩;symm;have hc:Ch H z n p q r s' F:=#[#[x,y,hz,hx,hy]];have aa:=qXy hr;show#[_,(qD (qh (jg<|jQ (qK T.D11 (qEc T) hr rfl<|qA (pv 0) qB)) xF qO)
  (qD (qh (xm (qTr aa (qJ<|pv 0)<|pv 1)) xF qO)
  (qD (qc 2 qBt.nd (qNv aa (pv 1) (qJ<|pv 0) (λ_ _=>rfl)))
  (qF<|qh (PW.pt<|xK (jg (jQ<|qK T.D14 (qAr T) hr rfl (qA (qK T.D13 (qBm T) hr rfl (qA (pv 0)<|qA qH qB))<|qA (pv 2) qB))) (jf<|jg (jQ<|qK T.D14 (qAr T) hr rfl (qA (qK T.D13 (qBm T) hr rfl (qA (pv 0)<|qA (qR jU (qJ<|pv 0) qH) qB))<|qA (pv 2) qB)))) xF qO)))),?_]
 try dsimp only[jK,qi]
 have ad:=Yu J.q0 J.s0;have h0:∀{H':Hp},Same H H'->∃z1 z2,SqT K H' z [.str "clip",.str n,.ref z1,.ref z2,.int F]:=λe=>let #[z1,z2,h1,_,_]:=(hc.same e).ex;#[z1,z2,SqT.of h1]
 show#[_,O,z,n,p,q,r,s',F,O,hc,hn,J.q0,gq,J.s0,gs,l1,λH1 s1=>#[true,O,jH ?_]];ext;let#[z1,z2,t1]:=h0 s1;symm;show#[_,O,z,_,_,_,O,O,t1,qLk,_,O,rd,_,O,(ac.same s1).get,_,O,jH ?_];show#[_,O,_,O,z,_,_,_,O,O,t1,qLk,rd,_,O,(ac.same s1).get,?_];show#[_,O,_,n,p,q,r,s',F,0,O,(hc.same s1).cp,J.q0,J.s0,J.bp,J.bq,J.br,J.bs,qCe (n:=30) #[],λH2 s2=>?_];have s2:=s1.trans s2;show#[_,O,_,m,O,_,O,?_];have e:thB ((p*s'+0*r*q).fdiv<|q*s') m=true:=(qSl ad).mpr i0;rw[e];show jH ?_;ext;let#[z1,z2,t2]:=h0 s2;symm;have ae:(F-1).natAbs<2 ^ 700:=by show YR (show _<2 ^ 31 by lia) (Yh #[] #[])
 show#[_,O,_,O,z,_,_,_,O,O,t2,qDw,_,_,O,O,_,n,p,q,r,s',F,F-1,O,(hc.same s2).cp,J.q0,J.s0,J.bp,J.bq,J.br,J.bs,ae,λH3 s3=>?_];have s3:=s2.trans s3;show#[_,O,_,m,O,_,O,?_];have e:thB ((p*s'+(F-1)*r*q).fdiv<|q*s') m=true:=(qSl ad).mpr i1;rw[e];show jH<|kg H3 s3
abbrev Rls:=Str->Option Int
def ReelsAt(H:Hp)(rd:Addr)(rl:Rls):Prop:= ∀n N,rl n=some N->Reel H rd n N
theorem ReelsAt.same{H H':Hp}{rd:Addr}{rl:Rls}(e:Same H H')(h:ReelsAt H rd rl):ReelsAt H' rd rl:=λn N q=>(h n N q).same e
def qBj(T:Tx K mg a):FnOk P w K mg base CX0 1 a.fi_Short a.gi_Short ["self","most"] (qN0 a.k_Short "most"):=by
 show T.i_Short.ok qRk (λvs H Q E h=>?_) (λcdv A F s H vs Q E hr h=>?_)
 . let#[e,v,rfl,_]:=h
   rfl
 ext;let#[e,v,rfl,J,kk]:=h;symm;show#[_,qF (qW2 (pv 0)<|pv 1),?_];show#[_,O,_,O,e,_,_,O,J,T.m_Short.ov,T.m_Short.hd,T.m_Short.sa,T.tk_Short,kk]
inductive qGu(vs:LV)(H:Hp)(Q:VK)(_:XK):Prop
|mk (tz tl td:Addr) (zs:LV) (n t:Int) (_:vs=[.ref tz,.int n,.int t]) (_:H tz=some (.tup [.ref tl,.ref td])) (_:H tl=some (.lst zs)) (_:0<=n) (_:n<(zs.length:Int)) (_:0<=t) (_:Q .non H)
def qAl:Fo P w base T.D41 2 qGu:=by
 rcases oL T.D41.F,qG0 with⟨tz,tl,td,zs,n,t,rfl,F,J,h0,h1,h2,kg⟩;exists #[qh (PW.pt (xK (jg (jQ (qK T.D0 jL [1]))) (xK (qM zV 1 qH) (jf (qM qNq 1 (qg jE rfl T.b_len rfl [qJ 0])))))) xF qO,qh (PW.pt (xK (jg (jQ (qK T.D0 jL [2]))) (jf (qM zV 2 qH)))) xF qO]
 show#[_,O,n,O,true,O,jH #[_,O,_,_,O,O,_,O,qCf (YW ()) ?_]];show#[_,O,ixO F at0 #[tl,_,O,.inl<|SqL.of J,_,_,O,O,_,O,qCf (YW ()) ?_]];show#[_,O,t,O,true,O,jH #[_,O,_,_,O,O,_,O,qCf (YW ()) kg]]
inductive qNc(vs:LV)(H:Hp)(Q:VK)(_:XK):Prop
|mk (b:Int) (_:vs=[.int b]) (_:b.natAbs<=1000000) (_:Q .non H)
def qMo:Fo P w base T.D42 2 qNc:=by
 rcases oL T.D42.F,qMp with⟨b,rfl,J,F⟩;exists #[qh (PW.pt (xK (jg (jQ (qK T.D0 jL [0]))) (jf (qM qFd (qg qJe rfl T.b_abs rfl [0]) (jb (v:=.int 0xf4240) rfl T.g_MOST_BY ⟨_,O⟩))))) xF qO]
 show#[_,O,b,O,true,O,jH #[_,O,b,O,_,_,O,O,_,O,qCf (YW ?_) F]];split <;> lia
def hmB(ms:LI)(i:Int):Bool:=decide (qv ms (i-1)="mix") || decide (qv ms (i+1)="mix")
inductive qQx(vs:LV)(H:Hp)(Q:VK)(_:XK):Prop
|mk (z:Addr) (ms:LI) (i:Int) (_:vs=[.ref z,.int i]) (_:Tr H z ms) (_:Q (.bl (hmB ms i)) H)
def qPu:Fo P w base T.D46 2 qQx:=by
 rcases oL T.D46.F,qQ4 with⟨z,ms,i,rfl,F,q⟩;exists #[qL (jA1 (jR jP (qK T.D27 jV [0,qR jU 1 qH]) qQ) (vY (jR jP (qK T.D27 jV [0,qR qx 1 qH]) qQ)))]
 show#[_,O,_,O,_,_,O,O,z,ms,_,O,F,O,_,O,?_];unfold hmB at q;rw[qX7];by_cases h1:qv ms (i-1)="mix"
 . rw[YX h1]at q⊢
   show ju q
 rw[YW h1]at q⊢;show jH #[_,O,_,O,_,_,O,O,z,ms,_,O,F,O,?_];rw[qX7];show q
noncomputable def wn(b:Int):Int:=if b<0 then-b else b
noncomputable def sgM(b m:Int):Int:=if 0<b then m else-m
inductive qF3(S:Addr)(vs:LV)(H:Hp)(Q:VK)(E:XK):Prop
|mk (m b:Int) (_:vs=[.int m,.int b]) (_:(wn b<=m->Q .non H)) (_:(¬wn b<=m->∀(dx:Addr) (H':Hp),Same H H'->H' dx=some (.xd [("most",.int (sgM b m))])->E (.ref S) (some dx) H'))
def v8:Fx P w base T.D47 3 (qF3 a.k_Short):=by
 rcases oX T.D47.F,qG3 with⟨m,b,rfl,kg,J⟩;exists #[qh (qM qFd (qg qJe rfl T.b_abs rfl [1]) 0) #[qKx T.m_Short (qBj T) T.ib_Short (hr.mono #[]) rfl rfl T.c_Short [zt (qM qFd 1 qH) 0 (qA0 zX 0)]] qO]
 show#[_,O,b,O,_,O,_,_,O,O,_,O,jw (λc=>?_) (λc=>?_)]
 . have c':¬wn b<=m:=by
    have:(if b<0 then-b else b)>m:= ~~~c
    delta wn;lia
   show#[_,O,_,_,O,O,_,O,jw (λcb=>?_) (λcb=>?_)]
   . have e:sgM b m=m:=by delta sgM;show YB ( ~~~cb)
     rw[e]at J;show#[_,O,_,O,λdx F=>J c' dx _ (qE F _) qC]
   . have e:sgM b m=-m:=by delta sgM;show YA ( ~~~cb)
     rw[e]at J;show#[_,O,_,O,_,O,λdx F=>J c' dx _ (qE F _) qC]
 . show kg ?_
   have:¬(if b<0 then-b else b)>m:= ~~~c
   delta wn;lia
inductive qL2(K:Fg)(vs:LV)(H:Hp)(Q:VK)(_:XK):Prop
|mk (v:V) (n:Str) (p q r s len lo hi:Int) (_:vs=[v,.int lo,.int hi]) (_:IsI H (.clip n p q r s len) v) (_:Bn 700 p q r s) (_:lo.natAbs<2 ^ 700) (_:∀(u:V) (H':Hp),Same H H'->IsI H' (.clip n (plP p q r s lo) (plQ p q r s lo) r s (hi-lo)) u->Q u H')
def z9:Fo P w base T.D16 5 (qL2 K):=by
 rcases oL T.D16.F,qMg with⟨v,n,p,q,r,s',F,lo,hi,rfl,hI,⟨hq,hs,bp,bq,br,bs⟩,bl,kk⟩;exists #[qL (qZ [qQ,qJ 0,qK T.D12 zr [0,1],qJ 0,qR jU 2 1])]
 ext;let#[z,z1,z2,rfl,h0,h1,h2]:=id hI;symm;show(ixO h0 qLk #[_,O,_,O,_,n,p,q,r,s',F,lo,O,qIi hI,hq,hs,bp,bq,br,bs,bl,λy H1 s1 e1=>?_]);show(ixO (s1 _ _ h0) qN2 #[_,O,_,O,_,_,O,O,sL5,λt ht=>?_]);have J:=qE ht<|.tup [.str "clip",.str n,.ref y,.ref z2,.int<|hi-lo];show kk _ _ (s1.trans J) #[t,y,z2,O,qC,J _ _ e1,J _ _<|s1 _ _ h2]
def xC(p q r s l N:Int):Int:=zk (plP p q r s l*s) (1*r*plQ p q r s l) (plQ p q r s l*s) N
def xL(p q r s N:Int):Int:=zk (plP p q r s (-1)*s) (-1*r*plQ p q r s (-1)) (plQ p q r s (-1)*s) N
structure Rc(n:Str)(p q r s l:Int)(rl:Rls)(N:Int):Prop where
 g1:qYa 110 p q
 g2:qYa 110 r s
 bl:l.natAbs<2 ^ 30
 l1:1<=l
 rn:rl n=some N
 bN:N.natAbs<2 ^ 700
def Rc.bn{n:Str}{l:Int}(h:Rc n p q r s l rl N):Bn 110 p q r s:=#[h.g1.1,h.g2.1,h.g1.2.2.1,h.g1.2.2.2,h.g2.2.2.1,h.g2.2.2.2]
noncomputable def qEb(b tl hd l l':Int):Int:=if 0<b then (if l'-1<tl then l'-1 else tl)else (if hd<l-1 then hd else l-1)
inductive qK2(K:Fg)(vs:LV)(H:Hp)(Q:VK)(_:XK):Prop
|mk (v u:V) (b:Int) (rd:Addr) (rl:Rls) (n n':Str) (p q r s l N p' q' r' s' l' N':Int) (_:vs=[v,u,.int b,.ref rd]) (_:IsI H (.clip n p q r s l) v) (_:IsI H (.clip n' p' q' r' s' l') u) (_:Rc n p q r s l rl N) (_:Rc n' p' q' r' s' l' rl N') (_:ReelsAt H rd rl) (_:∀H',Same H H'->Q (.int (qEb b (xC p q r s l N) (xL p' q' r' s' N') l l')) H')
def qL9:Fo P w base T.D49 6 (qK2 K):=by
 rcases oL T.D49.F,qK8 with⟨v,u,b,rd,rl,n,n',p,q,r,s1,l,N,p',q',r',s2,l',N',rfl,hv,hu,F,c2,J,kk⟩;exists #[qh (qM qFd 2 qH) #[qL (qg (zm rfl) rfl T.b_min rfl [qK T.D20 v6 [0,3],qR jU (qJ 1) qH])] qO,qL (qg (zm rfl) rfl T.b_min rfl [qR jU (qJ 0) qH,qK T.D19 wQ [1,3]])]
 delta qEb at kk;show#[_,O,_,_,O,O,_,O,jw (λc=>?_) (λc=>?_)]
 . rw[YB<| ~~~c]at kk
   ext;let#[zu,xu,yu,rfl,aa,_]:=id hu;symm;show#[_,O,_,O,v,n,p,q,r,s1,l,N,rd,O,qIi hv,F.g1,F.g2,F.bl,J _ _ F.rn,F.bN,λH1 e1=>?_];show(ixO (e1 _ _ aa) qDw #[_,_,O,O,_,_,O,kk H1 e1])
 . rw[YA<| ~~~c]at kk
   ext;let#[zv,xv,yv,rfl,ac,_]:=id hv;symm;show(ixO ac qDw #[_,_,O,O,?_]);show#[_,O,_,O,u,n',p',q',r',s2,l',N',rd,O,qIi hu,c2.g1,c2.g2,J _ _ c2.rn,c2.bN,λH1 e1=>?_];show#[_,_,O,kk H1 e1]
theorem IsIs.set{H:Hp}:∀{ms:LI} {vs:LV} {i:Nat} {m:Im} {v:V},IsIs H ms vs->IsI H m v->IsIs H (ms.set i m) (vs.set i v)
 |[],[],_,_,_,_,_=>trivial
 |_::_,_::_,0,_,_,h,h'=>#[h',h.2]
 |_::_,_::_,_+1,_,_,h,h'=>#[h.1,h.2.set h']
 |[],_::_,_,_,_,h,_=>h.elim
 |_::_,[],_,_,_,h,_=>h.elim
def qIb(h:i<n):ixN n (i:Int)=some i:=by delta ixN;rw[YB (),YB ()];congr 1
def qQs(ms:LI)(i j:Nat)(b:Int)(n:Str)(p q r s l:Int)(n':Str)(p' q' r' s' l':Int):LI:=(ms.set i (.clip n p q r s<|l+b)).set j (.clip n' (plP p' q' r' s' b) (plQ p' q' r' s' b) r' s'<|l'-b)
inductive qAb(S:Addr)(vs:LV)(H:Hp)(Q:VK)(E:XK):Prop
|mk (z rd:Addr) (ms:LI) (i j:Nat) (b:Int) (rl:Rls) (n n':Str) (p q r s l N p' q' r' s' l' N':Int) (_:vs=[.ref z,.int (i:Int),.int (j:Int),.int b,.ref rd]) (_:Tr H z ms) (_:ms.length<=300) (_:ms[i]?=some (.clip n p q r s l)) (_:ms[j]?=some (.clip n' p' q' r' s' l')) (_:Rc n p q r s l rl N) (_:Rc n' p' q' r' s' l' rl N') (_:ReelsAt H rd rl) (_:b.natAbs<=1000000) (_:(wn b<=qEb b (xC p q r s l N) (xL p' q' r' s' N') l l'->∀(y:Addr) (H':Hp),Same H H'->H y=none->Tr H' y (qQs ms i j b n p q r s l n' p' q' r' s' l')->Q (.ref y) H')) (_:(¬wn b<=qEb b (xC p q r s l N) (xL p' q' r' s' N') l l'->∀(dx:Addr) (H':Hp),Same H H'->H' dx=some (.xd [("most",.int (sgM b (qEb b (xC p q r s l N) (xL p' q' r' s' N') l l')))])->E (.ref S) (some dx) H'))
def qAa:Fx P w base T.D51 7 (qAb a.k_Short):=by
 rcases oX T.D51.F,jk with⟨z,rd,ms,i,j,b,rl,n,n',p,q,r,s1,l,N,p',q',r',s2,l',N',rfl,tT,aq,hi,hj,J,c2,ai,hb,kg,kb⟩;exists #[qc 5 (jI qk 0 1),qc 6 (jI qk 0 2),qt (xA T.D47 v8 [qK T.D49 qL9 [5,6,3,4],3]),qc 7 (jp xI rfl T.b_list rfl [0]),qDk (qK T.D16 z9 [5,qH,qR qx (qJ 5) 3]) (qPj 7 1 qEl),qDk (qK T.D16 z9 [6,3,qJ 6]) (qPj 7 2 qEl),qL 7]
 ext;let#[vs,hz,F]:=id tT;let#[va,ae,Ia]:=F.get' hi;let#[vb,af,Ib]:=F.get' hj;symm;have ar:=F.len;have li:i<vs.length:=(glt ae);have lj:j<vs.length:=(glt af);show#[_,O,_,O,z,_,_,_,O,O,SqL.of hz,jC ae,?_];show#[_,O,_,O,z,_,_,_,O,O,SqL.of hz,jC af,?_];show#[_,O,_,O,_,O,_,O,va,vb,b,rd,rl,n,n',p,q,r,s1,l,N,p',q',r',s2,l',N',O,Ia,Ib,J,c2,ai,λH1 e1=>?_];show#[_,O,_,b,O,λhc=>?_,λhc dx H' e' aj=>kb hc dx H' (e1.trans e') aj];show#[_,O,z,vs,O,.inl (SqL.of<|e1 _ _ hz),λy hy=>?_];have w2:=qE hy<|.lst vs;have e2:=e1.trans w2;have aa:H y=none:=by
  cases q0:H y with
  |none=>rfl
  |some o=>rw[e1 _ _ q0]at hy;cases hy
 ext;let#[za,xa,ya,rfl,ah,am,an]:=id Ia;symm;have b1:=J.bn.mono (m:=700);have b2:=c2.bn.mono (m:=700);have ak:b.natAbs<2 ^ 700:=Yd hb #[];have ac:upd H1 y (.lst vs) y=some (.lst vs):=qC;generalize upd H1 y (.lst vs)=H2 at w2 e2 ac⊢;show#[_,O,ixO (e2 _ _ ah) qDw #[_,O,_,_,O,O,_,n,p,q,r,s1,l,0,_,O,Ia.ts<|qd e2,b1,#[],λu H3 e3 I3=>?_]];rw[(qA5 J.bn.q0 J.bn.s0 J.g1.2.1).1,(qA5 J.bn.q0 J.bn.s0 J.g1.2.1).2,ZU]at I3;show#[_,O,_,O,y,vs,_,i,O,O,e3 _ _ ac,qIb li,?_];have e4:Same H (upd H3 y (.lst<|vs.set i u)):=jX (e2.trans e3) aa;have t4:TS H3 (upd H3 y (.lst<|vs.set i u)):=xS<|e3 _ _ ac;have ad:upd H3 y (.lst<|vs.set i u) y=some (.lst<|vs.set i u):=qC;have I4:=I3.ts t4;have ag:=(F.ts<|qd e4).set (i:=i) I4;generalize upd H3 y (.lst<|vs.set i u)=H4 at e4 ad I4 ag⊢;ext;let#[zb,xb,yb,rfl,al,ao,ap]:=id Ib;symm;show#[_,O,_,O,ixO (e4 _ _ al) qDw #[_,n',p',q',r',s2,l',b,_,O,Ib.ts<|qd e4,b2,ak,λu' H5 e5 I5=>?_]];show#[_,O,_,O,y,_,_,j,O,O,e5 _ _ ad,qIb (by rw[ZN];show lj),?_];have e6:Same H (upd H5 y (.lst<|(vs.set i u).set j u')):=jX (e4.trans e5) aa;have t6:TS H5 (upd H5 y (.lst<|(vs.set i u).set j u')):=xS<|e5 _ _ ad;show#[_,O,kg hc y _ e6 aa #[_,qC,((ag.ts<|qd e5).ts t6).set<|I5.ts t6]]
theorem TrsAt.set{H:Hp}:∀{F:LL} {vs:LV} {i:Nat} {ms:LI} {z:Addr},TrsAt H F vs->Tr H z ms->TrsAt H (F.set i ms) (vs.set i<|.ref z)
 |[],[],_,_,_,_,_=>trivial
 |_::_,_::_,0,_,z,h,h'=>#[#[z,rfl,h'],h.2]
 |_::_,_::_,_+1,_,_,h,h'=>#[h.1,h.2.set h']
 |[],_::_,_,_,_,h,_=>h.elim
 |_::_,[],_,_,_,h,_=>h.elim
inductive qJw(vs:LV)(H:Hp)(Q:VK)(_:XK):Prop
|mk (tz y:Addr) (n:Nat) (ts:LL) (tie:LN) (ms:LI) (_:vs=[.ref tz,.int (n:Int),.ref y]) (_:TabF H (.ref tz) ts tie) (_:Tr H y ms) (_:n<ts.length) (_:ts.length<=300) (_:∀(t:Addr) (H':Hp),Same H H'->TabF H' (.ref t) (ts.set n ms) tie->Q (.ref t) H')
def j8:Fo P w base T.D52 1 qJw:=by
 rcases oL T.D52.F,qB7 with⟨tz,y,n,ts,tie,ms,rfl,⟨tt,tl,ti,zs,e0,h2,h3,h4,h5⟩,hy,hn,hl,kk⟩;cases e0;symm;have ae:=h4.len;show#[_,(qD (qXs (i:=3) [] [] qB7.nd rfl rfl rfl (jh (qJ<|pv 0)) (λ_ _ _ _=>(jp (ka (K:=K) rfl) rfl T.b_list rfl<|qA (pv 0) qB)))
  (qD (qDk (pv 2)<|qPj (pv 3) (pv 1) qEl)
  (qF (qL<|qZ (qA (pv 3)<|qA (jp xI rfl T.b_list rfl<|qA (qJ<|pv 0) qB) qB))))),?_]
 try dsimp only[jK,qi]
 show(ixO h2 at0 #[tl,O,#[_,SqL.of h3],kU (K:=K) (a:=tl) (xs:=zs) (λj F H2=>TrsAt H2 (ts.take j) F/\Same H H2) #[trivial,Same.refl _] ?_ ?_ ?_])
 . rintro j F H2 hj ⟨ht,e2⟩
   show#[SqL.of<|e2 _ _ h3,qf (by rw[ht.len,Yk];lia)]
 . rintro j x F H2 hj hx ⟨ht,e2⟩
   ext;let#[ah,z,af,rfl,us,hz,ad]:=h4.get hx;symm;show#[_,O,z,us,O,.inl (SqL.of<|e2 _ _ hz),λl J=>Nxt.mk hj #[?_,e2.trans<|qE J _]];have w3:=qE J<|.lst us;have ag:ts.take (j+1)=ts.take j++[ah]:=by rw[Yt,af];rfl
   rw[ag];show qJq (ht.same w3) #[us,qC,ad.ts (qd<|e2.trans w3)]
 rintro F H2 ⟨ht,e2⟩ d hd;rw[ae,Yx]at ht;show#[_,O,_,O,_,O,d,F,_,n,O,O,qC,qIb (by rw[ht.len];show hn),?_];rw[qNm];have w4:=qE hd<|.lst (F.set n<|.ref y);have e4:=e2.trans w4;show#[_,O,ixO (e4 _ _ h2) at1 #[ti,_,O,.inl (SqL.of<|e4 _ _ h5),λl J=>#[sL2,λt ac=>?_]]];have w5:=qE J (.lst<|tie.map V.int);have w6:=qE ac<|.tup [.ref d,.ref l];have aa:=w5.trans w6;show kk t _ (e4.trans aa) #[t,d,l,_,O,qC,aa _ _ qC,((ht.same w4).set<|hy.same e4).same aa,w6 _ _ qC]
def qBq:atI [x0,x1,x2,x3] 0=some x0:=rfl
def qD1:atI [x0,x1,x2,x3] 1=some x1:=rfl
def wz:atI [x0,x1,x2,x3] 2=some x2:=rfl
def kn:atI [x0,x1,x2,x3] 3=some x3:=rfl
def jBf:atI [x0,x1,x2] 0=some x0:=rfl
def qU1:atI [x0] 0=some x0:=rfl
inductive qE9(vs:LV)(H:Hp)(Q:VK)(_:XK):Prop
|mk (z:Addr) (ms:LI) (i:Int) (_:vs=[.ref z,.int i]) (_:Tr H z ms) (_:Q (.int (if qv ms (i+1)="mix" then i+2 else i+1)) H)
def qEv:Fo P w base T.D29 2 qE9:=by
 rcases oL T.D29.F,qFk with⟨z,ms,i,rfl,F,q⟩;exists #[qL (zt (qM jP (qK T.D27 jV [0,qR qx 1 qH]) qQ) (qR qx 1 qH) (qR qx 1 qH))]
 show#[_,O,_,O,_,_,O,O,z,ms,_,O,F,O,_,O,jw (λc=>?_) (λc=>?_)]
 . rw[YB<| ~~~c]at q
   show#[_,O,_,_,O,O,q]
 . rw[YA<| ~~~c]at q
   show#[_,O,_,_,O,O,q]
inductive qJ8(K:Fg)(vs:LV)(H:Hp)(Q:VK)(_:XK):Prop
|mk (v:V) (b:Int) (rd:Addr) (rl:Rls) (n:Str) (p q r s l N:Int) (_:vs=[v,.int b,.ref rd]) (_:IsI H (.clip n p q r s l) v) (_:Rc n p q r s l rl N) (_:ReelsAt H rd rl) (_:∀H',Same H H'->Q (.int (if 0<b then xC p q r s l N else xL p q r s N)) H')
def qKs:Fo P w base T.D48 6 (qJ8 K):=by
 rcases oL T.D48.F,qJ1 with⟨v,b,rd,rl,n,p,q,r,s1,l,N,rfl,hv,F,J,kk⟩;exists #[qL (zt (qM qFd 1 qH) (qK T.D20 v6 [0,2]) (qK T.D19 wQ [0,2]))]
 show#[_,O,_,_,O,O,_,O,jw (λc=>?_) (λc=>?_)]
 . show#[_,O,_,O,v,n,p,q,r,s1,l,N,rd,O,qIi hv,F.g1,F.g2,F.bl,J _ _ F.rn,F.bN,λH1 e1=>?_]
   have:=kk H1 e1;rw[YB<| ~~~c]at this;show this
 . show#[_,O,_,O,v,n,p,q,r,s1,l,N,rd,O,qIi hv,F.g1,F.g2,J _ _ F.rn,F.bN,λH1 e1=>?_]
   have:=kk H1 e1;rw[YA<| ~~~c]at this;show this
inductive qMq(S:Addr)(vs:LV)(H:Hp)(Q:VK)(E:XK):Prop
|mk (z rd:Addr) (ms:LI) (i:Nat) (b:Int) (rl:Rls) (n:Str) (p q r s l N:Int) (_:vs=[.ref z,.int (i:Int),.int b,.ref rd]) (_:Tr H z ms) (_:ms.length<=300) (_:ms[i]?=some (.clip n p q r s l)) (_:Rc n p q r s l rl N) (_:ReelsAt H rd rl) (_:b.natAbs<=1000000) (_:(wn b<=(if 0<b then xC p q r s l N else xL p q r s N)->∀(y:Addr) (H':Hp),Same H H'->H y=none->Tr H' y (ms.set i (.clip n (plP p q r s b) (plQ p q r s b) r s l))->Q (.ref y) H')) (_:(¬wn b<=(if 0<b then xC p q r s l N else xL p q r s N)->∀(dx:Addr) (H':Hp),Same H H'->H' dx=some (.xd [("most",.int (sgM b (if 0<b then xC p q r s l N else xL p q r s N)))])->E (.ref S) (some dx) H'))
def qNy:Fx P w base T.D50 7 (qMq a.k_Short):=by
 rcases oX T.D50.F,qCl with⟨z,rd,ms,i,b,rl,n,p,q,r,s1,l,N,rfl,tT,aj,hi,c1,af,hb,kg,kb⟩;exists #[qc 4 (jI qk 0 1),qt (xA T.D47 v8 [qK T.D48 qKs [4,2,3],2]),qc 5 (jp xI rfl T.b_list rfl [0]),qDk (qK T.D16 z9 [4,2,qR qx 2 (qJ 4)]) (qPj 5 1 qEl),qL 5]
 ext;let#[vs,hz,F]:=id tT;let#[va,ac,Ia]:=F.get' hi;symm;have ak:=F.len;have li:i<vs.length:=(glt ac);show#[_,O,_,O,z,_,_,_,O,O,SqL.of hz,jC ac,?_];show#[_,O,_,O,_,O,va,b,rd,rl,n,p,q,r,s1,l,N,O,Ia,c1,af,λH1 e1=>?_];show#[_,O,_,b,O,λhc=>?_,λhc dx H' e' ad=>kb hc dx H' (e1.trans e') ad];show#[_,O,z,vs,O,.inl (SqL.of<|e1 _ _ hz),λy hy=>?_];have w2:=qE hy<|.lst vs;have e2:=e1.trans w2;have aa:H y=none:=e1.free hy;ext;let#[za,xa,ya,rfl,ae,ah,ai]:=id Ia;symm;have b1:=c1.bn.mono (m:=700);have ag:b.natAbs<2 ^ 700:=Yd hb #[];have J:upd H1 y (.lst vs) y=some (.lst vs):=qC;generalize upd H1 y (.lst vs)=H2 at w2 e2 J⊢;show#[_,O,_,O,_,O,ixO (e2 _ _ ae) qDw #[_,_,O,O,_,n,p,q,r,s1,l,b,_,O,Ia.ts<|qd e2,b1,ag,λu H3 e3 I3=>?_]];rw[show b+l-b=l by lia]at I3;show#[_,O,_,O,y,vs,_,i,O,O,e3 _ _ J,qIb li,?_];have e4:Same H (upd H3 y (.lst<|vs.set i u)):=jX (e2.trans e3) aa;have t4:TS H3 (upd H3 y (.lst<|vs.set i u)):=xS<|e3 _ _ J;show#[_,O,kg hc y _ e4 aa #[_,qC,(F.ts<|qd e4).set (i:=i)<|I3.ts t4]]
def qSi:(3:Nat)<=sizeLine:=#[]
def qTw:(4:Nat)<=sizeLine:=#[]
def paF(ms:LI)(i:Int):Int:=if qv ms (i-1)="mix" then i-2 else i-1
def pbF(ms:LI)(i:Int):Int:=if qv ms (i+1)="mix" then i+2 else i+1
def ctF(ms:LI)(t:Int):Option Nat:=match jo 0 0 ms t with
 |some (i,_)=>if qv ms (i:Int)="clip" then some i else none
 |none=>none
def csF(ms:LI)(t:Int):Option LN:=match ctF ms t with
 |some i=>if qv ms (paF ms i)="clip"/\qv ms (pbF ms i)="clip" then some [paF ms i,(i:Int),pbF ms i]else none
 |none=>none
def jA3(H:Hp)(Q:VK)(r:Option LN):Prop:=match r with
 |none=> ∀H',Same H H'->Q .non H'
 |some is=> ∀(p:Addr) (H':Hp),Same H H'->H' p=some (.tup<|is.map V.int)->Q (.ref p) H'
def plF(wd:Str)(ms:LI)(t:Int):Option LN:=if wd="roll" then (cbF ms t).map (λp=>[p.1,p.2])else if wd="slip" then (ctF ms t).map (λi=>[(i:Int)])else csF ms t
inductive qIz(vs:LV)(H:Hp)(Q:VK)(_:XK):Prop
|mk (z:Addr) (ms:LI) (t:Int) (_:vs=[.ref z,.int t]) (_:Tr H z ms) (_:jA3 H Q ((ctF ms t).map λi=>[(i:Int)]))
def qBp:Fo P w base T.D43 4 qIz:=by
 rcases oL T.D43.F,qB4 with⟨z,ms,t,rfl,tT,F⟩;exists #[qc 2 (qK T.D26 qCo [0,1]),qh (PW.pt (xK (xm (vX 2)) (jf (qM wH (qK T.D27 jV [0,qJ 2]) qQ)))) #[qL xn] qO,qL (qZ [qJ 2])]
 show#[_,O,_,O,z,ms,_,O,tT,?_];delta ctF at F;cases hit:jo 0 0 ms t with
 |none=>
  rw[hit]at F;intro H1 J;show#[_,O,_,O,qA8 #[] (ju<|F H1 J)]
 |some r=>
  let#[i,d]:=r;rw[hit]at F;dsimp only at F;intro p H1 J hp;show#[_,O,_,O,jw (λc=>YC c #[]) (λ_=>?_)];show#[_,O,ixO hp at0 #[z,ms,_,O,tT.same J,O,_,O,jw (λc=>?_) (λc=>?_)]]
  . have hk:¬qv ms (i:Int)="clip":= ~~~c
    rw[YA hk]at F;show F H1 J
  . have hk:qv ms (i:Int)="clip":= ~~~c
    rw[YB hk]at F;show(ixO hp at0 #[sL1,λq hq=>?_]);show F q _ (J.trans<|qE hq _) qC
inductive qC4(vs:LV)(H:Hp)(Q:VK)(_:XK):Prop
|mk (z:Addr) (ms:LI) (t:Int) (_:vs=[.ref z,.int t]) (_:Tr H z ms) (_:jA3 H Q (csF ms t))
def qCw:Fo P w base T.D44 5 qC4:=by
 rcases oL T.D44.F,j6 with⟨z,ms,t,rfl,tT,F⟩;exists #[qc 2 (qK T.D43 qBp [0,1]),qh (xm (vX 2)) #[qL xn] qO,qc 3 (qK T.D28 qAj [0,qJ 2]),qc 4 (qK T.D29 qEv [0,qJ 2]),qh (PW.pt (xK (qM wH (qK T.D27 jV [0,3]) qQ) (jf (qM wH (qK T.D27 jV [0,4]) qQ)))) #[qL xn] qO,qL (qZ [3,qJ 2,4])]
 show#[_,O,_,O,z,ms,_,O,tT,?_];delta csF at F;cases hc:ctF ms t with
 |none=>
  rw[hc]at F;intro H1 J;show#[_,O,_,O,qA8 #[]<|F H1 J]
 |some i=>
  rw[hc]at F;dsimp only at F;delta paF pbF at F;intro p H1 J aa;show#[_,O,_,O,jw (λc=>YC c #[]) (λ_=>?_)];show#[_,O,ixO aa qU1 #[z,ms,_,O,tT.same J,?_]];show#[_,O,ixO aa qU1 #[z,ms,_,O,tT.same J,?_]];generalize (if qv ms ((i:Int)-1)="mix" then (i:Int)-2 else (i:Int)-1)=L at F⊢;generalize (if qv ms ((i:Int)+1)="mix" then (i:Int)+2 else (i:Int)+1)=R at F⊢;show#[_,O,_,O,z,ms,_,O,tT.same J,O,_,O,jw (λc=>?_) (λc=>?_)]
  . have hk:¬qv ms L="clip":= ~~~c
    rw[YA (λz=>hk z.1)]at F;show ju (F H1 J)
  have ad:qv ms L="clip":= ~~~c
  show#[_,O,_,O,z,ms,_,O,tT.same J,O,_,O,jw (λc=>?_) (λc=>?_)]
  . have hk:¬qv ms R="clip":= ~~~c
    rw[YA (λz=>hk z.2)]at F;show F H1 J
  have ac:qv ms R="clip":= ~~~c
  rw[YB #[ad,ac]]at F;show#[_,O,ixO aa qU1 #[_,O,sL3,λq hq=>?_]];show F q _ (J.trans<|qE hq _) qC
def Wd3(wd:Str):Prop:=wd="roll"\/wd="slip"\/wd="slide"
inductive qE3(vs:LV)(H:Hp)(Q:VK)(_:XK):Prop
|mk (z dz:Addr) (ms:LI) (n b:V) (t:Int) (wd:Str) (_:vs=[.ref z,.ref dz]) (_:Tr H z ms) (_:H dz=some (.tup [.str wd,n,.int t,b])) (_:Wd3 wd) (_:jA3 H Q (plF wd ms t))
def qF6:Fo P w base T.D45 6 qE3:=by
 rcases oL T.D45.F,qFm with⟨z,dz,ms,n,b,t,wd,rfl,J,hd,hw,F⟩;exists #[qh (qM jP (qJ 1) qQ) #[qL (qK T.D31 jY [0,qJ 1])] qO,qh (qM jP (qJ 1) qQ) #[qL (qK T.D43 qBp [0,qJ 1])] qO,qh (qM jP (qJ 1) qQ) #[qL (qK T.D44 qCw [0,qJ 1])] qO,qL xn]
 unfold plF at F;rcases hw with rfl|rfl|rfl
 . rw[YB rfl]at F
   show(ixO hd qBq #[O,_,O,ju ?_]);show#[_,O,ixO hd wz #[z,ms,t,O,J,?_]];cases hc:cbF ms t with
   |none=>rw[hc]at F;show F
   |some r=>let#[i,j]:=r;rw[hc]at F;show F
 . rw[YA ⋯,YB rfl]at F
   show(ixO hd qBq #[O,_,O,jH ?_]);show(ixO hd qBq #[O,_,O,ju ?_]);show#[_,O,ixO hd wz #[z,ms,t,O,J,F]]
 . rw[YA ⋯,YA ⋯]at F
   show(ixO hd qBq #[O,_,O,jH ?_]);show(ixO hd qBq #[O,_,O,jH ?_]);show(ixO hd qBq #[O,_,O,ju ?_]);show#[_,O,ixO hd wz #[z,ms,t,O,J,F]]
def xG{x:Int}(h:qv ms x="clip"):∃(i:Nat) (n:Str) (p q r s l:Int),x=(i:Int)/\ms[i]?=some (.clip n p q r s l):=by
 unfold qv at h;split at h
 . show YC h ⋯
 . rename_i F
   cases hm:ms[x.toNat]? with
   |none=>rw[hm]at h;show YC h ⋯
   |some m=>
    rw[hm]at h;dsimp only at h;cases m with
    |clip n p q r s l=>show#[x.toNat,n,p,q,r,s,l,(),hm]
    |gap=>show YC (show ("gap":Str)="clip" from h) ⋯
    |nest=>show YC (show ("nest":Str)="clip" from h) ⋯
    |mix=>show YC (show ("mix":Str)="clip" from h) ⋯
noncomputable def jT(ms:LI)(x:Int):Im:=(ms[x.toNat]?).getD (.gap 0)
def qSp(rl:Rls)(m:Im)(b:Int):Int:=match m with
 |.clip n p q r s l=>(match rl n with
  |some N=>if 0<b then xC p q r s l N else xL p q r s N
  |none=>0)
 |_=>0
def qTh(rl:Rls)(m m':Im)(b:Int):Int:=match m,m' with
 |.clip n p q r s l,.clip n' p' q' r' s' l'=>(match rl n,rl n' with
  |some N,some N'=>qEb b (xC p q r s l N) (xL p' q' r' s' N') l l'
  |_,_=>0)
 |_,_=>0
def qJt(rl:Rls)(ms:LI)(wd:Str)(is:LN)(b:Int):Int:=if wd="slip" then qSp rl (jT ms<|is.headD 0) b else qTh rl (jT ms<|is.headD 0) (jT ms<|is.getLastD 0) b
def qCh(ms:LI)(wd:Str)(is:LN)(b:Int):LI:=if wd="slip" then (match jT ms (is.headD 0)with
 |.clip n p q r s l=>ms.set (is.headD 0).toNat (.clip n (plP p q r s b) (plQ p q r s b) r s l)
 |_=>ms)
 else match jT ms (is.headD 0),jT ms (is.getLastD 0)with
  |.clip n p q r s l,.clip n' p' q' r' s' l'=>qQs ms (is.headD 0).toNat (is.getLastD 0).toNat b n p q r s l n' p' q' r' s' l'
  |_,_=>ms
def zK{t i:Int}(h:cbF ms t=some (i,j)):qv ms i="clip"/\qv ms j="clip":=by
 delta cbF at h;split at h
 . split at h
   . rename_i c;cases h;show c
   . cases h
 . cases h
def jAk{t i:Int}(h:cbF ms t=some (i,j)):i<j:=by
 delta cbF at h;split at h
 . rename_i F
   split at h
   . cases h
     delta nbF at F;split at F
     . split at F
       . cases F
       . cases F
         split <;> lia
     . cases F
   . cases h
 . cases h
def jBu(rl:Rls)(ms:LI)(w:Str)(is:LN):Prop:=is.length<=3/\∃(i j:Nat) (n:Str) (p q r s l N:Int) (n':Str) (p' q' r' s' l' N':Int),i<j/\(i:Int)∈is/\(j:Int)∈is/\atI (is.map V.int) 0=some (.int (i:Int))/\atI (is.map V.int) (-1)=some (.int (j:Int))/\ms[i]?=some (.clip n p q r s l)/\ms[j]?=some (.clip n' p' q' r' s' l')/\rl n=some N/\rl n'=some N'/\
 ∀b,qJt rl ms w is b=qEb b (xC p q r s l N) (xL p' q' r' s' N') l l'/\qCh ms w is b=qQs ms i j b n p q r s l n' p' q' r' s' l'
def qZp{w:Str}{t:Int}(hc:∀n p q r s l,Im.clip n p q r s l∈ms->∃N,rl n=some N)(hw:Wd3 w)(F:plF w ms t=some is):
 (w="slip"/\∃(i:Nat) (n:Str) (p q r s l N:Int),is=[(i:Int)]/\ms[i]?=some (.clip n p q r s l)/\rl n=some N/\∀b,qJt rl ms w is b=(if 0<b then xC p q r s l N else xL p q r s N)/\qCh ms w is b=ms.set i (.clip n (plP p q r s b) (plQ p q r s b) r s l))\/
 (w≠"slip"/\jBu rl ms w is):=by
 have ec:∀{i:Nat} {m:Im},ms[i]?=some m->jT ms (i:Int)=m:=λh=>by delta jT;rw[YQ,h];rfl
 have ac:∀x y:Int,w≠"slip"->is.length<=3->x<y->is.headD 0=x->is.getLastD 0=y->x∈is->y∈is->atI (is.map V.int) 0=some (.int x)->atI (is.map V.int) (-1)=some (.int y)->qv ms x="clip"->qv ms y="clip"->w≠"slip"/\jBu rl ms w is:=λx y ns h3 ae hh hl m1 m2 a0 a1 hk ad=>by
  let#[i,n,p,q,r,s,l,rfl,hm]:=xG hk;let#[j,n',p',q',r',s',l',rfl,J]:=xG ad;let#[N,hN]:=hc _ _ _ _ _ _<|YF hm;let#[N',aa]:=hc _ _ _ _ _ _<|YF J;show#[ns,h3,i,j,n,p,q,r,s,l,N,n',p',q',r',s',l',N',(),m1,m2,a0,a1,hm,J,hN,aa,λb=>#[?_,?_]]
  . delta qJt
    rw[YA ns,hh,hl,ec hm,ec J];delta qTh;dsimp only;rw[hN,aa]
  . delta qCh
    rw[YA ns,hh,hl,ec hm,ec J,YQ,YQ]
 have af:=F;unfold plF at F;rcases hw with rfl|rfl|rfl
 . rw[YB rfl]at F
   cases hq:cbF ms t with
   |none=>rw[hq]at F;cases F
   |some x=>
    let#[x,y]:=x;rw[hq]at F;cases F;let#[k1,k2]:=zK hq;show .inr (ac x y ⋯ (by change 2<=3;decide) (jAk hq) rfl rfl #[] #[] rfl rfl k1 k2)
 . rw[YA ⋯,YB rfl]at F
   cases hq:ctF ms t with
   |none=>rw[hq]at F;cases F
   |some x=>
    rw[hq]at F;cases F;have hk:qv ms (x:Int)="clip":=by
     delta ctF at hq;split at hq
     . split at hq
       . rename_i c;cases hq;show c
       . cases hq
     . cases hq
    let#[i,n,p,q,r,s,l,e,hm]:=xG hk;have e:x=i:=()
    subst e;let#[N,hN]:=hc _ _ _ _ _ _<|YF hm;show .inl #[O,x,n,p,q,r,s,l,N,O,hm,hN,λb=>#[?_,?_]]
    . delta qJt
      rw[YB rfl];change qSp rl (jT ms (x:Int)) b=_;rw[ec hm];delta qSp;dsimp only;rw[hN]
    . delta qCh
      rw[YB rfl];change (match jT ms (x:Int)with|.clip n p q r s l=>ms.set ((x:Int)).toNat (.clip n (plP p q r s b) (plQ p q r s b) r s l)|_=>ms)=_;rw[ec hm,YQ]
 . rw[YA ⋯,YA ⋯]at F
   delta csF at F;cases hq:ctF ms t with
   |none=>rw[hq]at F;cases F
   |some i=>
    rw[hq]at F;dsimp only at F;split at F
    . rename_i c
      cases F;show .inr (ac (paF ms i) (pbF ms i) ⋯ (by change 3<=3;decide) (by delta paF pbF;split <;> split <;> lia) rfl rfl #[] #[] rfl rfl c.1 c.2)
    . cases F
def ItR(rl:Rls)(m:Im):Prop:= ∀n p q r s l,m=.clip n p q r s l->∃N,Rc n p q r s l rl N
inductive qQc(N M S:Addr)(vs:LV)(H:Hp)(Q:VK)(E:XK):Prop
|mk (tz dz rd:Addr) (ts:LL) (tie:LN) (wd:Str) (nt:Nat) (t b:Int) (ms:LI) (rl:Rls) (_:vs=[.ref tz,.ref dz,.ref rd]) (_:TabF H (.ref tz) ts tie) (_:H dz=some (.tup [.str wd,.int (nt:Int),.int t,.int b])) (_:Wd3 wd) (_:ts[nt]?=some ms) (_:0<=t) (_:b.natAbs<=1000000) (_:ts.length<=300) (_:ms.length<=300) (_:(∀m∈ms,ItR rl m)) (_:ReelsAt H rd rl) (_:(plF wd ms t=none->∀H',Same H H'->E (.ref N) none H')) (_:∀is,plF wd ms t=some is->(is.any (hmB ms)=true->∀H',Same H H'->E (.ref M) none H')/\(is.any (hmB ms)=false->(wn b<=qJt rl ms wd is b->∀(t':Addr) (H':Hp),Same H H'->TabF H' (.ref t') (ts.set nt (qCh ms wd is b)) tie->Q (.ref t') H')/\(¬wn b<=qJt rl ms wd is b->∀(dx:Addr) (H':Hp),Same H H'->H' dx=some (.xd [("most",.int (sgM b (qJt rl ms wd is b)))])->E (.ref S) (some dx) H')))
def qQy:Fx P w base T.D53 8 (qQc a.k_NoPlace a.k_Mixed a.k_Short):=by
 rcases oX T.D53.F,qGd with⟨tz,dz,rd,ts,tie,wd,nt,t,b,ms,rl,rfl,hT,hd,hw,aq,t0,aj,ap,ar,ao,al,k0,k1⟩;exists #[qt (qK T.D41 qAl [0,qJ 1,qJ 1]),qt (qK T.D42 qMo [qJ 1]),qSr (i:=0x03) qGd.nd rfl (Or.inr rfl) (jI qk (qJ 0) (qJ 1)),qc 4 (qK T.D45 qF6 [3,1]),qh (xm (vX 4)) #[xZ rfl rfl T.c_NoPlace T.x_NoPlace [qQ]] qO,qh (jQ (qg (qRd rfl) rfl T.b_any rfl [vz %["track"|.nil] %[0x03|.nil] rfl (qV8 4) (λ_ _ _ _=>(qK T.D46 qPu [1,0]))])) #[xZ rfl rfl T.c_Mixed T.x_Mixed [qQ]] qO,qh (qM jP (qJ 1) qQ) #[qL (qK T.D52 j8 [0,qJ 1,xA T.D50 qNy [3,qJ 4,qJ 1,2]])] qO,qL (qK T.D52 j8 [0,qJ 1,xA T.D51 qAa [3,qJ 4,jI qHk 4 (qA0 zX qH),qJ 1,2]])]
 have am:(1:Nat)<=sizeLine:=#[]
 ext;let#[tt,tl,ti,zs,e0,g2,g3,g4,g5]:=id hT;cases e0;symm;have aB:=g4.len;have ak:=(glt aq);show#[_,O,ixO hd qD1<|ixO hd wz #[tz,tl,ti,zs,_,_,O,g2,g3,(),(),t0,?_]];show(ixO hd kn #[b,O,aj,?_]);have ez:zs[nt]?=some zs[nt]:=YD ();ext;let#[aC,z,ag,as,tT]:=g4.get ez;rw[aq]at ag;cases ag;symm;rw[as]at ez;show(ixO g2 at0<|ixO hd qD1 #[tl,_,_,_,O,O,SqL.of g3,jC ez,?_]);show#[_,O,_,O,z,dz,ms,_,_,t,wd,O,tT,hd,hw,?_];cases hpl:plF wd ms t with
 |none=>
  intro H1 e1;show#[_,O,_,O,qA8 #[] #[am,k0 hpl H1 e1]]
 |some is=>
 let#[k1,k2]:=k1 is hpl;intro pz H1 e1 ah;show#[_,O,_,O,jw (λc=>YC c #[]) (λ_=>?_)];have ad:=qZp (λn p q r s l hm=>let #[N,c]:=ao _ hm _ _ _ _ _ _ rfl;#[N,c.rn]) hw hpl;have aA:is.length<=3:=by
  rcases ad with ⟨_,x,_,_,_,_,_,_,_,rfl,_⟩|⟨_,h,_⟩
  . change 1<=3;decide
  . show h
 show#[_,O,pz,O,#[_,SqT.of ah],qUa (K:=K) (a:=pz) (xs:=is.map V.int) (λj ae H2=>ae=((is.take j).map<|hmB ms).map V.bl/\H2=H1) #[O,O] ?_ ?_ ?_]
 . rintro j ae H2 hj ⟨rfl,rfl⟩
   show#[SqT.of ah,by rw[YS,YS,Yk];show qf ()]
 . rintro j x ae H2 hj hx ⟨rfl,rfl⟩
   ext;let#[k,hk,rfl]:∃k:Int,is[j]?=some k/\x=.int k:=by
    rw[Yj]at hx;cases hq:is[j]? with
    |none=>rw[hq]at hx;cases hx
    |some k=>rw[hq]at hx;cases hx;show#[k,rfl,rfl]
   symm;show#[_,O,_,O,z,ms,k,O,tT.same e1,Nxt.mk hj #[?_,O]];rw[Yt,hk];simp
 rintro ae H2 ⟨rfl,rfl⟩ d az;rw[YS,Yx];have w2:=qE az (.lst<|(is.map<|hmB ms).map V.bl);have e2:=e1.trans w2;have af:(is.map<|hmB ms).any id=is.any (hmB ms):=by rw[List.any_map];rfl
 show#[d,is.map<|hmB ms,O,SqL.of qC,?_];have F:=w2 _ _ ah;by_cases aa:is.any (hmB ms)=true
 . show#[true,by rw[af,aa],ju #[am,k1 aa _ e2]]
 have aa:=Bool.eq_false_iff.mpr aa;let#[kq,ks]:=k2 aa;show#[false,by rw[af,aa],jH ?_];generalize upd H2 d (.lst<|(is.map<|hmB ms).map V.bl)=H3 at w2 e2 F⊢;have ac:=e2 _ _ hd;have rc:∀{i:Nat} {n:Str} {p q r s l N:Int},ms[i]?=some (.clip n p q r s l)->rl n=some N->Rc n p q r s l rl N:=λ{i n p q r s l N} hm hr=>by let#[N',J]:=ao _ (YF hm) _ _ _ _ _ _ rfl;have:=J.rn;rw[hr]at this;cases this;show J
 ext;rcases ad with ⟨rfl,i,nn,p,q,r,s',l,N,rfl,hm,hN,hv⟩|⟨au,_,i,j,nn,p,q,r,s',l,N,aE,p',q',r',aD,l',N',_,_,_,aw,ax,hm,an,hN,ay,hv⟩
 . have J:=rc hm hN
   rw[(hv b).1,(hv b).2]at kq;rw[(hv b).1]at ks;symm;show(ixO ac qBq #[O,_,O,ju ?_]);show#[_,O,ixO ac qD1 ?_];show#[_,O,ixO F qU1<|ixO ac kn #[_,O,?_]];show#[z,rd,ms,i,b,rl,_,_,_,_,_,_,_,O,tT.same e2,ar,hm,J,al.same e2,aj,λJ y H4 e4 hy tY=>?_,λJ dx H4 e4 ai=>ks J dx H4 (e2.trans e4) ai];show#[tz,y,nt,ts,tie,_,O,hT.same<|e2.trans e4,tY,ak,ap,λt H5 e5 hN=>?_];show kq J t H5 ((e2.trans e4).trans e5) hN
 . have J:=rc hm hN
   have av:=rc an ay;rw[(hv b).1,(hv b).2]at kq;rw[(hv b).1]at ks;have dw:decide (V.str wd=V.str "slip")=false:=by rw[qX7];show YW au
   symm;show(ixO ac qBq #[O,_,O,qCf dw ?_]);show#[_,O,ixO ac qD1 ?_];show#[_,O,_,O,pz,_,_,_,O,O,SqT.of F,aw,_,O,1,O,pz,_,_,_,O,O,SqT.of F,ax,ixO ac kn #[_,O,?_]];show#[z,rd,ms,i,j,b,rl,_,_,_,_,_,_,_,_,_,_,_,_,_,_,O,tT.same e2,ar,hm,an,J,av,al.same e2,aj,λJ y H4 e4 hy tY=>?_,λJ dx H4 e4 ai=>ks J dx H4 (e2.trans e4) ai];show#[tz,y,nt,ts,tie,_,O,hT.same<|e2.trans e4,tY,ak,ap,λt H5 e5 hN=>?_];show kq J t H5 ((e2.trans e4).trans e5) hN
def qVu{w:Str}:inV (.str w) [.str "clip",.str "nest"]=(decide (w="clip") || decide (w="nest")):=by
 delta inV;rw[Yv];simp[eqV];constructor
 . rintro(h|h)
   . show .inl h.symm
   . show .inr h.symm
 . rintro(h|h)
   . show .inl h.symm
   . show .inr h.symm
def qz(ms:LI)(t:Int):Bool:=match jo 0 0 ms t with
 |some (i,d)=>decide (d>0) && (decide (qv ms (i:Int)="clip") || decide (qv ms (i:Int)="nest"))
 |none=>false
inductive qG1(vs:LV)(H:Hp)(Q:VK)(_:XK):Prop
|mk (z:Addr) (ms:LI) (t:Int) (_:vs=[.ref z,.int t]) (_:Tr H z ms) (_:∀H',Same H H'->Q (.bl (qz ms t)) H')
def qAh:Fo P w base T.D32 4 qG1:=by
 rcases oL T.D32.F,qAn with⟨z,ms,t,rfl,tT,F⟩;exists #[qc 2 (qK T.D26 qCo [0,1]),qL (zf (qWd (qBa 2)) (zf (jR qFd (qJ 2) qH) (vY (jR j2 (qK T.D27 jV [0,qJ 2]) (qZ [qQ,qQ]) rfl))))]
 show#[_,O,_,O,z,ms,_,O,tT,?_];unfold qz at F;cases hit:jo 0 0 ms t with
 |none=>
  rw[hit]at F;intro H1 J;show#[_,O,_,O,jH<|F H1 J]
 |some x=>
  let#[i,d]:=x;rw[hit]at F;dsimp only at F;intro p H1 J hp;show#[_,O,_,O,ju ?_];show(ixO hp at1 #[_,_,O,O,_,O,jw (λc=>?_) (λc=>?_)])
  . have hd:d>0:= ~~~c
    rw[YX hd,Bool.true_and]at F;show#[_,O,ixO hp at0 #[z,ms,_,O,tT.same J,sL2,λq hq=>?_]];have:=F _<|J.trans (qE hq<|.tup [.str "clip",.str "nest"]);rw[<-qVu]at this;show#[q,_,O,.inr<|SqT.of qC,O,O,this]
  . have hd:¬d>0:= ~~~c
    rw[YW hd,Bool.false_and]at F;show F H1 J
def qo:Im->Int->Int->Im
 |.clip n p q r s _,lo,hi=>.clip n (plP p q r s lo) (plQ p q r s lo) r s (hi-lo)
 |.nest n b _,lo,hi=>.nest n (b+lo) (hi-lo)
 |.gap _,lo,hi=>.gap (hi-lo)
 |.mix _,lo,hi=>.gap<|hi-lo
def ImB(m:Im):Prop:=match m with
 |.clip _ p q r s _=>Bn 700 p q r s
 |_=>True
inductive qJ0(vs:LV)(H:Hp)(Q:VK)(_:XK):Prop
|mk (v:V) (m:Im) (lo hi:Int) (_:vs=[v,.int lo,.int hi]) (_:IsI H m v) (_:ImB m) (_:lo.natAbs<2 ^ 700) (_:m.wd≠"mix") (_:∀(u:V) (H':Hp),Same H H'->IsI H' (qo m lo hi) u->Q u H')
def qL7:Fo P w base T.D33 6 qJ0:=by
 rcases oL T.D33.F,qLu with⟨v,m,lo,hi,rfl,J,hB,bl,aa,kk⟩;exists #[qh (qM jP (qJ 0) qQ) #[qL (qK T.D16 z9 [0,1,2])] qO,qh (qM jP (qJ 0) qQ) #[qL (qZ [qQ,qJ 0,qR qx (qJ 0) 1,qR jU 2 1])] qO,qL (qZ [qQ,qR jU 2 1])]
 cases m with
 |mix l=>show YC rfl aa
 |clip n p q r s1 l=>
  ext;let#[z,x,y,rfl,F,hx,hy]:=id J;symm;show(ixO F qY2 #[O,_,O,ju ?_]);show#[_,O,_,O,_,O,_,n,p,q,r,s1,l,lo,hi,O,J,hB,bl,kk]
 |nest n b l=>
  ext;let#[z,rfl,F]:=id J;symm;have a0:atI [V.str "nest",.str n,.int b,.int l] 0=some (.str "nest"):=rfl;have a1:atI [V.str "nest",.str n,.int b,.int l] 1=some (.str n):=rfl;have a2:atI [V.str "nest",.str n,.int b,.int l] 2=some (.int b):=rfl;show(ixO F a0 #[O,_,O,jH ?_]);show(ixO F a0 #[O,_,O,ju ?_]);show(ixO F a1 (ixO F a2 #[_,O,_,_,O,O,_,O,_,O,_,_,O,O,sL4,λt ht=>?_]));show kk _ _ (qE ht _) (isN qC)
 |gap l=>
  ext;let#[z,rfl,F]:=id J;symm;show(ixO F at0 #[O,_,O,jH ?_]);show(ixO F at0 #[O,_,O,jH ?_]);show#[_,O,_,O,_,_,O,O,sL2,λt ht=>?_];show kk _ _ (qE ht _)<|isG qC
noncomputable def xB(i j:Int):Int:=if j>i then j else i
noncomputable def qD6(i j:Int):Int:=if j<i then j else i
def ji(lo hi:Int):Int->LI->LI
 |_,[]=>[]
 |b,m::r=>(if m.wd="mix" then (if lo<b/\b<hi then [m]else [])else if xB lo b<qD6 hi (b+m.mo)then [qo m (xB lo b-b)<|qD6 hi (b+m.mo)-b]else [])++ji lo hi (b+m.mo) r
theorem vx(lo hi:Int):∀(b:Int) (ms:LI),(ji lo hi b ms).length<=ms.length
 |_,[]=>by simp[ji]
 |b,m::r=>by have:=vx lo hi (b+m.mo) r;rw[ji,YN,YE];split <;> split <;> simp <;> lia
def MsB(ms:LI):Prop:=(∀m∈ms,ImB m/\0<=m.mo)/\ms.length<=300
inductive qEe(vs:LV)(H:Hp)(Q:VK)(_:XK):Prop
|mk (z:Addr) (ms:LI) (lo hi:Int) (_:vs=[.ref z,.int lo,.int hi]) (_:Tr H z ms) (_:MsB ms) (_:0<=lo) (_:lo<=2 ^ 500) (_:∀(y:Addr) (H':Hp),Same H H'->H y=none->Tr H' y (ji lo hi 0 ms)->Q (.ref y) H')
def zG:Fo P w base T.D34 7 qEe:=by
 rcases oL T.D34.F,jD with⟨z,ms,lo,hi,rfl,⟨vs,hz,ae⟩,⟨hB,aq⟩,h0,h1,kk⟩;exists #[qc 3 (qr qB),qc 4 qH,zZ PassesOwn.never rfl (jh 0) (jB (i:=0x05) jD.nd rfl (Or.inl rfl)) #[qc 6 (qR qx 4 (qK T.D23 jW [5])),qc 7 (qg (qBu rfl) rfl T.b_max rfl [1,4]),qc 8 (qg (zm rfl) rfl T.b_min rfl [2,6]),qh (qM jP (qJ 5) qQ) #[qh (PW.pt (zy (qM zV 1 4) (xW (qM zV 4 2)))) #[qt (vd XA XB XC jN 3 [5])] qO] #[qh (qM zV 7 8) #[qt (vd XA XB XC jN 3 [qK T.D33 qL7 [5,qR jU 7 4,qR jU 8 4]])] qO],qc 4 6],qL 3]
 show#[sL0,λy hy=>?_];have w0:=qE hy<|.lst [];have aj:=ae.len;show#[_,O,z,O,#[_,SqL.of<|w0 _ _ hz],xY (K:=K) (a:=z) (xs:=vs) (λi σ H'=> ∃(o1 o2 o3 o4:Option V) (b:Int) (ps:LI),σ=[some<|.ref z,some<|.int lo,some<|.int hi,some<|.ref y,some<|.int b,o1,o2,o3,o4]/\Tr H' y ps/\ps++ji lo hi b (ms.drop i)=ji lo hi 0 ms/\ps.length<=i/\0<=b/\Same H H')
  #[none,none,none,none,0,[],rfl,#[[],qC,trivial],rfl,YI _,#[],w0] ?_ ?_ ?_]
 . rintro i σ H' ap ⟨o1,o2,o3,o4,b,ps,rfl,_,_,_,_,e⟩
   show SqL.of (e _ _ hz)
 . rintro i x σ H' hx ⟨o1,o2,o3,o4,b,ps,rfl,tP,J,ah,b0,e⟩
   ext;let#[m,hm,ak]:=ae.get hx;have hI:=ak.ts<|qd e;have ar:i<ms.length:=(glt hm);let#[ag,ao]:=hB m<|YF hm;let#[us,ac,aa]:=tP;symm;have an:=aa.len;rw[jy hm,ji]at J;show#[_,O,_,O,x,m,O,hI,_,_,O,O,?_];show#[_,O,_,O,_,_,O,?_];show#[_,O,_,O,_,_,O,?_];dsimp only;change qG6 _ _ _ _ _;ext;let#[zi,xi,rfl,ai,a0,_]:=hI.opn;symm;have ad:∀(q:LI),ps++([]++q)=ps++q:=λq=>#[]
   show#[_,O,zi,xi,_,_,O,O,SqT.of ai,a0,O,_,O,jw (λc=>?_) (λc=>?_)]
   . have hw:m.wd="mix":= ~~~c
     rw[YB hw]at J;show#[_,O,_,O,_,_,O,O,_,O,jw (λc1=>?_) (λc1=>?_)]
     . show#[_,O,_,O,_,_,O,O,_,O,jw (λc2=>?_) (λc2=>?_)]
       . rw[YB #[ ~~~c1, ~~~c2]]at J
         show#[_,O,.inl #[O,_,SqL.of ac],_,O,y,_,_,O,O,ac,qf (),?_];show#[_,O,_,_,_,_,_,ps++[m],O,#[_,qC,(aa.app<|.one hI).ts<|xS ac],by rw[Yw];show J,by rw[YN];change ps.length+1<=i+1;lia,(),jX e hy]
       . rw[YA (λz=>c2<| ~~~z.2),ad]at J
         show#[_,O,_,_,_,_,_,ps,O,#[_,ac,aa],J,(),(),e]
     . rw[YA (λz=>c1<| ~~~z.1),ad]at J
       show jH #[_,O,_,_,_,_,_,ps,O,#[_,ac,aa],J,(),(),e]
   . have hw:m.wd≠"mix":= ~~~c
     rw[YA hw]at J;show#[_,O,_,O,_,_,O,O,_,O,jw (λc1=>?_) (λc1=>?_)]
     . rw[YB (ZM (show decide (xB lo b<qD6 hi (b+m.mo))=true from c1))]at J
       show#[_,O,.inl #[O,_,SqL.of ac],_,O,_,O,_,O,_,_,O,O,_,O,_,O,_,_,O,O,_,m,xB lo b-b,qD6 hi (b+m.mo)-b,O,hI,ag,?_,hw,λu H5 e5 am=>?_]
       . have:(xB lo b-b).natAbs<=(2 ^ 500:Nat):=by
          have al:lo.natAbs<=2 ^ 500:=by
           have:=Int.natAbs_of_nonneg h0;have af:((lo.natAbs:Nat):Int)<=((2 ^ 500:Nat):Int):=by rw[this];exact_mod_cast h1
           exact_mod_cast af
          show ZD ?_ al;delta xB;split <;> lia
         show Yd this (Nat.pow_lt_pow_right #[] #[])
       show#[y,_,_,O,O,e5 _ _ ac,qf (),?_];show#[_,O,_,_,_,_,_,ps++[qo m (xB lo b-b)<|qD6 hi (b+m.mo)-b],O,#[_,qC,((aa.ts<|qd e5).app<|.one am).ts (xS<|e5 _ _ ac)],by rw[Yw];show J,by rw[YN];change ps.length+1<=i+1;lia,(),jX (e.trans e5) hy]
     . rw[YA (λz=>c1 (show decide (xB lo b<qD6 hi (b+m.mo))=true from YX z)),ad]at J
       show#[_,O,_,_,_,_,_,ps,O,#[_,ac,aa],J,(),(),e]
 . rintro σ H' ⟨o1,o2,o3,o4,b,ps,rfl,tP,J,ah,b0,e⟩
   rw[aj,ZJ,ji,Ye]at J;rw[J]at tP;show#[_,O,kk y H' e hy tP]
inductive Dk where
 |cut (t:Int)
 |hel (t:Int)
 |opn (t l:Int)
 |cls (t u:Int)
 |lft (t u:Int)
 |lin (t:Int) (m:Im)
 |lov (t:Int) (m:Im)
noncomputable def Dk.wd:Dk->Str
 |.cut _=>"cut"
 |.hel _=>"heal"
 |.opn .. =>"open"
 |.cls .. =>"close"
 |.lft .. =>"lift"
 |.lin .. =>"lay_in"
 |.lov .. =>"lay_over"
noncomputable def Dk.t:Dk->Int
 |.cut t=>t
 |.hel t=>t
 |.opn t _=>t
 |.cls t _=>t
 |.lft t _=>t
 |.lin t _=>t
 |.lov t _=>t
noncomputable def Dk.hi:Dk->Int
 |.cut t=>t
 |.hel t=>t
 |.opn t _=>t
 |.cls _ u=>u
 |.lft _ u=>u
 |.lin t _=>t
 |.lov t m=>t+m.mo
noncomputable def Dk.laid:Dk->LI
 |.opn _ l=>[.gap l]
 |.lft t u=>[.gap (u-t)]
 |.lin _ m=>[m]
 |.lov _ m=>[m]
 |_=>[]
noncomputable def Dk.push:Dk->Bool
 |.opn .. =>true
 |.cls .. =>true
 |.lin .. =>true
 |_=>false
def DAt(H:Hp)(dz:Addr)(n:Int):Dk->Prop
 |.cut t=>H dz=some (.tup [.str "cut",.int n,.int t])
 |.hel t=>H dz=some (.tup [.str "heal",.int n,.int t])
 |.opn t l=>H dz=some (.tup [.str "open",.int n,.int t,.int l])
 |.cls t u=>H dz=some (.tup [.str "close",.int n,.int t,.int u])
 |.lft t u=>H dz=some (.tup [.str "lift",.int n,.int t,.int u])
 |.lin t m=> ∃v,H dz=some (.tup [.str "lay_in",.int n,.int t,v])/\IsI H m v
 |.lov t m=> ∃v,H dz=some (.tup [.str "lay_over",.int n,.int t,v])/\IsI H m v
def DAt.same{n:Int}{d:Dk}(e:Same H H')(h:DAt H dz n d):DAt H' dz n d:=by
 cases d with
 |lin t m=>let#[v,h1,h2]:=h;show#[v,e _ _ h1,h2.ts<|qd e]
 |lov t m=>let#[v,h1,h2]:=h;show#[v,e _ _ h1,h2.ts<|qd e]
 |_=>show e _ _ h
def DAt.opn{n:Int}{d:Dk}(h:DAt H dz n d):∃xs,H dz=some (.tup xs)/\atI xs 0=some (.str d.wd)/\atI xs 1=some (.int n)/\atI xs 2=some (.int d.t):=by
 cases d with
 |lin t m=>let#[v,h1,_]:=h;show#[_,h1,rfl,rfl,rfl]
 |lov t m=>let#[v,h1,_]:=h;show#[_,h1,rfl,rfl,rfl]
 |_=>show#[_,h,rfl,rfl,rfl]
def zq{w:Str}{F:LV}{b:Bool}(h:inV (.str w) F=b):V.bl (if false=true then !inV (.str w) F else inV (.str w) F)=V.bl b:=by rw[YA #[],h]
def qRi{w:Str}{F:LV}{b:Bool}(h:inV (.str w) F=b):V.bl (if true=true then !inV (.str w) F else inV (.str w) F)=V.bl (!b):=by rw[YB rfl,h]
inductive qH1(vs:LV)(H:Hp)(Q:VK)(_:XK):Prop
|mk (dz:Addr) (n:Int) (d:Dk) (_:vs=[.ref dz]) (_:DAt H dz n d) (_:∀(p:Addr) (H':Hp),Same H H'->H' p=some (.tup [.int d.t,.int d.hi])->Q (.ref p) H')
def vH:Fo P w base T.D54 2 qH1:=by
 rcases oL T.D54.F,qIa with⟨dz,n,d,rfl,hD,kk⟩;exists #[qh (qM j2 (qJ 0) (qZ [qQ,qQ]) rfl) #[qL (qZ [qJ 0,qJ 0])] qO,qh (qM jP (qJ 0) qQ) #[qL (qZ [qJ 0,qR qx (qJ 0) (qK T.D23 jW [qJ 0])])] qO,qL (qZ [qJ 0,qJ 0])]
 ext;let#[xs,hd,a0,a1,a2]:=hD.opn;symm;have J:(2:Nat)<=sizeLine:=#[]
 show(ixO hd a0 #[J,λq hq=>?_]);have w1:=qE hq<|.tup [.str "close",.str "lift"];have F:=w1 _ _ hd;cases d with
 |cls t u=>
  show#[q,_,O,.inr<|SqT.of qC,O,O,true,(zq (w:="close") ⋯),ju ?_];show(ixO (w1 _ _ hD) wz (ixO (w1 _ _ hD) kn #[J,λp hp=>kk p _ (w1.trans<|qE hp _) qC]))
 |lft t u=>
  show#[q,_,O,.inr<|SqT.of qC,O,O,true,(zq (w:="lift") ⋯),ju ?_];show(ixO (w1 _ _ hD) wz (ixO (w1 _ _ hD) kn #[J,λp hp=>kk p _ (w1.trans<|qE hp _) qC]))
 |lov t m=>
  ext;let#[v,hv,hI]:=hD;symm;show#[q,_,O,.inr<|SqT.of qC,O,O,false,(zq (w:="lay_over") ⋯),jH ?_];show(ixO F a0 #[O,_,O,ju ?_]);show(ixO F a2 (ixO F a2 (ixO (w1 _ _ hv) kn #[v,m,O,hI.ts<|qd w1,_,_,O,O,J,λp hp=>kk p _ (w1.trans<|qE hp _) qC])))
 |cut t=>
  show#[q,_,O,.inr<|SqT.of qC,O,O,false,(zq (w:="cut") ⋯),jH ?_];show(ixO F a0 #[O,_,O,jH ?_]);show(ixO F a2 (ixO F a2 #[J,λp hp=>kk p _ (w1.trans<|qE hp _) qC]))
 |hel t=>
  show#[q,_,O,.inr<|SqT.of qC,O,O,false,(zq (w:="heal") ⋯),jH ?_];show(ixO F a0 #[O,_,O,jH ?_]);show(ixO F a2 (ixO F a2 #[J,λp hp=>kk p _ (w1.trans<|qE hp _) qC]))
 |opn t l=>
  show#[q,_,O,.inr<|SqT.of qC,O,O,false,(zq (w:="open") ⋯),jH ?_];show(ixO F a0 #[O,_,O,jH ?_]);show(ixO F a2 (ixO F a2 #[J,λp hp=>kk p _ (w1.trans<|qE hp _) qC]))
 |lin t m=>
  show#[q,_,O,.inr<|SqT.of qC,O,O,false,(zq (w:="lay_in") ⋯),jH ?_];show(ixO F a0 #[O,_,O,jH ?_]);show(ixO F a2 (ixO F a2 #[J,λp hp=>kk p _ (w1.trans<|qE hp _) qC]))
inductive qPz(vs:LV)(H:Hp)(Q:VK)(_:XK):Prop
|mk (dz:Addr) (n:Int) (d:Dk) (_:vs=[.ref dz]) (_:DAt H dz n d) (_:∀(y:Addr) (H':Hp),Same H H'->H y=none->Tr H' y d.laid->Q (.ref y) H')
def qHj:Fo P w base T.D55 1 qPz:=by
 rcases oL T.D55.F,qPs with⟨dz,n,d,rfl,hD,kk⟩;exists #[qh (qM j2 (qJ 0) (jb (v:=.ref a.n_LAYS) rfl T.g_LAYS rfl) rfl) #[qL (qr [qJ 0])] qO,qh (qM jP (qJ 0) qQ) #[qL (qr [qZ [qQ,qJ 0]])] qO,qh (qM jP (qJ 0) qQ) #[qL (qr [qZ [qQ,qR jU (qJ 0) (qJ 0)]])] qO,qL (qr qB)]
 ext;let#[xs,hd,a0,a1,a2]:=hD.opn;symm;have aa:(1:Nat)<=sizeLine:=#[]
 have ac:(2:Nat)<=sizeLine:=#[]
 have J:(0:Nat)<=sizeLine:=#[]
 show(ixO hd a0 #[a.n_LAYS,_,O,.inr<|T.sq_LAYS _,O,O,?_]);cases d with
 |lin t m=>
  ext;let#[v,hv,hI]:=hD;symm;show#[true,(zq (w:="lay_in") ⋯),ju (ixO hv kn #[aa,λp F=>?_])];show kk p _ (qE F _) F #[_,qC,hI.ts (qd<|qE F _),trivial]
 |lov t m=>
  ext;let#[v,hv,hI]:=hD;symm;show#[true,(zq (w:="lay_over") ⋯),ju (ixO hv kn #[aa,λp F=>?_])];show kk p _ (qE F _) F #[_,qC,hI.ts (qd<|qE F _),trivial]
 |opn t l=>
  show#[false,(zq (w:="open") ⋯),jH ?_];show(ixO hd a0 #[O,_,O,ju ?_]);show(ixO hD kn #[ac,λg hg=>#[aa,λp F=>?_]]);show kk p _ ((qE hg _).trans<|qE F _) ((qE hg _).free F) #[_,qC,isG<|(qE F _) _ _ qC,trivial]
 |lft t u=>
  show#[false,(zq (w:="lift") ⋯),jH ?_];show(ixO hd a0 #[O,_,O,jH ?_]);show(ixO hd a0 #[O,_,O,ju ?_]);show(ixO hD kn (ixO hD wz #[_,_,O,O,ac,λg hg=>#[aa,λp F=>?_]]));show kk p _ ((qE hg _).trans<|qE F _) ((qE hg _).free F) #[_,qC,isG<|(qE F _) _ _ qC,trivial]
 |cut t=>
  show#[false,(zq (w:="cut") ⋯),jH ?_];show(ixO hd a0 #[O,_,O,jH ?_]);show(ixO hd a0 #[O,_,O,jH ?_]);show#[J,λp F=>kk p _ (qE F _) F #[[],qC,trivial]]
 |hel t=>
  show#[false,(zq (w:="heal") ⋯),jH ?_];show(ixO hd a0 #[O,_,O,jH ?_]);show(ixO hd a0 #[O,_,O,jH ?_]);show#[J,λp F=>kk p _ (qE F _) F #[[],qC,trivial]]
 |cls t u=>
  show#[false,(zq (w:="close") ⋯),jH ?_];show(ixO hd a0 #[O,_,O,jH ?_]);show(ixO hd a0 #[O,_,O,jH ?_]);show#[J,λp F=>kk p _ (qE F _) F #[[],qC,trivial]]
noncomputable def chF(tie:LN)(n:Int)(push:Bool):LN:=if push=true/\n∈tie then n::tie.filter (λx=>decide (x≠n))else [n]
def qUk{i:Int}{ps:LN}:inV (.int i) (ps.map V.int)=decide (i∈ps):=by delta inV;rw[Yv];simp[eqV]
def qQb(ps:LN):(ps.map V.int).all kL=true:=by rw[List.all_map,List.all_eq_true];intro _ _;rfl
def Dk.push_in(d:Dk):inV (.str d.wd) [.str "lay_in",.str "open",.str "close"]=d.push:=by
 cases d with
 |cut t=>change inV (.str "cut") _=false;decide+kernel
 |hel t=>change inV (.str "heal") _=false;decide+kernel
 |opn t l=>change inV (.str "open") _=true;decide+kernel
 |cls t u=>change inV (.str "close") _=true;decide+kernel
 |lft t u=>change inV (.str "lift") _=false;decide+kernel
 |lin t m=>change inV (.str "lay_in") _=true;decide+kernel
 |lov t m=>change inV (.str "lay_over") _=false;decide+kernel
inductive qFy(vs:LV)(H:Hp)(Q:VK)(_:XK):Prop
|mk (dz:Addr) (n:Int) (d:Dk) (_:vs=[.ref dz]) (_:DAt H dz n d) (_:∀(y:Addr) (H':Hp),Same H H'->H y=none->Tr H' y (d.laid.map λm=>.gap m.mo)->Q (.ref y) H')
def Dk.laid_len(d:Dk):d.laid.length<=1:=by cases d <;> simp[Dk.laid]
def qFf:Fo P w base T.D56 2 qFy:=by
 rcases oL T.D56.F,qFb with⟨dz,n,d,rfl,hD,kk⟩;exists #[qL (vz .nil .nil rfl (jh (qK T.D55 qHj [0])) (λ_ _ _ _=>(qZ [qQ,qK T.D23 jW [0]])))]
 show#[_,rfl,dz,n,d,rfl,hD,λl H1 e1 hl #[us,ac,aa]=>?_];have ae:=d.laid_len;have ad:=aa.len;show#[l,O,#[_,SqL.of ac],kU (K:=K) (a:=l) (xs:=us) (λj F H2=>IsIs H2 ((d.laid.take j).map λm=>.gap m.mo) F/\Same H1 H2) #[trivial,Same.refl _] ?_ ?_ ?_]
 . rintro j F H2 hj ⟨ht,J⟩
   show#[SqL.of<|J _ _ ac,qf (by rw[ht.len,YS,Yk];lia)]
 . rintro j x F H2 hj hx ⟨ht,J⟩
   ext;let#[m,hm,hI]:=aa.get hx;symm;show#[_,O,x,m,O,hI.ts<|qd J,sL2,λg hg=>Nxt.mk hj #[?_,J.trans<|qE hg _]];rw[Yt,hm,Ys];show(ht.ts (qd<|qE hg _)).app (.one<|isG qC)
 rintro F H2 ⟨ht,J⟩ y hy;rw[ad,Yx]at ht;show kk y _ ((e1.trans J).trans<|qE hy _) ((e1.trans J).free hy) #[_,qC,ht.ts (qd<|qE hy _)]
inductive qCp(vs:LV)(H:Hp)(Q:VK)(_:XK):Prop
|mk (tz tl ti dz:Addr) (tie:LN) (n:Int) (d:Dk) (_:vs=[.ref tz,.ref dz]) (_:H tz=some (.tup [.ref tl,.ref ti])) (_:H ti=some (.lst (tie.map V.int))) (_:tie.length<=300) (_:DAt H dz n d) (_:∀(y:Addr) (H':Hp),Same H H'->H y=none->H' y=some (.lst ((chF tie n d.push).map V.int))->Q (.ref y) H')
def j5:Fo P w base T.D57 1 qCp:=by
 rcases oL T.D57.F,qCy with⟨tz,tl,ti,dz,tie,n,d,rfl,af,aa,ak,hD,kk⟩;exists #[qh (PW.pt (xK (qM wS (qJ 1) (jb (v:=.ref a.n_PUSHES) rfl T.g_PUSHES rfl) rfl) (jf (qM wS (qJ 1) (qJ 0) rfl)))) #[qL (qr [qJ 1])] qO,qL (qR vW (qr [qJ 1]) (qHq %["deed"|.nil] %[0x01|.nil] rfl (jh (qJ 0)) (λ_ _ _ _=>(qM wH 0 (jI (qNp (K:=K) rfl) 1 qH))) (λ_ _ _ _=>0)))]
 ext;let#[xs,hd,a0,a1,a2]:=hD.opn;symm;have ac:(1:Nat)<=sizeLine:=#[]
 have J:¬(d.push=true/\n∈tie)->∀p,H p=none->Q (.ref p) (upd H p<|.lst [.int n]):=λhc p hp=>by show kk p _ (qE hp _) hp ?_;delta chF;rw[YA hc,qC];rfl
 show(ixO hd a0 #[a.n_PUSHES,_,O,.inr<|T.sq_PUSHES _,O,O,!d.push,qRi d.push_in,?_]);cases hp:d.push with
 |false=>
  show ju (ju (ixO hd a1 #[ac,λp ad=>J (λz=>?_) p ad]));rw[hp]at z;show YC z.1 #[]
 |true=>
  show jH (ixO hd a1<|ixO af at1 #[ti,_,O,.inl<|SqL.of aa,O,qQb tie,!decide (n∈tie),?_,?_])
  . change V.bl (!inV (.int n) (tie.map V.int))=_
    rw[qUk]
  by_cases hm:n∈tie
  . rw[YX hm]
    show jH (ixO hd a1 #[ac,λl1 ae=>?_]);have w1:=qE ae<|.lst [.int n];have k1:upd H l1 (.lst [.int n]) l1=some (.lst [.int n]):=qC;have aj:=ae;change _;generalize upd H l1 (.lst [.int n])=H1 at w1 k1;show(ixO (w1 _ _ af) at1 #[ti,O,#[_,SqL.of<|w1 _ _ aa],qHh (K:=K) (a:=ti) (xs:=tie.map V.int) (λj F H2=>F=((tie.take j).filter (λx=>decide<|x≠n)).map V.int/\H2=H1) #[O,O] ?_ ?_ ?_])
    . rintro j F H2 hj ⟨rfl,rfl⟩
      show#[SqL.of<|w1 _ _ aa,qf ?_];rw[YS];have:=List.length_filter_le (λx=>decide<|x≠n)<|tie.take j;have:=List.length_take_le j tie;rw[Yk]at*;lia
    . rintro j x F H2 hj hx ⟨rfl,rfl⟩
      ext;let#[xi,ah,rfl]:∃xi:Int,tie[j]?=some xi/\x=.int xi:=by
       rw[Yj]at hx;cases hq:tie[j]? with
       |none=>rw[hq]at hx;cases hx
       |some k=>rw[hq]at hx;cases hx;show#[k,rfl,rfl]
      symm;have ag:tie.take (j+1)=tie.take j++[xi]:=by rw[Yt,ah];rfl
      show#[_,O,ixO (w1 _ _ hd) a1 #[O,_,O,jw (λc=>?_) (λc=>?_)]]
      . have hne:xi≠n:= ~~~c
        show#[_,O,Nxt.mk hj #[?_,O]];rw[ag,List.filter_append,Ys];simp[hne]
      . have hne:xi=n:= ~~~c
        show Nxt.mk hj #[?_,O];rw[ag,List.filter_append,Ys];simp[hne]
    rintro F H2 ⟨rfl,rfl⟩ l2 ai;rw[YS,Yx];have w2:=qE ai (.lst ((tie.filter (λx=>decide<|x≠n)).map V.int));show#[l1,l2,_,_,O,O,w2 _ _ k1,qC,?_,λy hy=>?_]
    . have:=qf (n:=1+((tie.filter (λx=>decide<|x≠n)).map V.int).length) (by rw[YS];have:=List.length_filter_le (λx=>decide<|x≠n) tie;lia)
      change 1+((tie.filter (λx=>decide<|x≠n)).map V.int).length<=sizeLine;lia
    show kk y _ ((w1.trans w2).trans<|qE hy _) ((w1.trans w2).free hy) ?_;delta chF;rw[YB #[hp,hm],qC];rfl
  . rw[YW hm]
    show ju (ixO hd a1 #[ac,λp ad=>J (λz=>hm z.2) p ad])
inductive qHr(vs:LV)(H:Hp)(Q:VK)(_:XK):Prop
|mk (l:Int) (_:vs=[.int l]) (_:Q (.int (l.fdiv 2)) H)
def qCb:Fo P w base T.D35 1 qHr:=by
 rcases oL T.D35.F,qJf with⟨l,rfl,F⟩;exists #[qL (qR jA 0 qH)]
 show#[_,O,_,_,O,O,cdB #[] #[],F]
inductive qG2(vs:LV)(H:Hp)(Q:VK)(_:XK):Prop
|mk (l:Int) (_:vs=[.int l]) (_:Q (.int (l-l.fdiv 2)) H)
def qAg:Fo P w base T.D36 1 qG2:=by
 rcases oL T.D36.F,qGy with⟨l,rfl,F⟩;exists #[qL (qR jU 0 (qR jA 0 qH))]
 show#[_,O,_,O,_,_,O,O,cdB #[] #[],_,_,O,O,F]
noncomputable def qm:Int->LI->List (Int×Int×Int)
 |_,[]=>[]
 |b,.mix l::ms=>(b-l.fdiv 2,b,b+(l-l.fdiv 2))::qm b ms
 |b,.clip _ _ _ _ _ l::ms=>qm (b+l) ms
 |b,.nest _ _ l::ms=>qm (b+l) ms
 |b,.gap l::ms=>qm (b+l) ms
def qy(h:m.wd≠"mix")(b:Int)(ms:LI):qm b (m::ms)=qm (b+m.mo) ms:=by
 cases m with
 |mix l=>show YC rfl h
 |_=>rfl
noncomputable def jAe:List Nat->List (Int×Int×Int)->Int->Option (Nat×Int)
 |p::ps,(x,_,z)::ss,t=>if x<=t/\t<z then some (p,t-x)else jAe ps ss t
 |_,_,_=>none
def SpAt(H:Hp):List (Int×Int×Int)->LV->Prop
 |[],[]=>True
 |(x,y,z)::ss,v::vs=>(∃p:Addr,v=.ref p/\H p=some (.tup [.int x,.int y,.int z]))/\SpAt H ss vs
 |_,_=>False
theorem SpAt.len{H:Hp}:∀{F:List<|Int×Int×Int} {vs:LV},SpAt H F vs->vs.length=F.length
 |[],[],_=>rfl
 |(_,_,_)::_,_::_,h=>by rw[YE,YE,SpAt.len h.2]
 |[],_::_,h=>h.elim
 |(_,_,_)::_,[],h=>h.elim
theorem SpAt.ts{H H':Hp}(e:TS H H'):∀{F:List<|Int×Int×Int} {vs:LV},SpAt H F vs->SpAt H' F vs
 |[],[],_=>trivial
 |(_,_,_)::_,_::_,#[#[p,h1,h2],h]=>#[#[p,h1,e _ _ h2],SpAt.ts e h]
 |[],_::_,h=>h.elim
 |(_,_,_)::_,[],h=>h.elim
theorem SpAt.app{H:Hp}:∀{ss:List<|Int×Int×Int} {vs:LV} {F:List<|Int×Int×Int} {J:LV},SpAt H ss vs->SpAt H F J->SpAt H (ss++F) (vs++J)
 |[],[],_,_,_,h'=>h'
 |(_,_,_)::_,_::_,_,_,h,h'=>#[h.1,h.2.app h']
 |[],_::_,_,_,h,_=>h.elim
 |(_,_,_)::_,[],_,_,h,_=>h.elim
def SpAt.one{x y z:Int}{p:Addr}(h:H p=some (.tup [.int x,.int y,.int z])):SpAt H [(x,y,z)] [.ref p]:=#[#[p,rfl,h],trivial]
theorem SpAt.get{H:Hp}:∀{F:List<|Int×Int×Int} {vs:LV} {i:Nat} {v:V},SpAt H F vs->vs[i]?=some v->∃(x y z:Int) (p:Addr),F[i]?=some (x,y,z)/\v=.ref p/\H p=some (.tup [.int x,.int y,.int z])
 |[],[],_,_,_,h=>by simp at h
 |(x,y,z)::_,u::_,0,v,h,e=>by
  have J:u=v:= ~~~e
  subst J;let#[#[p,h1,h2],_]:=h;show#[x,y,z,p,O,h1,h2]
 |(_,_,_)::F,_::vs,i+1,v,h,e=>by let#[x,y,z,p,h1,h2]:=SpAt.get (i:=i) h.2<| ~~~e;show#[x,y,z,p, ~~~h1,h2]
 |[],_::_,_,_,h,_=>h.elim
 |(_,_,_)::_,[],_,_,h,_=>h.elim
inductive qJy(vs:LV)(H:Hp)(Q:VK)(_:XK):Prop
|mk (z:Addr) (ms:LI) (_:vs=[.ref z]) (_:Tr H z ms) (_:ms.length<=300) (_:∀(y:Addr) (us:LV) (H':Hp),Same H H'->H y=none->H' y=some (.lst us)->SpAt H' (qm 0 ms) us->Q (.ref y) H')
def qLc:Fo P w base T.D37 2 qJy:=by
 rcases oL T.D37.F,x9 with⟨z,ms,rfl,⟨xs,hz,ac⟩,hl,kk⟩;exists #[qc 1 (qr qB),qc 2 qH,zZ PassesOwn.never rfl (jh 0) (jB (i:=0x03) x9.nd rfl (Or.inl rfl)) #[qh (qM jP (qJ 3) qQ) #[qt (vd XA XB XC jN 1 [qZ [qR jU 2 (qK T.D35 qCb [qJ 3]),2,qR qx 2 (qK T.D36 qAg [qJ 3])]])] qO,qc 2 (qR qx 2 (qK T.D23 jW [3]))],qL 1]
 show#[sL0,λy hy=>?_];show#[_,O,z,O,#[_,SqL.of<|(qE hy _) _ _ hz],xY (K:=K) (a:=z) (xs:=xs) (λi σ H'=> ∃(b:Int) (as:List<|Int×Int×Int) (o:Option V) (us:LV),σ=[some<|.ref z,some<|.ref y,some<|.int b,o]/\H' y=some (.lst us)/\SpAt H' as us/\as.length<=i/\as++qm b (ms.drop i)=qm 0 ms/\Same H H')
  #[0,[],none,[],rfl,qC,trivial,#[],rfl,qE hy _] ?_ ?_ ?_]
 . rintro i σ H' hi ⟨b,as,o,us,rfl,_,_,_,_,e⟩
   show SqL.of (e _ _ hz)
 . rintro i x σ H' hx ⟨b,as,o,us,rfl,hv,aa,af,J,e⟩
   ext;let#[m,hm,ag]:=ac.get hx;have hI:=ag.ts<|qd e;have hi:i<ms.length:=(glt hm);rw[jy hm]at J;let#[zi,xi,rfl,ae,h0,h1]:=hI.opn;symm;show#[_,O,zi,xi,_,_,O,O,SqT.of ae,h0,O,_,O,jw (λc=>?_) (λc=>?_)]
   . let#[l,rfl]:=jZ ( ~~~c)
     ext;let#[z2,e2,ad]:=id hI;cases e2;symm;rw[qm]at J;show#[_,O,.inl #[O,_,SqL.of hv],_,O,ixO ad at1 #[_,O,_,_,O,O,_,O,_,O,ixO ad at1 #[_,O,_,_,O,O,sL3,λg hg=>?_]]];have w1:=qE hg<|.tup [.int<|b-l.fdiv 2,.int b,.int<|b+(l-l.fdiv 2)];show#[y,_,_,O,O,w1 _ _ hv,qf (by rw[aa.len];lia),?_];have t2:TS (upd H' g<|.tup [.int<|b-l.fdiv 2,.int b,.int<|b+(l-l.fdiv 2)]) (upd (upd H' g<|.tup [.int<|b-l.fdiv 2,.int b,.int<|b+(l-l.fdiv 2)]) y (.lst<|us++[.ref g])):=xS<|w1 _ _ hv;show#[_,O,_,O,_,.mix l,O,(hI.ts<|qd w1).ts t2,_,_,O,O,b,as++[(b-l.fdiv 2,b,b+(l-l.fdiv 2))],some<|.ref zi,us++[.ref g],?_,qC,((aa.ts<|qd w1).app<|.one qC).ts t2,by simp;lia,?_,jX (e.trans w1) hy]
     . change [some<|V.ref z,some<|V.ref y,some (V.int<|b+0),some<|V.ref zi]=_
       rw[Yc]
     . rw[<-J];simp
   . have hne:m.wd≠"mix":= ~~~c
     rw[qy hne]at J;show#[_,O,_,O,_,m,O,hI,_,_,O,O,_,as,_,us,O,hv,aa,(),J,e]
 . rintro σ H' ⟨b,as,o,us,rfl,hv,aa,af,J,e⟩
   rw[ac.len,ZJ,qm,Ye]at J;rw[J]at aa;show#[_,O,kk y us H' e hy hv aa]
inductive qL5(vs:LV)(H:Hp)(Q:VK)(_:XK):Prop
|mk (i:Int) (_:vs=[.int i]) (_:1<=i) (_:Q (.bl true) H)
def qDj:Fo P w base T.D21 2 qL5:=by
 rcases oL T.D21.F,qKb with⟨i,rfl,hi,q⟩;exists #[qL (zf (qK T.D0 jL [0]) (vY (jR qNq 0 qH)))]
 rw[<-YX hi]at q;show#[_,O,i,O,true,O,ju #[_,O,_,_,O,O,q]]
noncomputable def jAl:Im->Bool
 |.nest .. =>true
 |_=>false
def NeO:Im->Prop
 |.nest n b l=>qJg n=true/\0<=b/\1<=l
 |_=>True
inductive qD8(K:Fg)(vs:LV)(H:Hp)(Q:VK)(_:XK):Prop
|mk (v:V) (m:Im) (_:vs=[v]) (_:IsI H m v) (_:NeO m) (_:∀H',Same H H'->Q (.bl (jAl m)) H')
def qEf:Fo P w base T.D22 3 (qD8 K):=by
 rcases oL T.D22.F,qD9 with⟨v,m,rfl,hI,hm,kk⟩;exists #[qh (PW.pt (xK (jg (jQ (qg xw rfl T.b_isinstance rfl [0,qQ5 rfl T.b_tuple rfl]))) (jf (qM wH (qg jE rfl T.b_len rfl [0]) qH)))) #[qL vw] qO,qh (PW.pt (xK (qM wH (qJ 0) qQ) (jf (jg (jQ (qK T.D10 qHg [qJ 0])))))) #[qL vw] qO,qL (zf (qK T.D0 jL [qJ 0]) (zf (jR qNq (qJ 0) qH) (vY (qK T.D21 qDj [qJ 0]))))]
 ext;let#[z,xs,rfl,e,_]:=id hI.opn;symm;show#[_,O,_,_,_,true,O,.tup e,#[_,.inl #[O,by kernel_rfl]],true,O,jH ?_];show#[_,O,_,_,O,.inr<|SqT.of e,O,_,O,?_];have k0:=kk H<|Same.refl _;cases m with
 |nest n b l=>
  ext;let#[h1,hb,hl]:=hm;let#[z',J,F]:=hI;cases J;rw[F]at e;cases e;symm;show jH<|ixO F qBq #[O,_,O,qZq rfl ?_];show(ixO F qD1 #[n,O,h1,λH1 s1=>#[true,O,jH ?_]]);have e1:=SqT.of (K:=K)<|s1 _ _ F;show#[_,O,_,_,_,_,O,O,e1,wz,b,O,true,O,ju #[_,O,_,_,_,_,O,O,e1,wz,_,_,O,O,_,O,qA8 (YX hb) ?_]];show#[_,O,_,_,_,_,O,O,e1,kn,l,O,hl,kk H1 s1]
 |clip n p q r s l=>
  ext;let#[z',x,y,J,F,_]:=hI;cases J;rw[F]at e;cases e;symm;show ju k0
 |gap l=>
  ext;let#[z',J,F]:=hI;cases J;rw[F]at e;cases e;symm;show ju k0
 |mix l=>
  ext;let#[z',J,F]:=hI;cases J;rw[F]at e;cases e;symm;show ju k0
def jAn(xs:LV)(w:Str)(t:Int):Prop:=atI xs 0=some (.str w)/\atI xs 2=some (.int t)/\(w="open"\/w="mix"->∃l:Int,atI xs 3=some (.int l)/\1<=l)/\(w="close"\/w="lift"->∃u:Int,atI xs 3=some (.int u)/\t<u)
def jBk{w x y:Str}:inV (.str w) [.str x,.str y]=decide (w=x\/w=y):=by delta inV;rw[Yv];simp[eqV];show#[λh=>h.imp Eq.symm Eq.symm,λh=>h.imp Eq.symm Eq.symm]
inductive qDz(vs:LV)(H:Hp)(Q:VK)(_:XK):Prop
|mk (dz:Addr) (xs:LV) (w:Str) (t:Int) (_:vs=[.ref dz]) (_:H dz=some (.tup xs)) (_:jAn xs w t) (_:∀H',Same H H'->Q .non H')
def qDt:Fo P w base T.D58 3 qDz:=by
 rcases oL T.D58.F,qD0 with⟨dz,xs,w,t,rfl,hd,⟨a0,a2,h1,h2⟩,kg⟩;exists #[wZ (qh (PW.pt (zy (qM j2 (qJ 0) (qZ [qQ,qQ]) rfl) (xW (jg (jQ (qK T.D21 qDj [qJ 0])))))) xF qO),qh (PW.pt (zy (qM j2 (qJ 0) (qZ [qQ,qQ]) rfl) (xW (PW.pt (xK (jg (jQ (qK T.D0 jL [qJ 0]))) (jf (qM qNq (qJ 0) (qJ 0)))))))) xF qO]
 have aa:(2:Nat)<=sizeLine:=#[]
 show#[λσ H1=>σ=[some<|.ref dz]/\Same H H1,?_,?_]
 . show(ixO hd a0 #[aa,λq hq=>#[q,_,O,.inr<|SqT.of qC,O,O,_,zq jBk,jw (λc=>?_) (λ_=>jH #[O,qE hq _])]])
   ext;let#[l,a3,hl]:=h1<|ZM c;symm;have J:=qE hq<|.tup [.str "open",.str "mix"];show(ixO (J _ _ hd) a3 #[l,O,hl,true,O,jH #[O,J]])
 rintro σ H1 ⟨rfl,J⟩;show(ixO (J _ _ hd) a0 #[aa,λq hq=>#[q,_,O,.inr<|SqT.of qC,O,O,_,zq jBk,jw (λc=>?_) (λ_=>jH<|kg _ (J.trans<|qE hq _))]]);ext;let#[u,a3,hu]:=h2<|ZM c;symm;have e2:=J.trans (qE hq<|.tup [.str "close",.str "lift"]);have F:=e2 _ _ hd;show(ixO F a3 #[u,O,true,O,jH (ixO F a2<|ixO F a3 #[_,_,O,O,_,O,qCf (YW ())<|kg _ e2])])
noncomputable def qTv(lo hi:Int)(s:Int×Int×Int):Bool:=(decide (s.1<hi) && decide (lo<s.2.2)) || (decide (lo<=s.2.1) && decide (s.2.1<=hi))
def jG(ms:LI)(lo hi:Int):Bool:=(qm 0 ms).any<|qTv lo hi
inductive qGp(vs:LV)(H:Hp)(Q:VK)(_:XK):Prop
|mk (z:Addr) (ms:LI) (lo hi:Int) (_:vs=[.ref z,.int lo,.int hi]) (_:Tr H z ms) (_:ms.length<=300) (_:∀H',Same H H'->Q (.bl (jG ms lo hi)) H')
def qGx:Fo P w base T.D59 3 qGp:=by
 rcases oL T.D59.F,qAi with⟨z,ms,lo,hi,rfl,tT,ac,kk⟩;exists #[zZ PassesOwn.never rfl (jh (qK T.D37 qLc [0])) (jB (i:=0x03) qAi.nd rfl (Or.inl rfl)) #[qh (qZg (PW.pt (xK (PW.pt (zy (qM zV (qJ 3) 2) (xW (qM zV 1 (qJ 3))))) (jf (PW.pt (zy (qM qU5 1 (qJ 3)) (xW (qM qU5 (qJ 3) 2)))))))) #[qL vw] qO],qL vw]
 unfold jG at kk;show#[_,O,z,ms,O,tT,ac,λy us H1 e1 hy aa J=>?_];generalize qm 0 ms=ss at J kk;show#[y,O,#[_,SqL.of aa],xY (K:=K) (a:=y) (xs:=us) (λi σ H'=> ∃o:Option V,σ=[some<|.ref z,some<|.int lo,some<|.int hi,o]/\H'=H1/\(ss.take i).any (qTv lo hi)=false) #[none,O,O,O] ?_ ?_ ?_]
 . rintro i σ H' hi ⟨o,rfl,rfl,_⟩
   show SqL.of aa
 . rintro i x σ H' hx ⟨o,rfl,rfl,F⟩
   ext;let#[x0,x1,x2,p,hs,rfl,hp]:=J.get hx;symm;have q:=SqT.of (K:=K) hp;have b0:atI [V.int x0,.int x1,.int x2] 0=some (.int x0):=rfl;have b1:atI [V.int x0,.int x1,.int x2] 1=some (.int x1):=rfl;have b2:atI [V.int x0,.int x1,.int x2] 2=some (.int x2):=rfl;show#[λt' H2=>H2=H'/\t'=qTv lo hi (x0,x1,x2),?_,?_]
   . unfold qTv
     dsimp only;show#[_,O,p,_,_,_,O,O,q,b0,_,O,_,_,O,O,_,O,?_];by_cases h1:x0<hi
     . rw[YX h1,Bool.true_and]
       show ju #[_,O,_,O,p,_,_,_,O,O,q,b2,_,_,O,O,_,O,?_];by_cases h2:lo<x2
       . rw[YX h2,Bool.true_or]
         show ju #[O,O]
       rw[YW h2,Bool.false_or];show jH #[_,O,_,O,p,_,_,_,O,O,q,b1,_,_,O,O,_,O,?_];by_cases h3:lo<=x1
       . rw[YX h3,Bool.true_and]
         show ju #[_,O,p,_,_,_,O,O,q,b1,_,O,_,_,O,O,_,O,O,O]
       . rw[YW h3,Bool.false_and]
         show jH #[O,O]
     . rw[YW h1,Bool.false_and,Bool.false_or]
       show jH<|jH #[_,O,_,O,p,_,_,_,O,O,q,b1,_,_,O,O,_,O,?_];by_cases h3:lo<=x1
       . rw[YX h3,Bool.true_and]
         show ju #[_,O,p,_,_,_,O,O,q,b1,_,O,_,_,O,O,_,O,O,O]
       . rw[YW h3,Bool.false_and]
         show jH #[O,O]
   rintro t' H2 ⟨rfl,rfl⟩;cases ht:qTv lo hi (x0,x1,x2)with
   |true=>
    have:ss.any (qTv lo hi)=true:=List.any_eq_true.mpr #[_,YF hs,ht];rw[this]at kk;show ju (kk _ e1)
   |false=>
    show jH #[_,O,O,?_];rw[Yt,hs,List.any_append,F];change (false || (qTv lo hi (x0,x1,x2) || false))=false;rw[ht];rfl
 . rintro σ H' ⟨o,rfl,rfl,F⟩
   rw[J.len,Yx]at F;rw[F]at kk;show kk _ e1
structure TabG(H:Hp)(tz:Addr)(ts:LL)(tie:LN)(n:Nat):Prop where
 tab:TabF H (.ref tz) ts tie
 ok:∀ms∈ts,MsB ms/\ms.length<=100
 nt:n<ts.length
 len:ts.length<=8
 tl:tie.length<=8
 tin:∀x∈tie,∃k:Nat,x=(k:Int)/\k<ts.length
theorem TabG.same{H H':Hp}{tz:Addr}{F:LL}{tie:LN}{n:Nat}(e:Same H H')(h:TabG H tz F tie n):TabG H' tz F tie n:=#[h.tab.same e,h.ok,h.nt,h.len,h.tl,h.tin]
def TabG.ch{J:LL}(h:TabG H tz J tie n)(F:Bool):(chF tie (n:Int) F).length<=10/\∀x∈chF tie (n:Int) F,∃k:Nat,x=(k:Int)/\k<J.length:=by
 delta chF;split
 . show#[?_,λx hx=>?_]
   . rw[YE]
     have:=List.length_filter_le (λx=>decide<|x≠(n:Int)) tie;have:=h.tl;lia
   . rcases YU.mp hx with rfl|hx
     . show#[n,O,h.nt]
     . show h.tin x (List.mem_filter.mp hx).1
 . show#[by change 1<=10;decide,λx hx=>?_]
   have:x=(n:Int):= ~~~hx
   show#[n,this,h.nt]
def jO(ts:LL)(ns:LN)(lo hi:Int):Bool:=ns.any λk=>jG (ts.getD k.toNat []) lo hi
inductive qFz(M:Addr)(vs:LV)(H:Hp)(Q:VK)(E:XK):Prop
|mk (tz dz:Addr) (ts:LL) (tie:LN) (n:Nat) (d:Dk) (_:vs=[.ref tz,.ref dz]) (_:TabG H tz ts tie n) (_:DAt H dz (n:Int) d) (_:(jO ts (chF tie (n:Int) d.push) d.t d.hi=true->∀H',Same H H'->E (.ref M) none H')) (_:(jO ts (chF tie (n:Int) d.push) d.t d.hi=false->∀H',Same H H'->Q .non H'))
def vk:Fx P w base T.D60 4 (qFz a.k_Mixed):=by
 rcases oX T.D60.F,kC with⟨tz,dz,ts,tie,n,d,rfl,hP,hD,kb,kg⟩;exists #[qc 2 (qK T.D54 vH [1]),zZ (qY6 rfl rfl rfl rfl) rfl (jh (qK T.D57 j5 [0,1])) (jB (i:=0x03) kC.nd rfl (Or.inl rfl)) #[qh (jQ (qK T.D59 qGx [jI qk (qJ 0) 3,qJ 2,qJ 2])) #[xZ rfl rfl T.c_Mixed T.x_Mixed [qQ]] qO]]
 have ai:(1:Nat)<=sizeLine:=#[]
 ext;let#[tt,tl,ti,zs,e0,g2,g3,g4,g5]:=id hP.tab;cases e0;have aj:=g4.len;let#[ah,af]:=hP.ch d.push;symm;delta jO at kb kg;show#[_,O,dz,_,d,O,hD,λp H1 e1 hp=>?_];show#[_,rfl,_,rfl,tz,tl,ti,dz,tie,_,d,rfl,e1 _ _ g2,e1 _ _ g5,by have:=hP.tl;lia,hD.same e1,λy H2 e2 hy aa=>?_];generalize chF tie (n:Int) d.push=ns at aa ah af kb kg;show#[y,O,#[_,SqL.of aa],xY (K:=K) (a:=y) (xs:=ns.map V.int) (λi σ H'=> ∃o:Option V,σ=[some<|.ref tz,some<|.ref dz,some<|.ref p,o]/\Same H2 H'/\(ns.take i).any (λk=>jG (ts.getD k.toNat []) d.t d.hi)=false) #[none,O,Same.refl _,O] ?_ ?_ ?_]
 . rintro i σ H' hi ⟨o,rfl,e,_⟩
   show SqL.of (e _ _ aa)
 . rintro i x σ H' hx ⟨o,rfl,e,J⟩
   ext;let#[xi,ac,rfl]:∃xi:Int,ns[i]?=some xi/\x=.int xi:=by
    rw[Yj]at hx;cases hq:ns[i]? with
    |none=>rw[hq]at hx;cases hx
    |some k=>rw[hq]at hx;cases hx;show#[k,rfl,rfl]
   let#[k,rfl,hk]:=af xi<|YF ac;have F:=e1.trans<|e2.trans e;have ez:zs[k]?=some zs[k]:=YD ();let#[ms,z,ad,ag,tT]:=g4.get ez;symm;rw[ag]at ez;have ae:ts.getD ((k:Int)).toNat []=ms:=by rw[YQ,List.getD_eq_getElem?_getD,ad];rfl
   have ak:=(hP.ok ms<|YF ad).2;show(ixO (F _ _ g2) at0 #[_,O,tl,_,_,_,O,O,SqL.of<|F _ _ g3,jC ez,z7 rfl (SqT.of<|(e2.trans e) _ _ hp) at0 (z7 rfl (SqT.of<|(e2.trans e) _ _ hp) at1 #[z,ms,_,_,O,tT.same F,(),λH3 e3=>?_])]);show#[_,O,?_];cases ht:jG ms d.t d.hi with
   |true=>
    show ju #[ai,kb ?_ _<|F.trans e3];show List.any_eq_true.mpr #[_,YF ac,by rw[ae];show ht]
   |false=>
    show jH #[_,O,e.trans e3,?_];rw[Yt,ac,List.any_append,J];change (false || (jG (ts.getD ((k:Int)).toNat []) d.t d.hi || false))=false;rw[ae,ht];rfl
 . rintro σ H' ⟨o,rfl,e,J⟩
   rw[YS,Yx]at J;show kg J H' (e1.trans<|e2.trans e)
def qY(ms:LI):Int:=(ms.map Im.mo).sum
def jx(ms:LI)(lo hi:Int)(ls:LI):LI:=q8 0<|ji 0 lo 0 ms++[.gap<|xB (lo-qY ms) 0]++ls++ji hi (qY ms) 0 ms
inductive qSc(vs:LV)(H:Hp)(Q:VK)(_:XK):Prop
|mk (z l:Addr) (ms ls:LI) (lo hi:Int) (_:vs=[.ref z,.int lo,.int hi,.ref l]) (_:Tr H z ms) (_:Tr H l ls) (_:MsB ms) (_:ms.length<=100) (_:ls.length<=10) (_:0<=hi) (_:hi<=2 ^ 500) (_:∀(y:Addr) (H':Hp),Same H H'->H y=none->Tr H' y (jx ms lo hi ls)->Q (.ref y) H')
def qRs:Fo P w base T.D67 8 qSc:=by
 rcases oL T.D67.F,qKm with⟨z,l,ms,ls,lo,hi,rfl,tT,tL,hB,ap,ac,h0,h1,kk⟩;exists #[qc 4 (qZ [qQ,qg (qBu rfl) rfl T.b_max rfl [qR jU 1 (qK T.D25 qDl [0]),qH]]),qL (qK T.D24 qNz [qR vW (qR vW (qR vW (qK T.D34 zG [0,qH,1]) (qr [4])) 3) (qK T.D34 zG [0,2,qK T.D25 qDl [0]])])]
 have ad:(2:Nat)<=sizeLine:=#[]
 have ae:(1:Nat)<=sizeLine:=#[]
 have sm:∀j:Nat,j<=1000->j<=sizeLine:=λj h=>by have:=qf (n:=j) ();lia
 show#[_,O,_,O,z,ms,O,tT,(),λH1 e1=>?_];show#[_,_,O,O,_,_,O,ad,λg hg=>?_];have w2:=qE hg (.tup [.str "gap",.int (if (0:Int)>lo-(ms.map Im.mo).sum then 0 else lo-(ms.map Im.mo).sum)]);have kg:upd H1 g (.tup [.str "gap",.int (if (0:Int)>lo-(ms.map Im.mo).sum then 0 else lo-(ms.map Im.mo).sum)]) g=some (.tup [.str "gap",.int<|xB (lo-qY ms) 0]):=qC;have e2:=e1.trans w2;change _;generalize upd H1 g (.tup [.str "gap",.int (if (0:Int)>lo-(ms.map Im.mo).sum then 0 else lo-(ms.map Im.mo).sum)])=H2 at w2 kg e2;show#[_,rfl,_,rfl,z,ms,0,lo,rfl,tT.same e2,hB,#[],#[],λy1 H3 e3 am #[F,k1,i1]=>?_];have n1:=i1.len;have an:=vx 0 lo 0 ms;show#[_,O,ae,λl2 ac=>?_];have w4:=qE ac<|.lst [.ref g];show#[y1,l2,_,_,O,O,w4 _ _ k1,qC,sm _ (by change F.length+1<=1000;lia),λy2 ah=>?_];have w5:=qE ah (.lst<|F++[.ref g]);have J:=w4.trans w5;have e5:=(e2.trans e3).trans J;have k2:(upd (upd H3 l2<|.lst [.ref g]) y2 (.lst<|F++[.ref g])) y2=some (.lst<|F++[.ref g]):=qC;have i2:IsIs (upd (upd H3 l2<|.lst [.ref g]) y2 (.lst<|F++[.ref g])) (ji 0 lo 0 ms++[.gap<|xB (lo-qY ms) 0]) (F++[.ref g]):=(i1.ts<|qd J).app<|.one (isG<|(e3.trans J) _ _ kg);change _;generalize upd (upd H3 l2<|.lst [.ref g]) y2 (.lst<|F++[.ref g])=H5 at J e5 k2 i2;ext;let#[ul,kl,il]:=tL.same e5;symm;have nl:=il.len;have n2:=i2.len;rw[YN,YN]at n2;show#[_,O,y2,l,_,_,O,O,k2,kl,sm _ (by rw[YN];change F.length+1+ul.length<=1000;lia),λy3 ai=>?_];have w6:=qE ai (.lst<|F++[.ref g]++ul);have e6:=e5.trans w6;have k3:(upd H5 y3 (.lst<|F++[.ref g]++ul)) y3=some (.lst<|F++[.ref g]++ul):=qC;have i3:IsIs (upd H5 y3 (.lst<|F++[.ref g]++ul)) (ji 0 lo 0 ms++[.gap<|xB (lo-qY ms) 0]++ls) (F++[.ref g]++ul):=(i2.app il).ts<|qd w6;change _;generalize upd H5 y3 (.lst<|F++[.ref g]++ul)=H6 at w6 e6 k3 i3;show#[_,O,_,O,_,O,z,ms,O,tT.same e6,(),λH7 e7=>?_];show#[z,ms,hi,qY ms,rfl,tT.same<|e6.trans e7,hB,h0,h1,λy4 H8 e8 aq #[ag,k4,i4]=>?_];have n4:=i4.len;have ao:=vx hi (qY ms) 0 ms;have aa:=e7.trans e8;have al:(F++[V.ref g]++ul).length=F.length+1+ul.length:=by rw[YN,YN];rfl
 show#[y3,y4,_,_,O,O,aa _ _ k3,k4,sm _ (),λy5 af=>?_];have w9:=qE af (.lst<|F++[.ref g]++ul++ag);have e9:=(e6.trans aa).trans w9;show#[y5,_,O,#[_,qC,((i3.ts<|qd aa).app i4).ts<|qd w9],?_,λy aj ak hy tY=>kk y aj (e9.trans ak) (e9.free hy) tY];rw[YN,YN,YN];change (ji 0 lo 0 ms).length+1+ls.length+(ji hi (qY ms) 0 ms).length<=300;lia
def LayOk(H:Hp)(rd:Addr):Im->Prop
 |.clip n p q r s l=> ∃N,Reel H rd n N/\GF n p q r s l/\InR (Vk p q r s 0) (q*s) N/\InR (Vk p q r s<|l-1) (q*s) N
 |.nest n b l=>qJg n=true/\0<=b/\1<=l
 |_=>False
theorem LayOk.same{H H':Hp}{rd:Addr}{m:Im}(e:Same H H')(h:LayOk H rd m):LayOk H' rd m:=by
 cases m with
 |clip n p q r s l=>let#[N,h1,h2]:=h;show#[N,h1.same e,h2]
 |nest n b l=>show h
 |gap=>show h
 |mix=>show h
def DOk(H:Hp)(rd:Addr)(ms:LI):Dk->Prop
 |.cut t=>0<=t/\t<=2 ^ 400/\qz ms t=true
 |.hel _=>False
 |.opn t l=>0<=t/\t<=2 ^ 400/\1<=l
 |.cls t u=>0<=t/\t<u/\u<=2 ^ 400
 |.lft t u=>0<=t/\t<u/\u<=2 ^ 400
 |.lin t m=>0<=t/\t<=2 ^ 400/\LayOk H rd m
 |.lov t m=>0<=t/\t<=2 ^ 400/\LayOk H rd m/\0<=m.mo/\m.mo<=2 ^ 400
noncomputable def Dk.lay:Dk->Option Im
 |.lin _ m=>some m
 |.lov _ m=>some m
 |_=>none
theorem Dk.lay_in(d:Dk):inV (.str d.wd) [.str "lay_in",.str "lay_over"]=d.lay.isSome:=by
 cases d with
 |cut t=>change inV (.str "cut") _=false;decide+kernel
 |hel t=>change inV (.str "heal") _=false;decide+kernel
 |opn t l=>change inV (.str "open") _=false;decide+kernel
 |cls t u=>change inV (.str "close") _=false;decide+kernel
 |lft t u=>change inV (.str "lift") _=false;decide+kernel
 |lin t m=>change inV (.str "lay_in") _=true;decide+kernel
 |lov t m=>change inV (.str "lay_over") _=true;decide+kernel
theorem DAt.lay{H:Hp}{dz:Addr}{n:Int}{d:Dk}{m:Im}(h:DAt H dz n d)(F:d.lay=some m):∃xs v,H dz=some (.tup xs)/\atI xs 3=some v/\IsI H m v:=by
 cases d with
 |lin t m'=>cases F;let#[v,h1,h2]:=h;show#[_,v,h1,rfl,h2]
 |lov t m'=>cases F;let#[v,h1,h2]:=h;show#[_,v,h1,rfl,h2]
 |_=>cases F
theorem DOk.lay{H:Hp}{rd:Addr}{ms:LI}{d:Dk}{m:Im}(h:DOk H rd ms d)(F:d.lay=some m):LayOk H rd m:=by
 cases d with
 |lin t m'=>cases F;show h.2.2
 |lov t m'=>cases F;show h.2.2.1
 |_=>cases F
def DOk.ch{d:Dk}(h:DOk H rd ms d):inV (.str d.wd) [.str "cut",.str "lay_in",.str "open",.str "close",.str "lift",.str "lay_over"]=true:=by
 cases d with
 |cut t=>change inV (.str "cut") _=true;decide+kernel
 |hel t=>show h.elim
 |opn t l=>change inV (.str "open") _=true;decide+kernel
 |cls t u=>change inV (.str "close") _=true;decide+kernel
 |lft t u=>change inV (.str "lift") _=true;decide+kernel
 |lin t m=>change inV (.str "lay_in") _=true;decide+kernel
 |lov t m=>change inV (.str "lay_over") _=true;decide+kernel
def Dk.cut_wd{d:Dk}(h:d.wd="cut"):∃t,d=.cut t:=by
 cases d with
 |cut t=>show#[t,rfl]
 |hel t=>show YC (show ("heal":Str)="cut" from h) ⋯
 |opn t l=>show YC (show ("open":Str)="cut" from h) ⋯
 |cls t l=>show YC (show ("close":Str)="cut" from h) ⋯
 |lft t l=>show YC (show ("lift":Str)="cut" from h) ⋯
 |lin t l=>show YC (show ("lay_in":Str)="cut" from h) ⋯
 |lov t l=>show YC (show ("lay_over":Str)="cut" from h) ⋯
theorem DOk.same{H H':Hp}{rd:Addr}{ms:LI}{d:Dk}(e:Same H H')(h:DOk H rd ms d):DOk H' rd ms d:=by
 cases d with
 |lin t m=>show#[h.1,h.2.1,h.2.2.same e]
 |lov t m=>show#[h.1,h.2.1,h.2.2.1.same e,h.2.2.2]
 |_=>show h
inductive ChO(K:Fg)(H:Hp)(rd dz:Addr)(n:Nat)(ts:LL)(tie:LN)(ms:LI):Nat->Prop where
 |cut0 {t:Int} (hd:H dz=some (.tup [.str "cut",.int (n:Int),.int t])) (h:qz ms t=false):ChO K H rd dz n ts tie ms 0
 |ok {d:Dk} {c:Nat} (hD:DAt H dz (n:Int) d) (hO:DOk H rd ms d) (hc:c=if jO ts (chF tie (n:Int) d.push) d.t d.hi=true then 1 else 2):ChO K H rd dz n ts tie ms c
theorem ChO.same{H H':Hp}(e:Same H H'){rd dz:Addr}{n:Nat}{F:LL}{tie:LN}{ms:LI}{c:Nat}(h:ChO K H rd dz n F tie ms c):ChO K H' rd dz n F tie ms c:=by
 cases h with
 |cut0 hd h=>show .cut0 (e _ _ hd) h
 |ok hD hO hc=>show .ok (hD.same e) (hO.same e) hc
inductive qD4(K:Fg)(N M:Addr)(vs:LV)(H:Hp)(Q:VK)(E:XK):Prop
|mk (tz dz rd:Addr) (ts:LL) (tie:LN) (n:Nat) (ms:LI) (c:Nat) (_:vs=[.ref tz,.ref dz,.ref rd]) (_:TabG H tz ts tie n) (_:ts[n]?=some ms) (_:ChO K H rd dz n ts tie ms c) (_:(c=0->∀H',Same H H'->E (.ref N) none H')) (_:(c=1->∀H',Same H H'->E (.ref M) none H')) (_:(c=2->∀H',Same H H'->Q .non H'))
def qDu:Fx P w base T.D61 7 (qD4 K a.k_NoPlace a.k_Mixed):=by
 rcases oX T.D61.F,qEr with⟨tz,dz,rd,ts,tie,n,ms,c,rfl,hP,af,hC,k0,k1,k2⟩;exists #[qh (qM wS (qJ 1) (jb (v:=.ref a.n_CHANGES) rfl T.g_CHANGES rfl) rfl) #[xZ rfl rfl T.c_NoPlace T.x_NoPlace [qQ]] qO,wZ (qh (PW.pt (zy (qM jP (qJ 1) qQ) (xW (jg (jQ (qK T.D32 qAh [jI qk (qJ 0) (qJ 1),qJ 1])))))) #[xZ rfl rfl T.c_NoPlace T.x_NoPlace [qQ]] qO),wZ (qh (PW.pt (zy (qM j2 (qJ 1) (jb (v:=.ref a.n_LAYS) rfl T.g_LAYS rfl) rfl) (xW (jg (jQ (qK T.D22 qEf [qJ 1])))))) #[qt (qK T.D15 qH5 [qJ 1,2])] qO),qt (xA T.D60 vk [0,1])]
 have ag:(1:Nat)<=sizeLine:=#[]
 ext;let#[tt,tl,ti,zs,e0,g2,g3,g4,g5]:=id hP.tab;cases e0;have aj:=g4.len;have ah:=hP.nt;have ez:zs[n]?=some (zs[n]'()):=YD ();let#[ms',z,aa,ad,tT]:=g4.get ez;rw[af]at aa;cases aa;symm;rw[ad]at ez;cases hC with
 | @cut0 t hd h=>
  have a0:atI [V.str "cut",.int (n:Int),.int t] 0=some (.str "cut"):=rfl;have a1:atI [V.str "cut",.int (n:Int),.int t] 1=some (.int (n:Int)):=rfl;have a2:atI [V.str "cut",.int (n:Int),.int t] 2=some (.int t):=rfl;show(ixO hd a0 #[a.n_CHANGES,_,O,.inr<|T.sq_CHANGES _,O,O,false,qRi (b:=true) ⋯,jH ?_]);show#[λσ H1=>False,?_,λ_ _ h=>h.elim];show(ixO hd a0 #[O,_,O,qA8 ⋯ ?_]);show(ixO g2 at0 (ixO hd a1 #[tl,_,_,_,O,O,SqL.of g3,jC ez,ixO hd a2 #[z,ms,t,O,tT,λH1 J=>?_]]));rw[h];show#[false,O,ju #[ag,k0 rfl H1 J]]
 | @ok d c hD hO hc=>
  ext;let#[xs,hd,a0,a1,a2]:=hD.opn;symm;show(ixO hd a0 #[a.n_CHANGES,_,O,.inr<|T.sq_CHANGES _,O,O,false,qRi hO.ch,jH ?_]);show#[λσ H1=>σ=[some<|.ref tz,some<|.ref dz,some<|.ref rd]/\Same H H1,?_,?_]
  . show(ixO hd a0 #[O,_,O,jw (λc=>?_) (λc=>jH #[O,Same.refl _])])
    let#[t,rfl]:=Dk.cut_wd<| ~~~c;show(ixO g2 at0 (ixO hd a1 #[tl,_,_,_,O,O,SqL.of g3,jC ez,ixO hd a2 #[z,ms,t,O,tT,λH1 J=>?_]]));rw[hO.2.2];show#[true,O,jH #[O,J]]
  rintro σ H1 ⟨rfl,J⟩;show#[λσ H2=>σ=[some<|.ref tz,some<|.ref dz,some<|.ref rd]/\Same H H2,?_,?_]
  . show(ixO (J _ _ hd) a0 #[a.n_LAYS,_,O,.inr<|T.sq_LAYS _,O,O,d.lay.isSome,zq d.lay_in,?_])
    cases hl:d.lay with
    |none=>show jH (jH #[rfl,J])
    |some m=>
     ext;let#[ai,v,ac,a3,hI]:=(hD.same J).lay hl;symm;have hL:=(hO.lay hl).same J;cases m with
     |nest nn b l=>
      show ju (ixO ac a3 #[v,_,O,hI,hL,λH2 F=>#[true,O,jH #[O,J.trans F]]])
     |gap l=>show hL.elim
     |mix l=>show hL.elim
     |clip nn p q r s1 l=>
      ext;let#[N,ae,hg,i0,i1]:=hL;symm;show ju (ixO ac a3 #[v,_,O,hI,trivial,λH2 F=>#[false,O,ju ?_]]);show(ixO (F _ _ ac) a3 #[_,O,v,rd,_,_,_,_,_,_,N,O,hI.ts<|qd F,hg,ae.same F,i0,i1,λH3 e3=>#[O,(J.trans F).trans e3]])
  rintro σ H2 ⟨rfl,F⟩;show#[_,O,_,O,tz,dz,ts,tie,n,d,O,hP.same F,hD.same F,λht H3 e3=>?_,λht H3 e3=>?_]
  . rw[ht,YB rfl]at hc
    show k1 hc H3 (F.trans e3)
  . rw[ht,YA #[]]at hc
    show k2 hc H3<|F.trans e3
def goB(n n':Str)(p q r s len p' q' r' s':Int):Bool:=decide (n=n') && ((r==r' && s==s') && (p'==plP p q r s len && q'==plQ p q r s len))
inductive qPw(K:Fg)(vs:LV)(H:Hp)(Q:VK)(_:XK):Prop
|mk (v u:V) (n n':Str) (p q r s len p' q' r' s' len':Int) (_:vs=[v,u]) (_:Cp K H v n p q r s len) (_:Cp K H u n' p' q' r' s' len') (_:Bn 700 p q r s) (_:len.natAbs<2 ^ 700) (_:∀H',Same H H'->Q (.bl (goB n n' p q r s len p' q' r' s')) H')
def qP4:Fo P w base T.D17 5 (qPw K):=by
 rcases oL T.D17.F,qP2 with⟨v,u,n,n',p,q,r,s,F,p',q',r',s',ac,rfl,hc,hd,⟨hq,hs,bp,bq,br,bs⟩,bl,kk⟩;symm;have hu:=hr.units0;show#[_,(qD (qh (PW.pt (xK (qM wH (qJ<|pv 0) (qJ<|pv 1)<|qP _)<|jf (qM (qZv hu) (qJ<|pv 0) (qJ<|pv 1)<|qP _))) (qF<|qL vw) qO)
  (qF<|qL (jR (qV3 hu) (qJ<|pv 1) (qK T.D12 (zr T) hr rfl (qA (pv 0)<|qA (qJ<|pv 0) qB))<|qP _))),?_]
 try dsimp only[jK,qi]
 have aa:=hc;ext;let#[z,z1,z2,e,h0,h1,h2]:=aa.ex;subst e;let#[y,y1,y2,e,d0,d1,d2]:=hd.ex;subst e;symm;show(z7 rfl h0 qLk #[_,O,y,_,_,_,O,O,d0,qLk,O,_,O,?_]);by_cases en:n=n'
 rotate_left
 . have e:(!decide (V.str n=V.str n'))=true:=by simp[en]
   rw[e];show ju<|ju ?_;have g:goB n n' p q r s F p' q' r' s'=false:=by simp[goB,en]
   have:=kk H<|Same.refl _;rw[g]at this;show this
 have e:(!decide (V.str n=V.str n'))=false:=by simp[en]
 rw[e];show jH ?_;show(z7 rfl h0 qN2 #[_,O,y,_,_,_,O,O,d0,qN2,_,_,_,_,O,O,h2,d2,O,O,_,O,?_]);rw[eq2];by_cases er:(r==r' && s==s')=true
 rotate_left
 . have J:(r==r' && s==s')=false:= ~~~er
   rw[J];show ju ?_;have g:goB n n' p q r s F p' q' r' s'=false:=by delta goB;rw[J];simp
   have:=kk H<|Same.refl _;rw[g]at this;show this
 rw[er];show jH ?_;show#[_,O,y,_,_,_,O,O,d0,qXe,_,O,z7 rfl h0 qDw #[_,n,p,q,r,s,F,F,O,hc,hq,hs,bp,bq,br,bs,bl,λx H1 s1 e1=>?_]];show#[_,_,_,_,O,O,L3.Same.tup s1 d1,SqT.of e1,O,O,?_];have g:goB n n' p q r s F p' q' r' s'=(if false=true then !qL6 [.int p',.int q'] [.int (zN (p*s+F*r*q)<|q*s),.int (xk (p*s+F*r*q)<|q*s)]else qL6 [.int p',.int q'] [.int (zN (p*s+F*r*q)<|q*s),.int (xk (p*s+F*r*q)<|q*s)]):=by rw[YA #[],eq2];delta goB;rw[er];simp[en,plP,plQ]
 rw[<-g];show kk H1 s1
def qNe:atI [x0,x1,x2] 1=some x1:=rfl
def qP0:atI [x0,x1,x2] 2=some x2:=rfl
def wp(vs:LV)(i:Nat):vP vs none (some (i:Int))=vs.take i:=by
 delta vP;rw[HT.sIx_none,HT.sIx_nat,List.drop_zero,Nat.sub_zero];by_cases h:i<=vs.length
 . rw[Nat.min_eq_left h]
 . rw[Nat.min_eq_right (),List.take_of_length_le<|YI _,List.take_of_length_le ()]
def qEg(vs:LV)(i:Nat):vP vs (some (i:Int)) none=vs.drop i:=by
 delta vP;rw[HT.sIx_none,HT.sIx_nat];by_cases h:i<=vs.length
 . rw[Nat.min_eq_left h,List.take_of_length_le (by rw[ZV];lia)]
 . rw[Nat.min_eq_right (),List.drop_of_length_le (),List.drop_of_length_le ()]
   simp
theorem IsIs.take{H:Hp}:∀{ms:LI} {vs:LV} {i:Nat},IsIs H ms vs->IsIs H (ms.take i) (vs.take i)
 |[],[],_,_=>by simp[IsIs]
 |_::_,_::_,0,_=>trivial
 |_::_,_::_,_+1,h=>#[h.1,h.2.take]
 |[],_::_,_,h=>h.elim
 |_::_,[],_,h=>h.elim
theorem IsIs.drop{H:Hp}:∀{ms:LI} {vs:LV} {i:Nat},IsIs H ms vs->IsIs H (ms.drop i) (vs.drop i)
 |[],[],_,_=>by simp[IsIs]
 |_::_,_::_,0,h=>h
 |_::_,_::_,_+1,h=>h.2.drop (i:=_)
 |[],_::_,_,h=>h.elim
 |_::_,[],_,h=>h.elim
theorem DOk.hi{H:Hp}{rd:Addr}{ms:LI}{d:Dk}(h:DOk H rd ms d):0<=d.t/\0<=d.hi/\d.hi<=2 ^ 500:=by
 have e:(2:Int) ^ 400+2 ^ 400<=2 ^ 500:=#[]
 have e2:(0:Int)<=2 ^ 400:=#[]
 generalize (2:Int) ^ 500=B at e⊢;cases d with
 |cut t=>let#[h1,h2,_]:=h;show#[h1,h1,by change t<=B;lia]
 |hel t=>show h.elim
 |opn t l=>let#[h1,h2,_]:=h;show#[h1,h1,by change t<=B;lia]
 |cls t u=>let#[h1,h2,F]:=h;show#[h1,by change 0<=u;lia,by change u<=B;lia]
 |lft t u=>let#[h1,h2,F]:=h;show#[h1,by change 0<=u;lia,by change u<=B;lia]
 |lin t m=>let#[h1,h2,_]:=h;show#[h1,h1,by change t<=B;lia]
 |lov t m=>let#[h1,h2,F,J,h5]:=h;show#[h1,by change 0<=t+m.mo;lia,by change t+m.mo<=B;lia]
def jAv(ms:LI)(t:Int):Prop:=cbF ms t=none\/∃i j:Int,cbF ms t=some (i,j)/\j≠i+1
structure TabD(H:Hp)(tz rd:Addr)(rl:Rls)(ts:LL)(tie:LN):Prop where
 tab:TabF H (.ref tz) ts tie
 ok:∀ms∈ts,MsB ms/\ms.length<=100/\∀m∈ms,ItR rl m
 len:ts.length<=8
 tl:tie.length<=8
 tin:∀x∈tie,∃k:Nat,x=(k:Int)/\k<ts.length
 re:ReelsAt H rd rl
def TabD.g{F:LL}(h:TabD H tz rd rl F tie)(hn:n<F.length):TabG H tz F tie n:=#[h.tab,λms J=>#[(h.ok ms J).1,(h.ok ms J).2.1],hn,h.len,h.tl,h.tin]
theorem TabD.same{H H':Hp}{tz rd:Addr}{rl:Rls}{F:LL}{tie:LN}(e:Same H H')(h:TabD H tz rd rl F tie):TabD H' tz rd rl F tie:=#[h.tab.same e,h.ok,h.len,h.tl,h.tin,h.re.same e]
instance (w:Str):Decidable (Wd3 w):=by delta Wd3;infer_instance
def qPg{w:Str}:inV (.str w) [.str "roll",.str "slip",.str "slide"]=decide (Wd3 w):=by
 by_cases h1:w="roll"
 . subst h1;decide+kernel
 by_cases h2:w="slip"
 . subst h2;decide+kernel
 by_cases F:w="slide"
 . subst F;decide+kernel
 have:¬Wd3 w:=by rintro(h|h|h);show h1 h;show h2 h;show F h
 rw[YW this];simp[inV,eqV,h1,h2,F,ZG h1,ZG h2,ZG F]
noncomputable def je(d:Dk)(n k:Int):LI:=if k=n then d.laid else d.laid.map λm=>.gap m.mo
def vC(ts0:LL)(d:Dk)(n:Int)(ns:LN):LL:=ns.foldl (λts k=>ts.set k.toNat (jx (ts0.getD k.toNat []) d.t d.hi<|je d n k)) ts0
def qC0(F:LL)(d:Dk)(n:Int):∀ns:LN,(vC F d n ns).length=F.length:=λns=>by
 delta vC;have:∀(ns:LN) (J:LL),(ns.foldl (λJ k=>J.set k.toNat (jx (F.getD k.toNat []) d.t d.hi<|je d n k)) J).length=J.length:=λns=>by
  induction ns with
  |nil=>intro J;rfl
  |cons k ns ih=>intro J;rw[List.foldl_cons,ih,ZN]
 show this ns F
def qUn(F:LL)(d:Dk)(n:Int)(ns:LN)(k:Int):vC F d n (ns++[k])=(vC F d n ns).set k.toNat (jx (F.getD k.toNat []) d.t d.hi<|je d n k):=by delta vC;rw[List.foldl_append];rfl
inductive qLp(vs:LV)(H:Hp)(Q:VK)(_:XK):Prop
|mk (tz dz rd:Addr) (ts:LL) (tie:LN) (n:Nat) (d:Dk) (ms:LI) (_:vs=[.ref tz,.ref dz]) (_:TabG H tz ts tie n) (_:DAt H dz (n:Int) d) (_:DOk H rd ms d) (_:∀(t:Addr) (H':Hp),Same H H'->TabF H' (.ref t) (vC ts d (n:Int) (chF tie (n:Int) d.push)) tie->Q (.ref t) H')
def qLg:Fo P w base T.D68 9 qLp:=by
 rcases oL T.D68.F,zQ with⟨tz,dz,rd,ts,tie,n,d,ms,rfl,hP,hD,hO,kk⟩;exists #[qc 2 (qK T.D54 vH [1]),qc 3 0,zZ PassesOwn.never rfl (jh (qK T.D57 j5 [0,1])) (jB (i:=0x04) zQ.nd rfl (Or.inl rfl)) #[wZ (qc 5 (zt (qM jP 4 (qJ 1)) (qK T.D55 qHj [1]) (qK T.D56 qFf [1]))),qc 3 (qK T.D52 j8 [3,4,qK T.D67 qRs [jI qk (qJ 0) 4,qJ 2,qJ 2,5]])],qL 3]
 ext;let#[tt,tl,ti,zs,e0,g2,g3,g4,g5]:=id hP.tab;cases e0;have ar:=g4.len;let#[an,ae]:=hP.ch d.push;let#[xs,hd,a0,a1,a2]:=hD.opn;let#[au,ai,aj]:=hO.hi;symm;show#[_,O,dz,_,d,O,hD,λp H1 e1 hp=>?_];show#[_,rfl,_,rfl,_,rfl,tz,tl,ti,dz,tie,_,d,rfl,e1 _ _ g2,e1 _ _ g5,by have:=hP.tl;lia,hD.same e1,λy H2 e2 hy ad=>?_];generalize chF tie (n:Int) d.push=ns at ad an ae kk;show#[y,O,#[_,SqL.of ad],xY (K:=K) (a:=y) (xs:=ns.map V.int) (λi σ H'=> ∃(o1 o2:Option V) (F:Addr),σ=[some<|.ref tz,some<|.ref dz,some<|.ref p,some<|.ref F,o1,o2]/\TabF H' (.ref F) (vC ts d (n:Int)<|ns.take i) tie/\Same H2 H') #[none,none,tz,O,(hP.tab.same e1).same e2,Same.refl _] ?_ ?_ ?_]
 . rintro i σ H' hi ⟨o1,o2,F,rfl,_,e⟩
   show SqL.of (e _ _ ad)
 . rintro i x σ H' hx ⟨o1,o2,F,rfl,ao,e⟩
   ext;let#[xi,ag,rfl]:∃xi:Int,ns[i]?=some xi/\x=.int xi:=by
    rw[Yj]at hx;cases hq:ns[i]? with
    |none=>rw[hq]at hx;cases hx
    |some k=>rw[hq]at hx;cases hx;show#[k,rfl,rfl]
   let#[k,rfl,hk]:=ae xi<|YF ag;have aa:=e1.trans<|e2.trans e;have ez:zs[k]?=some (zs[k]'()):=YD ();let#[J,z,af,ah,tT]:=g4.get ez;rw[ah]at ez;let#[am,aq]:=hP.ok J<|YF af;symm;have dl:=d.laid_len;have ap:ts.getD ((k:Int)).toNat []=J:=by rw[YQ,List.getD_eq_getElem?_getD,af];rfl
   show#[λσ H3=> ∃(l:Addr),σ=[some<|.ref tz,some<|.ref dz,some<|.ref p,some<|.ref F,some<|.int (k:Int),some<|.ref l]/\Same H' H3/\Tr H3 l (je d (n:Int) (k:Int)),?_,?_]
   . delta je
     show#[_,O,ixO (aa _ _ hd) a1 #[O,_,O,jw (λc=>?_) (λc=>?_)]]
     . have hc:(k:Int)=(n:Int):=by have:V.int (k:Int)=V.int (n:Int):= ~~~c
                                   show V.int.inj this
       rw[YB hc];show#[_,O,dz,_,d,O,hD.same aa,λl H3 e3 hl tL=>#[l,O,e3,tL]]
     . have hc:¬(k:Int)=(n:Int):=λz=>by rw[z]at c;simp at c
       rw[YA hc];show#[_,O,dz,_,d,O,hD.same aa,λl H3 e3 hl tL=>#[l,O,e3,tL]]
   rintro σ H3 ⟨l,rfl,e3,tL⟩;have al:(je d (n:Int) (k:Int)).length<=10:=by
    delta je;split
    . lia
    . rw[YS];lia
   have ac:=aa.trans e3;show#[_,O,_,O,ixO (ac _ _ g2) at0 #[_,O,tl,_,_,_,O,O,SqL.of<|ac _ _ g3,jC ez,z7 rfl (SqT.of<|(e2.trans<|e.trans e3) _ _ hp) at0 (z7 rfl (SqT.of<|(e2.trans<|e.trans e3) _ _ hp) at1 #[_,O,z,l,J,_,_,_,O,tT.same ac,tL,am,aq,al,ai,aj,λyy H4 e4 as tY=>?_])]];show#[F,yy,k,_,tie,_,rfl,(ao.same e3).same e4,tY,by rw[qC0];lia,by rw[qC0];have:=hP.len;lia,λt H5 e5 hN=>?_];have ak:vC ts d (n:Int) (ns.take<|i+1)=(vC ts d (n:Int)<|ns.take i).set k (jx J d.t d.hi<|je d (n:Int) (k:Int)):=by rw[Yt,ag];change vC ts d (n:Int) (ns.take i++[(k:Int)])=_;rw[qUn,ap,YQ]
   rw[ak];show#[_,_,t,O,hN,((e.trans e3).trans e4).trans e5]
 . rintro σ H' ⟨o1,o2,F,rfl,hN,e⟩
   rw[YS,Yx]at hN;show#[_,O,kk _ H' (e1.trans<|e2.trans e) hN]
noncomputable def tbF(ms:LI)(k:Nat):Int:=if k=0 then 0 else match ms[k-1]? with
 |some (.mix l)=>l-l.fdiv 2
 |_=>0
noncomputable def teF(ms:LI)(k:Nat):Int:=match ms[k+1]? with
 |some (.mix l)=>l.fdiv 2
 |_=>0
def qKz{k:Int}(h:qv ms k="mix"):∃l,0<=k/\ms[k.toNat]?=some (.mix l):=by
 unfold qv at h;by_cases F:k<0
 . rw[YB F]at h
   show YC h ⋯
 . rw[YA F]at h
   cases hm:ms[k.toNat]? with
   |none=>rw[hm]at h;show YC h ⋯
   |some m=>
    rw[hm]at h;let#[l,rfl]:=jZ h;show#[l,(),O]
inductive qCv(vs:LV)(H:Hp)(Q:VK)(_:XK):Prop
|mk (z:Addr) (ms:LI) (k:Nat) (_:vs=[.ref z,.int (k:Int)]) (_:Tr H z ms) (_:Q (.int (tbF ms k)) H)
def qCu:Fo P w base T.D38 2 qCv:=by
 rcases oL T.D38.F,qDb with⟨z,ms,k,rfl,tT,q⟩;exists #[qh (qM wH (qK T.D27 jV [0,qR jU 1 qH]) qQ) #[qL qH] qO,qL (qK T.D36 qAg [qJ (jI qk 0 (qR jU 1 qH))])]
 show#[_,O,_,O,_,_,O,O,z,ms,_,O,tT,O,_,O,jw (λc=>?_) (λc=>?_)]
 . have hn:qv ms ((k:Int)-1)≠"mix":= ~~~c
   have e:tbF ms k=0:=by
    delta tbF;by_cases k0:k=0
    . rw[YB k0]
    . rw[YA k0]
      split
      . next l F=>show YC (jc F ()) hn
      . rfl
   rw[e]at q;show q
 . have hk:qv ms ((k:Int)-1)="mix":= ~~~c
   ext;let#[l,k1,F]:=qKz hk;have ek:((k:Int)-1).toNat=k-1:=()
   rw[ek]at F;have e:tbF ms k=l-l.fdiv 2:=by delta tbF;rw[YA (),F]
   rw[e]at q;let#[vs,hz,aa]:=tT;let#[v,hv,hI]:=aa.get' F;let#[zi,rfl,ac]:=hI;symm;have J:atI vs ((k:Int)-1)=some (.ref zi):=by
    have e:(k:Int)-1=((k-1:Nat):Int):=()
    rw[e];show jC hv
   show#[_,O,_,O,_,_,O,O,z,_,_,_,O,O,SqL.of hz,J,ixT (SqT.of ac) at1 #[l,O,q]]
inductive qEs(vs:LV)(H:Hp)(Q:VK)(_:XK):Prop
|mk (z:Addr) (ms:LI) (k:Nat) (_:vs=[.ref z,.int (k:Int)]) (_:Tr H z ms) (_:Q (.int (teF ms k)) H)
def qFq:Fo P w base T.D39 2 qEs:=by
 rcases oL T.D39.F,qFa with⟨z,ms,k,rfl,tT,q⟩;exists #[qh (qM wH (qK T.D27 jV [0,qR qx 1 qH]) qQ) #[qL qH] qO,qL (qK T.D35 qCb [qJ (jI qk 0 (qR qx 1 qH))])]
 show#[_,O,_,O,_,_,O,O,z,ms,_,O,tT,O,_,O,jw (λc=>?_) (λc=>?_)]
 . have hn:qv ms ((k:Int)+1)≠"mix":= ~~~c
   have e:teF ms k=0:=by
    delta teF;split
    . next l F=>show YC (jc F ()) hn
    . rfl
   rw[e]at q;show q
 . have hk:qv ms ((k:Int)+1)="mix":= ~~~c
   ext;let#[l,k1,F]:=qKz hk;have ek:((k:Int)+1).toNat=k+1:=()
   rw[ek]at F;have e:teF ms k=l.fdiv 2:=by delta teF;rw[F]
   rw[e]at q;let#[vs,hz,aa]:=tT;let#[v,hv,hI]:=aa.get' F;let#[zi,rfl,ac]:=hI;symm;have J:atI vs ((k:Int)+1)=some (.ref zi):=by
    have e:(k:Int)+1=((k+1:Nat):Int):=()
    rw[e];show jC hv
   show#[_,O,_,O,_,_,O,O,z,_,_,_,O,O,SqL.of hz,J,ixT (SqT.of ac) at1 #[l,O,q]]
noncomputable def qVg(x y:Int):Int:=if y<x then y else x
noncomputable def qZ1(x y:Int):Int:=if y>x then y else x
def mmV(A B:Int):Int:=if B>A then qZ1 (2*A+1) 0 else qZ1 (2*B) 0
def mmF(rl:Rls)(ms:LI)(t:Int):Option Int:=match cbF ms t with
 |none=>none
 |some (i,j)=>match jT ms i,jT ms j with
  |.clip n p q r s l,.clip n' p' q' r' s' l'=>(match rl n,rl n' with
   |some N,some N'=>some (mmV (qVg (l-tbF ms i.toNat)<|xL p' q' r' s' N') (qVg (l'-teF ms j.toNat)<|xC p q r s l N))
   |_,_=>none)
  |_,_=>none
inductive qKf(N:Addr)(vs:LV)(H:Hp)(Q:VK)(E:XK):Prop
|mk (z rd:Addr) (ms:LI) (t:Int) (rl:Rls) (_:vs=[.ref z,.int t,.ref rd]) (_:Tr H z ms) (_:(∀m∈ms,ItR rl m)) (_:ReelsAt H rd rl) (_:(mmF rl ms t=none->∀H',Same H H'->E (.ref N) none H')) (_:∀M,mmF rl ms t=some M->∀H',Same H H'->Q (.int M) H')
def qL4:Fx P w base T.D40 6 (qKf a.k_NoPlace):=by
 rcases oX T.D40.F,xr with⟨z,rd,ms,t,rl,rfl,tT,af,ae,kb,kg⟩;exists #[qc 3 (zt (jQ (qK T.D0 jL [1])) (qK T.D31 jY [0,1]) xn),qh (xm (vX 3)) #[xZ rfl rfl T.c_NoPlace T.x_NoPlace [qQ]] qO,qc 4 (jI qk 0 (qJ 3)),qc 5 (jI qk 0 (qJ 3)),qc 6 (qg (zm rfl) rfl T.b_min rfl [qR jU (qJ 4) (qK T.D38 qCu [0,qJ 3]),qK T.D19 wQ [5,2]]),qc 7 (qg (zm rfl) rfl T.b_min rfl [qR jU (qJ 5) (qK T.D39 qFq [0,qJ 3]),qK T.D20 v6 [4,2]]),qh (qM qFd 7 6) #[qL (qg (qBu rfl) rfl T.b_max rfl [qR qx (qR jd qH 6) qH,qH])] qO,qL (qg (qBu rfl) rfl T.b_max rfl [qR jd qH 7,qH])]
 have aj:(1:Nat)<=sizeLine:=#[]
 show#[_,O,t,O,true,O,ju ?_];show#[_,O,_,O,z,ms,_,O,tT,?_];delta mmF at kb kg;cases hcb:cbF ms t with
 |none=>
  rw[hcb]at kb;intro H1 e1;show#[_,O,_,O,qA8 #[] #[aj,kb rfl H1 e1]]
 |some r=>
 ext;let#[ii,jj]:=r;rw[hcb]at kg;let#[am,ak]:=zK hcb;let#[i,n,p,q,r,s1,l,rfl,hi]:=xG am;let#[j,n',p',q',r',J,l',rfl,hj]:=xG ak;let#[N,c1]:=af _ (YF hi) _ _ _ _ _ _ rfl;let#[N',c2]:=af _ (YF hj) _ _ _ _ _ _ rfl;symm;have ei:jT ms (i:Int)=.clip n p q r s1 l:=by delta jT;rw[YQ,hi];rfl
 have ej:jT ms (j:Int)=.clip n' p' q' r' J l':=by delta jT;rw[YQ,hj];rfl
 dsimp only at kg;rw[ei,ej]at kg;dsimp only at kg;rw[c1.rn,c2.rn,YQ,YQ]at kg;have kg:=kg _ rfl;intro pp H1 e1 aa;show#[_,O,_,O,jw (λc=>YC c #[]) (λ_=>?_)];ext;let#[vs,hz,ac]:=tT.same e1;let#[va,ai,Ia]:=ac.get' hi;let#[vb,ah,Ib]:=ac.get' hj;symm;show#[_,O,ixO aa at0 #[z,_,_,_,O,O,SqL.of hz,jC ai,?_]];show#[_,O,ixO aa at1 #[z,_,_,_,O,O,SqL.of hz,jC ah,?_]];ext;let#[za,xa,ya,rfl,ag,an,aq]:=id Ia;let#[zb,xb,yb,rfl,al,ao,ap]:=id Ib;symm;have ad:Tr H1 z ms:=#[vs,hz,ac];show(ixO ag qDw #[_,O,ixO aa at0 #[z,ms,i,O,ad,_,_,O,O,?_]]);show#[_,O,_,O,_,n',p',q',r',J,l',N',rd,O,qIi Ib,c2.g1,c2.g2,(ae _ _ c2.rn).same e1,c2.bN,λH2 e2=>?_];show#[_,_,O,?_];show(ixO (e2 _ _ al) qDw #[_,O,ixO (e2 _ _ aa) at1 #[z,ms,j,O,ad.same e2,_,_,O,O,?_]]);show#[_,O,_,O,_,n,p,q,r,s1,l,N,rd,O,qIi (Ia.ts<|qd e2),c1.g1,c1.g2,c1.bl,(ae _ _ c1.rn).same<|e1.trans e2,c1.bN,λH3 e3=>?_];show#[_,_,O,?_];have F:=kg H3<|(e1.trans e2).trans e3;unfold mmV qVg at F;delta xL xC at F;dsimp only;generalize (if zk (plP p' q' r' J (-1)*J) (-1*r'*plQ p' q' r' J (-1)) (plQ p' q' r' J (-1)*J) N'<l-tbF ms i then zk (plP p' q' r' J (-1)*J) (-1*r'*plQ p' q' r' J (-1)) (plQ p' q' r' J (-1)*J) N' else l-tbF ms i)=MA at F⊢;generalize (if zk (plP p q r s1 l*s1) (1*r*plQ p q r s1 l) (plQ p q r s1 l*s1) N<l'-teF ms j then zk (plP p q r s1 l*s1) (1*r*plQ p q r s1 l) (plQ p q r s1 l*s1) N else l'-teF ms j)=MB at F⊢;show#[_,O,_,O,_,_,O,O,_,O,jw (λc=>?_) (λc=>?_)]
 . have c':MB>MA:= ~~~c
   rw[YB c']at F;show#[_,O,_,_,O,O,cmL #[] #[],_,_,O,O,_,_,O,F]
 . have c':¬MB>MA:= ~~~c
   rw[YA c']at F;show#[_,O,_,_,O,O,cmL #[] #[],_,_,O,F]
inductive qM9(N S:Addr)(vs:LV)(H:Hp)(Q:VK)(E:XK):Prop
|mk (tz dz rd:Addr) (ts:LL) (tie:LN) (n0:Nat) (ms:LI) (t l:Int) (rl:Rls) (_:vs=[.ref tz,.ref dz,.ref rd]) (_:TabG H tz ts tie n0) (_:ts[n0]?=some ms) (_:H dz=some (.tup [.str "mix",.int (n0:Int),.int t,.int l])) (_:(∀m∈ms,ItR rl m)) (_:ReelsAt H rd rl) (_:(jAv ms t->∀H',Same H H'->E (.ref N) none H')) (_:(∀(i:Nat) (M:Int),cbF ms t=some ((i:Int),((i+1:Nat):Int))->mmF rl ms t=some M->(M<l->∀(dx:Addr) (H':Hp),Same H H'->H' dx=some (.xd [("most",.int M)])->E (.ref S) (some dx) H')/\(l<=M->∀(t':Addr) (H':Hp),Same H H'->TabF H' (.ref t') (ts.set n0 (ms.take (i+1)++[.mix l]++ms.drop (i+1))) tie->Q (.ref t') H')))
def qWz{t i:Int}(F:∀m∈ms,ItR rl m)(h:cbF ms t=some (i,j)):∃M,mmF rl ms t=some M:=by
 let#[aa,J]:=zK h;let#[i,n,p,q,r,s1,l,rfl,hi]:=xG aa;let#[j,n',p',q',r',s2,l',rfl,hj]:=xG J;let#[N,c1]:=F _ (YF hi) _ _ _ _ _ _ rfl;let#[N',c2]:=F _ (YF hj) _ _ _ _ _ _ rfl;have ei:jT ms (i:Int)=.clip n p q r s1 l:=by delta jT;rw[YQ,hi];rfl
 have ej:jT ms (j:Int)=.clip n' p' q' r' s2 l':=by delta jT;rw[YQ,hj];rfl
 delta mmF;rw[h];dsimp only;rw[ei,ej];dsimp only;rw[c1.rn,c2.rn];show#[_,O]
def qM1:Fx P w base T.D65 7 (qM9 a.k_NoPlace a.k_Short):=by
 rcases oX T.D65.F,qEi with⟨tz,dz,rd,ts,tie,n0,ms,t,l,rl,rfl,hP,am,hd,al,ap,kb,kk⟩;exists #[qc 3 (jI qk (qJ 0) (qJ 1)),qc 4 (qK T.D31 jY [3,qJ 1]),qh (PW.pt (xK (xm (vX 4)) (jf (qM wH (qJ 4) (qR qx (qJ 4) qH))))) #[xZ rfl rfl T.c_NoPlace T.x_NoPlace [qQ]] qO,qc 5 (xA T.D40 qL4 [3,qJ 1,2]),qh (qM qFd (qJ 1) 5) #[qKx T.m_Short (qBj T) T.ib_Short (hr.mono #[]) rfl rfl T.c_Short [5]] qO,qL (qK T.D52 j8 [0,qJ 1,qR vW (qR vW (xP kD 3 zT (zh (qJ 4))) (qr [qZ [qQ,qJ 1]])) (xP kD 3 (zh (qJ 4)) zT)])]
 have aj:(1:Nat)<=sizeLine:=#[]
 ext;let#[tt,tl,ti,zs,e0,g2,g3,g4,g5]:=id hP.tab;cases e0;have ay:=g4.len;have ao:=hP.nt;have ez:zs[n0]?=some (zs[n0]'()):=YD ();let#[ms',z,af,an,tT]:=g4.get ez;rw[am]at af;cases af;rw[an]at ez;let#[aA,aB]:=hP.ok ms<|YF am;symm;have sm:∀j:Nat,j<=1000->j<=sizeLine:=λj h=>by have:=qf (n:=j) ();lia
 show(ixO g2 at0<|ixO hd qD1 #[tl,_,_,_,O,O,SqL.of g3,jC ez,?_]);show#[_,O,ixO hd wz #[z,ms,_,O,tT,?_]];cases hcb:cbF ms t with
 |none=>
  intro H1 e1;show#[_,O,_,O,qA8 #[]<|ju #[aj,kb (.inl hcb) H1 e1]]
 |some rr=>
 let#[ii,jj]:=rr;intro pz H1 e1 ah;show#[_,O,_,O,jw (λc=>YC c #[]) (λ_=>?_)];show(ixO ah at1<|ixO ah at0 #[_,_,O,O,O,_,O,?_]);by_cases ag:jj=ii+1
 case neg=>
  have hne:(!decide (V.int jj=V.int (ii+1)))=true:=by rw[YW (λz=>ag<|V.int.inj z)];rfl
  show qA8 hne #[aj,kb (.inr #[ii,jj,hcb,ag]) H1 e1]
 have hne:(!decide (V.int jj=V.int (ii+1)))=false:=by rw[ag];simp
 show qCf hne ?_;ext;let#[aw,_]:=zK hcb;let#[i,n,p,q,r,s1,l1,rfl,hi]:=xG aw;symm;obtain rfl:jj=((i+1:Nat):Int):=()
 ext;let#[M,hM]:=qWz al hcb;let#[kS,kQ]:=kk i M hcb hM;symm;show#[_,rfl,ixO (e1 _ _ hd) wz #[_,rfl,z,rd,ms,t,rl,rfl,tT.same e1,al,ap.same e1,λh=>(by have h':mmF rl ms t=none:=h;rw[hM]at h';cases h'),λM' h H2 e2=>?_]];obtain rfl:M'=M:=by have h':mmF rl ms t=some M':=h;rw[hM]at h';show(Yb h').symm
 have F:=e1.trans e2;show(ixO (F _ _ hd) kn #[_,O,_,_,O,O,_,O,jw (λc=>?_) (λc=>?_)])
 . have hc:M'<l:= ~~~c
   show#[_,O,_,O,λdx as=>kS hc dx _ (F.trans<|qE as _) qC]
 have hc:l<=M':=by have:¬M'<l:= ~~~c
                   lia
 show#[_,O,ixO (F _ _ hd) qD1 ?_];ext;let#[vs,hz,ak]:=tT.same F;symm;have az:=ak.len;have ae:=e2 _ _ ah;show#[_,O,ixO ae at1 #[_,O,z,_,O,SqL.of hz,λaa ax=>?_]];rw[wp];have v1:=qE ax<|.lst (vs.take<|i+1);show(z7 rfl (SqT.of<|(F.trans v1) _ _ hd) kn #[sL2,λg hg=>#[sL1,λac aq=>?_]]);have vg:=qE hg<|.tup [.str "mix",.int l];have v2:=qE aq<|.lst [.ref g];show#[aa,ac,_,_,O,O,v2 _ _<|vg _ _ qC,qC,sm _ (by rw[Yk];change min (i+1) _+1<=1000;lia),λa3 av=>?_];have v3:=qE av (.lst<|vs.take (i+1)++[.ref g]);have J:=((v1.trans vg).trans v2).trans v3;have kg:(upd (upd (upd (upd H2 aa<|.lst (vs.take<|i+1)) g<|.tup [.str "mix",.int l]) ac<|.lst [.ref g]) a3 (.lst<|vs.take (i+1)++[.ref g])) g=some (.tup [.str "mix",.int l]):=(v2.trans v3) _ _ qC;have k3:(upd (upd (upd (upd H2 aa<|.lst (vs.take<|i+1)) g<|.tup [.str "mix",.int l]) ac<|.lst [.ref g]) a3 (.lst<|vs.take (i+1)++[.ref g])) a3=some (.lst<|vs.take (i+1)++[.ref g]):=qC;change _;generalize upd (upd (upd (upd H2 aa<|.lst (vs.take<|i+1)) g<|.tup [.str "mix",.int l]) ac<|.lst [.ref g]) a3 (.lst<|vs.take (i+1)++[.ref g])=H3 at J kg k3;show#[_,O,ixO (J _ _ ae) at1 #[_,O,z,_,O,SqL.of<|J _ _ hz,λa4 au=>?_]];rw[qEg];have v4:=qE au<|.lst (vs.drop<|i+1);show#[a3,a4,_,_,O,O,v4 _ _ k3,qC,sm _ (by rw[YN,Yk,ZV];change min (i+1) _+1+_<=1000;lia),λa5 ar=>?_];have v5:=qE ar (.lst<|vs.take (i+1)++[.ref g]++vs.drop (i+1));have ai:=v4.trans v5;have e5:=(F.trans J).trans ai;have ad:=(ak.ts<|qd J).ts<|qd ai;show#[tz,a5,n0,ts,tie,ms.take (i+1)++[.mix l]++ms.drop (i+1),rfl,hP.tab.same e5,#[_,qC,(ad.take.app<|.one (isM<|ai _ _ kg)).app ad.drop],ao,by have:=hP.len;lia,λt' H6 e6 hN=>kQ hc t' H6 (e5.trans e6) hN]
inductive qIw(N:Addr)(vs:LV)(H:Hp)(Q:VK)(E:XK):Prop
|mk (tz dz:Addr) (ts:LL) (tie:LN) (n0:Nat) (ms:LI) (t:Int) (_:vs=[.ref tz,.ref dz]) (_:TabG H tz ts tie n0) (_:ts[n0]?=some ms) (_:H dz=some (.tup [.str "unmix",.int (n0:Int),.int t])) (_:((cbF ms t=none\/∃i:Int,cbF ms t=some (i,i+1))->∀H',Same H H'->E (.ref N) none H')) (_:∀i:Nat,cbF ms t=some ((i:Int),((i+2:Nat):Int))->∀(t':Addr) (H':Hp),Same H H'->TabF H' (.ref t') (ts.set n0 (ms.take (i+1)++ms.drop (i+2))) tie->Q (.ref t') H')
def qSw{t i:Int}(h:cbF ms t=some (i,j)):j=i+1\/j=i+2:=by
 delta cbF at h;cases hn:nbF ms t with
 |none=>rw[hn]at h;cases h
 |some r=>
  let#[x,y]:=r;rw[hn]at h;dsimp only at h;split at h
  . cases h
    delta nbF at hn;split at hn
    . split at hn
      . cases hn
      . cases hn
        split <;> lia
    . cases hn
  . cases h
def qIc:Fx P w base T.D66 6 (qIw a.k_NoPlace):=by
 rcases oX T.D66.F,qCn with⟨tz,dz,ts,tie,n0,ms,t,rfl,hP,ac,hd,kb,kk⟩;exists #[qc 2 (jI qk (qJ 0) (qJ 1)),qc 3 (qK T.D31 jY [2,qJ 1]),qh (PW.pt (xK (xm (vX 3)) (jf (qM jP (qJ 3) (qR qx (qJ 3) qH))))) #[xZ rfl rfl T.c_NoPlace T.x_NoPlace [qQ]] qO,qL (qK T.D52 j8 [0,qJ 1,qR vW (xP kD 2 zT (zh (qR qx (qJ 3) qH))) (xP kD 2 (zh (qJ 3)) zT)])]
 have af:(1:Nat)<=sizeLine:=#[]
 have hT:=hP.tab;ext;let#[tt,tl,ti,zs,e0,g2,g3,g4,g5]:=id hT;cases e0;have ap:=g4.len;have an:=hP.len;have aq:=(hP.ok ms<|YF ac).2;have aj:n0<ts.length:=(glt ac);have ez:zs[n0]?=some (zs[n0]'()):=YD ();let#[ms',z,aa,ag,tT]:=g4.get ez;rw[ac]at aa;cases aa;symm;rw[ag]at ez;have sm:∀j:Nat,j<=1000->j<=sizeLine:=λj h=>by have:=qf (n:=j) ();lia
 show(ixO g2 at0<|ixO hd qNe #[tl,_,_,_,O,O,SqL.of g3,jC ez,?_]);show#[_,O,ixO hd qP0 #[z,ms,_,O,tT,?_]];cases hcb:cbF ms t with
 |none=>
  intro H1 e1;show#[_,O,_,O,qA8 #[]<|ju #[af,kb (.inl hcb) H1 e1]]
 |some rr=>
 let#[ii,jj]:=rr;intro pz H1 e1 F;show#[_,O,_,O,jw (λc=>YC c #[]) (λ_=>?_)];rcases qSw hcb with hj|hj
 . show(ixO F at1 (ixO F at0 #[_,_,O,O,O,_,O,qA8 ?_ #[af,kb (.inr #[ii,by rw[hcb,hj]]) H1 e1]]))
   change decide (V.int jj=V.int (ii+1))=true;rw[hj];simp
 ext;let#[am,_]:=zK hcb;let#[i,n,p,q,r,s1,l1,rfl,hi]:=xG am;symm;obtain rfl:jj=((i+2:Nat):Int):=()
 have kk:=kk i hcb;show(ixO F at1<|ixO F at0 #[_,_,O,O,O,_,O,?_]);rw[show decide (V.int ((i+2:Nat):Int)=(λi j=>V.int<|i+j) (i:Int) 1)=false from YW (by intro z;have:((i+2:Nat):Int)=(i:Int)+1:=V.int.inj z;lia)]
 show jH #[_,O,ixO (e1 _ _ hd) qNe ?_];ext;let#[vs,hz,ad]:=tT.same e1;symm;have ao:=ad.len;show#[_,O,ixO F at0 #[_,_,O,O,_,O,z,_,O,SqL.of hz,λai ah=>?_]];have ed:vP vs none (some<|(i:Int)+1)=vs.take (i+1):=by rw[show (i:Int)+1=((i+1:Nat):Int) by lia];show wp vs (i+1)
 rw[ed];have v1:=qE ah<|.lst (vs.take<|i+1);show#[_,O,ixO (v1 _ _ F) at1 #[_,O,z,_,O,SqL.of<|v1 _ _ hz,λa4 ak=>?_]];rw[qEg];have v4:=qE ak<|.lst (vs.drop<|i+2);show#[ai,a4,_,_,O,O,v4 _ _ qC,qC,sm _ (by rw[Yk,ZV];lia),λa5 al=>?_];have v5:=qE al (.lst<|vs.take (i+1)++vs.drop (i+2));have ae:=(v1.trans v4).trans v5;have e5:=e1.trans ae;have J:=ad.ts<|qd ae;show#[tz,a5,n0,ts,tie,ms.take (i+1)++ms.drop (i+2),O,hT.same e5,#[_,qC,J.take.app J.drop],aj,(),λt' H6 e6 hN=>kk t' H6 (e5.trans e6) hN]
inductive qGc(vs:LV)(H:Hp)(Q:VK)(_:XK):Prop
|mk (v u:V) (n n':Str) (b l b' l':Int) (_:vs=[v,u]) (_:IsI H (.nest n b l) v) (_:IsI H (.nest n' b' l') u) (_:Q (.bl (decide (n=n') && decide (b'=b+l))) H)
def qFg:Fo P w base T.D62 1 qGc:=by
 rcases oL T.D62.F,qEw with⟨v,u,n,n',b,l,b',l',rfl,⟨z,rfl,J⟩,⟨y,rfl,hy⟩,F⟩;exists #[qL (zf (jR jP (qJ 0) (qJ 1)) (vY (jR jP (qJ 1) (qR qx (qJ 0) (qJ 0)))))]
 show(ixO J qD1<|ixO hy qD1 #[O,_,O,?_]);rw[qX7];by_cases hn:n=n'
 . rw[YX hn]at F⊢
   show ju<|ixO hy wz (ixO J wz<|ixO J kn #[_,_,O,O,O,?_]);have e:decide (V.int b'=V.int (b+l))=decide (b'=b+l):=by rw[Yv];simp
   change Q (.bl (decide<|V.int b'=V.int (b+l))) H;rw[e];show F
 . rw[YW hn]at F⊢
   show jH F
def qFi(h:m.wd="clip"):∃n p q r s l,m=.clip n p q r s l:=by
 cases m with
 |clip n p q r s l=>show#[n,p,q,r,s,l,rfl]
 |gap=>show YC (show ("gap":Str)="clip" from h) ⋯
 |nest=>show YC (show ("nest":Str)="clip" from h) ⋯
 |mix=>show YC (show ("mix":Str)="clip" from h) ⋯
def qNf(h:m.wd="nest"):∃n b l,m=.nest n b l:=by
 cases m with
 |nest n b l=>show#[n,b,l,rfl]
 |gap=>show YC (show ("gap":Str)="nest" from h) ⋯
 |clip=>show YC (show ("clip":Str)="nest" from h) ⋯
 |mix=>show YC (show ("mix":Str)="nest" from h) ⋯
def qG7:Im->Im->Bool
 |.clip n p q r s l,.clip n' p' q' r' s' _=>goB n n' p q r s l p' q' r' s'
 |.nest n b l,.nest n' b' _=>decide (n=n') && decide (b'=b+l)
 |_,_=>false
def kW(h:qG7 m m'=true):(∃n p q r s l n' p' q' r' s' l',m=.clip n p q r s l/\m'=.clip n' p' q' r' s' l')\/∃n b l n' F l',m=.nest n b l/\m'=.nest n' F l':=by cases m <;> cases m' <;> first|cases h|show .inl #[_,_,_,_,_,_,_,_,_,_,_,_,rfl,rfl]|show .inr #[_,_,_,_,_,_,rfl,rfl]
def ImH:Im->Prop
 |.clip _ p q r s l=>Bn 700 p q r s/\l.natAbs<2 ^ 700
 |_=>True
inductive qI3(vs:LV)(H:Hp)(Q:VK)(_:XK):Prop
|mk (z:Addr) (v:V) (ms:LI) (b:Bool) (_:vs=[.ref z,v]) (_:Tr H z ms) (_:((v=.non/\b=false)\/∃(pz:Addr) (i j:Nat) (m m':Im),v=.ref pz/\H pz=some (.tup [.int (i:Int),.int (j:Int)])/\ms[i]?=some m/\ms[j]?=some m'/\ImH m/\b=qG7 m m')) (_:∀H',Same H H'->Q (.bl b) H')
def qH8:Fo P w base T.D63 6 qI3:=by
 rcases oL T.D63.F,qBd with⟨z,v,ms,b,rfl,⟨vs,hz,ac⟩,hv,kk⟩;exists #[qh (xm (vX 1)) #[qL vw] qO,qc 2 (jI qk 0 (qJ 1)),qc 3 (jI qk 0 (qJ 1)),qh (PW.pt (zy (qM jP (qJ 2) qQ) (xW (qM jP (qJ 3) qQ)))) #[qL (qK T.D17 qP4 [2,3])] qO,qL (zf (jR jP (qJ 2) qQ) (zf (jR jP (qJ 3) qQ) (vY (qK T.D62 qFg [2,3]))))]
 rcases hv with ⟨rfl,rfl⟩|⟨pz,i,j,m,m',rfl,hp,hi,hj,hb,rfl⟩
 . show#[_,O,_,O,qA8 #[] (kk _<|Same.refl _)]
 ext;let#[va,af,Ia]:=ac.get' hi;let#[vb,ae,Ib]:=ac.get' hj;let#[za,xa,rfl,F,a0,_]:=Ia.opn;let#[zb,xb,rfl,J,b0,_]:=Ib.opn;symm;have k0:=kk H<|Same.refl _;show#[_,O,_,O,jw (λc=>YC c #[]) (λ_=>?_)];show#[_,O,ixO hp at0 #[z,_,_,_,O,O,SqL.of hz,jC af,?_]];show#[_,O,ixO hp at1 #[z,_,_,_,O,O,SqL.of hz,jC ae,?_]];have dw:∀{x:Im} {w:Str},x.wd=w->decide (V.str x.wd=V.str w)=true:=λh=>by rw[h];simp
 have dn:∀{x:Im} {w:Str},x.wd≠w->decide (V.str x.wd=V.str w)=false:=λh=>by rw[qX7];show YW h
 have cn:("clip":Str)≠"nest":=⋯
 have nc:("nest":Str)≠"clip":=⋯
 have ad:¬(m.wd="clip"/\m'.wd="clip")->¬(m.wd="nest"/\m'.wd="nest")->qG7 m m'=false:=λh1 h2=>by cases m <;> cases m' <;> first|rfl|show YC #[rfl,rfl] h1|show YC #[rfl,rfl] h2
 have aa:¬(m.wd="clip"/\m'.wd="clip")->m.wd≠"nest"->qG7 m m'=false:=λh1 h2=>ad h1 λz=>h2 z.1;by_cases h1:m.wd="clip"
 . show(ixO F a0 #[O,_,O,qA8 (dw h1) ?_])
   by_cases h2:m'.wd="clip"
   . show(ixO J b0 #[O,_,O,qA8 (dw h2) ?_])
     ext;let#[n,p,q,r,s1,l,rfl]:=qFi h1;let#[n',p',q',r',s2,l',rfl]:=qFi h2;symm;show#[_,O,_,O,_,_,n,n',p,q,r,s1,l,p',q',r',s2,l',O,qIi Ia,qIi Ib,hb.1,hb.2,λH1 e1=>kk H1 e1]
   . show(ixO J b0 #[O,_,O,qCf (dn h2) ?_])
     rw[aa (λz=>h2 z.2) (by rw[h1];show cn)]at k0;show(ixO F a0 #[O,_,O,qCf (dn (by rw[h1];show cn)) k0])
 . show(ixO F a0 #[O,_,O,qCf (dn h1)<|jH ?_])
   by_cases h3:m.wd="nest"
   . show(ixO F a0 #[O,_,O,qA8 (dw h3) ?_])
     by_cases h4:m'.wd="nest"
     . show(ixO J b0 #[O,_,O,qA8 (dw h4) ?_])
       ext;let#[n,b,l,rfl]:=qNf h3;let#[n',b',l',rfl]:=qNf h4;symm;show#[_,O,_,O,_,_,n,n',b,l,b',l',O,Ia,Ib,k0]
     . rw[ad (λz=>h1 z.1) (λz=>h4 z.2)]at k0
       show(ixO J b0 #[O,_,O,qCf (dn h4) k0])
   . rw[aa (λz=>h1 z.1) h3]at k0
     show(ixO F a0 #[O,_,O,qCf (dn h3) k0])
noncomputable def glue:Im->Im->Im
 |.clip n p q r s l,m'=>.clip n p q r s (l+m'.l)
 |.nest n b l,m'=>.nest n b (l+m'.l)
 |m,_=>m
def kZ(ms:LI)(t:Int):Option LI:=match nbF ms t with
 |none=>none
 |some (i,j)=>match ms[i.toNat]?,ms[j.toNat]? with
  |some m,some m'=>if qG7 m m'=true then some (ms.take i.toNat++[glue m m']++ms.drop (j.toNat+1))else none
  |_,_=>none
theorem qIy:∀(ms:LI) (b:Int) (i:Nat) (t:Int) (j:Nat) (d:Int),jo b i ms t=some (j,d)->j<i+ms.length
 |[],_,_,_,_,_,h=>by cases h
 |m::ms,b,i,t,j,d,h=>by
  rw[jo]at h;rw[YE];split at h
  . cases h;lia
  . have:=qIy ms _ _ _ _ _ h;lia
def qZc{t i:Int}(h:nbF ms t=some (i,j)):∃k:Nat,j=(k:Int)/\k<ms.length/\i<j:=by
 delta nbF at h;split at h
 . rename_i k d hi
   split at h
   . cases h
   . cases h
     have:=qIy _ _ _ _ _ _ hi;show#[k,O,(),by split <;> lia]
 . cases h
inductive qKu(N M:Addr)(vs:LV)(H:Hp)(Q:VK)(E:XK):Prop
|mk (tz dz:Addr) (ts:LL) (tie:LN) (n0:Nat) (ms:LI) (t:Int) (_:vs=[.ref tz,.ref dz]) (_:TabG H tz ts tie n0) (_:ts[n0]?=some ms) (_:H dz=some (.tup [.str "heal",.int (n0:Int),.int t])) (_:(∀m∈ms,ImH m)) (_:(∀i j,nbF ms t=some (i,j)->0<=i)) (_:(kZ ms t=none->∀H',Same H H'->E (.ref N) none H')) (_:∀r,kZ ms t=some r->(jO ts (chF tie (n0:Int) false) t t=true->∀H',Same H H'->E (.ref M) none H')/\(jO ts (chF tie (n0:Int) false) t t=false->∀(t':Addr) (H':Hp),Same H H'->TabF H' (.ref t') (ts.set n0 r) tie->Q (.ref t') H'))
def qUt{v':V}(hc:qG7 m m'=true)(h:IsI H m v)(h':IsI H m' v'):∃(za zb:Addr) (F xb:LV) (l l':Int),v=.ref za/\v'=.ref zb/\H za=some (.tup F)/\H zb=some (.tup xb)/\atI F (-1)=some (.int l)/\atI xb (-1)=some (.int l')/\¬(HT.sIx F.length 0 none=0/\HT.sIx F.length F.length (some (-1))=F.length)/\(vP F none<|some (-1)).length<=4/\vP F none (some (-1))≠[]/\∀(H':Hp) (t:Addr),Same H H'->H' t=some (.tup<|vP F none (some (-1))++[.int<|l+l'])->IsI H' (glue m m') (.ref t):=by
 rcases kW hc with ⟨n,p,q,r,s,l,n',p',q',r',s',l',rfl,rfl⟩|⟨n,b,l,n',b',l',rfl,rfl⟩
 . let#[za,x,y,rfl,hz,hx,hy]:=h
   let#[zb,x',y',rfl,J,_]:=h';show#[za,zb,_,_,l,l',O,O,hz,J,O,O,by change ¬(HT.sIx 5 0 none=0/\HT.sIx 5 5 (some (-1))=5);decide,by change 4<=4;decide,List.cons_ne_nil _ _,λH' t e ht=>#[t,x,y,O,ht,e _ _ hx,e _ _ hy]]
 . let#[za,rfl,hz]:=h
   let#[zb,rfl,J]:=h';show#[za,zb,_,_,l,l',O,O,hz,J,O,O,by change ¬(HT.sIx 4 0 none=0/\HT.sIx 4 4 (some (-1))=4);decide,by change 3<=4;decide,List.cons_ne_nil _ _,λH' t e ht=>#[t,O,ht]]
def qMd:Fx P w base T.D64 7 (qKu a.k_NoPlace a.k_Mixed):=by
 rcases oX T.D64.F,wG with⟨tz,dz,ts,tie,n0,ms,t,rfl,hP,ap,hd,ar,aC,kb,kg⟩;exists #[qc 2 (jI qk (qJ 0) (qJ 1)),qc 3 (qK T.D30 vc [2,qJ 1]),qh (jg (jQ (qK T.D63 qH8 [2,3]))) #[xZ rfl rfl T.c_NoPlace T.x_NoPlace [qQ]] qO,qt (xA T.D60 vk [0,1]),qc 4 (jI qk 2 (qJ 3)),qc 5 (qR qWr (xP qYe 4 zT (zh (qA0 zX qH))) (qZ [qR qx (jI qHk 4 (qA0 zX qH)) (jI qHk (jI qk 2 (qJ 3)) (qA0 zX qH))])),qL (qK T.D52 j8 [0,qJ 1,qR vW (qR vW (xP kD 2 zT (zh (qJ 3))) (qr [5])) (xP kD 2 (zh (qR qx (qJ 3) qH)) zT)])]
 have ad:(1:Nat)<=sizeLine:=#[]
 have a1:atI [V.str "heal",.int (n0:Int),.int t] 1=some (.int (n0:Int)):=rfl;have sm:∀j:Nat,j<=1000->j<=sizeLine:=λj h=>by have:=qf (n:=j) ();lia
 ext;let#[tt,tl,ti,zs,e0,g2,g3,g4,g5]:=id hP.tab;cases e0;have aI:=g4.len;have as:=hP.nt;have ez:zs[n0]?=some (zs[n0]'()):=YD ();let#[ms',z,af,aq,tT]:=g4.get ez;rw[ap]at af;cases af;rw[aq]at ez;let#[aM,aO]:=hP.ok ms<|YF ap;symm;show(ixO g2 at0<|ixO hd qNe #[tl,_,_,_,O,O,SqL.of g3,jC ez,?_]);show#[_,O,ixO hd qP0 #[z,ms,_,O,tT,?_]];delta kZ at kb kg;cases hnb:nbF ms t with
 |none=>
  rw[hnb]at kb;intro H1 e1;show#[_,O,_,O,z,_,ms,false,O,tT.same e1,.inl #[O,O],λH2 e2=>#[false,O,ju #[ad,kb rfl H2<|e1.trans e2]]]
 |some rr=>
 ext;let#[ii,jj]:=rr;let#[k,rfl,hk,aJ]:=qZc hnb;have aL:=aC _ _ hnb;let#[i,rfl]:∃i:Nat,ii=(i:Int):=#[ii.toNat,()];let#[m,hi]:∃m,ms[i]?=some m:=#[_,YD ()];let#[m',hj]:∃m,ms[k]?=some m:=#[_,YD hk];symm;rw[hnb]at kb kg;dsimp only at kb kg;rw[YQ,YQ,hi,hj]at kb kg;dsimp only at kb kg;intro pz H1 e1 an;show#[_,O,_,O,z,_,ms,qG7 m m',O,tT.same e1,.inr #[pz,i,k,m,m',O,an,hi,hj,ar m<|YF hi,O],λH2 e2=>#[_,O,?_]];have ac:=e1.trans e2;cases hcan:qG7 m m' with
 |false=>
  rw[hcan]at kb;show ju #[ad,kb rfl H2 ac]
 |true=>
 rw[hcan]at kg;let#[kM,kQ]:=kg _ rfl;show jH #[_,O,_,O,tz,dz,ts,tie,n0,.hel t,O,hP.same ac,ac _ _ hd,λht H3 e3=>kM ht H3<|ac.trans e3,λht H3 e3=>?_];have kQ:=kQ ht;have ao:=ac.trans e3;have J:=(e2.trans e3) _ _ an;ext;let#[vs,hz,ae]:=tT.same ao;have aK:=ae.len;let#[va,az,Ia]:=ae.get' hi;let#[vb,aD,Ib]:=ae.get' hj;let#[za,zb,xa,xb,l,l',rfl,rfl,ak,aH,aw,aF,al,aN,hne,aA]:=qUt hcan Ia Ib;symm;show#[_,O,ixO J at0 #[z,_,_,_,O,O,SqL.of hz,jC az,?_]];show#[_,O,1,O,_,O,za,_,O,SqT.of ak,al,λt ht=>?_];have y1:=qE ht<|.tup (vP xa none<|some (-1));show#[_,O,1,O,za,_,_,_,O,O,SqT.of<|y1 _ _ ak,aw,_,O,ixO (y1 _ _ J) at1 #[z,_,_,_,O,O,SqL.of<|y1 _ _ hz,jC aD,1,O,zb,_,_,_,O,O,SqT.of<|y1 _ _ aH,aF,_,_,O,O,ad,λt2 aE=>?_]];have y2:=qE aE<|.tup [.int<|l+l'];show#[t,t2,_,_,O,O,SqT.of<|y2 _ _ qC,SqT.of qC,hne,sm _ (by change (vP xa none<|some (-1)).length+1<=1000;lia),λz=>YC z #[],λ_ t3 ax=>?_];have y3:=qE ax (.tup<|vP xa none (some (-1))++[.int<|l+l']);have F:=(y1.trans y2).trans y3;have IW:=aA _ t3 F qC;change _;generalize upd (upd (upd H3 t<|.tup (vP xa none<|some (-1))) t2<|.tup [.int<|l+l']) t3 (.tup<|vP xa none (some (-1))++[.int<|l+l'])=H4 at F IW;have e4:=ao.trans F;show#[_,O,ixO (e4 _ _ hd) a1 ?_];show#[_,O,ixO (F _ _ J) at0 #[_,O,z,_,O,SqL.of<|F _ _ hz,λah aG=>?_]];have v1:=qE aG<|.lst (vP vs none<|some (i:Int));show#[_,O,ad,λai au=>?_];have v2:=qE au<|.lst [.ref t3];have c1:=vB vs none<|some (i:Int);have c2:=vB vs (some<|(k:Int)+1) none;show#[ah,ai,_,_,O,O,v2 _ _ qC,qC,sm _ (by change (vP vs none<|some (i:Int)).length+1<=1000;lia),λa3 aB=>?_];have v3:=qE aB (.lst<|vP vs none (some (i:Int))++[.ref t3]);have aj:=(v1.trans v2).trans v3;show#[_,O,z7 rfl (SqT.of<|(F.trans aj) _ _ J) at1 #[_,_,O,O,_,O,z,_,O,SqL.of<|(F.trans aj) _ _ hz,λa4 ay=>?_]];have v4:=qE ay (.lst<|vP vs (some<|(k:Int)+1) none);show#[a3,a4,_,_,O,O,v4 _ _ qC,qC,sm _ (by rw[YN];change (vP vs none<|some (i:Int)).length+1+_<=1000;lia),λa5 av=>?_];have v5:=qE av (.lst<|vP vs none (some (i:Int))++[.ref t3]++vP vs (some<|(k:Int)+1) none);have ag:=(aj.trans v4).trans v5;have e5:=e4.trans ag;have ed:vP vs (some<|(k:Int)+1) none=vs.drop (k+1):=by rw[show (k:Int)+1=((k+1:Nat):Int) by lia];show qEg vs (k+1)
 have aa:=(ae.ts<|qd F).ts<|qd ag;have am:=IW.ts<|qd ag;have kE:(upd (upd (upd (upd (upd H4 ah<|.lst (vP vs none<|some (i:Int))) ai<|.lst [.ref t3]) a3 (.lst<|vP vs none (some (i:Int))++[.ref t3])) a4 (.lst<|vP vs (some<|(k:Int)+1) none)) a5 (.lst<|vP vs none (some (i:Int))++[.ref t3]++vP vs (some<|(k:Int)+1) none)) a5=some (.lst<|vP vs none (some (i:Int))++[.ref t3]++vP vs (some<|(k:Int)+1) none):=qC;change _;generalize (upd (upd (upd (upd (upd H4 ah<|.lst (vP vs none<|some (i:Int))) ai<|.lst [.ref t3]) a3 (.lst<|vP vs none (some (i:Int))++[.ref t3])) a4 (.lst<|vP vs (some<|(k:Int)+1) none)) a5 (.lst<|vP vs none (some (i:Int))++[.ref t3]++vP vs (some<|(k:Int)+1) none))=HB at e5 aa am kE;rw[wp,ed]at kE;show#[tz,a5,n0,ts,tie,ms.take i++[glue m m']++ms.drop (k+1),rfl,hP.tab.same e5,#[_,kE,(aa.take.app<|.one am).app aa.drop],as,by have:=hP.len;lia,λt' H6 e6 hN=>kQ t' H6 (e5.trans e6) hN]
inductive Res where
 |place
 |mixed
 |short (M:Int)
 |good (ts:LL)
inductive De where
 |hel (t:Int)
 |mix (t l:Int)
 |unm (t:Int)
 |rol (w:Str) (t b:Int)
 |chg (d:Dk)
def DeAt(H:Hp)(dz:Addr)(n:Nat):De->Prop
 |.hel t=>H dz=some (.tup [.str "heal",.int (n:Int),.int t])
 |.mix t l=>H dz=some (.tup [.str "mix",.int (n:Int),.int t,.int l])
 |.unm t=>H dz=some (.tup [.str "unmix",.int (n:Int),.int t])
 |.rol w t b=>Wd3 w/\H dz=some (.tup [.str w,.int (n:Int),.int t,.int b])
 |.chg d=>DAt H dz (n:Int) d/\∀t,d≠ .hel t
theorem DeAt.same{H H':Hp}{dz:Addr}{n:Nat}{d:De}(e:Same H H')(h:DeAt H dz n d):DeAt H' dz n d:=by
 cases d with
 |rol w t b=>show#[h.1,e _ _ h.2]
 |chg d=>show#[h.1.same e,h.2]
 |_=>show e _ _ h
def DeOk(H:Hp)(rd:Addr)(ms:LI):De->Prop
 |.hel t=>0<=t/\(∀m∈ms,ImH m)/\∀i j,nbF ms t=some (i,j)->0<=i
 |.mix t l=>0<=t/\1<=l
 |.unm t=>0<=t
 |.rol _ t b=>0<=t/\b.natAbs<=1000000
 |.chg d=>(∃t,d=.cut t/\0<=t/\qz ms t=false)\/DOk H rd ms d
theorem DeOk.same{H H':Hp}{rd:Addr}{ms:LI}{d:De}(e:Same H H')(h:DeOk H rd ms d):DeOk H' rd ms d:=by
 cases d with
 |chg d=>show h.imp id (DOk.same e)
 |_=>show h
def wiB(ms:LI):Dk->Bool
 |.cut t=>qz ms t
 |_=>true
def zI(rl:Rls)(ts:LL)(tie:LN)(n:Nat)(ms:LI):De->Res
 |.hel t=>match kZ ms t with
  |none=>.place
  |some ms'=>if jO ts (chF tie (n:Int) false) t t=true then .mixed else .good (ts.set n ms')
 |.mix t l=>match cbF ms t with
  |none=>.place
  |some (i,j)=>if j=i+1 then (match mmF rl ms t with
   |none=>.place
   |some M=>if M<l then .short M else .good (ts.set n<|ms.take (i.toNat+1)++[.mix l]++ms.drop (i.toNat+1)))else .place
 |.unm t=>match cbF ms t with
  |none=>.place
  |some (i,j)=>if j=i+1 then .place else .good (ts.set n<|ms.take (i.toNat+1)++ms.drop (i.toNat+2))
 |.rol w t b=>match plF w ms t with
  |none=>.place
  |some is=>if is.any (hmB ms)=true then .mixed else if wn b<=qJt rl ms w is b then .good (ts.set n<|qCh ms w is b)else .short (sgM b<|qJt rl ms w is b)
 |.chg d=>if wiB ms d=true then (if jO ts (chF tie (n:Int) d.push) d.t d.hi=true then .mixed else .good (vC ts d (n:Int)<|chF tie (n:Int) d.push))else .place
noncomputable def De.t:De->Int
 |.hel t=>t
 |.mix t _=>t
 |.unm t=>t
 |.rol _ t _=>t
 |.chg d=>d.t
def DdX(_:Fg)(H:Hp)(rd dz:Addr)(rl:Rls)(ts:LL)(tie:LN)(r:Res):Prop:= ∃(n:Nat) (ms:LI) (d:De),ts[n]?=some ms/\DeAt H dz n d/\DeOk H rd ms d/\r=zI rl ts tie n ms d
inductive xO(K:Fg)(N M S:Addr)(vs:LV)(H:Hp)(Q:VK)(E:XK):Prop
|mk (tz dz rd:Addr) (rl:Rls) (ts:LL) (tie:LN) (r:Res) (_:vs=[.ref tz,.ref dz,.ref rd]) (_:TabD H tz rd rl ts tie) (_:DdX K H rd dz rl ts tie r) (_:(r=.place->∀H',Same H H'->E (.ref N) none H')) (_:(r=.mixed->∀H',Same H H'->E (.ref M) none H')) (_:(∀m,r=.short m->∀(dx:Addr) (H':Hp),Same H H'->H' dx=some (.xd [("most",.int m)])->E (.ref S) (some dx) H')) (_:(∀ts',r=.good ts'->∀(t':Addr) (H':Hp),Same H H'->TabF H' (.ref t') ts' tie->Q (.ref t') H'))
def qO3{t i:Int}(h:cbF ms t=some (i,j)):∃k:Nat,i=(k:Int)/\(j=((k+1:Nat):Int)\/j=((k+2:Nat):Int)):=by let#[k,_,_,_,_,_,_,rfl,_]:=xG (zK h).1;show#[k,rfl,by have:=qSw h;lia]
structure DeW(H:Hp)(dz:Addr)(n:Nat)(d:De)(xs:LV)(w:Str):Prop where
 hd:H dz=some (.tup xs)
 a1:atI xs 1=some (.int (n:Int))
 nc:jAn xs w d.t
 nw:¬Wd3 w
 t0:0<=d.t
noncomputable def De.k:De->Nat
 |.hel _=>0
 |.mix .. =>1
 |.unm _=>2
 |.chg _=>3
 |.rol .. =>4
def KW(w:Str)(k:Nat):Prop:=(w="heal"↔k=0)/\(w="mix"↔k=1)/\(w="unmix"↔k=2)
instance (w:Str) (k:Nat):Decidable (KW w k):=by delta KW;infer_instance
def qVc{d:De}(h:DeAt H dz n d)(F:DeOk H rd ms d)(hr:d.k≠4):∃xs w,DeW H dz n d xs w/\KW w d.k:=by
 have no:∀{w x y:Str} {p:Prop},w≠x/\w≠y->w=x\/w=y->p:=λh1 h2=>h2.elim (λe=>YC e h1.1) (λe=>YC e h1.2);have J:∀{xs:LV} {w:Str},(¬Wd3 w/\KW w d.k)->H dz=some (.tup xs)->atI xs 1=some (.int (n:Int))->0<=d.t->jAn xs w d.t->∃xs w,DeW H dz n d xs w/\KW w d.k:=λ{xs w} h1 h2 h3 h4 h5=>#[xs,w,#[h2,h3,h5,h1.1,h4],h1.2];have kw:((¬Wd3 "heal"/\KW "heal" 0)/\(¬Wd3 "mix"/\KW "mix" 1)/\(¬Wd3 "unmix"/\KW "unmix" 2))/\(¬Wd3 "cut"/\KW "cut" 3)/\(¬Wd3 "open"/\KW "open" 3)/\(¬Wd3 "close"/\KW "close" 3)/\(¬Wd3 "lift"/\KW "lift" 3)/\(¬Wd3 "lay_in"/\KW "lay_in" 3)/\(¬Wd3 "lay_over"/\KW "lay_over" 3):=⋯
 cases d with
 |rol w t b=>show YC rfl hr
 |hel t=>show J kw.1.1 h rfl F.1 #[rfl,rfl,no ⋯,no ⋯]
 |mix t l=>show J kw.1.2.1 h rfl F.1 #[rfl,rfl,λ_=>#[l,rfl,F.2],no ⋯]
 |unm t=>show J kw.1.2.2 h rfl F #[rfl,rfl,no ⋯,no ⋯]
 |chg d=>
  let#[h,hne]:=h;cases d with
  |hel t=>show YC rfl (hne t)
  |cut t=>show J kw.2.1 h rfl (F.elim (λ#[_,e,q,_]=>by cases e;show q) (λq=>q.1)) #[rfl,rfl,no ⋯,no ⋯]
  |opn t l=>
   have F:=F.elim (λ#[_,e,_]=>by cases e) id;show J kw.2.2.1 h rfl F.1 #[O,O,λ_=>#[l,O,F.2.2],no ⋯]
  |cls t u=>
   have F:=F.elim (λ#[_,e,_]=>by cases e) id;show J kw.2.2.2.1 h rfl F.1 #[O,O,no ⋯,λ_=>#[u,O,F.2.1]]
  |lft t u=>
   have F:=F.elim (λ#[_,e,_]=>by cases e) id;show J kw.2.2.2.2.1 h rfl F.1 #[O,O,no ⋯,λ_=>#[u,O,F.2.1]]
  |lin t m=>
   have F:=F.elim (λ#[_,e,_]=>by cases e) id;let#[v,h,_]:=h;show J kw.2.2.2.2.2.1 h rfl F.1 #[O,O,no ⋯,no ⋯]
  |lov t m=>
   have F:=F.elim (λ#[_,e,_]=>by cases e) id;let#[v,h,_]:=h;show J kw.2.2.2.2.2.2 h rfl F.1 #[O,O,no ⋯,no ⋯]
def xf:Fx P w base T.D69 10 (xO K a.k_NoPlace a.k_Mixed a.k_Short):=by
 rcases oX T.D69.F,qL3 with⟨tz,dz,rd,rl,ts,tie,r,rfl,hP,⟨n,ms,d,hm,hA,hO,F⟩,k0,k1,k4,k2⟩;exists #[qh (qM j2 (qJ 1) (jb (v:=.ref a.n_ROLLS) rfl T.g_ROLLS rfl) rfl) #[qL (xA T.D53 qQy [0,1,2])] qO,qt (qK T.D41 qAl [0,qJ 1,qJ 1]),qt (qK T.D58 qDt [1]),qh (qM jP (qJ 1) qQ) #[qL (xA T.D64 qMd [0,1])] qO,qh (qM jP (qJ 1) qQ) #[qL (xA T.D65 qM1 [0,1,2])] qO,qh (qM jP (qJ 1) qQ) #[qL (xA T.D66 qIc [0,1])] qO,qt (xA T.D61 qDu [0,1,2]),qL (qK T.D68 qLg [0,1])]
 ext;let#[tt,tl,ti,zs,e0,g2,g3,g4,g5]:=id hP.tab;cases e0;symm;have al:=g4.len;have hn:=(glt hm);by_cases hk:d.k=4
 . cases d with
   |rol wd t b=>
    ext;let#[hw,hd]:=hA;let#[_,an,ag]:=hP.ok ms<|YF hm;symm;rw[zI]at F;show(ixO hd qBq #[a.n_ROLLS,_,O,.inr<|T.sq_ROLLS _,O,O,true,zq (by rw[qPg];show YX hw),ju ?_]);show#[_,rfl,_,rfl,_,rfl,tz,dz,rd,ts,tie,wd,n,t,b,ms,rl,rfl,hP.tab,hd,hw,hm,hO.1,hO.2,by have:=hP.len;lia,(),ag,hP.re,λhp=>?_,λis hp=>#[λhx=>?_,λhx=>#[λJ=>?_,λJ=>?_]]]
    . rw[hp]at F
      show k0 F
    . rw[hp]at F
      dsimp only at F;rw[YB hx]at F;show k1 F
    . rw[hp]at F
      dsimp only at F;rw[YA (by rw[hx];decide),YB J]at F;show k2 _ F
    . rw[hp]at F
      dsimp only at F;rw[YA (by rw[hx];decide),YA J]at F;show k4 _ F
   |_=>cases hk
 ext;let#[xs,w,hW,aa]:=qVc hA hO hk;let#[hd,a1,hN,hw,t0]:=id hW;symm;have a0:=hN.1;have a2:=hN.2.1;have hG:=hP.g hn;have dT:∀{x:Str},w=x->decide (V.str w=V.str x)=true:=λh=>by rw[h];simp
 have dF:∀{x:Str},w≠x->decide (V.str w=V.str x)=false:=λh=>by rw[qX7];show YW h
 show(ixO hd a0 #[a.n_ROLLS,_,O,.inr<|T.sq_ROLLS _,O,O,false,zq (by rw[qPg];show YW hw),jH ?_]);show#[_,O,ixO hd a1<|ixO hd a2 #[tz,tl,ti,zs,_,_,O,g2,g3,(),(),t0,?_]];show#[_,O,dz,xs,w,d.t,O,hd,hN,λH1 e1=>?_];have ac:=hG.same e1;have ad:=hA.same e1;show(ixO (e1 _ _ hd) a0 #[O,_,O,jw (λc=>?_) (λc=>?_)])
 . let#[t,rfl]:∃t,d=.hel t:=by
    have:=aa.1.mp<| ~~~c;cases d with
    |hel t=>show#[t,rfl]
    |_=>cases this
   ext;let#[_,ah,aj]:=hO;symm;show#[_,O,_,O,tz,dz,ts,tie,n,ms,t,O,ac,hm,ad,ah,aj,λh H2 e2=>?_,λms' h=>#[λht H2 e2=>?_,λht t' H2 e2 hN=>?_]]
   . rw[zI]at F
     rw[h]at F;show k0 F H2 (e1.trans e2)
   . rw[zI]at F
     rw[h]at F;dsimp only at F;rw[ht,YB rfl]at F;show k1 F H2 (e1.trans e2)
   . rw[zI]at F
     rw[h]at F;dsimp only at F;rw[ht,YA #[]]at F;show k2 _ F t' H2 (e1.trans e2) hN
 have n0:d.k≠0:=λz=>c (dT<|aa.1.mpr z);show(ixO (e1 _ _ hd) a0 #[O,_,O,jw (λc=>?_) (λc=>?_)])
 . let#[t,l,rfl]:∃t l,d=.mix t l:=by
    have:=aa.2.1.mp<| ~~~c;cases d with
    |mix t l=>show#[t,l,rfl]
    |_=>cases this
   have ag:=(hP.ok ms<|YF hm).2.2;show#[_,O,_,O,_,O,tz,dz,rd,ts,tie,n,ms,t,l,rl,O,ac,hm,ad,ag,hP.re.same e1,λh H2 e2=>?_,λi M J hM=>#[λai dx H2 e2 hx=>?_,λam t' H2 e2 hN=>?_]]
   . show k0 ?_ H2 (e1.trans e2)
     rw[F];rw[zI];rcases h with h|⟨x,y,h,ak⟩
     . rw[h]
     . rw[h]
       dsimp only;rw[YA ak]
   . show k4 M ?_ dx H2 (e1.trans e2) hx
     rw[F];rw[zI];rw[J];dsimp only;rw[YB (),hM];dsimp only;rw[YB ai]
   . show k2 _ ?_ t' H2 (e1.trans e2) hN
     rw[F];rw[zI];rw[J];dsimp only;rw[YB (),hM];dsimp only;rw[YA (),YQ]
 have n1:d.k≠1:=λz=>c (dT<|aa.2.1.mpr z);show(ixO (e1 _ _ hd) a0 #[O,_,O,jw (λc=>?_) (λc=>?_)])
 . let#[t,rfl]:∃t,d=.unm t:=by
    have:=aa.2.2.mp<| ~~~c;cases d with
    |unm t=>show#[t,rfl]
    |_=>cases this
   show#[_,O,_,O,tz,dz,ts,tie,n,ms,t,O,ac,hm,ad,λh H2 e2=>?_,λi J t' H2 e2 hN=>?_]
   . show k0 ?_ H2 (e1.trans e2)
     rw[F];rw[zI];rcases h with h|⟨x,h⟩
     . rw[h]
     . rw[h]
       dsimp only;rw[YB rfl]
   . show k2 _ ?_ t' H2 (e1.trans e2) hN
     rw[F];rw[zI];rw[J];dsimp only;rw[YA (),YQ]
 have n2:d.k≠2:=λz=>c (dT<|aa.2.2.mpr z);let#[d',rfl]:∃d',d=.chg d':=by
  cases d with
  |chg d=>show#[d,rfl]
  |hel=>show YC rfl n0
  |mix=>show YC rfl n1
  |unm=>show YC rfl n2
  |rol=>show YC rfl hk
 rw[zI]at F;rcases id hO with ⟨t,rfl,h0,af⟩|hO'
 . rw[YA (by change ¬qz ms t=true;rw[af];decide)]at F
   show#[_,rfl,_,rfl,_,rfl,tz,dz,rd,ts,tie,n,ms,0,rfl,ac,hm,.cut0 ad.1 af,λ_ H2 e2=>k0 F H2<|e1.trans e2,(λJ=>by cases J),λJ=>by cases J]
 have af:wiB ms d'=true:=by
  cases d' with
  |cut t=>show hO'.2.2
  |_=>rfl
 rw[YB af]at F;show#[_,O,_,O,_,O,tz,dz,rd,ts,tie,n,ms,_,O,ac,hm,(ChO.ok hA.1 hO' rfl).same e1,λJ=>?_,λJ H2 e2=>?_,λJ H2 e2=>?_]
 . split at J <;> cases J
 . split at J
   . rename_i ht
     rw[YB ht]at F;show k1 F H2 (e1.trans e2)
   . cases J
 . split at J
   . cases J
   . rename_i ht
     rw[YA ht]at F;have ae:=e1.trans e2;show#[_,O,_,O,tz,dz,rd,ts,tie,n,d',ms,O,hG.same ae,hA.1.same ae,hO'.same ae,λt' H3 e3 hN=>k2 _ F t' H3 (ae.trans e3) hN]
theorem DdX.mix{K:Fg}{H:Hp}{rd dz:Addr}{rl:Rls}{F:LL}{tie:LN}{n i:Nat}{t l M:Int}{ms:LI}{r:Res}(hd:H dz=some (.tup [.str "mix",.int (n:Int),.int t,.int l]))(hm:F[n]?=some ms)(h0:0<=t)(hl:1<=l)(J:cbF ms t=some ((i:Int),((i+1:Nat):Int)))(hM:mmF rl ms t=some M)(hr:r=if M<l then .short M else .good (F.set n<|ms.take (i+1)++[.mix l]++ms.drop (i+1))):DdX K H rd dz rl F tie r:=by show#[n,ms,.mix t l,hm,hd,#[h0,hl],?_];rw[hr,zI,J];dsimp only;rw[YB (show ((i+1:Nat):Int)=(i:Int)+1 by lia),hM];dsimp only;rw[YQ]
def SB(z:Addr)(H H':Hp):Prop:= ∀b u,b≠z->H b=some u->H' b=some u
def SB.refl(z:Addr)(H:Hp):SB z H H:=λ_ _ _ h=>h
def SB.trans(a:SB z H H1)(b:SB z H1 H2):SB z H H2:=λc u n h=>b c u n<|a c u n h
def vF(e:Same H H'):SB z H H':=λb u _ h=>e b u h
def z8:SB z H (upd H z o):=λb u n h=>by rw[qS n];show h
def SB.ts(e:SB z H H')(h:H z=some (.lst xs)):TS H H':=λb ys F=>e b _ (xt F h (by intro q;cases q)) F
def SB.free(e:SB z H H'){y:Addr}(F:y≠z)(h:H' y=none):H y=none:=by
 cases q:H y with
 |none=>rfl
 |some u=>rw[e y u F q]at h;cases h
def qXo:∀(zs:LI),(∀z∈zs,0<=z.mo)->0<=(zs.map Im.mo).sum:=λzs=>by
 induction zs with
 |nil=>intro _;simp
 |cons z zs ih=>intro h;have:=ih λy F=>h y (by simp[F]);have:=h z #[];rw[ZH,List.sum_cons];lia
def NLM(A:LI):Prop:= ∀l,A.getLast?≠some (.mix l)
def NHM(A:LI):Prop:= ∀l,A.head?≠some (.mix l)
def qI(m:Im)(ms:LI):qY (m::ms)=m.mo+qY ms:=by simp[qY]
def qV(A B:LI):qY (A++B)=qY A+qY B:=by simp[qY]
def qj:qY []=0:=rfl
def xX(m:Im)(A:LI):(m::A).getLast?=A.getLast?.or (some m):=by
 cases A with
 |nil=>rfl
 |cons a A=>rw[List.getLast?_cons_cons];cases h:(a::A).getLast? with
  |none=>simp at h
  |some x=>rfl
def Nn(ms:LI):Prop:= ∀m∈ms,0<=m.mo
def Nn.tail(h:Nn (m::ms)):Nn ms:=λx F=>h x (by simp[F])
def Nn.len(h:Nn ms):0<=qY ms:=qXo ms h
def Wf(m:Im):Prop:=match m with
 |.clip _ p q r s l=>0<q/\0<s/\Int.gcd p q=1/\1<=l
 |.nest _ _ l=>1<=l
 |.gap l=>1<=l
 |.mix l=>1<=l
theorem Wf.mo{m:Im}(h:Wf m):0<=m.mo:=by
 cases m with
 |clip n p q r s l=>have:1<=l:=h.2.2.2;change 0<=l;lia
 |nest n b l=>have h:1<=l:=h;change 0<=l;lia
 |gap l=>have h:1<=l:=h;change 0<=l;lia
 |mix l=>show YH _
def jJ(lo hi:Int):(qo m lo hi).mo=hi-lo:=by cases m <;> rfl
def xh(m:Im)(lo hi:Int):(qo m lo hi).wd≠"mix":=by
 cases m
 . change ("clip":Str)≠"mix";decide+kernel
 . change ("nest":Str)≠"mix";decide+kernel
 . change ("gap":Str)≠"mix";decide+kernel
 . change ("gap":Str)≠"mix";decide+kernel
def cutF:Int->LI->LI×LI
 |_,[]=>([],[])
 |t,m::ms=>if m.mo<=t then (m::(cutF (t-m.mo) ms).1,(cutF (t-m.mo) ms).2)else if 0<t then ([qo m 0 t],qo m t m.mo::ms)else ([],m::ms)
theorem jz:∀(ms:LI) (c:Int),0<=c->((cutF c ms).1++(cutF c ms).2=ms/\(qY (cutF c ms).1=c\/(qY (cutF c ms).1=qY ms/\qY ms<=c/\(cutF c ms).2=[])))\/∃(A B:LI) (m:Im) (d:Int),ms=A++m::B/\(cutF c ms).1=A++[qo m 0 d]/\(cutF c ms).2=qo m d m.mo::B/\0<d/\d<m.mo/\m.wd≠"mix"/\c=qY A+d
 |[],c,hc=>.inl #[rfl,.inr #[rfl,by rw[qj];show hc,rfl]]
 |m::ms,c,hc=>by
  rw[cutF];by_cases h:m.mo<=c
  . rw[YB h]
    dsimp only;rcases jz ms (c-m.mo) ()with ⟨h1,h2⟩|⟨A,B,x,d,h1,h2,h3,F,h5,h6,h7⟩
    . show .inl #[by rw[YT,h1],?_]
      rw[qI,qI];rcases h2 with h2|⟨h2,h3,F⟩
      . show .inl ()
      . show .inr #[(),(),F]
    . show .inr #[m::A,B,x,d,by rw[h1];rfl,by rw[h2];rfl,h3,F,h5,h6,by rw[qI];lia]
  . rw[YA h]
    by_cases J:0<c
    . rw[YB J]
      show .inr #[[],ms,m,c,O,O,O,J,(),λe=>?_,by rw[qj];lia];let#[l,rfl]:=jZ e;show h (by change (0:Int)<=c;lia)
    . rw[YA J]
      show .inl #[O,.inl (by change qY []=c;rw[qj];lia)]
def vS(J:m.wd≠"mix")(F:Wf m):qo m 0 m.mo=m:=by
 cases m with
 |mix l=>show YC rfl J
 |clip n p q r s l=>
  let#[h1,h2]:=qA5 (r:=r) (s:=s) F.1 F.2.1 F.2.2.1;change Im.clip n (plP p q r s 0) (plQ p q r s 0) r s (l-0)=_;rw[h1,h2,ZU]
 |nest n b l=>change Im.nest n (b+0) (l-0)=_;rw[Yc,ZU]
 |gap l=>change Im.gap (l-0)=_;rw[ZU]
def NMA(b c:Int)(ms:LI):Prop:= ∀x∈qm b ms,x.2.1≠c
def NMA.tail{c:Int}(h:NMA b c (m::ms)):NMA (b+m.mo) c ms:=λx F=>by
 by_cases J:m.wd="mix"
 . let#[l,rfl]:=jZ J
   show h x ?_;rw[qm];have e:b+(Im.mix l).mo=b:=by simp[Im.mo]
   rw[e]at F;simp[F]
 . show h x ?_
   rw[qy J];show F
def NMA.head{c:Int}{l:Int}(h:NMA b c (.mix l::ms)):b≠c:=h (b-l.fdiv 2,b,b+(l-l.fdiv 2)) (by rw[qm];simp)
def Wf.pos(h:Wf m)(F:m.wd≠"mix"):1<=m.mo:=by
 cases m with
 |clip n p q r s l=>show h.2.2.2
 |nest n b l=>show h
 |gap l=>show h
 |mix l=>show YC rfl F
theorem qLs:∀(ms:LI) (b c:Int),(∀m∈ms,Wf m)->0<=b->c<=b->ji 0 c b ms=[]
 |[],_,_,_,_,_=>rfl
 |m::ms,b,c,hw,h0,hc=>by
  have aa:=(hw m #[]).mo;rw[ji,qLs ms (b+m.mo) c (λx J=>hw x (by simp[J])) () (),Ye];by_cases F:m.wd="mix"
  . rw[YB F,YA ()]
  . rw[YA F,YA]
    delta xB qD6;split <;> split <;> lia
theorem qWu:∀(ms:LI) (b c:Int),(∀m∈ms,Wf m)->NMA b c ms->0<=b->b<=c->(b=0->NHM ms)->ji 0 c b ms=(cutF (c-b) ms).1
 |[],_,_,_,_,_,_,_=>rfl
 |m::ms,b,c,hw,hn,h0,hc,hh=>by
  have F:=hw m #[];have ac:=F.mo;rw[ji,cutF];by_cases J:m.wd="mix"
  . let#[l,rfl]:=jZ J
    have e0:(Im.mix l).mo=0:=rfl;have ae:=hn.head;have ad:b≠0:=λe=>hh e l rfl;rw[YB J,YB #[(),()],YB (),e0,qWu ms (b+0) c (λx hx=>hw x (by simp[hx])) hn.tail () () (λe=>YC e ())];rw[show c-(b+0)=c-b-0 by lia];rfl
  . have hp:=F.pos J
    have e1:xB 0 b=b:=by delta xB;split <;> lia
    rw[YA J,e1];by_cases h:m.mo<=c-b
    . have e2:qD6 c (b+m.mo)=b+m.mo:=by delta qD6;split <;> lia
      rw[e2,YB (),YB h,qWu ms (b+m.mo) c (λx hx=>hw x (by simp[hx])) hn.tail () () (λe=>YC e ()),show b-b=0 by lia,show b+m.mo-b=m.mo by lia,vS J F,show c-(b+m.mo)=c-b-m.mo by lia];rfl
    . have e2:qD6 c (b+m.mo)=c:=by delta qD6;split <;> lia
      rw[e2,YA h,qLs ms (b+m.mo) c (λx hx=>hw x (by simp[hx])) () (),Ye];by_cases aa:0<c-b
      . rw[YB (),YB aa,show b-b=0 by lia]
      . rw[YA (),YA aa]
theorem qGh:∀(ms:LI) (b c E:Int),(∀m∈ms,Wf m)->c<=b->(b=c->NHM ms)->E=b+qY ms->(∀x∈qm b ms,x.2.1<E)->ji c E b ms=ms
 |[],_,_,_,_,_,_,_,_=>rfl
 |m::ms,b,c,E,hw,hc,hh,hE,F=>by
  have J:=hw m #[];have ac:=J.mo;have hl:=Nn.len (ms:=ms) λx F=>(hw x (by simp[F])).mo;rw[qI]at hE;rw[ji];by_cases hm:m.wd="mix"
  . let#[l,rfl]:=jZ hm
    have hb:b≠c:=λe=>hh e l rfl;rw[qm]at F;have aa:b<E:=F (b-l.fdiv 2,b,b+(l-l.fdiv 2)) #[];have e0:b+(Im.mix l).mo=b:=by simp[Im.mo]
    rw[YB hm,YB #[(),aa],e0,qGh ms b c E (λx F=>hw x (by simp[F])) hc (λe=>YC e hb) (by simp[Im.mo]at hE;lia) (λx h=>F x (by simp[h]))];rfl
  . have hp:=J.pos hm
    rw[qy hm]at F;have e1:xB c b=b:=by delta xB;split <;> lia
    have e2:qD6 E (b+m.mo)=b+m.mo:=by delta qD6;split <;> lia
    rw[YA hm,e1,e2,YB (),show b-b=0 by lia,show b+m.mo-b=m.mo by lia,vS hm J,qGh ms (b+m.mo) c E (λx F=>hw x (by simp[F])) () (λe=>YC e ()) () F];rfl
theorem qXv:∀(ms:LI) (b c E:Int),(∀m∈ms,Wf m)->NMA b c ms->b<=c->E=b+qY ms->(∀x∈qm b ms,x.2.1<E)->ji c E b ms=(cutF (c-b) ms).2
 |[],_,_,_,_,_,_,_,_=>rfl
 |m::ms,b,c,E,hw,hn,hc,hE,F=>by
  have J:=hw m #[];have ad:=J.mo;have hl:=Nn.len (ms:=ms) λx F=>(hw x (by simp[F])).mo;rw[qI]at hE;rw[ji,cutF];by_cases hm:m.wd="mix"
  . let#[l,rfl]:=jZ hm
    have ae:=hn.head;have e0:(Im.mix l).mo=0:=rfl;rw[YB hm,YA (),YB (),Yg];dsimp only;have ac:=hn.tail;rw[e0]at ac⊢;rw[qm]at F;rw[qXv ms (b+0) c E (λx F=>hw x (by simp[F])) ac () () (λx h=>F x (by rw[Yc]at h;simp[h])),show c-(b+0)=c-b-0 by lia]
  . have hp:=J.pos hm
    rw[qy hm]at F;rw[YA hm];have e1:xB c b=c:=by delta xB;split <;> lia
    have e2:qD6 E (b+m.mo)=b+m.mo:=by delta qD6;split <;> lia
    rw[e1,e2];by_cases h:m.mo<=c-b
    . rw[YA (),YB h,Yg]
      dsimp only;rw[qXv ms (b+m.mo) c E (λx F=>hw x (by simp[F])) hn.tail () () F,show c-(b+m.mo)=c-b-m.mo by lia]
    . rw[YB (),YA h,show b+m.mo-b=m.mo by lia]
      have hh:b+m.mo=c->NHM ms:=λe=>YC e ();rw[qGh ms (b+m.mo) c E (λx F=>hw x (by simp[F])) () hh () F];by_cases aa:0<c-b
      . rw[YB aa];rfl
      . rw[YA aa,show c-b=0 by lia,vS hm J];rfl
def qKn(o:Option Im):Prop:= ∃n p q r s l,o=some (.clip n p q r s l)
def MO:Option Im->LI->Prop
 |_,[]=>True
 |p,.mix l::ms=>(qKn p/\qKn ms.head?)/\MO (some<|.mix l) ms
 |_,.clip n p q r s l::ms=>MO (some<|.clip n p q r s l) ms
 |_,.nest n b l::ms=>MO (some<|.nest n b l) ms
 |_,.gap l::ms=>MO (some<|.gap l) ms
def qp(h:m.wd≠"mix")(p:Option Im)(ms:LI):MO p (m::ms)=MO (some m) ms:=by
 cases m with
 |mix l=>show YC rfl h
 |_=>rfl
def MO.nh{p:Option Im}(h:MO p ms)(F:¬qKn p):NHM ms:=by
 cases ms with
 |nil=>intro l e;cases e
 |cons m ms=>
  intro l e;cases e;show F h.1.1
theorem jm:∀(A B:LI) (b:Int),qm b (A++B)=qm b A++qm (b+qY A) B
 |[],B,b=>by rw[qj,Yc];rfl
 |m::A,B,b=>by
  by_cases F:m.wd="mix"
  . let#[l,rfl]:=jZ F
    rw[YT,qm,qm,jm A B b,qI,show b+((Im.mix l).mo+qY A)=b+qY A by simp[Im.mo]];rfl
  . rw[YT,qy F,qy F,jm A B,qI,show b+(m.mo+qY A)=b+m.mo+qY A by lia]
theorem x5:∀(ms:LI) (b:Int),(∀m∈ms,Wf m)->∀x∈qm b ms,x.1<=x.2.1/\x.2.1<x.2.2/\b<=x.2.1/\x.2.1<=b+qY ms
 |[],b,_,x,h=>by cases h
 |m::ms,b,hw,x,h=>by
  have F:=hw m #[];have hl:=Nn.len (ms:=ms) λx J=>(hw x (by simp[J])).mo;have h0:=F.mo;rw[qI];by_cases hm:m.wd="mix"
  . let#[l,rfl]:=jZ hm
    have l1:1<=l:=F;have e0:(Im.mix l).mo=0:=rfl;rw[qm]at h;rcases YU.mp h with rfl|h
    . dsimp only
      have:=jM (p:=l) (q:=2) #[];show#[(),(),(),()]
    . have:=x5 ms b (λx J=>hw x (by simp[J])) x h
      lia
  . rw[qy hm]at h
    have:=x5 ms (b+m.mo) (λx J=>hw x (by simp[J])) x h;lia
theorem qHz:∀(ms:LI) (b:Int) (p:Option Im),(∀m∈ms,Wf m)->MO p ms->∀x∈qm b ms,x.2.1<b+qY ms
 |[],b,_,_,_,x,h=>by cases h
 |m::ms,b,p,hw,hM,x,h=>by
  have aa:=hw m #[];have F:∀m∈ms,Wf m:=λx J=>hw x (by simp[J]);have h0:=aa.mo;rw[qI];by_cases hm:m.wd="mix"
  . let#[l,rfl]:=jZ hm
    have e0:(Im.mix l).mo=0:=rfl;let#[#[h1,h2],h3]:=hM;rw[qm]at h;rcases YU.mp h with rfl|h
    . dsimp only
      let#[n,p,q,r,s,k,h2]:=h2;cases ms with
      |nil=>cases h2
      |cons y ms=>
       cases h2;have hk:1<=k:=(F _<|List.mem_cons_self ..).2.2.2;have hl:=Nn.len (ms:=ms) λx J=>(hw x (by simp[J])).mo;rw[qI];change b<b+(0+(k+qY ms));lia
    . have:=qHz ms b _ F h3 x h
      lia
  . rw[qp hm]at hM
    rw[qy hm]at h;have:=qHz ms (b+m.mo) _ F hM x h;lia
theorem MO.nl:∀{ms:LI} {p:Option Im},MO p ms->NLM ms
 |[],_,_=>λl e=>by cases e
 |m::ms,p,h=>λl e=>by
  rw[xX]at e;by_cases F:m.wd="mix"
  . let#[k,rfl]:=jZ F
    cases ms with
    |nil=>let#[_,_,_,_,_,_,e]:=h.1.2;cases e
    |cons x ms=>
     show h.2.nl l ?_;cases h':(x::ms).getLast? with
     |none=>simp at h'
     |some y=>rw[h']at e;show e
  . rw[qp F]at h
    cases ms with
    |nil=>cases e;show F rfl
    |cons x ms=>
     show h.nl l ?_;cases h':(x::ms).getLast? with
     |none=>simp at h'
     |some y=>rw[h']at e;show e
def qXc(h:∀m∈ms,m.wd≠"mix")(b:Int):qm b ms=[]:=by
 induction ms generalizing b with
 |nil=>rfl
 |cons m ms ih=>rw[qy<|h m #[]];show ih (λx F=>h x (by simp[F])) _
def kT(m:Im)(lo hi:Int):qY [qo m lo hi]=hi-lo:=by rw[qI,jJ,qj,Yc]
def kh(hw:∀m∈ms,Wf m){c:Int}(hc:0<=c)(hn:NMA 0 c ms):(∀x∈qm 0 (cutF c ms).1,x∈qm 0 ms/\x.2.1<c)/\(∀x∈qm c (cutF c ms).2,x∈qm 0 ms/\c<x.2.1)/\((cutF c ms).2=[]\/qY (cutF c ms).1=c)/\qY (cutF c ms).1<=c:=by
 have af:=x5 ms 0 hw;rcases jz ms c hc with ⟨h1,h2⟩|⟨A,B,m,d,h1,h2,h3,J,h5,h6,h7⟩
 . have ae:∀m∈(cutF c ms).1,Wf m:=λm hm=>hw m (by rw[<-h1];show Yq _ hm)
   have ac:∀m∈(cutF c ms).2,Wf m:=λm hm=>hw m (by rw[<-h1];show Yf _ hm);have hs:qm 0 ms=qm 0 (cutF c ms).1++qm (0+qY (cutF c ms).1) (cutF c ms).2:=by rw[<-jm,h1]
   show#[λx hx=>?_,λx hx=>?_,?_,?_]
   . have F:x∈qm 0 ms:=by rw[hs];show Yq _ hx
     have J:=x5 _ 0 ae x hx;have h5:=hn x F;show#[F,?_];rcases h2 with h2|⟨h2,h3,_⟩ <;> lia
   . rcases h2 with h2|⟨h2,h3,J⟩
     . rw[h2,Yp]at hs
       have F:x∈qm 0 ms:=by rw[hs];show Yf _ hx
       have J:=x5 _ c ac x hx;have h5:=hn x F;show#[F,()]
     . rw[J]at hx;cases hx
   . rcases h2 with h2|⟨h2,h3,J⟩
     . show .inr h2
     . show .inl J
   . rcases h2 with h2|⟨h2,h3,J⟩ <;> lia
 . have aa:∀m∈A,Wf m:=λx hx=>hw x (by rw[h1];simp[hx])
   have ad:∀m∈B,Wf m:=λx hx=>hw x (by rw[h1];simp[hx]);have hs:qm 0 ms=qm 0 A++qm (0+qY A+m.mo) B:=by rw[h1,jm,qy h6]
   rw[h2,h3];show#[λx hx=>?_,λx hx=>?_,.inr ?_,?_]
   . rw[jm,qy<|xh m 0 d]at hx
     rcases YO.mp hx with hx|hx
     . have h8:=x5 _ 0 aa x hx
       show#[by rw[hs];show Yq _ hx,()]
     . cases hx
   . rw[qy<|xh m d m.mo,jJ,show c+(m.mo-d)=0+qY A+m.mo by lia]at hx
     have h8:=x5 _ _ ad x hx;show#[by rw[hs];show Yf _ hx,()]
   . rw[qV,kT];lia
   . rw[qV,kT];lia
def qSs(hw:∀m∈ms,Wf m){c:Int}(F:0<=c)(hn:NMA 0 c ms)(hM:MO none ms):NLM (cutF c ms).1:=by
 let#[s1,_,s3,_]:=kh hw F hn;rcases jz ms c F with ⟨h1,h2⟩|⟨A,B,m,d,h1,h2,h3,h4,h5,h6,h7⟩
 . intro l e
   rcases s3 with h|h
   . rw[h,Ye]at h1
     rw[h1]at e;show hM.nl l e
   . let#[A,J]:=List.getLast?_eq_some_iff.mp e
     have hx:(0+qY A-l.fdiv 2,0+qY A,0+qY A+(l-l.fdiv 2))∈qm 0 (cutF c ms).1:=by rw[J,jm];show Yf _ (by rw[qm];simp)
     have:=(s1 _ hx).2;rw[J,qV,qI,qj]at h;have e0:(Im.mix l).mo=0:=rfl;dsimp only at this;lia
 . rw[h2]
   intro l e;rw[List.getLast?_append]at e;have e:qo m 0 d=.mix l:= ~~~e
   show xh m 0 d (by rw[e];rfl)
def qSq(hw:∀m∈ms,Wf m){c:Int}(J:0<=c)(hn:NMA 0 c ms):NHM (cutF c ms).2:=by
 let#[_,F,_,_]:=kh hw J hn;intro l e;cases h:(cutF c ms).2 with
 |nil=>rw[h]at e;cases e
 |cons x R=>
  rw[h]at e F;cases e;have:=(F (c-l.fdiv 2,c,c+(l-l.fdiv 2)) (by rw[qm];simp)).2;dsimp only at this;lia
def wX(p p':Option Im)(A B:LI)(J:MO p A)(F:MO (A.getLast?.or p) B):MO p (A++B):=by
 induction A generalizing p with
 |nil=>show F
 |cons m A ih=>
  have el:(m::A).getLast?.or p=A.getLast?.or (some m):=by rw[xX];cases A.getLast? <;> rfl
  rw[el]at F;by_cases hm:m.wd="mix"
  . let#[l,rfl]:=jZ hm
    let#[#[h1,h2],h3]:=J;show#[#[h1,?_],ih _ h3 F];cases A with
    |nil=>let#[_,_,_,_,_,_,e]:=h2;cases e
    |cons a A=>show h2
  . rw[YT,qp hm]at*
    show ih _ J F
def qQg{A:LI}(h:∀m∈A,m.wd≠"mix")(p:Option Im):MO p A:=by
 induction A generalizing p with
 |nil=>show trivial
 |cons m A ih=>rw[qp<|h m #[]];show ih (λx F=>h x (by simp[F])) _
def qMx(h:NHM B){p p':Option Im}(J:MO p B):MO p' B:=by
 cases B with
 |nil=>show trivial
 |cons m B=>
  by_cases F:m.wd="mix"
  . let#[l,rfl]:=jZ F
    show YC rfl (h l)
  . rw[qp F]at*;show J
theorem qR0:∀{A B:LI} {p:Option Im},MO p (A++B)->NLM A->MO p A
 |[],_,_,_,_=>trivial
 |m::A,B,p,h,hl=>by
  have J:NLM A:=λl e=>hl l (by rw[xX,e];rfl);by_cases F:m.wd="mix"
  . let#[l,rfl]:=jZ F
    have ne:A≠[]:=λe=>hl l (by rw[e];rfl);let#[#[h1,h2],h3]:=h;show#[#[h1,?_],qR0 (B:=B) h3 J];cases A with
    |nil=>show YC rfl ne
    |cons a A=>show h2
  . rw[YT,qp F]at h
    rw[qp F];show qR0 h J
theorem qLe:∀{A B:LI} {p:Option Im},MO p (A++B)->MO (A.getLast?.or p) B
 |[],_,_,h=>h
 |m::A,B,p,h=>by
  have J:(m::A).getLast?.or p=A.getLast?.or (some m):=by rw[xX];cases A.getLast? <;> rfl
  rw[J];by_cases F:m.wd="mix"
  . let#[l,rfl]:=jZ F
    show qLe h.2
  . rw[YT,qp F]at h
    show qLe h
def qMe(lo hi:Int):qKn (some m)->qKn (some<|qo m lo hi):=by rintro⟨n,p,q,r,s,l,e⟩;cases e;show#[_,_,_,_,_,_,O]
def qOn(hw:∀m∈ms,Wf m){c:Int}(hc:0<=c)(hn:NMA 0 c ms)(F:MO none ms):MO none (cutF c ms).1/\∀p,MO p (cutF c ms).2:=by
 have nl:=qSs hw hc hn F;have nh:=qSq hw hc hn;rcases jz ms c hc with ⟨h1,h2⟩|⟨A,B,m,d,h1,h2,h3,h4,h5,h6,h7⟩
 . rw[<-h1]at F
   show#[qR0 F nl,λp=>qMx nh<|qLe F]
 . rw[h1]at F
   rw[h2,h3]at*;have J:=qLe F;rw[qp h6]at J;show#[?_,λp=>?_]
   .
    have:∀(A:LI) (p:Option Im),MO p (A++m::B)->MO p (A++[qo m 0 d]):=λA=>by
     induction A with
     |nil=>intro p _;show qQg (λx hx=>by rw[Yg,YY]at hx;subst hx;show xh m 0 d) p
     |cons a A ih=>
      intro p h;by_cases ha:a.wd="mix"
      . let#[l,rfl]:=jZ ha
        let#[#[h1,h2],h3]:=h;show#[#[h1,?_],ih _ h3];cases A with
        |nil=>show qMe 0 d h2
        |cons a A=>show h2
      . rw[YT,qp ha]at*
        show ih _ h
    show this A none F
   . rw[qp<|xh m d m.mo]
     cases B with
     |nil=>show trivial
     |cons x B=>
      by_cases hx:x.wd="mix"
      . let#[l,rfl]:=jZ hx
        show#[#[qMe d m.mo J.1.1,J.1.2],J.2]
      . rw[qp hx]at J⊢;show J
def qIf(F:Wf m){hi:Int}(h:lo<hi):Wf (qo m lo hi):=by
 cases m with
 |clip n p q r s l=>show#[qG9 F.1 F.2.1,F.2.1,qS1 F.1 F.2.1,by change 1<=hi-lo;lia]
 |nest n b l=>change 1<=hi-lo;lia
 |gap l=>change 1<=hi-lo;lia
 |mix l=>change 1<=hi-lo;lia
def qAd(J:∀m∈ms,Wf m){c:Int}(hc:0<=c):(∀m∈(cutF c ms).1,Wf m)/\∀m∈(cutF c ms).2,Wf m:=by
 rcases jz ms c hc with ⟨h1,h2⟩|⟨A,B,m,d,h1,h2,h3,h4,h5,h6,h7⟩
 . show#[λm F=>J m (by rw[<-h1];show Yq _ F),λm F=>J m (by rw[<-h1];show Yf _ F)]
 . rw[h2,h3]
   have F:=J m (by rw[h1];simp);show#[λx hx=>?_,λx hx=>?_]
   . rcases YO.mp hx with hx|hx
     . show J x (by rw[h1];simp[hx])
     . rw[YY]at hx;subst hx;show qIf F h4
   . rcases YU.mp hx with rfl|hx
     . show qIf F h5
     . show J x (by rw[h1];simp[hx])
structure Rel(ms:LI)(lo hi:Int)(ls:LI):Prop where
 wf:∀m∈ms,Wf m
 mo:MO none ms
 l0:0<=lo
 lh:lo<=hi
 nt:jG ms lo hi=false
 lw:∀m∈ls,Wf m
 lm:∀m∈ls,m.wd≠"mix"
def Rel.far{hi:Int}(h:Rel ms lo hi ls):∀x∈qm 0 ms,(x.2.1<lo/\x.2.2<=lo)\/(hi<x.2.1/\hi<=x.1):=by
 intro x J;have aa:=x5 ms 0 h.wf x J;have F:=h.nt;have lh:=h.lh;unfold jG at F;rw[List.any_eq_false]at F;have:=F x J;unfold qTv at this;simp only[Bool.or_eq_true,Yl,decide_eq_true_eq]at this;by_cases h1:x.2.1<lo
 . left;show#[h1,?_]
   by_cases h2:x.2.2<=lo
   . show h2
   . show YC (.inl #[(),()]) this
 . right
   have h2:hi<x.2.1:=by
    by_cases h3:hi<x.2.1
    . show h3
    . show YC (.inr #[(),()]) this
   show#[h2,?_];by_cases h4:hi<=x.1
   . show h4
   . show YC (.inl #[(),()]) this
def Rel.nlo{hi:Int}(h:Rel ms lo hi ls):NMA 0 lo ms:=λx F=>by have:=h.far x F;have:=h.lh;lia
def Rel.nhi{hi:Int}(h:Rel ms lo hi ls):NMA 0 hi ms:=λx F=>by have:=h.far x F;have:=h.lh;lia
def Rel.eq{hi:Int}(h:Rel ms lo hi ls):jx ms lo hi ls=q8 0 ((cutF lo ms).1++[.gap<|xB (lo-qY ms) 0]++ls++(cutF hi ms).2):=by delta jx;rw[qWu ms 0 lo h.wf h.nlo (YH 0) h.l0 (λ_=>h.mo.nh λ#[_,_,_,_,_,_,e]=>by cases e),qXv ms 0 hi (qY ms) h.wf h.nhi (by have:=h.l0;have:=h.lh;lia) () (λx F=>by have:=qHz ms 0 none h.wf h.mo x F;lia),ZU,ZU]
def qGb{c:Int}(hc:0<=c)(J:∀m∈ms,Wf m):qY (cutF c ms).1+xB (c-qY ms) 0=c/\qY (cutF c ms).1+qY (cutF c ms).2=qY ms/\(c<=qY ms->qY (cutF c ms).1=c):=by
 have hl:=Nn.len λx F=>(J x F).mo;rcases jz ms c hc with ⟨h1,h2⟩|⟨A,B,m,d,h1,h2,h3,h4,h5,h6,h7⟩
 . have e:qY (cutF c ms).1+qY (cutF c ms).2=qY ms:=by rw[<-qV,h1]
   have:=Nn.len λx F=>((qAd J hc).2 x F).mo;have:=Nn.len λx F=>((qAd J hc).1 x F).mo;delta xB;rcases h2 with h2|⟨h2,h3,h4⟩
   . show#[by split <;> lia,e,λ_=>h2]
   . show#[by split <;> lia,e,λ_=>()]
 . have hm:=J m (by rw[h1];simp)
   have aa:=Nn.len (ms:=B) λx F=>(J x (by rw[h1];simp[F])).mo;have e:qY ms=qY A+(m.mo+qY B):=by rw[h1,qV,qI]
   rw[h2,h3,qV,kT,qI,jJ];delta xB;show#[by split <;> lia,(),λ_=>()]
def OS:Bool->LI->Prop
 |g,[]=>g=false
 |g,.gap l::ms=>g=false/\1<=l/\OS true ms
 |_,.clip .. ::ms=>OS false ms
 |_,.nest .. ::ms=>OS false ms
 |_,.mix _::ms=>OS false ms
def q9(h:m.wd≠"gap")(g:Bool)(ms:LI):OS g (m::ms)=OS false ms:=by
 cases m with
 |gap l=>show YC rfl h
 |_=>rfl
theorem OS.one:∀{ms:LI},(OS false ms->q8 0 ms=ms)/\(OS true ms->∀w,0<w->q8 w ms=.gap w::ms)
 |[]=>#[λ_=>rfl,λh=>by cases h]
 |m::ms=>by
  let#[J,i2]:=OS.one (ms:=ms);by_cases F:m.wd="gap"
  . let#[l,rfl]:=zc F
    show#[λh=>?_,λh=>?_]
    . rw[q8,i2 h.2.2 (0+l) (by have:=h.2.1;lia),Yp]
    . cases h.1
  . show#[λh=>?_,λh w hw=>?_]
    . rw[q9 F]at h
      rw[qX F,YA (),J h]
    . rw[q9 F]at h
      rw[qX F,YB hw,J h]
theorem qOy{A B:Im}{rest:LI}(l:Int)(J:A.wd≠"gap")(hB:B.wd≠"gap"):∀(F:LI) (g:Bool),OS g (F++A::B::rest)->OS g (F++A:: .mix l::B::rest)
 |[],g,h=>by rw[Yg,q9 J,q9 hB]at h;rw[Yg,q9 J];change OS false (B::rest);rw[q9 hB];show h
 |x::F,g,h=>by
  by_cases hg:x.wd="gap"
  . let#[k,rfl]:=zc hg
    show#[h.1,h.2.1,qOy l J hB F _ h.2.2]
  . rw[YT,q9 hg]at h⊢
    show qOy l J hB F _ h
theorem qC9:∀(ms:LI) (w:Int),Nn ms->0<=w->OS false (q8 w ms)
 |[],_,_,_=>rfl
 |m::ms,w,hn,hw=>by
  have h0:=hn m #[];by_cases F:m.wd="gap"
  . let#[l,rfl]:=zc F
    have h0:0<=l:=h0;rw[q8];show qC9 ms _ hn.tail ()
  . have ih:=qC9 ms 0 hn.tail (YH 0)
    rw[qX F];by_cases J:0<w
    . rw[YB J]
      show#[O,(),?_];rw[q9 F];show ih
    . rw[YA J,q9 F];show ih
noncomputable def tkE(ms:LI):Int:=match ms.head? with
 |some (.mix l)=>l.fdiv 2
 |_=>0
def FS(R:Im->Int->Im->Prop):Int->Option Im->LI->Prop
 |_,_,[]=>True
 |_,p,.mix l::ms=>(∀A B,p=some A->ms.head?=some B->R A l B)/\FS R (l-l.fdiv 2) (some<|.mix l) ms
 |tb,_,.clip n p q r s k::ms=>tb+tkE ms<=k/\FS R 0 (some<|.clip n p q r s k) ms
 |_,_,.nest n b l::ms=>FS R 0 (some<|.nest n b l) ms
 |_,_,.gap l::ms=>FS R 0 (some<|.gap l) ms
theorem qKt{R:Im->Int->Im->Prop}{n n':Str}{p q r s k p' q' r' s' k':Int}{rest:LI}{l:Int}(h2:(l-l.fdiv 2)+tkE rest<=k')(hR:R (.clip n p q r s k) l<|.clip n' p' q' r' s' k'):
 ∀(F:LI) (tb:Int) (po:Option Im),(match F.getLast? with|none=>tb|some (.mix x)=>x-x.fdiv 2|_=>0)+l.fdiv 2<=k->FS R tb po (F++ .clip n p q r s k:: .clip n' p' q' r' s' k'::rest)->FS R tb po (F++ .clip n p q r s k:: .mix l:: .clip n' p' q' r' s' k'::rest)
 |[],tb,po,h1,h=>by show#[h1,λA B eA eB=>?_,h2,h.2.2];cases eA;cases eB;show hR
 |x::F,tb,po,h1,h=>by
  have hd:∀(X Y:LI),(F++ .clip n p q r s k::X).head?=(F++ .clip n p q r s k::Y).head?:=λX Y=>by cases F <;> rfl
  have e1:∀J,(x.wd≠"mix"->J=0)->(∀y,x=.mix y->J=y-y.fdiv 2)->(match F.getLast? with|none=>J|some (.mix x)=>x-x.fdiv 2|_=>0)+l.fdiv 2<=k:=λJ ha hb=>by
   rw[xX]at h1;cases hg:F.getLast? with
   |none=>
    rw[hg]at h1;cases x with
    |mix y=>rw[hb y rfl];show h1
    |_=>rw[ha (by first|(change ("clip":Str)≠"mix";decide+kernel)|(change ("nest":Str)≠"mix";decide+kernel)|(change ("gap":Str)≠"mix";decide+kernel))];show h1
   |some z=>rw[hg]at h1;cases z <;> show h1
  cases x with
  |mix y=>
   let#[a1,a2]:=h;show#[λA B eA eB=>a1 A B eA (by rw[<-eB];show hd _ _),qKt h2 hR F _ _ (e1 _ (λc=>YC rfl c) (λy' e=>by cases e;rfl)) a2]
  |clip n1 p1 q1 r1 s1 k1=>
   let#[a1,a2]:=h;show#[?_,qKt h2 hR F _ _ (e1 0 (λ_=>rfl) (λy e=>by cases e)) a2];delta tkE at a1⊢;rw[List.append_eq]at*;rw[hd (.mix l:: .clip n' p' q' r' s' k'::rest) (.clip n' p' q' r' s' k'::rest)];show a1
  |nest n1 b1 l1=>show qKt h2 hR F _ _ (e1 0 (λ_=>rfl) (λy e=>by cases e)) h
  |gap l1=>show qKt h2 hR F _ _ (e1 0 (λ_=>rfl) (λy e=>by cases e)) h
theorem qYk{R:Im->Int->Im->Prop}:∀{ms:LI} (p:Option Im),(∀m∈ms,Wf m/\m.wd≠"mix")->FS R 0 p ms
 |[],_,_=>trivial
 |m::ms,p,h=>by
  have F:=λp=>qYk (R:=R) (ms:=ms) p λx J=>h x (by simp[J]);let#[hw,hm]:=h m #[];cases m with
  |mix l=>show YC rfl hm
  |clip n p' q r s k=>
   show#[?_,F _];have e:tkE ms=0:=by
    delta tkE;cases ms with
    |nil=>rfl
    |cons x ms=>
     have:=(h x #[]).2;cases x with
     |mix y=>show YC rfl this
     |_=>rfl
   rw[e];have:=hw.2.2.2;lia
  |nest n b l=>show F _
  |gap l=>show F _
theorem qO0{A B:Im}{rest:LI}(l:Int)(hA:qKn<|some A)(J:qKn<|some B):∀(F:LI) (p:Option Im),MO p (F++A::B::rest)->MO p (F++A:: .mix l::B::rest)
 |[],p,h=>by let#[n,p1,q,r,s,k,e]:=hA;cases e;let#[n',p',q',r',s',k',e]:=J;cases e;show#[#[#[_,_,_,_,_,_,O],#[_,_,_,_,_,_,O]],h]
 |x::F,p,h=>by
  by_cases hm:x.wd="mix"
  . let#[y,rfl]:=jZ hm
    show#[#[h.1.1,?_],qO0 l hA J F _ h.2];have:=h.1.2;cases F <;> show this
  . rw[YT,qp hm]at h⊢
    show qO0 l hA J F _ h
def jB7(F:∀m∈ms,Wf m):0<=tkE ms:=by
 delta tkE;cases ms with
 |nil=>show YH _
 |cons z ms=>
  cases z with
  |mix y=>
   have:1<=y:=F (.mix y) #[];have:=jM (p:=y) (q:=2) #[];change 0<=y.fdiv 2;lia
  |_=>show YH _
def qAf(h:NHM ms):tkE ms=0:=by
 delta tkE;cases ms with
 |nil=>rfl
 |cons z ms=>
  cases z with
  |mix y=>show YC rfl (h y)
  |_=>rfl
def qq(F:m.wd≠"mix"){p:Option Im}:FS R tb p (m::ms)↔((m.wd="clip"->tb+tkE ms<=m.mo)/\FS R 0 (some m) ms):=by
 cases m with
 |mix l=>show YC rfl F
 |clip n p q r s k=>show#[λh=>#[λ_=>h.1,h.2],λh=>#[h.1 rfl,h.2]]
 |nest n b l=>show#[λh=>#[λc=>YC (show ("nest":Str)="clip" from c) ⋯,h],λh=>h.2]
 |gap l=>show#[λh=>#[λc=>YC (show ("gap":Str)="clip" from c) ⋯,h],λh=>h.2]
def FS_mix{l:Int}{p:Option Im}:FS R tb p (.mix l::ms)↔((∀A B,p=some A->ms.head?=some B->R A l B)/\FS R (l-l.fdiv 2) (some<|.mix l) ms):=Iff.rfl
def qSn(h:NHM B){p p':Option Im}(J:FS R tb p B):FS R tb p' B:=by
 cases B with
 |nil=>show trivial
 |cons m B=>
  by_cases F:m.wd="mix"
  . let#[l,rfl]:=jZ F
    show YC rfl (h l)
  . show(qq F).mpr ((qq F).mp J)
def qWc{A:LI}(h:A≠[]):(A++B).head?=A.head?:=by
 cases A with
 |nil=>show YC rfl h
 |cons a A=>rfl
def qZr{A:LI}(F:NHM B):tkE (A++B)=tkE A:=by
 cases A with
 |nil=>show(qAf F).trans rfl
 |cons a A=>rfl
theorem qKr{R:Im->Int->Im->Prop}{B:LI}(J:NHM B)(fB:∀p,FS R 0 p B):∀(A:LI) (tb:Int) (p:Option Im),NLM A->(A=[]->tb=0)->FS R tb p A->FS R tb p (A++B)
 |[],tb,p,_,h,_=>by rw[h rfl];show fB p
 |m::A,tb,p,hl,h,hA=>by
  have F:NLM A:=λl e=>hl l (by rw[xX,e];rfl);by_cases hm:m.wd="mix"
  . let#[l,rfl]:=jZ hm
    have ne:A≠[]:=λe=>hl l (by rw[e];rfl);rw[YT,FS_mix]at*;show#[λX Y eX eY=>hA.1 X Y eX (by rw[<-eY,qWc ne]),qKr J fB A _ _ F (λe=>YC e ne) hA.2]
  . rw[YT]
    let#[h1,h2]:=(qq hm).mp hA;show(qq hm).mpr #[λc=>by rw[qZr J];show h1 c,qKr J fB A _ _ F (λ_=>rfl) h2]
theorem qPi{R:Im->Int->Im->Prop}{X:LI}(hX:∀m∈X,Wf m):∀(A:LI) (tb:Int) (p:Option Im),NLM A->FS R tb p (A++X)->FS R tb p A
 |[],_,_,_,_=>trivial
 |m::A,tb,p,hl,h=>by
  have F:NLM A:=λl e=>hl l (by rw[xX,e];rfl);by_cases J:m.wd="mix"
  . let#[l,rfl]:=jZ J
    have ne:A≠[]:=λe=>hl l (by rw[e];rfl);rw[YT,FS_mix]at h;show#[λX' Y eX eY=>h.1 X' Y eX (by rw[qWc ne,eY]),qPi hX A _ _ F h.2]
  . rw[YT]at h
    let#[h1,h2]:=(qq J).mp h;show(qq J).mpr #[λc=>?_,qPi hX A _ _ F h2];have:=h1 c;cases A with
    |nil=>
     have e:tkE []=0:=rfl;have:=jB7 hX;rw[Yg]at*;lia
    |cons a A=>show this
theorem qN8{R:Im->Int->Im->Prop}{B:LI}(J:NHM B):∀(A:LI) (tb:Int) (p p':Option Im),NLM A->(A=[]->tb=0)->FS R tb p (A++B)->FS R 0 p' B
 |[],tb,p,p',_,h,h'=>by rw[h rfl]at h';show qSn J h'
 |m::A,tb,p,p',hl,_,h=>by
  have F:NLM A:=λl e=>hl l (by rw[xX,e];rfl);by_cases hm:m.wd="mix"
  . let#[l,rfl]:=jZ hm
    have ne:A≠[]:=λe=>hl l (by rw[e];rfl);show qN8 J A _ _ p' F (λe=>YC e ne) h.2
  . rw[YT]at h
    show qN8 J A _ _ p' F (λ_=>rfl) ((qq hm).mp h).2
noncomputable def tbL(tb:Int)(A:LI):Int:=match A.getLast? with
 |none=>tb
 |some (.mix x)=>x-x.fdiv 2
 |_=>0
def qOo{A:LI}:tbL tb (m::A)=tbL (match m with|.mix x=>x-x.fdiv 2|_=>0) A:=by
 delta tbL;rw[xX];cases A.getLast? with
 |none=>cases m <;> rfl
 |some z=>cases z <;> rfl
structure qY7(R:Im->Int->Im->Prop):Prop where
 beg:∀{A m:Im} {l hi:Int},Wf m->R A l m->R A l (qo m 0 hi)
 fin:∀{m B:Im} {l lo:Int},Wf m->R m l B->R (qo m lo m.mo) l B
def qB5(F:m.wd≠"mix")(lo hi:Int):(qo m lo hi).wd=m.wd:=by
 cases m with
 |mix l=>show YC rfl F
 |_=>rfl
theorem qM7{R:Im->Int->Im->Prop}(hR:qY7 R){m:Im}(F:m.wd≠"mix")(hw:Wf m){B:LI}{d:Int}:∀(A:LI) (tb:Int) (p:Option Im),tbL tb A<=d->FS R tb p (A++m::B)->FS R tb p (A++[qo m 0 d])
 |[],tb,p,hd,h=>by let#[h1,h2]:=(qq F).mp h;show(qq<|xh m 0 d).mpr #[λ_=>?_,trivial];have e:tkE []=0:=rfl;have hd:tb<=d:=hd;rw[e,jJ];lia
 |x::A,tb,p,hd,h=>by
  rw[qOo]at hd;by_cases J:x.wd="mix"
  . let#[l,rfl]:=jZ J
    rw[YT,FS_mix]at h⊢;show#[λX Y eX eY=>?_,qM7 hR F hw A _ _ hd h.2];cases A with
    |nil=>
     cases eY;show hR.beg hw (h.1 X m eX rfl)
    |cons a A=>show h.1 X Y eX eY
  . rw[YT]at h⊢
    let#[h1,h2]:=(qq J).mp h;show(qq J).mpr #[λc=>?_,qM7 hR F hw A _ _ ?_ h2]
    . have:=h1 c
      have e:tkE (A++[qo m 0 d])=tkE (A++m::B):=by
       cases A with
       |nil=>rw[Yg,Yg,qAf,qAf]
             . intro l e;cases e;show F rfl
             . intro l e
               have e:qo m 0 d=.mix l:= ~~~e
               show xh m 0 d (by rw[e];rfl)
       |cons a A=>rfl
      rw[e];show this
    . cases x with
      |mix l=>show YC rfl J
      |_=>show hd
def qX0(hR:qY7 R)(hm:m.wd≠"mix")(hw:Wf m){d:Int}{p p':Option Im}(hd:tkE B<=m.mo-d)(h:FS R tb p (m::B)):FS R 0 p' (qo m d m.mo::B):=by
 let#[_,h2]:=(qq hm).mp h;show(qq<|xh m d m.mo).mpr #[λ_=>by rw[jJ];lia,?_];cases B with
 |nil=>show trivial
 |cons x B=>
  by_cases F:x.wd="mix"
  . let#[l,rfl]:=jZ F
    rw[FS_mix]at h2⊢;show#[λX Y eX J=>by cases eX;show hR.fin hw<|h2.1 m Y rfl J,h2.2]
  . show(qq F).mpr ((qq F).mp h2)
theorem qMy{R:Im->Int->Im->Prop}{m:Im}{B:LI}(J:m.wd≠"mix"):∀(A:LI) (tb:Int) (p:Option Im),FS R tb p (A++m::B)->∃F p',FS R F p' (m::B)
 |[],tb,p,h=>#[tb,p,h]
 |x::A,tb,p,h=>by
  by_cases hx:x.wd="mix"
  . let#[l,rfl]:=jZ hx
    show qMy J A _ _ h.2
  . rw[YT]at h
    show qMy J A _ _ ((qq hx).mp h).2
def NoS(c:Int)(ms:LI):Prop:= ∀x∈qm 0 ms,(x.2.1<c/\x.2.2<=c)\/(c<x.2.1/\c<=x.1)
def NoS.nma{c:Int}(h:NoS c ms):NMA 0 c ms:=λx F=>by have:=h x F;lia
def qV9(hR:qY7 R)(hw:∀m∈ms,Wf m){c:Int}(J:0<=c)(hn:NoS c ms)(hM:MO none ms)(F:FS R 0 none ms):FS R 0 none (cutF c ms).1/\∀p,FS R 0 p (cutF c ms).2:=by
 have nl:=qSs hw J hn.nma hM;have nh:=qSq hw J hn.nma;let#[w1,w2]:=qAd hw J;rcases jz ms c J with ⟨h1,h2⟩|⟨A,B,m,d,h1,h2,h3,h4,h5,h6,h7⟩
 . rw[<-h1]at F
   show#[qPi w2 _ _ _ nl F,λp=>qN8 nh _ _ _ p nl (λ_=>rfl) F]
 . rw[h1]at F
   rw[h2,h3];have hm:=hw m (by rw[h1];simp);have hs:qm 0 ms=qm 0 A++qm (0+qY A+m.mo) B:=by rw[h1,jm,qy h6]
   show#[qM7 hR h6 hm A _ _ ?_ F,λp=>?_]
   . delta tbL
     cases hA:A.getLast? with
     |none=>dsimp only;lia
     |some z=>
      cases z with
      |mix l=>
       dsimp only;let#[A',eA]:=List.getLast?_eq_some_iff.mp hA;have hx:(0+qY A'-l.fdiv 2,0+qY A',0+qY A'+(l-l.fdiv 2))∈qm 0 ms:=by rw[hs,eA,jm];show Yq _<|Yf _ ?_;rw[qm];simp
       have h8:=hn _ hx;have e0:(Im.mix l).mo=0:=rfl;have e1:qY A=qY A':=by rw[eA,qV,qI,qj];lia
       dsimp only at h8;lia
      |_=>dsimp only;lia
   . let#[aa,p',hB]:=qMy h6 A _ _ F
     show qX0 hR h6 hm ?_ hB;cases B with
     |nil=>change (0:Int)<=m.mo-d;lia
     |cons x B=>
      by_cases hx:x.wd="mix"
      . let#[l,rfl]:=jZ hx
        have h8:=hn (0+qY A+m.mo-l.fdiv 2,0+qY A+m.mo,0+qY A+m.mo+(l-l.fdiv 2)) (by rw[hs,qm];show Yf _ #[]);dsimp only at h8;change l.fdiv 2<=m.mo-d;lia
      . have:tkE (x::B)=0:=qAf λl e=>by cases e;show hx rfl
        lia
theorem qRg:∀{ms:LI} {w:Int} {p:Option Im},MO p ms->0<=w->Nn ms->(NHM ms\/w=0)->tkE (q8 w ms)=tkE ms
 |[],_,_,_,_,_,_=>rfl
 |m::ms,w,p,hM,hw,hN,hh=>by
  by_cases J:m.wd="mix"
  . let#[l,rfl]:=jZ J
    have F:(Im.mix l).wd≠"gap":=by change ("mix":Str)≠"gap";decide+kernel
    rcases hh with hh|rfl
    . show YC rfl (hh l)
    . rw[qX F,YA ()];rfl
  . have e:tkE (m::ms)=0:=qAf λl e=>by cases e;show J rfl
    rw[qp J]at hM;by_cases F:m.wd="gap"
    . let#[l,rfl]:=zc F
      have hn:NHM ms:=hM.nh λ#[_,_,_,_,_,_,e]=>by cases e
      have hl:0<=l:=hN (.gap l) #[];rw[e,q8,qRg hM () hN.tail<|.inl hn,qAf hn]
    . rw[e,qX F]
      split
      . rfl
      . show e
theorem qOq{R:Im->Int->Im->Prop}:∀(ms:LI) (w tb:Int) (p p':Option Im),0<=w->(tb=0\/(w=0/\qKn ms.head?))->MO p' ms->Nn ms->(NHM ms\/(w=0/\p=p'))->FS R tb p' ms->FS R tb p (q8 w ms)
 |[],_,_,_,_,_,_,_,_,_,_=>trivial
 |m::ms,w,tb,p,p',hw,ht,hM,hN,hh,hF=>by
  by_cases F:m.wd="mix"
  . let#[l,rfl]:=jZ F
    rcases hh with hh|⟨rfl,rfl⟩
    . show YC rfl (hh l)
    let#[#[h1,h2],h3]:=hM;have J:(Im.mix l).wd≠"gap":=by change ("mix":Str)≠"gap";decide+kernel
    rw[qX J,YA (),FS_mix];have eh:(q8 0 ms).head?=ms.head?:=by
     let#[n,p,q,r,s,k,h2]:=h2;cases ms with
     |nil=>cases h2
     |cons x ms=>cases h2;rw[q8,YA ()];rfl
    show#[λA B eA eB=>hF.1 A B eA (by rw[<-eh,eB]),qOq ms 0 _ _ _ (YH 0) (.inr #[O,h2]) h3 hN.tail (.inr #[O,O]) hF.2]
  . rw[qp F]at hM
    let#[h1,h2]:=(qq F).mp hF;by_cases J:m.wd="gap"
    . let#[l,rfl]:=zc J
      have hn:NHM ms:=hM.nh λ#[_,_,_,_,_,_,e]=>by cases e
      have hl:0<=l:=hN (.gap l) #[];have e0:tb=0:=by
       rcases ht with ht|⟨_,_,_,_,_,_,_,e⟩
       . show ht
       . cases e
      subst e0;rw[q8];show qOq ms (w+l) 0 p (some<|.gap l) () (.inl rfl) hM hN.tail (.inl hn) h2
    . have ih:=qOq (R:=R) ms 0 0 (some m) (some m) (YH 0) (.inl rfl) hM hN.tail (.inr #[rfl,rfl]) h2
      have et:=qRg hM (YH 0) hN.tail<|.inr rfl;rw[qX J];split
      . change FS R 0 _ (m::q8 0 ms)
        show(qq F).mpr #[λc=>?_,ih];rw[et];have:=h1 c;lia
      . show(qq F).mpr #[λc=>?_,ih]
        rw[et];show h1 c
theorem qK6:∀(ms:LI) (w:Int) (p p':Option Im),0<=w->MO p' ms->Nn ms->(NHM ms\/(w=0/\p=p'))->MO p (q8 w ms)
 |[],_,_,_,_,_,_,_=>trivial
 |m::ms,w,p,p',hw,hM,hN,hh=>by
  by_cases F:m.wd="mix"
  . let#[l,rfl]:=jZ F
    rcases hh with hh|⟨rfl,rfl⟩
    . show YC rfl (hh l)
    let#[#[h1,h2],h3]:=hM;have J:(Im.mix l).wd≠"gap":=by change ("mix":Str)≠"gap";decide+kernel
    have eh:(q8 0 ms).head?=ms.head?:=by
     let#[n,p,q,r,s,k,h2]:=h2;cases ms with
     |nil=>cases h2
     |cons x ms=>cases h2;rw[q8,YA ()];rfl
    rw[qX J,YA ()];show#[#[h1,by rw[eh];show h2],qK6 ms 0 _ _ (YH 0) h3 hN.tail<|.inr #[O,O]]
  . rw[qp F]at hM
    by_cases J:m.wd="gap"
    . let#[l,rfl]:=zc J
      have hn:NHM ms:=hM.nh λ#[_,_,_,_,_,_,e]=>by cases e
      have hl:0<=l:=hN (.gap l) #[];rw[q8];show qK6 ms (w+l) p (some<|.gap l) () hM hN.tail (.inl hn)
    . have ih:=qK6 ms 0 (some m) (some m) (YH 0) hM hN.tail (.inr #[rfl,rfl])
      rw[qX J];split
      . change MO (some<|.gap w) (m::q8 0 ms)
        rw[qp F];show ih
      . rw[qp F];show ih
def Rel.good(hR:qY7 R){hi:Int}(h:Rel ms lo hi ls)(hF:FS R 0 none ms):MO none (jx ms lo hi ls)/\FS R 0 none (jx ms lo hi ls)/\OS false (jx ms lo hi ls)/\Nn ((cutF lo ms).1++((.gap (xB (lo-qY ms) 0)::ls)++(cutF hi ms).2))/\jx ms lo hi ls=q8 0 ((cutF lo ms).1++((.gap (xB (lo-qY ms) 0)::ls)++(cutF hi ms).2)):=by
 have l0:=h.l0;have lh:=h.lh;have h0:0<=hi:=()
 have n1:NoS lo ms:=λx hx=>by have:=h.far x hx;lia
 have n2:NoS hi ms:=λx hx=>by have:=h.far x hx;lia
 let#[aF,_]:=qV9 hR h.wf l0 n1 h.mo hF;let#[_,bF]:=qV9 hR h.wf h0 n2 h.mo hF;have aN:=qSs h.wf l0 h.nlo h.mo;have bH:=qSq h.wf h0 h.nhi;let#[aM,_]:=qOn h.wf l0 h.nlo h.mo;let#[_,af]:=qOn h.wf h0 h.nhi h.mo;let#[aW,_]:=qAd h.wf l0;let#[_,ad]:=qAd h.wf h0;have F:0<=xB (lo-qY ms) 0:=by delta xB;split <;> lia
 have mG:∀m∈Im.gap (xB (lo-qY ms) 0)::ls,m.wd≠"mix":=λx hx=>by
  rcases YU.mp hx with rfl|hx
  . change ("gap":Str)≠"mix";decide+kernel
  . show h.lm x hx
 have aa:NLM (.gap (xB (lo-qY ms) 0)::ls):=λl e=>mG (.mix l) (List.mem_of_getLast? e) rfl;have ac:NHM ((.gap (xB (lo-qY ms) 0)::ls)++(cutF hi ms).2):=λl e=>by cases e
 have J:Nn ((cutF lo ms).1++((.gap (xB (lo-qY ms) 0)::ls)++(cutF hi ms).2)):=λx hx=>by
  rcases YO.mp hx with hx|hx
  . show(aW x hx).mo
  . rcases YO.mp hx with hx|hx
    . rcases YU.mp hx with rfl|hx
      . show F
      . show(h.lw x hx).mo
    . show(ad x hx).mo
 have MX:MO none ((cutF lo ms).1++((.gap (xB (lo-qY ms) 0)::ls)++(cutF hi ms).2)):=wX none none _ _ aM (wX _ none _ _ (qQg mG _)<|af _);have ae:∀p,FS R 0 p (.gap (xB (lo-qY ms) 0)::ls):=λp=>qYk (R:=R) (ms:=ls) _ (λx hx=>#[h.lw x hx,h.lm x hx]);have FX:FS R 0 none ((cutF lo ms).1++((.gap (xB (lo-qY ms) 0)::ls)++(cutF hi ms).2)):=qKr ac (λp=>qKr bH bF _ 0 p aa (λ_=>rfl)<|ae p) _ 0 none aN (λ_=>rfl) aF;have e:jx ms lo hi ls=q8 0 ((cutF lo ms).1++((.gap (xB (lo-qY ms) 0)::ls)++(cutF hi ms).2)):=by rw[h.eq];simp
 rw[e];show#[qK6 _ 0 none none (YH 0) MX J<|.inr #[O,O],qOq _ 0 0 none none (YH 0) (.inl rfl) MX J (.inr #[O,O]) FX,qC9 _ 0 J<|YH 0,J,O]
theorem qCa{Pm:Im->Prop}(J:∀w,0<w->Pm (.gap w)):∀(ms:LI) (w:Int),(∀m∈ms,m.wd≠"gap"->Pm m)->∀m∈q8 w ms,Pm m
 |[],_,_,m,h=>by cases h
 |x::ms,w,hp,m,h=>by
  have F:∀m∈ms,m.wd≠"gap"->Pm m:=λm hm=>hp m (by simp[hm]);by_cases hx:x.wd="gap"
  . let#[l,rfl]:=zc hx
    rw[q8]at h;show qCa J ms _ F m h
  . rw[qX hx]at h
    split at h
    . rename_i hw
      rcases YU.mp h with rfl|h
      . show J w hw
      . rcases YU.mp h with rfl|h
        . show hp m #[] hx
        . show qCa J ms _ F m h
    . rcases YU.mp h with rfl|h
      . show hp m #[] hx
      . show qCa J ms _ F m h
def qNt{c:Int}(hc:0<=c)(h1:∀m∈ms,Pm m)(h2:∀m∈ms,m.wd≠"mix"->∀x y,0<=x->x<y->y<=m.mo->Pm (qo m x y)):(∀m∈(cutF c ms).1,Pm m)/\∀m∈(cutF c ms).2,Pm m:=by
 rcases jz ms c hc with ⟨F,_⟩|⟨A,B,m,d,F,e2,e3,d0,d1,J,_⟩
 . show#[λm J=>h1 m (by rw[<-F];show Yq _ J),λm J=>h1 m (by rw[<-F];show Yf _ J)]
 . have aa:m∈ms:=by rw[F];simp
   rw[e2,e3];show#[λx hx=>?_,λx hx=>?_]
   . rcases YO.mp hx with hx|hx
     . show h1 x (by rw[F];simp[hx])
     . rw[YY]at hx;subst hx;show h2 m aa J 0 d (YH 0) d0 ()
   . rcases YU.mp hx with rfl|hx
     . show h2 m aa J d m.mo () d1 (YH _)
     . show h1 x (by rw[F];simp[hx])
def qIx(J:∀w,0<w->Pm (.gap w)){hi:Int}(h:Rel ms lo hi ls)(h1:∀m∈ms,Pm m)(h2:∀m∈ms,m.wd≠"mix"->∀x y,0<=x->x<y->y<=m.mo->Pm (qo m x y))(h3:∀m∈ls,Pm m):∀m∈jx ms lo hi ls,Pm m:=by
 rw[h.eq];show qCa J _ _ λm hm hn=>?_;have F:0<=hi:=by have:=h.l0;have:=h.lh;lia
 rcases YO.mp hm with hm|hm
 . rcases YO.mp hm with hm|hm
   . rcases YO.mp hm with hm|hm
     . show(qNt h.l0 h1 h2).1 m hm
     . rw[YY]at hm;subst hm;show YC rfl hn
   . show h3 m hm
 . show(qNt F h1 h2).2 m hm
def qTt{hi:Int}(h:Rel ms lo hi ls):∀m∈jx ms lo hi ls,Wf m:=
 qIx (Pm:=Wf) (λw hw=>by change 1<=w;lia) h h.wf (λm J _ x y _ F _=>qIf (h.wf m J) F) h.lw
theorem qPf:∀(Y:LI) (a:Im) (w:Int),Nn Y->0<=w->a.wd≠"gap"->qY (q8 w<|Y++[a])=w+qY Y+a.mo
 |[],a,w,_,hw,ha=>by
  rw[Yg,qX ha,qj];split
  . change qY [.gap w,a]=_;rw[qI,qI,qj];change w+(a.mo+0)=_;lia
  . change qY [a]=_;rw[qI,qj];lia
 |m::Y,a,w,hn,hw,ha=>by
  have h0:=hn m #[];rw[YT,qI];by_cases J:m.wd="gap"
  . let#[l,rfl]:=zc J
    have h0:0<=l:=h0;rw[q8,qPf Y a (w+l) hn.tail () ha];change w+l+qY Y+a.mo=w+(l+qY Y)+a.mo;lia
  . have F:=qPf Y a 0 hn.tail (YH 0) ha
    rw[qX J];split
    . rw[qI,qI,F];change w+(m.mo+(0+qY Y+a.mo))=_;lia
    . rw[qI,F];lia
theorem qH7:∀(Y:LI) (w:Int),Nn Y->0<=w->qY (q8 w Y)<=w+qY Y
 |[],w,_,hw=>by change qY []<=w+qY [];rw[qj];lia
 |m::Y,w,hn,hw=>by
  have J:=hn m #[];rw[qI];by_cases F:m.wd="gap"
  . let#[l,rfl]:=zc F
    have J:0<=l:=J;have:=qH7 Y (w+l) hn.tail ();rw[q8];have e:(Im.gap l).mo=l:=rfl;lia
  . have ih:=qH7 Y 0 hn.tail (YH 0)
    rw[qX F];split
    . rw[qI,qI];have e:(Im.gap w).mo=w:=rfl;lia
    . rw[qI];lia
theorem qN4:∀(ms:LI) (c:Int),Nn ms->qY ms<=c->cutF c ms=(ms,[])
 |[],_,_,_=>rfl
 |m::ms,c,hn,h=>by have:=hn.tail.len;rw[qI]at h;rw[cutF,YB (),qN4 ms (c-m.mo) hn.tail ()]
structure Rg where
 a:Int
 b:Int
 l:Int
 nst:Str->Prop
structure Rg.Ok(A:Rg):Prop where
 a0:40<=A.a
 a1:A.a<=1000000000
 b0:40<=A.b
 b1:A.b<=1000000000
 l0:40<=A.l
 l1:A.l<=1000000000
noncomputable def rlE(A:Rg):Rls:=λn=>if n="a" then some A.a else if n="b" then some A.b else if n="long" then some A.l else none
def RE(H:Hp)(re:Addr)(A:Rg):Prop:=Rd H re (.dK [(Sum.inr "a",.int A.a),(Sum.inr "b",.int A.b),(Sum.inr "long",.int A.l)])/\A.Ok
def RE.same(e:Same H H'){F:Addr}(h:RE H F A):RE H' F A:=#[qMr e h.1,h.2]
theorem RE.at{H:Hp}{J:Addr}{A:Rg}(h:RE H J A):ReelsAt H J (rlE A):=by
 intro n N e;delta rlE at e;split at e
 . rename_i F;cases e;subst F;show#[_,h.1,rfl]
 . split at e
   . rename_i F;cases e;subst F;show#[_,h.1,rfl]
   . split at e
     . rename_i F;cases e;subst F;show#[_,h.1,rfl]
     . cases e
def RmR(rl:Rls):Im->Int->Im->Prop:=λA l B=> ∀n p q r s k n' p' q' r' s' k',A=.clip n p q r s k->B=.clip n' p' q' r' s' k'->∃N N',rl n=some N/\rl n'=some N'/\l.fdiv 2<=xL p' q' r' s' N'/\l-l.fdiv 2<=xC p q r s k N
def jCk(rl:Rls):qY7 (RmR rl):=by
 show#[λ{A m l hi} hw h=>?_,λ{m B l lo} hw h=>?_]
 . intro n p q r s k n' p' q' r' s' k' J F
   cases m with
   |clip n1 p1 q1 r1 s1 k1=>
    let#[z1,z2]:=qA5 (r:=r1) (s:=s1) hw.1 hw.2.1 hw.2.2.1;cases F;rw[z1,z2];show h n p q r s k _ _ _ _ _ _ J rfl
   |nest=>cases F
   |gap=>cases F
   |mix=>cases F
 . intro n p q r s k n' p' q' r' s' k' J F
   cases m with
   |clip n1 p1 q1 r1 s1 k1=>
    cases J;let#[N,N',ad,ac,ae,aa]:=h _ _ _ _ _ _ _ _ _ _ _ _ rfl F;show#[N,N',ad,ac,ae,?_];let#[z1,z2]:=qHw (p:=p1) (r:=r) (lo:=lo) (k:=k1-lo) hw.1 hw.2.1;delta xC at aa⊢;change _<=zk (plP (plP p1 q1 r s lo) (plQ p1 q1 r s lo) r s (k1-lo)*s) (1*r*plQ (plP p1 q1 r s lo) (plQ p1 q1 r s lo) r s (k1-lo)) (plQ (plP p1 q1 r s lo) (plQ p1 q1 r s lo) r s (k1-lo)*s) N;rw[z1,z2,show lo+(k1-lo)=k1 by lia];show aa
   |nest=>cases J
   |gap=>cases J
   |mix=>cases J
def qY1{a l:Int}(h:l<=mmV a b)(h1:1<=l):l.fdiv 2<=a/\l-l.fdiv 2<=b:=by
 have f:=jM (p:=l) (q:=2) #[];unfold mmV qZ1 at h;split at h
 . split at h <;> lia
 . split at h <;> lia
def qSg{a x:Int}(h:x<=qVg a b):x<=a/\x<=b:=by unfold qVg at h;split at h <;> lia
def qN7(hi:i<=ms.length):tbL 0 (ms.take i)=tbF ms i:=by
 delta tbL tbF;cases i with
 |zero=>rfl
 |succ i=>
  have e:(ms.take<|i+1).getLast?=ms[i]?:=by rw[List.getLast?_eq_getElem?,Yk,Nat.min_eq_left hi];show List.getElem?_take_of_lt ()
  rw[e,YA (),Nat.add_sub_cancel];cases h:ms[i]? with
  |none=>rfl
  |some z=>cases z <;> rfl
def qOs(ms:LI)(i:Nat):tkE (ms.drop<|i+1)=teF ms i:=by
 delta tkE teF;rw[List.head?_drop]
 all_goals
  cases ms[i+1]? with
  |none=>rfl
  |some z=>cases z <;> rfl
def qRp(h:m.wd="clip"):∃n p q r s l,m=.clip n p q r s l:=by
 cases m with
 |clip n p q r s l=>show#[_,_,_,_,_,_,rfl]
 |nest=>show YC (show ("nest":Str)="clip" from h) ⋯
 |gap=>show YC (show ("gap":Str)="clip" from h) ⋯
 |mix=>show YC (show ("mix":Str)="clip" from h) ⋯
def qTi{t:Int}(hc:cbF ms t=some ((i:Int),((i+1:Nat):Int))):∃n p q r s k n' p' q' r' s' J,ms[i]?=some (.clip n p q r s k)/\ms[i+1]?=some (.clip n' p' q' r' s' J)/\ms=ms.take i++ .clip n p q r s k:: .clip n' p' q' r' s' J::ms.drop (i+2)/\∀l,ms.take (i+1)++[.mix l]++ms.drop (i+1)=ms.take i++ .clip n p q r s k:: .mix l:: .clip n' p' q' r' s' J::ms.drop (i+2):=by
 let#[k1,k2]:=zK hc;have aa:∀j:Nat,qv ms (j:Int)="clip"->∃n p q r s k,ms[j]?=some (.clip n p q r s k):=λj F=>by
  unfold qv at F;rw[YA (),YQ]at F;cases h:ms[j]? with
  |none=>rw[h]at F;show YC F ⋯
  |some m=>
   rw[h]at F;let#[n,p,q,r,s,l,rfl]:=qRp F;show#[_,_,_,_,_,_,O]
 let#[n,p,q,r,s,k,h1]:=aa i k1;let#[n',p',q',r',s',J,h2]:=aa (i+1) k2;have d1:=jy h1;have d2:=jy h2;show#[n,p,q,r,s,k,n',p',q',r',s',J,h1,h2,?_,λl=>?_]
 . rw[<-d2,<-d1,List.take_append_drop]
 . rw[Yt,h1,d2]
   simp
def qWl{t:Int}{l:Int}(J:cbF ms t=some ((i:Int),((i+1:Nat):Int)))(F:mmF rl ms t=some M)(h1:1<=l)(hl:l<=M)(hO:OS false ms)(hm:MO none ms)(hF:FS (RmR rl) 0 none ms):
 OS false (ms.take (i+1)++[.mix l]++ms.drop (i+1))/\MO none (ms.take (i+1)++[.mix l]++ms.drop (i+1))/\FS (RmR rl) 0 none (ms.take (i+1)++[.mix l]++ms.drop (i+1)):=by
 let#[n,p,q,r,s,k,n',p',q',r',s',k',e1,e2,e3,e4]:=qTi J;have c1:jT ms ((i:Nat):Int)=.clip n p q r s k:=by delta jT;rw[YQ,e1];rfl
 have c2:jT ms ((i+1:Nat):Int)=.clip n' p' q' r' s' k':=by delta jT;rw[YQ,e2];rfl
 delta mmF at F;rw[J]at F;dsimp only at F;rw[c1,c2]at F;dsimp only at F;cases r1:rl n with
 |none=>rw[r1]at F;cases F
 |some N=>
 cases r2:rl n' with
 |none=>rw[r1,r2]at F;cases F
 |some N'=>
 rw[r1,r2]at F;dsimp only at F;rw[YQ,YQ]at F;cases F;let#[q1,q2]:=qY1 hl h1;let#[q3,q4]:=qSg q1;let#[q5,q6]:=qSg q2;have hi:i<ms.length:=(glt e1);rw[e4 l];rw[e3]at hO hm hF;show#[qOy l (by change ("clip":Str)≠"gap";decide+kernel) (by change ("clip":Str)≠"gap";decide+kernel) _ _ hO,qO0 l #[_,_,_,_,_,_,O] #[_,_,_,_,_,_,O] _ _ hm,qKt ?_ ?_ _ _ _ ?_ hF]
 . have:=qOs ms (i+1)
   rw[this];lia
 . intro n1 p1 q1 aa s1 k1 n2 p2 q2 ac s2 k2 eA eB
   cases eA;cases eB;show#[N,N',r1,r2,q4,q6]
 . change tbL 0 (ms.take i)+l.fdiv 2<=k
   rw[qN7 ()];lia
def qTp{A B D:Int}{m k:Int}(h0:InR A D N)(h1:InR (A+m*B) D N)(k0:0<=k)(F:k<=m):InR (A+k*B) D N:=by
 delta InR at*;by_cases J:0<=B
 . have a1:=Int.mul_nonneg k0 J
   have a2:=Ym F J;lia
 . have a1:=Int.mul_nonpos_of_nonneg_of_nonpos k0 (show B<=0 by lia)
   have a2:=Int.mul_le_mul_of_nonpos_right F (show B<=0 by lia);lia
def qWe(p q r s k:Int):Vk p q r s k=p*s+k*(r*q):=by delta Vk;grind
def qUd{l:Int}(F:InR (Vk p q r s 0) (q*s) N)(h1:InR (Vk p q r s<|l-1) (q*s) N):∀k,0<=k->k<l->InR (Vk p q r s k) (q*s) N:=λk k0 k1=>by rw[qWe]at F h1⊢;rw[Int.zero_mul,Yc]at F;show qTp F h1 k0 ()
def qBo{k:Int}(J:0<q)(F:0<s):InR (Vk (plP p q r s b) (plQ p q r s b) r s k) (plQ p q r s b*s) N↔InR (Vk p q r s<|b+k) (q*s) N:=by
 have c:=qEp p q r s b;have hb:=qG9 (p:=p) (r:=r) (k:=b) J F;show qKe (Yu hb F) (Yu J F) ?_;delta Vk;generalize plP p q r s b=u at c⊢;generalize plQ p q r s b=v at c⊢
 grind
def qJu{x y k:Int}(F:InR (Vk p q r s x) (q*s) N)(h1:InR (Vk p q r s y) (q*s) N)(k0:x<=k)(k1:k<=y):InR (Vk p q r s k) (q*s) N:=by
 rw[qWe]at F h1⊢;have J:p*s+y*(r*q)=p*s+x*(r*q)+(y-x)*(r*q):=by grind
 have e2:p*s+k*(r*q)=p*s+x*(r*q)+(k-x)*(r*q):=by grind
 rw[J]at h1;rw[e2];show qTp F h1 () ()
structure GC(A:Rg)(n:Str)(p q r s l N:Int):Prop where
 rn:rlE A n=some N
 n1:1<=N
 n2:N<=1000000000
 q0:0<q
 s0:0<s
 g1:Int.gcd p q=1
 g2:Int.gcd r s=1
 dq:q∣42
 ds:s∣42
 rb:r.natAbs<=6
 l1:1<=l
 i0:InR (Vk p q r s 0) (q*s) N
 i1:InR (Vk p q r s (l-1)) (q*s) N
def qYr{k:Int}(hq:0<q)(hs:0<s)(dq:q∣42)(ds:s∣42):plQ p q r s k∣42:=by
 let#[a,ha]:=dq;let#[b,hb]:=ds;have c:=qEp p q r s k;have g:=qS1 (p:=p) (r:=r) (k:=k) hq hs;have J:q*s≠0:=Int.ne_of_gt<|Yu hq hs;generalize plP p q r s k=u at c g;generalize plQ p q r s k=v at c g⊢;have F:u*42=(p*a+k*r*b)*v:=by
  apply ZX J;have e1:u*42*(q*s)=u*(q*s)*42:=by grind
  have e2:(p*a+k*r*b)*v*(q*s)=v*(p*s*(q*a)+k*r*q*(s*b)):=by grind
  rw[e1,c,e2,<-ha,<-hb]
  grind
 have hd:v∣u*42:=#[_,by rw[F,ZK]];have hn:v.natAbs∣u.natAbs*(42:Int).natAbs:=by rw[<-Int.natAbs_mul];show Int.natAbs_dvd_natAbs.mpr hd
 have hc:Nat.Coprime v.natAbs u.natAbs:=by change Nat.gcd _ _=1;rw[Nat.gcd_comm];show g
 show Int.natAbs_dvd_natAbs.mp<|hc.dvd_of_dvd_mul_left hn
def GC.move{n:Str}{l:Int}(h:GC A n p q r s l N)(J:1<=l')(F:InR (Vk p q r s b) (q*s) N)(h1:InR (Vk p q r s<|b+(l'-1)) (q*s) N):GC A n (plP p q r s b) (plQ p q r s b) r s l' N:=
 #[h.rn,h.n1,h.n2,qG9 h.q0 h.s0,h.s0,qS1 h.q0 h.s0,h.g2,qYr h.q0 h.s0 h.dq h.ds,h.ds,h.rb,J,(qBo h.q0 h.s0).mpr (by rw[Yc];show F),(qBo h.q0 h.s0).mpr h1]
def GC.at{n:Str}{l:Int}(h:GC A n p q r s l N){k:Int}(k0:0<=k)(k1:k<l):InR (Vk p q r s k) (q*s) N:=qUd h.i0 h.i1 k k0 k1
def GC.bd{n:Str}{l:Int}(h:GC A n p q r s l N):p.natAbs<2 ^ 40/\q.natAbs<2 ^ 40/\r.natAbs<2 ^ 40/\s.natAbs<2 ^ 40:=by
 have q1:=Int.le_of_dvd #[] h.dq;have s1:=Int.le_of_dvd #[] h.ds;have q0:=h.q0;have J:=h.s0;have rb:=h.rb;let#[a1,F]:=h.i0;have e0:Vk p q r s 0=p*s:=by delta Vk;grind
 rw[e0]at a1 F;have p0:0<=p:=by
  by_cases c:0<=p
  . show c
  . have:=Int.mul_neg_of_neg_of_pos (show p<0 by lia) J
    lia
 have p1:p<N*q:=by
  have e1:N*(q*s)=N*q*s:=by grind
  rw[e1]at F;show Yr F ()
 have p2:N*q<=1000000000*42:=Int.mul_le_mul h.n2 q1 () #[];show#[(),(),(),()]
def p40{x:Nat}(h:x<2 ^ 40)(F:40<=n):x<2 ^ n:=YR h<|Yh #[] F
def GC.rc{n:Str}{l:Int}(h:GC A n p q r s l N)(hl:l<=100000):Rc n p q r s l (rlE A) N:=by let#[b1,F,b3,b4]:=h.bd;have J:=h.l1;have n1:=h.n1;have n2:=h.n2;show#[#[h.q0,h.g1,p40 b1 #[],p40 F #[]],#[h.s0,h.g2,p40 b3 #[],p40 b4 #[]],(),J,h.rn,p40 () #[]]
def GI(A:Rg):Im->Prop
 |.clip n p q r s l=> ∃N,GC A n p q r s l N
 |.nest n b l=>qJg n=true/\0<=b/\1<=l
 |.gap l=>1<=l
 |.mix l=>1<=l
def GI.wf(h:GI A m):Wf m:=by
 cases m with
 |clip n p q r s l=>let#[N,c]:=h;show#[c.q0,c.s0,c.g1,c.l1]
 |nest n b l=>show h.2.2
 |gap l=>show h
 |mix l=>show h
def GI.part(h:GI A m)(J:m.wd≠"mix"){x y:Int}(h0:0<=x)(h1:x<y)(h2:y<=m.mo):GI A (qo m x y):=by
 cases m with
 |clip n p q r s l=>
  let#[N,c]:=h;have h2:y<=l:=h2;show#[N,c.move (b:=x) (l':=y-x) () (c.at h0 ())<|c.at () ()]
 |nest n b l=>
  let#[F,a2,a3]:=h;show#[F,by change 0<=b+x;lia,by change 1<=y-x;lia]
 |gap l=>change 1<=y-x;lia
 |mix l=>show YC rfl J
def GI.ib(h:GI A m):ImB m:=by
 cases m with
 |clip n p q r s l=>
  let#[N,c]:=h;let#[J,b2,F,b4]:=c.bd;show#[c.q0,c.s0,p40 J #[],p40 b2 #[],p40 F #[],p40 b4 #[]]
 |_=>trivial
def GI.it(h:GI A m)(F:m.mo<=100000):ItR (rlE A) m:=λn p q r s l e=>by subst e;let#[N,c]:=h;show#[N,c.rc F]
def GI.ih(h:GI A m)(F:m.mo<=100000):ImH m:=by
 cases m with
 |clip n p q r s l=>
  have J:=h.ib;let#[N,c]:=h;have:=c.l1;have F:l<=100000:=F;show#[J,p40 () #[]]
 |_=>trivial
structure GdT(A:Rg)(ms:LI):Prop where
 os:OS false ms
 mo:MO none ms
 fs:FS (RmR (rlE A)) 0 none ms
structure GT(A:Rg)(M:Int)(c:Nat)(ms:LI):Prop where
 it:∀m∈ms,GI A m
 gd:GdT A ms
 le:qY ms<=M
 ct:ms.length<=c
theorem GT.wf{A:Rg}{M:Int}{c:Nat}{ms:LI}(h:GT A M c ms):∀m∈ms,Wf m:=λm F=>(h.it m F).wf
def GT.nn(h:GT A M c ms):Nn ms:=λm F=>(h.wf m F).mo
def GT.mono(h:GT A M c ms)(h1:M<=M')(h2:c<=c'):GT A M' c' ms:=#[h.it,h.gd,by have:=h.le;lia,by have:=h.ct;lia]
theorem qKp:∀{ms:LI},Nn ms->∀m∈ms,m.mo<=qY ms
 |[],_,m,h=>by cases h
 |x::xs,hn,m,h=>by
  rw[qI];have h1:=hn x #[];have h2:=Nn.len hn.tail;rcases YU.mp h with rfl|h
  . lia
  . have:=qKp hn.tail m h
    lia
theorem wu:∀{ms:LI} {b:Int} {F i:Nat} {t d:Int},jo b F ms t=some (i,d)->∃A m B,ms=A++m::B/\i=F+A.length/\t=b+qY A+d/\0<=d/\d<m.mo
 |[],_,_,_,_,_,h=>by simp[jo]at h
 |m::ms,b,F,i,t,d,h=>by
  rw[jo]at h;by_cases J:b<=t/\t<b+m.mo
  . rw[YB J]at h
    cases h;show#[[],m,ms,O,O,by rw[qj];lia,(),()]
  . rw[YA J]at h
    let#[A,x,B,h1,h2,h3,h4,h5]:=wu h;show#[m::A,x,B,by rw[h1];rfl,by rw[YE];lia,by rw[qI];lia,h4,h5]
def xV{α:Type}(A:List α)(m:α)(B:List α):(A++m::B)[A.length]?=some m:=by rw[Yz<|YI _,Nat.sub_self];rfl
def qQr(J:Wf x)(hy:Wf y)(F:qG7 x y=true):x=qo (glue x y) 0 x.mo/\y=qo (glue x y) x.mo (glue x y).mo/\Wf (glue x y)/\((glue x y).wd="clip"\/(glue x y).wd="nest")/\0<x.mo/\x.mo<(glue x y).mo:=by
 rcases kW F with ⟨n,p,q,r,s,l,n',p',q',r',s',l',rfl,rfl⟩|⟨n,b,l,n',b',l',rfl,rfl⟩
 . have F:goB n n' p q r s l p' q' r' s'=true:=F
   delta goB at F;simp only[Yl,beq_iff_eq,decide_eq_true_eq]at F;let#[rfl,#[rfl,rfl],rfl,rfl]:=F;let#[h1,h2]:=qA5 (r:=r) (s:=s) J.1 J.2.1 J.2.2.1;have l1:1<=l:=J.2.2.2;have l2:1<=l':=hy.2.2.2;show#[?_,?_,#[J.1,J.2.1,J.2.2.1,by change 1<=l+l';lia],.inl rfl,by change 0<l;lia,by change l<l+l';lia]
   . change _=Im.clip n (plP p q r s 0) (plQ p q r s 0) r s (l-0)
     rw[h1,h2,ZU]
   . change _=Im.clip n (plP p q r s l) (plQ p q r s l) r s (l+l'-l)
     congr 1;lia
 . have F:(decide (n=n') && decide (b'=b+l))=true:=F
   simp only[Yl,decide_eq_true_eq]at F;let#[rfl,rfl]:=F;have l1:1<=l:=J;have l2:1<=l':=hy;show#[?_,?_,(by change 1<=l+l';lia),.inr rfl,by change 0<l;lia,by change l<l+l';lia]
   . change _=Im.nest n (b+0) (l-0)
     rw[Yc,ZU]
   . change _=Im.nest n (b+l) (l+l'-l)
     congr 1;lia
def qFt{α:Type}{A:List α}(h:A≠[]):∃(X:List α) (a:α),A=X++[a]:=#[A.dropLast,A.getLast h,(List.dropLast_concat_getLast h).symm]
def qKh{t i:Int}(h:nbF ms t=some (i,j)):(∃(A:LI) (x y:Im) (B:LI),ms=A++x::y::B/\i=(A.length:Int)/\j=i+1/\t=qY A+x.mo/\x.wd≠"mix"/\0<y.mo)\/∃(A:LI) (l:Int) (y:Im) (B:LI),ms=A++ .mix l::y::B/\j=((A.length+1:Nat):Int)/\i=(A.length:Int)-1/\t=qY A/\0<y.mo:=by
 delta nbF at h;cases hi:jo 0 0 ms t with
 |none=>rw[hi]at h;cases h
 |some r=>
  let#[k,d]:=r;rw[hi]at h;dsimp only at h;by_cases J:d≠0\/(k:Int)=0
  . rw[YB J]at h;cases h
  . rw[YA J]at h
    have d0:d=0:=()
    subst d0;let#[A,y,B,h1,h2,h3,h4,h5]:=wu hi;have hA:A≠[]:=by rintro rfl;apply J;right;rw[h2];rfl
    let#[X,x,rfl]:=qFt hA;have e:ms=X++x::y::B:=by rw[h1];simp
    have aa:k=X.length+1:=by rw[h2,YN];change 0+(X.length+1)=_;lia
    have hk:qv ms ((k:Int)-1)=x.wd:=jc (i:=X.length) (by rw[e];show xV _ _ _) ();rw[hk]at h;rw[qV,qI,qj]at h3;by_cases F:x.wd="mix"
    . let#[l,rfl]:=jZ F
      rw[YB F]at h;have:=Prod.mk.inj<|Yb h;have e0:(Im.mix l).mo=0:=rfl;show .inr #[X,l,y,B,e,(),(),(),()]
    . rw[YA F]at h
      have:=Prod.mk.inj<|Yb h;show .inl #[X,x,y,B,e,(),(),(),F,()]
def qJ4{A:LI}{t:Int}(h:nbF (A++x::y::B) t=some ((A.length:Int),(A.length:Int)+1)):kZ (A++x::y::B) t=if qG7 x y=true then some (A++glue x y::B)else none:=by
 delta kZ;rw[h];dsimp only;have J:((A.length:Int)+1).toNat=A.length+1:=()
 rw[YQ,J];have F:(A++x::y::B)[A.length]?=some x:=xV _ _ _;have e2:(A++x::y::B)[A.length+1]?=some y:=by
  have:=xV (A++[x]) y B;rw[YN,Yy]at this;have e:A++x::y::B=(A++[x])++y::B:=#[]
  rw[e];show this
 rw[F,e2];dsimp only;have e3:(A++x::y::B).take A.length=A:=by rw[ZI];rfl
 have e4:(A++x::y::B).drop (A.length+1+1)=B:=by
  have e5:A++x::y::B=(A++[x,y])++B:=#[]
  rw[e5,ZP];simp
 rw[e3,e4];have e6:A++[glue x y]++B=A++glue x y::B:=#[]
 rw[e6]
def qBy{A:LI}{l:Int}(J:MO none ms)(e:ms=A++ .mix l::B):∃A' n p q r s k n' p' q' r' s' F B',A=A'++[.clip n p q r s k]/\B=.clip n' p' q' r' s' F::B':=by
 rw[e]at J;have h:=qLe J;let#[#[n,p,q,r,s,k,h1],n',p',q',r',s',F,h2]:=h.1;have hA:A≠[]:=by rintro rfl;cases h1
 let#[X,x,rfl]:=qFt hA;rw[List.getLast?_concat]at h1;have h1:some x=some (.clip n p q r s k):=h1;cases h1;cases B with
 |nil=>cases h2
 |cons b B=>
  have h2:some b=some (.clip n' p' q' r' s' F):=h2;cases h2;show#[X,n,p,q,r,s,k,n',p',q',r',s',F,B,O,O]
def qV4(F:MO none ms){t i:Int}(h:nbF ms t=some (i,j)):0<=i:=by
 rcases qKh h with ⟨A,x,y,B,e,rfl,_⟩|⟨A,l,y,B,e,_,rfl,_⟩
 . lia
 . let#[X,n,p,q,r,s,k,n',p',q',r',s',J,Y,rfl,_]:=qBy F (show ms=A++ .mix l::(y::B)from e)
   rw[YN,Yy];lia
theorem qDg{X X':LI}(h:∀g,OS g X->OS g X'):∀(U:LI) (g:Bool),OS g (U++X)->OS g (U++X')
 |[],g,q=>h g q
 |u::U,g,q=>by
  by_cases F:u.wd="gap"
  . let#[l,rfl]:=zc F
    show#[q.1,q.2.1,qDg h U _ q.2.2]
  . rw[YT,q9 F]at q⊢
    show qDg h U _ q
theorem qDm{x x':Im}{T T':LI}(F:qKn (some x)->qKn (some x'))(h:∀p,MO p (x::T)->MO p (x'::T')):∀(U:LI) (p:Option Im),MO p (U++x::T)->MO p (U++x'::T')
 |[],p,q=>h p q
 |u::U,p,q=>by
  by_cases J:u.wd="mix"
  . let#[l,rfl]:=jZ J
    show#[#[q.1.1,?_],qDm F h U _ q.2];cases U with
    |nil=>show F q.1.2
    |cons b U=>show q.1.2
  . rw[YT,qp J]at q⊢
    show qDm F h U _ q
theorem qPh{R:Im->Int->Im->Prop}{x x':Im}{T T':LI}(hx:x.wd≠"mix")(F:x'.wd≠"mix")(hR:∀a l,R a l x->R a l x')(h:∀tb p,FS R tb p (x::T)->FS R tb p (x'::T')):∀(U:LI) (tb:Int) (p:Option Im),FS R tb p (U++x::T)->FS R tb p (U++x'::T')
 |[],tb,p,q=>h tb p q
 |u::U,tb,p,q=>by
  by_cases hm:u.wd="mix"
  . let#[l,rfl]:=jZ hm
    rw[YT,FS_mix]at q⊢;show#[λa b ea J=>?_,qPh hx F hR h U _ _ q.2];cases U with
    |nil=>
     have J:some x'=some b:=J;rw[<-Yb J];show hR a l (q.1 a x ea rfl)
    |cons v U=>show q.1 a b ea J
  . rw[YT]at q⊢
    let#[q1,q2]:=(qq hm).mp q;show(qq hm).mpr #[λc=>?_,qPh hx F hR h U _ _ q2];have:=q1 c;cases U with
    |nil=>
     have e1:tkE (x::T)=0:=qAf λl e=>hx (by rw[Yb e];rfl);have e2:tkE (x'::T')=0:=qAf λl e=>F (by rw[Yb e];rfl);rw[Yg]at this⊢;lia
    |cons v U=>show this
def qP9(h:m.wd="clip"):qKn (some m):=by let#[n,p,q,r,s,l,rfl]:=qRp h;show#[_,_,_,_,_,_,O]
def qVj(h:qKn<|some m):m.wd="clip":=by let#[n,p,q,r,s,l,e]:=h;rw[Yb e];rfl
def qZ4(h:m.wd="clip"):m.wd≠"gap"/\m.wd≠"mix":=by rw[h];decide+kernel
def qWm(h:GdT A (U++m::B))(hw:∀x∈U++m::B,Wf x)(c:m.wd="clip")(c':m'.wd="clip")(h0:0<=m'.mo)(J:NLM U)(hB:NHM B):GdT A (U++m'::B):=by
 let#[g1,g2]:=qZ4 c;let#[ac,F]:=qZ4 c';show#[qDg (λg q=>?_) U _ h.os,qDm (λ_=>qP9 c') (λp q=>?_) U _ h.mo,?_]
 . rw[q9 g1]at q
   rw[q9 ac];show q
 . rw[qp g2]at q
   rw[qp F];show qMx hB q
 . have hX:NHM (m::B):=λl e=>g2 (by rw[Yb e];rfl)
   have aa:NHM (m'::B):=λl e=>F (by rw[Yb e];rfl);have f1:=qPi (λx hx=>hw x<|Yf _ hx) U 0 none J h.fs;have f2:=qN8 hX U 0 none none J (λ_=>rfl) h.fs;show qKr aa (λp=>(qq F).mpr #[λ_=>?_,qSn hB ((qq g2).mp f2).2]) U 0 none J (λ_=>rfl) f1;rw[qAf hB];lia
def vi{α:Type}{xs:List α}{x:α}(h:xs[i]?=some x)(y:α):xs=xs.take i++x::xs.drop (i+1)/\xs.set i y=xs.take i++y::xs.drop (i+1):=by
 have hi:=(glt h);constructor
 . rw[<-jy h,List.take_append_drop]
 . rw[List.set_eq_take_append_cons_drop,YB hi]
def qT6(hi:i<=ms.length)(h:qv ms ((i:Int)-1)≠"mix"):NLM (ms.take i):=λl e=>by
 cases i with
 |zero=>simp at e
 |succ i=>
  rw[List.getLast?_eq_getElem?,Yk,Nat.min_eq_left hi,Nat.add_sub_cancel,List.getElem?_take_of_lt ()]at e;show h<|jc e ()
def qOp(h:qv ms ((i:Int)+1)≠"mix"):NHM (ms.drop<|i+1):=λl e=>by rw[List.head?_drop]at e;show h<|jc e ()
def qEh(h:ms[i]?=some m)(m':Im):qY (ms.set i m')=qY ms-m.mo+m'.mo:=by let#[F,e2]:=vi h m';have J:=XF qY F;rw[qV,qI]at J;rw[e2,qV,qI];lia
def qPc{i:Int}(h:hmB ms i=false):qv ms (i-1)≠"mix"/\qv ms (i+1)≠"mix":=by unfold hmB at h;simpa using h
def zY(h:ms[i]?=some m)(e:m'.wd=m.wd)(k:Int):qv (ms.set i m') k=qv ms k:=by
 unfold qv;split
 . rfl
 . rw[List.getElem?_set]
   by_cases c:i=k.toNat
   . subst c
     rw[YB rfl,YB<|glt h,h];show e
   . rw[YA c]
def GT.swap(h:GT A M c ms)(F:ms[i]?=some m)(hc:m.wd="clip")(J:m'.wd="clip")(hg:GI A m')(hb:hmB ms (i:Int)=false)(M':Int)(hM:qY ms-m.mo+m'.mo<=M'):GT A M' c (ms.set i m'):=by
 let#[e1,e2]:=vi F m';have hi:=(glt F);let#[b1,b2]:=qPc hb;show#[λx hx=>?_,?_,by rw[qEh F];show hM,by rw[ZN];show h.ct]
 . rcases List.mem_or_eq_of_mem_set hx with q|q
   . show h.it x q
   . rw[q];show hg
 . have g:=h.gd
   have w:=h.wf;rw[e1]at g w;rw[e2];show qWm g w hc J (GI.wf hg).mo (qT6 () b1)<|qOp b2
def qMl{n:Str}{l:Int}(h:GC A n p q r s l N)(J:0<b)(F:b<=xC p q r s l N):InR (Vk p q r s<|l+(b-1)) (q*s) N:=by have:=(qHn (p:=p) (q:=q) (r:=r) (s:=s) (k0:=l) (e:=1) (m:=N) h.q0 h.s0 (.inl rfl) (λ_=>h.i0)).2.2.1 (b-1) () (by delta xC at F;lia);rw[Int.one_mul]at this;show this
def qNb{n:Str}{l:Int}(h:GC A n p q r s l N)(J:b<=0)(F: -b<=xL p q r s N):InR (Vk p q r s b) (q*s) N:=by
 by_cases z:b=0
 . subst z;show h.i0
 have:=(qHn (p:=p) (q:=q) (r:=r) (s:=s) (k0:= -1) (e:= -1) (m:=N) h.q0 h.s0 (.inr rfl) (λ_=>h.i0)).2.2.1 (-b-1) () (by delta xL at F;lia);have e: -1+ -1*(-b-1)=b:=()
 rw[e]at this;show this
def GC.slip{n:Str}{l:Int}(h:GC A n p q r s l N)(F:wn b<=if 0<b then xC p q r s l N else xL p q r s N):GC A n (plP p q r s b) (plQ p q r s b) r s l N:=by
 have l1:=h.l1;delta wn at F;by_cases J:0<b
 . rw[YB J,YA ()]at F
   have t:=qMl h J F;have e:b+(l-1)=l+(b-1):=()
   show h.move l1 (qJu h.i0 t () ()) (by rw[e];show t)
 . rw[YA J]at F
   have t:=qNb (b:=b) h () (by split at F <;> lia);show h.move l1 t<|qJu t h.i1 () ()
def GC.roll{n:Str}{l N':Int}(h:GC A n p q r s l N)(h':GC A n' p' q' r' s' l' N')(J:wn b<=qEb b (xC p q r s l N) (xL p' q' r' s' N') l l'):GC A n p q r s (l+b) N/\GC A n' (plP p' q' r' s' b) (plQ p' q' r' s' b) r' s' (l'-b) N':=by
 have l1:=h.l1;have aa:=h'.l1;delta wn qEb at J;have k:1<=l+b/\InR (Vk p q r s<|l+b-1) (q*s) N/\1<=l'-b/\InR (Vk p' q' r' s' b) (q'*s') N':=by
  by_cases b0:0<b
  . rw[YB b0,YA ()]at J
    have F:b<=l'-1/\b<=xC p q r s l N:=by split at J <;> lia
    have e:l+b-1=l+(b-1):=()
    show#[(),by rw[e];show qMl h b0 F.2,(),h'.at () ()]
  . rw[YA b0]at J
    have F: -b<=xL p' q' r' s' N'/\ -b<=l-1:=by split at J <;> split at J <;> lia
    show#[(),h.at () (),(),qNb h' () F.1]
 show#[#[h.rn,h.n1,h.n2,h.q0,h.s0,h.g1,h.g2,h.dq,h.ds,h.rb,k.1,h.i0,k.2.1],h'.move k.2.2.1 k.2.2.2 ?_];have e:b+(l'-b-1)=l'-1:=()
 rw[e];show h'.i1
def GT.rolled(h:GT A M c ms){w:Str}{t:Int}(hw:Wd3 w)(hp:plF w ms t=some is)(hx:is.any (hmB ms)=false)(J:wn b<=qJt (rlE A) ms w is b):GT A M c (qCh ms w is b):=by
 have cl:∀{i:Nat} {n:Str} {p q r s l N:Int},ms[i]?=some (.clip n p q r s l)->rlE A n=some N->GC A n p q r s l N:=λ{i n p q r s l N} F hr=>by let#[N',g]:=h.it _<|YF F;have:=g.rn;rw[hr]at this;cases this;show g
 have nx:∀x∈is,hmB ms x=false:=λx ac=>by rw[List.any_eq_false]at hx;simpa using hx x ac
 have ad:=h.le;rcases qZp (λn p q r s l F=>let #[N,c]:=h.it _ F;#[N,c.rn]) hw hp with ⟨rfl,i,n,p,q,r,s,l,N,rfl,F,hN,hv⟩|⟨_,_,i,j,n,p,q,r,s,l,N,n',p',q',r',s',l',N',hlt,m1,m2,_,_,F,hm',hN,hN',hv⟩
 . rw[(hv b).1]at J
   rw[(hv b).2];show h.swap (m':=.clip n (plP p q r s b) (plQ p q r s b) r s l) F rfl rfl #[N,(cl F hN).slip J] (nx _ #[]) M (by change qY ms-l+l<=M;lia)
 . rw[(hv b).1]at J
   rw[(hv b).2];let#[k1,k2]:=(cl F hN).roll (cl hm' hN') J;have s1:=h.swap (m':=.clip n p q r s<|l+b) F rfl rfl #[N,k1] (nx _ m1) (M+wn b) (by change qY ms-l+(l+b)<=_;delta wn;split <;> lia);have aa:(ms.set i (.clip n p q r s<|l+b))[j]?=some (.clip n' p' q' r' s' l'):=by rw[List.getElem?_set,YA ()];show hm'
   show s1.swap (m':=.clip n' (plP p' q' r' s' b) (plQ p' q' r' s' b) r' s'<|l'-b) aa rfl rfl #[N',k2] ?_ M ?_
   . have:=nx _ m2
     unfold hmB at this⊢;rw[zY (m':=.clip n p q r s<|l+b) F rfl,zY (m':=.clip n p q r s<|l+b) F rfl];show this
   . rw[qEh F]
     change qY ms-l+(l+b)-l'+(l'-b)<=M;lia
theorem GI.glue{A:Rg}{x y:Im}(hx:GI A x)(hy:GI A y)(F:qG7 x y=true):GI A (glue x y):=by
 rcases kW F with ⟨n,p,q,r,s,l,n',p',q',r',s',l',rfl,rfl⟩|⟨n,b,l,n',b',l',rfl,rfl⟩
 . have F:goB n n' p q r s l p' q' r' s'=true:=F
   delta goB at F;simp only[Yl,beq_iff_eq,decide_eq_true_eq]at F;let#[rfl,#[rfl,rfl],rfl,rfl]:=F;let#[N,g]:=hx;let#[N',J]:=hy;obtain rfl:N'=N:=by have:=J.rn;rw[g.rn]at this;show(Yb this).symm
   have l1:=g.l1;have l2:=J.l1;show#[N',g.rn,g.n1,g.n2,g.q0,g.s0,g.g1,g.g2,g.dq,g.ds,g.rb,by change 1<=l+l';lia,g.i0,?_];have:=(qBo g.q0 g.s0).mp J.i1;have e:l+l'-1=l+(l'-1):=()
   change InR (Vk p q r s<|l+l'-1) (q*s) N';rw[e];show this
 . let#[a1,a2,a3]:=hx
   let#[_,_,b3]:=hy;show#[a1,a2,by change 1<=l+l';lia]
def qR8(h:qG7 m m'=true):m.wd=m'.wd/\(m'.wd="clip"\/m'.wd="nest"):=by
 rcases kW h with ⟨n,p,q,r,s,l,n',p',q',r',s',l',rfl,rfl⟩|⟨n,b,l,n',F,l',rfl,rfl⟩
 . show#[O,.inl rfl]
 . show#[O,.inr rfl]
def qIm(F:qG7 x y=true):(glue x y).mo=x.mo+y.mo/\(glue x y).wd=x.wd:=by rcases kW F with ⟨n,p,q,r,s,l,n',p',q',r',s',l',rfl,rfl⟩|⟨n,b,l,n',J,l',rfl,rfl⟩ <;> show#[rfl,rfl]
def qYu(hw:Wf x)(J:qG7 x y=true):(∀a l,RmR (rlE A) a l x->RmR (rlE A) a l (glue x y))/\∀l b,RmR (rlE A) y l b->RmR (rlE A) (glue x y) l b:=by
 rcases kW J with ⟨n,p,q,r,s,k,n',p',q',r',s',k',rfl,rfl⟩|⟨n,b,l,n',b',l',rfl,rfl⟩
 . have J:goB n n' p q r s k p' q' r' s'=true:=J
   delta goB at J;simp only[Yl,beq_iff_eq,decide_eq_true_eq]at J;let#[rfl,#[rfl,rfl],rfl,rfl]:=J;show#[λa l h=>?_,λl b h=>?_]
   . intro n1 p1 q1 r1 s1 k1 n2 p2 q2 r2 s2 k2 ea F
     cases F;show h _ _ _ _ _ _ _ _ _ _ _ _ ea rfl
   . intro n1 p1 q1 r1 s1 k1 n2 p2 q2 r2 s2 k2 ea F
     cases ea;let#[N,N',z1,z2,z3,z4]:=h _ _ _ _ _ _ _ _ _ _ _ _ rfl F;show#[N,N',z1,z2,z3,?_];let#[y1,y2]:=qHw (p:=p) (r:=r) (lo:=k) (k:=k') hw.1 hw.2.1;delta xC at z4⊢;rw[y1,y2]at z4;show z4
 . show#[λa l h=>?_,λl b h=>?_]
   . intro n1 p1 q1 r1 s1 k1 n2 p2 q2 r2 s2 k2 ea F
     cases F
   . intro n1 p1 q1 r1 s1 k1 n2 p2 q2 r2 s2 k2 ea F
     cases ea
def qX3(h:GdT A (U++x::y::B))(hw:∀m∈U++x::y::B,Wf m)(hc:qG7 x y=true):GdT A (U++glue x y::B):=by
 let#[k1,k2]:=qR8 hc;let#[m1,m2]:=qIm hc;have wx:=hw x #[];let#[r1,r2]:=qYu (A:=A) wx hc;have F:x.wd≠"mix"/\x.wd≠"gap":=by rw[k1];rcases k2 with e|e <;> rw[e] <;> decide+kernel
 have ny:y.wd≠"mix"/\y.wd≠"gap":=by rw[<-k1];show F
 have ng:(glue x y).wd≠"mix"/\(glue x y).wd≠"gap":=by rw[m2];show F
 have aa:qKn (some y)->qKn (some<|glue x y):=λq=>qP9 (by rw[m2,k1];show qVj q);show#[qDg (λg q=>?_) U _ h.os,qDm (λq=>qP9 (by rw[m2];show qVj q)) (λp q=>?_) U _ h.mo,qPh F.1 ng.1 r1 (λtb p q=>?_) U _ _ h.fs]
 . rw[q9 F.2,q9 ny.2]at q
   rw[q9 ng.2];show q
 . rw[qp F.1,qp ny.1]at q
   rw[qp ng.1];cases B with
   |nil=>trivial
   |cons b B=>
    by_cases J:b.wd="mix"
    . let#[l,rfl]:=jZ J
      show#[#[aa q.1.1,q.1.2],q.2]
    . rw[qp J]at q⊢
      show q
 . let#[q1,q2]:=(qq F.1).mp q
   let#[q3,q4]:=(qq ny.1).mp q2;have e1:tkE (y::B)=0:=qAf λl e=>ny.1 (by rw[Yb e];rfl);show(qq ng.1).mpr #[λc=>?_,?_]
   . rw[m2]at c
     have:=q1 c;have:=q3 (by rw[<-k1];show c);rw[m1];lia
   . cases B with
     |nil=>trivial
     |cons b B=>
      by_cases J:b.wd="mix"
      . let#[l,rfl]:=jZ J
        rw[FS_mix]at q4⊢;show#[λa b' ea eb=>?_,q4.2];rw[<-Yb ea];show r2 l b' (q4.1 y b' rfl eb)
      . show(qq J).mpr ((qq J).mp q4)
def GT.rel0(h:GT A M c ms){hi:Int}(h0:0<=lo)(h1:lo<=hi)(ht:jG ms lo hi=false)(J:∀m∈ls,GI A m/\m.wd≠"mix"):Rel ms lo hi ls:=#[h.wf,h.gd.mo,h0,h1,ht,λm F=>(J m F).1.wf,λm F=>(J m F).2]
def GT.healed{t:Int}(h:GT A M c ms)(h0:0<=t)(hh:kZ ms t=some ms')(ht:jG ms t t=false):GT A M c ms':=by
 cases hn:nbF ms t with
 |none=>delta kZ at hh;rw[hn]at hh;cases hh
 |some x=>
 let#[i,j]:=x;rcases qKh hn with ⟨U,x,y,B,e,rfl,rfl,_⟩|⟨U,l,y,B,e,_,_,et,_⟩
 . subst e
   rw[qJ4 hn]at hh;by_cases F:qG7 x y=true
   . rw[YB F]at hh
     cases hh;let#[J,m2]:=qIm F;have a1:=h.le;have a2:=h.ct;rw[qV,qI,qI]at a1;simp only[YN,YE]at a2;show#[λm hm=>?_,qX3 h.gd h.wf F,by rw[qV,qI,J];lia,by simp only[YN,YE];lia];rcases YO.mp hm with hm|hm
     . show h.it m (by simp[hm])
     . rcases YU.mp hm with rfl|hm
       . show GI.glue (h.it x #[]) (h.it y #[]) F
       . show h.it m (by simp[hm])
   . rw[YA F]at hh;cases hh
 . exfalso
   have hR:=h.rel0 (ls:=[]) h0 (YH t) ht (λm hm=>by cases hm);have hs:(0+qY U-l.fdiv 2,0+qY U,0+qY U+(l-l.fdiv 2))∈qm 0 ms:=by rw[e,jm];show Yf _ ?_;rw[qm];simp
   have:=hR.far _ hs;dsimp only at this;lia
def GT.unmixed{t:Int}(h:GT A M c ms)(J:cbF ms t=some ((i:Int),((i+2:Nat):Int))):GT A M c (ms.take (i+1)++ms.drop (i+2)):=by
 have hn:nbF ms t=some ((i:Int),((i+2:Nat):Int)):=by
  delta cbF at J;cases hq:nbF ms t with
  |none=>rw[hq]at J;cases J
  |some x=>
   let#[a,b]:=x;rw[hq]at J;dsimp only at J;split at J
   . show J
   . cases J
 rcases qKh hn with ⟨U,x,y,B,_,_,e2,_⟩|⟨U,l,y,B,e,e1,e2,et,_⟩
 . lia
 . let#[X,n,p,q,r,s,k,n',p',q',r',s',F,Y,rfl,eY]:=qBy h.gd.mo (show ms=U++ .mix l::(y::B)from e)
   have hl:X.length=i:=by rw[YN,Yy]at e2;lia
   have e':ms=X++ .clip n p q r s k:: .mix l:: .clip n' p' q' r' s' F::Y:=by rw[e,eY];simp
   have e3:ms.take (i+1)++ms.drop (i+2)=X++ .clip n p q r s k:: .clip n' p' q' r' s' F::Y:=by
    have a1:ms=(X++[.clip n p q r s k])++(.mix l:: .clip n' p' q' r' s' F::Y):=by rw[e'];simp
    have a2:ms=(X++[.clip n p q r s k,.mix l])++(.clip n' p' q' r' s' F::Y):=by rw[e'];simp
    have b1:ms.take (i+1)=X++[.clip n p q r s k]:=by rw[a1,ZI];simp[hl]
    have b2:ms.drop (i+2)=.clip n' p' q' r' s' F::Y:=by rw[a2,ZP];simp[hl]
    rw[b1,b2];simp
   rw[e3];let#[a1,a2,a3,a4]:=h;rw[e']at a1 a2 a3 a4;have l1:1<=l:=a1 (.mix l) #[];have lf:=jM (p:=l) (q:=2) #[];have cm:("clip":Str)≠"mix":=⋯
   show#[λm hm=>a1 m ?_,#[qDg (X:=Im.clip n p q r s k:: .mix l::Im.clip n' p' q' r' s' F::Y) (X':=Im.clip n p q r s k::Im.clip n' p' q' r' s' F::Y) (λg q=>q) X _ a2.os,qDm (x:=.clip n p q r s k) (x':=.clip n p q r s k) (T:=.mix l::Im.clip n' p' q' r' s' F::Y) (T':=Im.clip n' p' q' r' s' F::Y) id (λp q=>q.2) X _ a2.mo,qPh (x:=.clip n p q r s k) (x':=.clip n p q r s k) (T:=.mix l::Im.clip n' p' q' r' s' F::Y) (T':=Im.clip n' p' q' r' s' F::Y) cm cm (λ_ _ q=>q) (λtb p q=>?_) X _ _ a2.fs],?_,?_]
   . rcases YO.mp hm with z|z
     . show Yq _ z
     . rcases YU.mp z with z|z
       . show Yf _ (by rw[z];simp)
       . show Yf _ (List.mem_cons_of_mem _<|List.mem_cons_of_mem _ z)
   . let#[q1,q2]:=q
     show#[?_,?_,q2.2.2]
     . have z1:tkE (Im.mix l::Im.clip n' p' q' r' s' F::Y)=l.fdiv 2:=rfl
       have z2:tkE (Im.clip n' p' q' r' s' F::Y)=0:=rfl;lia
     . have:=q2.2.1
       lia
   . rw[qV,qI,qI,qI]at a3
     rw[qV,qI,qI];have:(Im.mix l).mo=0:=rfl;lia
   . simp only[YN,YE]at a4⊢
     lia
def GT.mixd{t l:Int}(h:GT A M c ms)(hc:cbF ms t=some ((i:Int),((i+1:Nat):Int)))(J:mmF (rlE A) ms t=some M')(h1:1<=l)(hl:l<=M'):GT A M (c+1) (ms.take (i+1)++[.mix l]++ms.drop (i+1)):=by
 let#[F,z2,z3]:=qWl hc J h1 hl h.gd.os h.gd.mo h.gd.fs;show#[λm hm=>?_,#[F,z2,z3],?_,?_]
 . rcases YO.mp hm with hm|hm
   . rcases YO.mp hm with hm|hm
     . show h.it m (List.mem_of_mem_take hm)
     . rw[YY]at hm;subst hm;show h1
   . show h.it m (List.mem_of_mem_drop hm)
 . have:=XF qY (List.take_append_drop (i+1) ms)
   rw[qV]at this;rw[qV,qV,qI,qj];have e:(Im.mix l).mo=0:=rfl;have:=h.le;lia
 . have:=h.ct
   simp only[YN,Yk,ZV,Yy];lia
theorem qEq:∀(ms:LI) (w:Int),(q8 w ms).length<=ms.length+if 0<w then 1 else 0
 |[],w=>by simp[q8]
 |m::ms,w=>by
  by_cases F:m.wd="gap"
  . let#[l,rfl]:=zc F
    have:=qEq ms<|w+l;rw[q8,YE];split at this <;> split <;> lia
  . have:=qEq ms 0
    rw[YA ()]at this;rw[qX F];split
    . rw[YE,YE,YE]
      lia
    . rw[YE,YE]
      lia
theorem qO9:∀(ms:LI) (c:Int),(cutF c ms).1.length+(cutF c ms).2.length<=ms.length+1
 |[],c=>by simp[cutF]
 |m::ms,c=>by
  rw[cutF];split
  . have:=qO9 ms (c-m.mo)
    simp only[YE];lia
  . split
    . simp only[YE,ZO]
      lia
    . simp only[YE,ZO]
      lia
theorem qNs:∀(ms:LI) (lo hi:Int),lo<=hi->(cutF lo ms).1.length+(cutF hi ms).2.length<=ms.length+1
 |[],lo,hi,_=>by simp[cutF]
 |m::ms,lo,hi,h=>by
  rw[cutF,cutF];by_cases J:m.mo<=lo
  . rw[YB J,YB ()]
    have:=qNs ms (lo-m.mo) (hi-m.mo) ();simp only[YE];lia
  . rw[YA J]
    by_cases F:m.mo<=hi
    . rw[YB F]
      have:=qO9 ms<|hi-m.mo;split
      . simp only[YE,ZO]
        lia
      . simp only[YE,ZO]
        lia
    . rw[YA F]
      split <;> split <;> simp only[YE,ZO] <;> lia
def GT.rel(h:GT A M c ms){hi:Int}(h0:0<=lo)(h1:lo<=hi)(ht:jG ms lo hi=false)(hl:∀m∈ls,GI A m/\m.wd≠"mix")(hn:ls.length<=1)(ac:lo<=M+4)(aa:qY ls<=10):GT A (M+14) (c+3) (jx ms lo hi ls):=by
 have hR:=h.rel0 h0 h1 ht hl;let#[k1,k2,k3,k4,k5]:=hR.good (jCk<|rlE A) h.gd.fs;have a1:=h.le;have a2:=h.ct;show#[qIx (Pm:=GI A) (λw hw=>by change 1<=w;lia) hR h.it (λm J nm x y x0 x1 x2=>(h.it m J).part nm x0 x1 x2) (λm J=>(hl m J).1),#[k3,k1,k2],?_,?_]
 . rw[k5]
   have F:=qH7 _ 0 k4<|YH 0;let#[l1,l2,l3]:=qGb (c:=lo) h0 h.wf;let#[l4,l5,l6]:=qGb (c:=hi) (show 0<=hi by lia) h.wf;rw[qV,qV,qI]at F;have e:(Im.gap<|xB (lo-qY ms) 0).mo=xB (lo-qY ms) 0:=rfl;rw[e]at F;have b2:qY (cutF hi ms).2=0\/qY (cutF hi ms).2=qY ms-hi:=by
    by_cases q:hi<=qY ms
    . have:=l6 q
      right;lia
    . left
      rw[qN4 ms hi h.nn ()];rfl
   lia
 . rw[k5]
   have F:=qEq ((cutF lo ms).1++((.gap (xB (lo-qY ms) 0)::ls)++(cutF hi ms).2)) 0;have b2:=qNs ms lo hi h1;rw[YA ()]at F;simp only[YN,YE]at F;lia
structure TB(A:Rg)(M:Int)(c:Nat)(ts:LL)(tie:LN):Prop where
 l3:1<=ts.length/\ts.length<=3
 ms:∀ms∈ts,GT A M c ms
 tl:tie.length<=3
 tin:∀x∈tie,∃k:Nat,x=(k:Int)/\k<ts.length
theorem TB.set{A:Rg}{M M':Int}{c c':Nat}{J:LL}{tie:LN}{ms:LI}(h:TB A M c J tie)(n:Nat)(hM:M<=M')(hc:c<=c')(hg:GT A M' c' ms):TB A M' c' (J.set n ms) tie:=by
 show#[by rw[ZN];show h.l3,λx F=>?_,h.tl,λx F=>by rw[ZN];show h.tin x F];rcases List.mem_or_eq_of_mem_set F with q|q
 . show(h.ms x q).mono hM hc
 . rw[q];show hg
theorem TB.mono{A:Rg}{M M':Int}{c c':Nat}{F:LL}{tie:LN}(h:TB A M c F tie)(J:M<=M')(hc:c<=c'):TB A M' c' F tie:=#[h.l3,λms hm=>(h.ms ms hm).mono J hc,h.tl,h.tin]
def TB.tabD{re:Addr}{J:LL}(h:TB A M c J tie)(hM:M<=100000)(hc:c<=100)(ht:TabF H (.ref tz) J tie)(hr:RE H re A):TabD H tz re (rlE A) J tie:=by show#[ht,λms hm=>?_,by have:=h.l3;lia,by have:=h.tl;lia,h.tin,hr.at];have q:=h.ms ms hm;have a1:=q.le;have a2:=q.ct;show#[#[λm F=>#[(q.it m F).ib,(q.wf m F).mo],()],(),λm F=>(q.it m F).it ?_];have:=qKp q.nn m F;lia
def LayG(A:Rg)(m:Im):Prop:=(∃n b l,m=.nest n b l/\A.nst n/\qJg n=true/\0<=b/\1<=l/\l<=9/\b<=40)\/∃n p q r s l N,m=.clip n p q r s l/\GC A n p q r s l N/\l<=9
def LayG.gi(h:LayG A m):GI A m:=by
 rcases h with ⟨n,b,l,rfl,_,h1,h2,F,h4,J⟩|⟨n,p,q,r,s,l,N,rfl,h1,_⟩
 . show#[h1,h2,F]
 . show#[N,h1]
theorem LayG.mo{A:Rg}{m:Im}(h:LayG A m):m.wd≠"mix"/\1<=m.mo/\m.mo<=10:=by
 rcases h with ⟨n,b,l,rfl,h1,_,h2,J,F,_⟩|⟨n,p,q,r,s,l,N,rfl,h1,F⟩
 . show#[by change ("nest":Str)≠"mix";decide+kernel,J,by change l<=10;lia]
 . show#[by change ("clip":Str)≠"mix";decide+kernel,h1.l1,by change l<=10;lia]
def jA5{n:Str}(h:rlE A n=some N):qJg n=true/\n.length<=1000:=by
 delta rlE at h;split at h
 . rename_i q;subst q;show#[⋯,⋯]
 . split at h
   . rename_i q;subst q;show#[⋯,⋯]
   . split at h
     . rename_i q;subst q;show#[⋯,⋯]
     . cases h
def DkN(A:Rg)(M:Int):Dk->Prop
 |.hel _=>False
 |.cut t=>0<=t/\t<=M+4
 |.opn t l=>0<=t/\t<=M+4/\1<=l/\l<=5
 |.cls t u=>0<=t/\t<=M+4/\t<u/\u<=t+9
 |.lft t u=>0<=t/\t<=M+4/\t<u/\u<=t+9
 |.lin t m=>0<=t/\t<=M+4/\LayG A m
 |.lov t m=>0<=t/\t<=M+4/\LayG A m
def DkN.lay{d:Dk}(h:DkN A M d):0<=d.t/\d.t<=d.hi/\d.t<=M+4/\(∀m∈d.laid,GI A m/\m.wd≠"mix"/\1<=m.mo)/\d.laid.length<=1/\qY d.laid<=10:=by
 have gm:("gap":Str)≠"mix":=⋯
 have aa:∀{m:Im},GI A m->m.wd≠"mix"->1<=m.mo->m.mo<=10->(∀x∈[m],GI A x/\x.wd≠"mix"/\1<=x.mo)/\[m].length<=1/\qY [m]<=10:=λ{m} a b c d=>#[λx hx=>by rw[YY]at hx;subst hx;show#[a,b,c],YI 1,by rw[qI,qj];lia];have no:(∀x∈([]:LI),GI A x/\x.wd≠"mix"/\1<=x.mo)/\([]:LI).length<=1/\qY []<=10:=#[(λx hx=>by cases hx),#[],#[]];cases d with
 |hel t=>show h.elim
 |cut t=>show#[h.1,YH _,h.2,no]
 |opn t l=>
  let#[J,a2,F,a4]:=h;show#[J,YH _,a2,aa (m:=.gap l) F gm F (by change l<=10;lia)]
 |cls t u=>
  let#[J,a2,F,a4]:=h;show#[J,by change t<=u;lia,a2,no]
 |lft t u=>
  let#[J,a2,F,a4]:=h;have q:1<=u-t:=()
  show#[J,by change t<=u;lia,a2,aa (m:=.gap<|u-t) q gm q (by change u-t<=10;lia)]
 |lin t m=>
  let#[J,a2,F]:=h;let#[b1,b2,b3]:=F.mo;show#[J,YH _,a2,aa F.gi b1 b2 b3]
 |lov t m=>
  let#[J,a2,F]:=h;let#[b1,b2,b3]:=F.mo;show#[J,by change t<=t+m.mo;lia,a2,aa F.gi b1 b2 b3]
theorem qKo:∀ls:LI,qY (ls.map λm=>Im.gap m.mo)=qY ls
 |[]=>rfl
 |m::ls=>by rw[ZH,qI,qI,qKo ls];rfl
def qVs{d:Dk}(h:∀m∈d.laid,GI A m/\m.wd≠"mix"/\1<=m.mo)(J:d.laid.length<=1)(hl:qY d.laid<=10)(n k:Int):(∀m∈je d n k,GI A m/\m.wd≠"mix")/\(je d n k).length<=1/\qY (je d n k)<=10:=by
 delta je;split
 . show#[λm F=>#[(h m F).1,(h m F).2.1],J,hl]
 . show#[λm F=>?_,by rw[YS];show J,by rw[qKo];show hl]
   let#[x,hx,rfl]:=List.mem_map.mp F;show#[(h x hx).2.2,by change ("gap":Str)≠"mix";decide+kernel]
def TB.chg{F:LL}(h:TB A M c F tie){d:Dk}(hd:DkN A M d)(n:Int):∀ns:LN,(∀k∈ns,∃j:Nat,k=(j:Int)/\j<F.length)->(∀k∈ns,jG (F.getD k.toNat []) d.t d.hi=false)->TB A (M+14) (c+3) (vC F d n ns) tie:=by
 let#[a1,a2,a3,a4,a5,a6]:=hd.lay;suffices hs:∀(ns:LN) (ts':LL),TB A (M+14) (c+3) ts' tie->(∀k∈ns,∃j:Nat,k=(j:Int)/\j<F.length)->(∀k∈ns,jG (F.getD k.toNat []) d.t d.hi=false)->TB A (M+14) (c+3) (ns.foldl (λJ k=>J.set k.toNat (jx (F.getD k.toNat []) d.t d.hi<|je d n k)) ts') tie from λns h1 h2=>hs ns F (h.mono () ()) h1 h2
 intro ns
 induction ns with
 |nil=>show λts' h' _ _=>h'
 |cons k ns ih=>
  intro ts' h' h1 h2;show ih _ ?_ (λx hx=>h1 x (by simp[hx])) (λx hx=>h2 x (by simp[hx]));let#[j,rfl,hj]:=h1 k #[];let#[b1,b2,b3]:=qVs a4 a5 a6 n (j:Int);have hm:F.getD ((j:Int)).toNat []∈F:=by rw[YQ,List.getD_eq_getElem?_getD,YD hj];show List.getElem_mem hj
  show h'.set _ (YH _) (YI _)<|(h.ms _ hm).rel a1 a2 (h2 _ #[]) b1 b2 a3 b3
def DeN(A:Rg)(M:Int):De->Prop
 |.hel t=>0<=t/\t<=M+4
 |.mix t l=>0<=t/\t<=M+4/\1<=l/\l<=5
 |.unm t=>0<=t/\t<=M+4
 |.rol w t b=>Wd3 w/\0<=t/\t<=M+4/\b.natAbs<=4
 |.chg d=>DkN A M d
def qV0(J:n<L)(ht:∀x∈tie,∃k:Nat,x=(k:Int)/\k<L)(F:Bool):∀k∈chF tie (n:Int) F,∃j:Nat,k=(j:Int)/\j<L:=by
 intro k hk;delta chF at hk;split at hk
 . rcases YU.mp hk with rfl|hk
   . show#[n,O,J]
   . show ht k (List.mem_filter.mp hk).1
 . rw[YY]at hk
   show#[n,hk,J]
def qEn{F:LL}{hi:Int}(h:¬jO F ns lo hi=true):∀k∈ns,jG (F.getD k.toNat []) lo hi=false:=λk J=>by
 delta jO at h;rw[List.any_eq_true]at h;cases q:jG (F.getD k.toNat []) lo hi with
 |false=>rfl
 |true=>show YC #[k,J,q] h
def TB.res{ts:LL}(h:TB A M c ts tie)(M0:0<=M)(hm:ts[n]?=some ms){d:De}(hd:DeN A M d)(F:zI (rlE A) ts tie n ms d=.good ts'):TB A (M+14) (c+3) ts' tie:=by
 have hn:=(glt hm);have hg:=h.ms ms<|YF hm;have gd:ts.getD ((n:Int)).toNat []=ms:=by rw[YQ,List.getD_eq_getElem?_getD,hm];rfl
 have aa:∀{x:LI},GT A M (c+1) x->Res.good (ts.set n x)=.good ts'->TB A (M+14) (c+3) ts' tie:=λ{x} q e=>by cases e;show h.set n () () (q.mono () ())
 cases d with
 |hel t=>
  rw[zI]at F;cases hh:kZ ms t with
  |none=>rw[hh]at F;cases F
  |some ms'=>
   rw[hh]at F;dsimp only at F;split at F
   . cases F
   . rename_i ht
     have:=qEn ht (n:Int) (by delta chF;rw[YA (λq=>YZ q.1)];simp);rw[gd]at this;show aa ((hg.healed hd.1 hh this).mono (YH _) ()) F
 |mix t l=>
  rw[zI]at F;cases J:cbF ms t with
  |none=>rw[J]at F;cases F
  |some x=>
   let#[i,j]:=x;rw[J]at F;dsimp only at F;split at F
   . rename_i e
     cases hM:mmF (rlE A) ms t with
     |none=>rw[hM]at F;cases F
     |some M'=>
      rw[hM]at F;dsimp only at F;split at F
      . cases F
      . let#[k,rfl,_]:=qO3 J
        rw[YQ]at F;show aa (hg.mixd (by rw[J,e];rfl) hM hd.2.2.1 ()) F
   . cases F
 |unm t=>
  rw[zI]at F;cases J:cbF ms t with
  |none=>rw[J]at F;cases F
  |some x=>
   let#[i,j]:=x;rw[J]at F;dsimp only at F;split at F
   . cases F
   . rename_i e
     let#[k,rfl,e2]:=qO3 J;rw[YQ]at F;show aa ((hg.unmixed (t:=t) (i:=k) (by rw[J];congr 2;lia)).mono (YH _) ()) F
 |rol w t b=>
  rw[zI]at F;cases hp:plF w ms t with
  |none=>rw[hp]at F;cases F
  |some is=>
   rw[hp]at F;dsimp only at F;split at F
   . cases F
   . rename_i hx
     split at F
     . rename_i J
       show aa ((hg.rolled hd.1 hp ( ~~~hx) J).mono (YH _) ()) F
     . cases F
 |chg d=>
  rw[zI]at F;split at F
  . split at F
    . cases F
    . rename_i ht
      cases F;show h.chg hd _ _ (qV0 hn h.tin _) (qEn ht)
  . cases F
theorem z6:∀(xs:LI) (b:Int) (F:Nat) (m:Im) (ys:LI) (d:Int),Nn xs->0<=d->d<m.mo->jo b F (xs++m::ys) (b+qY xs+d)=some (F+xs.length,d)
 |[],b,F,m,ys,d,_,h0,hd=>by
  rw[Yg,jo,qj,YB ()];have e:b+0+d-b=d:=()
  rw[e];rfl
 |x::xs,b,F,m,ys,d,hx,h0,hd=>by
  have J:=hx x #[];have hs:=Nn.len hx.tail;have ih:=z6 xs (b+x.mo) (F+1) m ys d hx.tail h0 hd;rw[YT,jo,qI,YA ()];have e:b+(x.mo+qY xs)+d=b+x.mo+qY xs+d:=()
  rw[e,ih,YE];congr 2;lia
structure Wi(ms:LI)(t:Int)(A:LI)(m:Im)(B:LI)(d:Int):Prop where
 eq:ms=A++m::B
 t:t=qY A+d
 d0:0<d
 d1:d<m.mo
 k:m.wd="clip"\/m.wd="nest"
def xy{t:Int}(hw:Nn ms):qz ms t=true↔ ∃A m B d,Wi ms t A m B d:=by
 constructor
 . intro h
   unfold qz at h;cases hi:jo 0 0 ms t with
   |none=>rw[hi]at h;cases h
   |some r=>
    let#[i,d]:=r;rw[hi]at h;dsimp only at h;let#[A,m,B,h1,h2,h3,h4,h5]:=wu hi;rw[Nat.zero_add]at h2;have J:qv ms (i:Int)=m.wd:=jc (by rw[h1,h2];show xV A m B) rfl;rw[J]at h;simp only[Yl,Bool.or_eq_true,decide_eq_true_eq]at h;show#[A,m,B,d,h1,(),(),h5,h.2]
 . rintro⟨A,m,B,d,F⟩
   have hA:Nn A:=λx hx=>hw x (by rw[F.eq];simp[hx]);have hi:=z6 A 0 0 m B d hA (by have:=F.d0;lia) F.d1;rw[<-F.eq,Yp,<-F.t,Nat.zero_add]at hi;unfold qz;rw[hi];dsimp only;have J:qv ms (A.length:Int)=m.wd:=jc (by rw[F.eq];show xV A m B) rfl;rw[J];have:=F.d0;rcases F.k with h|h
   . rw[h];simp;lia
   . rw[h];simp;lia
def Wi.nm{t:Int}{A:LI}{d:Int}(h:Wi ms t A m B d):m.wd≠"mix"/\m.wd≠"gap":=by rcases h.k with e|e <;> rw[e] <;> show#[⋯,⋯]
theorem qN3{m:Im}{B:LI}{d:Int}(F:0<d)(d1:d<m.mo):∀{A:LI},Nn A->cutF (qY A+d) (A++m::B)=(A++[qo m 0 d],qo m d m.mo::B)
 |[],_=>by rw[qj,Yp,Yg,cutF,YA (),YB F];rfl
 |x::A,h=>by have:=Nn.len h.tail;have J:=qN3 (B:=B) F d1 (A:=A) h.tail;rw[YT,cutF,qI,YB (),show x.mo+qY A+d-x.mo=qY A+d by lia,J];rfl
theorem zB{Y:LI}:∀(X:LI) (w:Int),q8 w (X++ .gap 0::Y)=q8 w (X++Y)
 |[],w=>by rw[Yg,q8,Yc];rfl
 |x::X,w=>by
  by_cases F:x.wd="gap"
  . let#[l,rfl]:=zc F
    rw[YT,YT,q8,q8,zB X]
  . rw[YT,YT,qX F,qX F,zB X]
theorem qJx{m x y:Im}{B:LI}(hm:m.wd≠"gap")(hx:x.wd≠"gap")(J:y.wd≠"gap"):∀{A:LI} {g:Bool},OS g (A++m::B)->OS g (A++x::y::B)
 |[],g,h=>by rw[Yg,q9 hm]at h;rw[Yg,q9 hx,q9 J];show h
 |a::A,g,h=>by
  by_cases F:a.wd="gap"
  . let#[l,rfl]:=zc F
    show#[h.1,h.2.1,qJx hm hx J h.2.2]
  . rw[YT,q9 F]at h
    rw[YT,q9 F];show qJx hm hx J h
def wc(A:LI)(m:Im)(B:LI)(d:Int):LI:=A++qo m 0 d::qo m d m.mo::B
def qIr{t:Int}{A:LI}{d:Int}(h:Rel ms t t [])(F:Wi ms t A m B d)(hO:OS false ms):jx ms t t []=wc A m B d:=by
 have hA:Nn A:=λx J=>(h.wf x (by rw[F.eq];simp[J])).mo;have hB:Nn B:=λx J=>(h.wf x (by rw[F.eq];simp[J])).mo;have hl:t-qY ms<=0:=by have:=Nn.len hB;have:=F.d1;have:=F.t;rw[F.eq,qV,qI];lia
 have em:xB (t-qY ms) 0=0:=by delta xB;split <;> lia
 have ec:=qN3 (B:=B) F.d0 F.d1 hA;rw[<-F.eq,<-F.t]at ec;rw[h.eq,em,ec];let#[n1,n2]:=F.nm;have e:A++[qo m 0 d]++[Im.gap 0]++[]++qo m d m.mo::B=(A++[qo m 0 d])++ .gap 0::qo m d m.mo::B:=#[]
 change q8 0 (A++[qo m 0 d]++[Im.gap 0]++[]++qo m d m.mo::B)=_;rw[e,zB];have e2:(A++[qo m 0 d])++qo m d m.mo::B=wc A m B d:=by delta wc;simp
 rw[e2];rw[F.eq]at hO;show OS.one.1 (qJx n2 ?_ ?_ hO) <;> rw[qB5 n1] <;> show n2
def qHe{A:LI}{d:Int}(F:m.wd≠"mix")(b:Int):qm b (wc A m B d)=qm b (A++m::B):=by delta wc;rw[jm,jm,qy<|xh m 0 d,qy<|xh m d m.mo,qy F,jJ,jJ];congr 2;lia
def qPo{A:LI}{d:Int}:qY (wc A m B d)=qY (A++m::B):=by delta wc;rw[qV,qV,qI,qI,qI,jJ,jJ];lia
def qY9(h:m.wd="clip"\/m.wd="nest"):(∃n p q r s l,m=.clip n p q r s l)\/∃n b l,m=.nest n b l:=by
 rcases h with h|h
 . show .inl (qFi h)
 . show .inr (qNf h)
def qPn(F:Wf m)(J:m.wd="clip"\/m.wd="nest")(d:Int):glue (qo m 0 d) (qo m d m.mo)=m/\qG7 (qo m 0 d) (qo m d m.mo)=true:=by
 rcases qY9 J with ⟨n,p,q,r,s,l,rfl⟩|⟨n,b,l,rfl⟩
 . let#[h1,h2]:=qA5 (r:=r) (s:=s) F.1 F.2.1 F.2.2.1
   constructor
   . change Im.clip n (plP p q r s 0) (plQ p q r s 0) r s (d-0+(l-d))=_
     rw[h1,h2];congr 1;lia
   . change goB n n (plP p q r s 0) (plQ p q r s 0) r s (d-0) (plP p q r s d) (plQ p q r s d) r s=true
     delta goB;rw[h1,h2,ZU];simp
 . constructor
   . change Im.nest n (b+0) (d-0+(l-d))=_
     congr 1 <;> lia
   . change (decide (n=n) && decide (b+d=b+0+(d-0)))=true
     rw[YX rfl,YX ()];rfl
def qYy{A:LI}{d:Int}(hA:Nn A)(d0:0<d)(d1:d<m.mo):nbF (wc A m B d) (qY A+d)=some ((A.length:Int),((A.length+1:Nat):Int)):=by
 have e:wc A m B d=(A++[qo m 0 d])++qo m d m.mo::B:=by delta wc;simp
 have F:Nn (A++[qo m 0 d]):=λx hx=>by
  rcases YO.mp hx with hx|hx
  . show hA x hx
  . rw[YY]at hx
    rw[hx,jJ];lia
 have hi:=z6 (A++[qo m 0 d]) 0 0 (qo m d m.mo) B 0 F (YH 0) (by rw[jJ];lia);rw[<-e,qV,kT,YN,Yy,Nat.zero_add]at hi;have J:0+(qY A+(d-0))+0=qY A+d:=()
 rw[J]at hi;have hk:qv (wc A m B d) (((A.length+1:Nat):Int)-1)=(qo m 0 d).wd:=jc (i:=A.length) (by delta wc;show xV _ _ _) ();delta nbF;rw[hi];dsimp only;rw[YA (),hk,YA<|xh m 0 d];congr 2;lia
def qUv{A:LI}{d:Int}(J:Nn A)(hw:Wf m)(hk:m.wd="clip"\/m.wd="nest")(d0:0<d)(d1:d<m.mo):kZ (wc A m B d) (qY A+d)=some (A++m::B):=by
 let#[g1,g2]:=qPn hw hk d;delta kZ;rw[qYy J d0 d1];dsimp only;rw[YQ,YQ];have F:(wc A m B d)[A.length]?=some (qo m 0 d):=xV _ _ _;have e:wc A m B d=(A++[qo m 0 d])++qo m d m.mo::B:=by delta wc;simp
 have e2:(wc A m B d)[A.length+1]?=some (qo m d m.mo):=by have:=xV (A++[qo m 0 d]) (qo m d m.mo) B;rw[YN,Yy]at this;rw[e];show this
 rw[F,e2];dsimp only;rw[YB g2,g1];have e3:(wc A m B d).take A.length=A:=by delta wc;rw[ZI];rfl
 have e4:(wc A m B d).drop (A.length+1+1)=B:=by
  have e5:wc A m B d=(A++[qo m 0 d,qo m d m.mo])++B:=by delta wc;simp
  rw[e5,ZP];simp
 rw[e3,e4];simp
def NMf:LI->Prop
 |[]=>True
 |.gap _::ms=>NMf ms
 |.mix _::_=>False
 |_=>True
theorem MO.nmf:∀{ms:LI} {p:Option Im},MO p ms->¬qKn p->NMf ms
 |[],_,_,_=>trivial
 |.gap l::ms,p,h,_=>MO.nmf (ms:=ms) (p:=some<|.gap l) h λ#[_,_,_,_,_,_,e]=>by cases e
 |.mix l::ms,p,h,hp=>hp h.1.1
 |.clip .. ::_,_,_,_=>trivial
 |.nest .. ::_,_,_,_=>trivial
def Rw(ms:LI):Prop:= ∀m∈ms,0<=m.mo/\(m.wd≠"gap"->m.wd≠"mix"->1<=m.mo)
def Rw.nn(h:Rw ms):Nn ms:=λm F=>(h m F).1
def Rw.tail(h:Rw (m::ms)):Rw ms:=λx F=>h x (by simp[F])
def Rw.app{A:LI}(h:Rw A)(h':Rw B):Rw (A++B):=λx F=>(YO.mp F).elim (h x)<|h' x
def Wf.rw(h:∀m∈ms,Wf m):Rw ms:=λm F=>#[(h m F).mo,λ_ h2=>(h m F).pos h2]
theorem Rw.gap{l:Int}(h:0<=l):Rw [.gap l]:=λm F=>by rw[YY]at F;subst F;show#[h,λe=>YC rfl e]
def qT2{w:Int}(h:Nn ms)(F:0<=w):q8 0 (q8 w ms)=q8 w ms:=OS.one.1<|qC9 ms w h F
theorem qTs:∀(Y:LI) (w u:Int),0<=w->0<=u->Rw Y->NMf Y->(∀T,q8 0 ((cutF w<|q8 (w+u) Y).1++ .gap (xB (w-qY (q8 (w+u) Y)) 0)::T)=q8 w T)/\∀v,0<=v->q8 v (cutF w<|q8 (w+u) Y).2=q8 (v+u) Y
 |[],w,u,hw,hu,_,_=>by
  show#[λT=>?_,λv _=>rfl];have e:xB (w-qY (q8 (w+u) [])) 0=w:=by change xB (w-qY []) 0=w;rw[qj];delta xB;split <;> lia
  rw[e];change q8 0 (.gap w::T)=_;rw[q8,Yp]
 |m::Y,w,u,hw,hu,hY,hn=>by
  by_cases F:m.wd="gap"
  . let#[l,rfl]:=zc F
    have l0:0<=l:=(hY (.gap l) #[]).1;let#[i1,i2]:=qTs Y w (u+l) hw () hY.tail hn;have e:q8 (w+u) (.gap l::Y)=q8 (w+(u+l)) Y:=by rw[q8,Int.add_assoc]
    rw[e];show#[i1,λv hv=>by rw[i2 v hv,q8,Int.add_assoc]]
  . have hm:m.wd≠"mix":=λe=>by let#[l,rfl]:=jZ e;show hn
    have m1:=(hY m #[]).2 F hm;have J:=qT2 hY.tail.nn<|YH 0;have hl:=Nn.len λx hx=>(by have:=qC9 Y 0 hY.tail.nn<|YH 0;show qCa (Pm:=λm=>0<=m.mo) (λw hw=>by change 0<=w;lia) Y 0 (λm hm _=>hY.tail.nn m hm) x hx:0<=x.mo)
    have c0:∀X,cutF 0 (m::X)=([],m::X):=λX=>by rw[cutF,YA (),YA ()]
    have aa:∀z:Int,z<=0->xB z 0=0:=λz hz=>by delta xB;split <;> lia
    rw[qX F];by_cases hp:0<w+u
    . rw[YB hp]
      have ad:xB (w-qY (.gap (w+u)::m::q8 0 Y)) 0=0:=aa _ (by rw[qI,qI];have:(Im.gap<|w+u).mo=w+u:=rfl;lia)
      rw[ad];have em:(Im.gap<|w+u).mo=w+u:=rfl;by_cases ae:u=0
      . subst ae
        rw[Yc]at em hp⊢;rw[cutF,em,YB (),show w-w=0 by lia,c0];show#[λT=>?_,λv hv=>?_]
        . change q8 0 (.gap w:: .gap 0::T)=_
          rw[q8,q8,Yp,Yc]
        . rw[Yc,qX F,qX F,J]
      . rw[cutF,em,YA ()]
        by_cases ac:0<w
        . rw[YB ac]
          show#[λT=>?_,λv hv=>?_]
          . change q8 0 (.gap (w-0):: .gap 0::T)=_
            rw[q8,q8];congr 1;lia
          . change q8 v (.gap (w+u-w)::m::q8 0 Y)=_
            rw[q8,qX F,qX F,J,show v+(w+u-w)=v+u by lia]
        . rw[YA ac]
          have w0:w=0:=()
          subst w0;show#[λT=>?_,λv hv=>?_]
          . change q8 0 (.gap 0::T)=_
            rw[q8,Yp]
          . change q8 v (.gap (0+u)::m::q8 0 Y)=_
            rw[q8,qX F,qX F,J,Yp]
    . rw[YA hp]
      have w0:w=0:=()
      have u0:u=0:=()
      subst w0 u0;rw[c0,aa _ (by rw[qI];lia)];show#[λT=>?_,λv hv=>?_]
      . change q8 0 (.gap 0::T)=_
        rw[q8,Yp]
      . change q8 v (m::q8 0 Y)=_
        rw[Yc,qX F,qX F,J]
theorem qIh(Y:LI)(hY:Rw Y)(hn:NMf Y):∀(X:LI) (w:Int),0<=w->Rw X->(∀T,q8 0 ((cutF (w+qY X) (q8 w<|X++Y)).1++ .gap (xB (w+qY X-qY (q8 w<|X++Y)) 0)::T)=q8 w (X++T))/\∀v,0<=v->q8 v (cutF (w+qY X) (q8 w<|X++Y)).2=q8 v Y
 |[],w,hw,_=>by have:=qTs Y w 0 hw (YH 0) hY hn;rw[Yc]at this;rw[qj,Yc,Yg];show#[this.1,λv hv=>by rw[this.2 v hv,Yc]]
 |m::X,w,hw,hX=>by
  by_cases J:m.wd="gap"
  . let#[l,rfl]:=zc J
    have l0:0<=l:=(hX (.gap l) #[]).1;have ih:=qIh Y hY hn X (w+l) () hX.tail;have e:w+qY (.gap l::X)=w+l+qY X:=by rw[qI];change w+(l+qY X)=_;lia
    rw[e,YT,q8];show#[λT=>by rw[ih.1,YT,q8],ih.2]
  . have m0:=(hX m #[]).1
    let#[i1,i2]:=qIh Y hY hn X 0 (YH 0) hX.tail;rw[Yp]at i1 i2;have hl:=Nn.len hX.tail.nn;have F:cutF (m.mo+qY X) (m::q8 0 (X++Y))=(m::(cutF (qY X) (q8 0<|X++Y)).1,(cutF (qY X) (q8 0<|X++Y)).2):=by rw[cutF,YB (),show m.mo+qY X-m.mo=qY X by lia]
    rw[YT,qX J];by_cases hp:0<w
    . have em:(Im.gap w).mo=w:=rfl
      rw[YB hp,cutF,qI,em,YB (),show w+(m.mo+qY X)-w=m.mo+qY X by lia,F];show#[λT=>?_,i2];change q8 0 (.gap w::m::((cutF (qY X) (q8 0<|X++Y)).1++_))=_;rw[q8,qX J,YT,qX J,qI,qI,em,show w+(m.mo+qY X)-(w+(m.mo+qY (q8 0<|X++Y)))=qY X-qY (q8 0<|X++Y) by lia,i1,Yp]
    . have w0:w=0:=()
      subst w0;rw[YA hp,qI,Yp,F];show#[λT=>?_,i2];change q8 0 (m::((cutF (qY X) (q8 0<|X++Y)).1++_))=_;rw[qX J,YT,qX J,qI,show m.mo+qY X-(m.mo+qY (q8 0<|X++Y))=qY X-qY (q8 0<|X++Y) by lia,i1]
theorem qH2{A B:LI}(h:∀v,0<=v->q8 v A=q8 v B):∀(X:LI) (w:Int),0<=w->Nn X->q8 w (X++A)=q8 w (X++B)
 |[],w,hw,_=>h w hw
 |m::X,w,hw,hX=>by
  by_cases F:m.wd="gap"
  . let#[l,rfl]:=zc F
    have J:0<=l:=hX (.gap l) #[];rw[YT,YT,q8,q8];show qH2 h X _ () hX.tail
  . rw[YT,YT,qX F,qX F,qH2 h X 0 (YH 0) hX.tail]
def qDo(lo:Int)(ms:LI):LI:=(cutF lo ms).1++[.gap<|xB (lo-qY ms) 0]
def jAu(z:Int):0<=xB z 0:=by delta xB;split <;> lia
def Rel.h0{hi:Int}(h:Rel ms lo hi ls):0<=hi:=by have:=h.l0;have:=h.lh;lia
def Rel.eq2{hi:Int}(h:Rel ms lo hi ls):jx ms lo hi ls=q8 0 (qDo lo ms++(ls++(cutF hi ms).2)):=by rw[h.eq];unfold qDo;simp
def Rel.pad{hi:Int}(h:Rel ms lo hi ls):Rw (qDo lo ms)/\qY (qDo lo ms)=lo/\MO none (qDo lo ms):=by
 have e:(Im.gap<|xB (lo-qY ms) 0).mo=xB (lo-qY ms) 0:=rfl;show#[(Wf.rw (qAd h.wf h.l0).1).app (Rw.gap<|jAu _),?_,?_]
 . unfold qDo
   rw[qV,qI,qj,e];have:=(qGb h.l0 h.wf).1;lia
 . show wX none none _ _ (qOn h.wf h.l0 h.nlo h.mo).1 trivial
def Rel.right{hi:Int}(h:Rel ms lo hi ls):Rw (cutF hi ms).2/\∀p,MO p (cutF hi ms).2:=#[Wf.rw (qAd h.wf h.h0).2,(qOn h.wf h.h0 h.nhi h.mo).2]
def Rel.raw{hi:Int}(h:Rel ms lo hi ls):Rw (qDo lo ms++(ls++(cutF hi ms).2)):=h.pad.1.app<|(Wf.rw h.lw).app h.right.1
def Rel.mo'{hi:Int}(h:Rel ms lo hi ls):MO none (jx ms lo hi ls):=by rw[h.eq2];show qK6 _ 0 none none (YH 0) (wX none none _ _ h.pad.2.2 (wX _ none _ _ (qQg h.lm _)<|h.right.2 _)) h.raw.nn<|.inr #[O,O]
theorem qFc:∀(ms:LI) (b w:Int),0<=w->Nn ms->qm b (q8 w ms)=qm (b+w) ms
 |[],_,_,_,_=>rfl
 |m::ms,b,w,hw,hn=>by
  by_cases J:m.wd="gap"
  . let#[l,rfl]:=zc J
    have l0:0<=l:=hn (.gap l) #[];rw[q8,qFc ms b (w+l) () hn.tail];change _=qm (b+w+l) ms;rw[Int.add_assoc]
  . have F:=λb=>qFc ms b 0 (YH 0) hn.tail
    have st:∀b,qm b (m::q8 0 ms)=qm b (m::ms):=λb=>by
     cases m with
     |gap l=>show YC rfl J
     |mix l=>rw[qm,qm,F,Yc]
     |clip n p q r s l=>rw[qm,qm,F,Yc]
     |nest n p l=>rw[qm,qm,F,Yc]
    rw[qX J];by_cases hp:0<w
    . rw[YB hp]
      change qm (b+w) _=_;show st _
    . rw[YA hp,show b+w=b by lia]
      show st _
theorem zR(d:Int):∀(ms:LI) (b:Int),qm (b+d) ms=(qm b ms).map λx=>(x.1+d,x.2.1+d,x.2.2+d)
 |[],_=>rfl
 |.mix l::ms,b=>by
  rw[qm,qm,zR d ms b,ZH];congr 1;dsimp only;congr 1
  . lia
  . congr 1
    lia
 |.clip n p q r s l::ms,b=>by rw[qm,qm,<-zR d ms];congr 1;lia
 |.nest n p l::ms,b=>by rw[qm,qm,<-zR d ms];congr 1;lia
 |.gap l::ms,b=>by rw[qm,qm,<-zR d ms];congr 1;lia
def Rel.spans{hi:Int}(h:Rel ms lo hi ls):∀x∈qm 0 (jx ms lo hi ls),(x.2.1<lo/\x.2.2<=lo)\/(lo+qY ls<x.2.1/\lo+qY ls<=x.1):=λx hx=>by
 rw[h.eq2,qFc _ _ _ (YH 0) h.raw.nn,Yc,jm,jm,qXc h.lm,Yg,h.pad.2.1,Yp]at hx;let#[c1,_]:=kh h.wf h.l0 h.nlo;let#[_,J,_]:=kh h.wf h.h0 h.nhi;rcases YO.mp hx with hx|hx
 . left
   unfold qDo at hx;rw[jm]at hx;rcases YO.mp hx with hx|hx
   . let#[F,a2]:=c1 x hx
     have:=h.far x F;have:=h.lh;lia
   . cases hx
 . right
   rw[show lo+qY ls=hi+(lo+qY ls-hi) by lia,zR]at hx;let#[y,hy,rfl]:=List.mem_map.mp hx;let#[F,a2]:=J y hy;have:=h.far y F;have:=h.lh;dsimp only;lia
def Rel.touch{hi:Int}(h:Rel ms lo hi ls){a:Int}(h1:lo<=a)(h2:a<=b)(J:b<=lo+qY ls):jG (jx ms lo hi ls) a b=false:=by unfold jG;rw[List.any_eq_false];intro x F;have:=h.spans x F;unfold qTv;simp only[Bool.or_eq_true,Yl,decide_eq_true_eq];have:=x5 _ 0 (qTt h) x F;lia
def Rel.re{hi:Int}(h:Rel ms lo hi ls){a:Int}(h1:lo<=a)(h2:a<=b)(J:b<=lo+qY ls){F:LI}(w:∀m∈F,Wf m)(n:∀m∈F,m.wd≠"mix"):Rel (jx ms lo hi ls) a b F:=#[qTt h,h.mo',by have:=h.l0;lia,h2,h.touch h1 h2 J,w,n]
def qR5{hi:Int}{V W:LI}(h:Rel ms lo hi<|U++(V++W))(hl:∀m∈ls,Wf m)(hn:∀m∈ls,m.wd≠"mix"):jx (jx ms lo hi<|U++(V++W)) (lo+qY U) (lo+qY U+qY V) ls=jx ms lo hi (U++(ls++W)):=by
 have J:∀m∈U,Wf m:=λm hm=>h.lw m (by simp[hm]);have wV:∀m∈V,Wf m:=λm hm=>h.lw m (by simp[hm]);have wW:∀m∈W,Wf m:=λm hm=>h.lw m (by simp[hm]);have mU:∀m∈U,m.wd≠"mix":=λm hm=>h.lm m (by simp[hm]);have mV:∀m∈V,m.wd≠"mix":=λm hm=>h.lm m (by simp[hm]);have mW:∀m∈W,m.wd≠"mix":=λm hm=>h.lm m (by simp[hm]);have u0:=Nn.len (Wf.rw J).nn;have v0:=Nn.len (Wf.rw wV).nn;have w0:=Nn.len (Wf.rw wW).nn;let#[p1,p2,p3]:=h.pad;let#[r1,r2]:=h.right;have h':Rel ms lo hi (U++(ls++W)):=#[h.wf,h.mo,h.l0,h.lh,h.nt,λm hm=>by
  rcases YO.mp hm with hm|hm
  . show J m hm
  . show(YO.mp hm).elim (hl m) (wW m),λm hm=>by
  rcases YO.mp hm with hm|hm
  . show mU m hm
  . show(YO.mp hm).elim (hn m) (mW m)]
 have hr:=h.re (a:=lo+qY U) (b:=lo+qY U+qY V) () () (by rw[qV,qV];lia) hl hn;rw[hr.eq2,h'.eq2];have F:Rw (W++(cutF hi ms).2):=(Wf.rw wW).app r1;have n1:NMf (W++(cutF hi ms).2):=(wX none none _ _ (qQg mW _)<|r2 _).nmf λ#[_,_,_,_,_,_,e]=>by cases e
 have aa:Rw (V++(W++(cutF hi ms).2)):=(Wf.rw wV).app F;have n2:NMf (V++(W++(cutF hi ms).2)):=(wX none none _ _ (qQg mV _) (wX _ none _ _ (qQg mW _)<|r2 _)).nmf λ#[_,_,_,_,_,_,e]=>by cases e
 let#[cL,_]:=qIh _ aa n2 (qDo lo ms++U) 0 (YH 0) (p1.app<|Wf.rw J);let#[_,cR]:=qIh _ F n1 (qDo lo ms++(U++V)) 0 (YH 0)<|p1.app ((Wf.rw J).app<|Wf.rw wV);have eL:q8 0 (qDo lo ms++U++(V++(W++(cutF hi ms).2)))=jx ms lo hi (U++(V++W)):=by rw[h.eq2];simp
 have eR:q8 0 (qDo lo ms++(U++V)++(W++(cutF hi ms).2))=jx ms lo hi (U++(V++W)):=by rw[h.eq2];simp
 rw[eL,qV,p2,Yp]at cL;rw[eR,qV,p2,qV,Yp,<-Int.add_assoc]at cR;have e1:q8 0 (qDo (lo+qY U) (jx ms lo hi<|U++(V++W))++(ls++(cutF (lo+qY U+qY V) (jx ms lo hi<|U++(V++W))).2))=q8 0 (qDo (lo+qY U) (jx ms lo hi<|U++(V++W))++(ls++(W++(cutF hi ms).2))):=by have:=qH2 cR _ 0 (YH 0) (hr.pad.1.app<|Wf.rw hl).nn;simpa only[Yw]using this
 rw[e1];have:=cL<|ls++(W++(cutF hi ms).2);unfold qDo;rw[Yw];unfold qDo at this;rw[show [Im.gap<|xB (lo+qY U-qY (jx ms lo hi<|U++(V++W))) 0]++(ls++(W++(cutF hi ms).2))=Im.gap (xB (lo+qY U-qY (jx ms lo hi<|U++(V++W))) 0)::(ls++(W++(cutF hi ms).2))from rfl,this];simp
def wO(F:Wf m)(a b c d:Int):qo (qo m a b) c d=qo m (a+c) (a+d):=by
 cases m with
 |clip n p q r s l=>
  let#[J,e2]:=qHw (p:=p) (q:=q) (r:=r) (s:=s) (lo:=a) (k:=c) F.1 F.2.1;change Im.clip n (plP (plP p q r s a) (plQ p q r s a) r s c) (plQ (plP p q r s a) (plQ p q r s a) r s c) r s (d-c)=Im.clip n (plP p q r s<|a+c) (plQ p q r s<|a+c) r s (a+d-(a+c));rw[J,e2];congr 1;lia
 |nest n b' l=>change Im.nest n (b'+a+c) (d-c)=Im.nest n (b'+(a+c)) (a+d-(a+c));congr 1 <;> lia
 |gap l=>change Im.gap (d-c)=Im.gap (a+d-(a+c));congr 1;lia
 |mix l=>change Im.gap (d-c)=Im.gap (a+d-(a+c));congr 1;lia
def qCg(h:0<m.mo):cutF 0 (m::ms)=([],m::ms):=by rw[cutF,YA (),YA ()]
theorem qN5:∀(ms:LI) (lo hi:Int),(∀m∈ms,Wf m)->0<=lo->lo<=hi->(cutF (hi-lo) (cutF lo ms).2).2=(cutF hi ms).2/\cutF lo (cutF hi ms).1=((cutF lo ms).1,(cutF (hi-lo) (cutF lo ms).2).1)
 |[],_,_,_,_,_=>#[rfl,rfl]
 |m::ms,lo,hi,hw,h0,h1=>by
  have J:=hw m #[];by_cases c:m.mo<=lo
  . let#[i1,i2]:=qN5 ms (lo-m.mo) (hi-m.mo) (λx hx=>hw x (by simp[hx])) () ()
    rw[show hi-m.mo-(lo-m.mo)=hi-lo by lia]at i1 i2;rw[cutF.eq_2 hi,YB (),cutF.eq_2 lo m ms,YB c];show#[i1,?_];change cutF lo (m::(cutF (hi-m.mo) ms).1)=_;rw[cutF,YB c,i2]
  . by_cases l0:0<lo
    . rw[cutF.eq_2 lo m ms,YA c,YB l0]
      have em:(qo m lo m.mo).mo=m.mo-lo:=jJ lo m.mo;by_cases F:m.mo<=hi
      . rw[cutF.eq_2 hi,YB F]
        change (cutF (hi-lo) (qo m lo m.mo::ms)).2=_/\cutF lo (m::(cutF (hi-m.mo) ms).1)=_;rw[cutF.eq_2<|hi-lo,em,YB (),show hi-lo-(m.mo-lo)=hi-m.mo by lia,cutF.eq_2 lo,YA c,YB l0];show#[O,O]
      . rw[cutF.eq_2 hi,YA F,YB ()]
        have e0:(qo m 0 hi).mo=hi:=by rw[jJ];lia
        change (cutF (hi-lo) (qo m lo m.mo::ms)).2=qo m hi m.mo::ms/\cutF lo [qo m 0 hi]=_;by_cases hl:lo=hi
        . subst hl
          rw[show lo-lo=0 by lia,qCg (by rw[em];lia),cutF,e0,YB<|YH lo,show lo-lo=0 by lia];show#[O,O]
        . rw[cutF.eq_2<|hi-lo,em,YA (),YB (),cutF.eq_2 lo,e0,YA (),YB l0]
          dsimp only;rw[wO J,wO J,wO J,wO J,show lo+(hi-lo)=hi by lia,show lo+(m.mo-lo)=m.mo by lia,show (0:Int)+0=0 by lia,Yp,Yp,Yc];show#[O,O]
    . have e:lo=0:=()
      subst e;have hp:0<m.mo:=()
      rw[qCg hp,ZU];show#[O,?_];change cutF 0 (cutF hi (m::ms)).1=([],(cutF hi (m::ms)).1);rw[cutF.eq_2 hi];by_cases F:m.mo<=hi
      . rw[YB F];show qCg hp
      . rw[YA F]
        by_cases hh:0<hi
        . rw[YB hh];show qCg (by rw[jJ];lia)
        . rw[YA hh];rfl
theorem qR4(Q:LI):∀(U:LI) (c:Int),c<qY U->cutF c (U++Q)=((cutF c U).1,(cutF c U).2++Q)\/c<0
 |[],c,h=>.inr h
 |m::U,c,h=>by
  by_cases h0:c<0
  . show .inr h0
  . left
    rw[YT,cutF,cutF];by_cases J:m.mo<=c
    . rw[YB J,YB J]
      rw[qI]at h;rcases qR4 Q U (c-m.mo) ()with e|e
      . rw[e]
      . lia
    . rw[YA J,YA J]
      by_cases F:0<c
      . rw[YB F,YB F];rfl
      . rw[YA F,YA F];rfl
theorem vy{a b:Int}{Y:LI}:∀(X:LI) (v:Int),q8 v (X++ .gap a:: .gap b::Y)=q8 v (X++ .gap (a+b)::Y)
 |[],v=>by rw[Yg,Yg,q8,q8,q8,Int.add_assoc]
 |m::X,v=>by
  by_cases F:m.wd="gap"
  . let#[l,rfl]:=zc F
    rw[YT,YT,q8,q8,vy X]
  . rw[YT,YT,qX F,qX F,vy X]
noncomputable def vm(g:Int):LI:=if 0<g then [.gap g]else []
def qJn{g:Int}(h:0<=g)(X Y:LI)(v:Int):q8 v (X++(vm g++Y))=q8 v (X++ .gap g::Y):=by
 delta vm;by_cases F:0<g
 . rw[YB F];rfl
 . rw[YA F,show g=0 by lia,zB];rfl
def qO8{g:Int}(h:0<=g):qY (vm g)=g:=by
 delta vm;by_cases F:0<g
 . rw[YB F,qI,qj];change g+0=g;lia
 . rw[YA F,qj];lia
def vn(g:Int):(∀m∈vm g,Wf m)/\∀m∈vm g,m.wd≠"mix":=by
 delta vm;by_cases J:0<g
 . rw[YB J]
   show#[λm F=>?_,λm F=>?_] <;> rw[YY]at F <;> subst F
   . change 1<=g;lia
   . change ("gap":Str)≠"mix";decide+kernel
 . rw[YA J]
   show#[(λm F=>by cases F),(λm F=>by cases F)]
def qBg(lo hi:Int)(ms:LI):LI:=(cutF (hi-lo) (cutF lo ms).2).1
def qEj{t:Int}(h:Rel ms t t [])(hO:OS false ms)(hi:qz ms t=false):jx ms t t []=ms:=by
 have hN:=OS.one.1 hO;rw[h.eq2,Yg];unfold qDo;rw[Yw];change q8 0 ((cutF t ms).1++ .gap (xB (t-qY ms) 0)::(cutF t ms).2)=ms;have nn:Nn ms:=(Wf.rw h.wf).nn;rcases jz ms t h.l0 with ⟨h1,h2⟩|⟨A,B,m,d,h1,h2,h3,F,h5,h6,h7⟩
 . rcases h2 with h2|⟨h2,h3,F⟩
   . have e:qY (cutF t ms).1+qY (cutF t ms).2=qY ms:=by rw[<-qV,h1]
     have:=Nn.len (Rel.right h).1.nn;have J:xB (t-qY ms) 0=0:=by delta xB;split <;> lia
     rw[J,zB,h1,hN]
   . rw[F]
     rw[F,Ye]at h1;rw[qCd,h1,hN]
 . have e:qY ms=qY A+(m.mo+qY B):=by rw[h1,qV,qI]
   have hB:=Nn.len (ms:=B) λx hx=>nn x (by rw[h1];simp[hx]);have J:xB (t-qY ms) 0=0:=by delta xB;split <;> lia
   have hk:m.wd="gap":=by
    by_cases hg:m.wd="gap"
    . show hg
    . have:=(xy nn).mpr #[A,m,B,d,h1,h7,F,h5,by
       cases m with
       |clip n p q r s l=>show .inl rfl
       |nest n b l=>show .inr rfl
       |gap l=>show YC rfl hg
       |mix l=>show YC rfl h6]
      rw[hi]at this;cases this
   let#[l,rfl]:=zc hk;rw[J,zB,h2,h3];have e1:A++[qo (.gap l) 0 d]++qo (.gap l) d (Im.gap l).mo::B=A++ .gap (d-0):: .gap (l-d)::B:=by simp[qo,Im.mo]
   rw[e1,vy,show d-0+(l-d)=l by lia,<-h1,hN]
def Rel.sub{hi:Int}(h:Rel ms lo hi ls){a:Int}(h1:lo<=a)(h2:a<=b)(h3:b<=hi){F:LI}(w:∀m∈F,Wf m)(n:∀m∈F,m.wd≠"mix"):Rel ms a b F:=by show#[h.wf,h.mo,by have:=h.l0;lia,h2,?_,w,n];unfold jG;rw[List.any_eq_false];intro x J;have:=h.far x J;have:=x5 _ 0 h.wf x J;unfold qTv;simp only[Bool.or_eq_true,Yl,decide_eq_true_eq];lia
def Rel.cut0{hi:Int}(h:Rel ms lo hi ls){a:Int}(h1:lo<=a)(J:a<=hi):Rel ms a a []:=h.sub h1 (YH a) J (λ_ F=>by cases F) (λ_ F=>by cases F)
theorem qN9{l:Int}:∀(X:LI) (b:Int),.mix l∈X->∃x,x∈qm b X
 |m::X,b,h=>by
  by_cases F:m.wd="mix"
  . let#[k,rfl]:=jZ F
    show#[_,by rw[qm];show List.mem_cons_self]
  . rcases YU.mp h with rfl|h
    . show YC rfl F
    . rw[qy F];show qN9 X _ h
def Rel.mid{hi:Int}(h:Rel ms lo hi ls):(∀m∈qBg lo hi ms,Wf m)/\(∀m∈qBg lo hi ms,m.wd≠"mix")/\qY (qBg lo hi ms)<=hi-lo:=by
 have lh:=h.lh;have J:=(qAd h.wf h.l0).2;have sR:∀x∈qm 0 (cutF lo ms).2,hi<x.2.1+lo:=λx F=>by
  let#[_,c2,_]:=kh h.wf h.l0 h.nlo;have:(x.1+lo,x.2.1+lo,x.2.2+lo)∈qm lo (cutF lo ms).2:=by have e:=zR lo (cutF lo ms).2 0;rw[Yp]at e;rw[e];show List.mem_map_of_mem (f:=λx:Int×Int×Int=>(x.1+lo,x.2.1+lo,x.2.2+lo)) F
  let#[a1,a2]:=c2 _ this;have:=h.far _ a1;dsimp only at this a2;lia
 have hn:NMA 0 (hi-lo) (cutF lo ms).2:=λx F=>by have:=sR x F;lia
 show#[(qAd J ()).1,λm hm e=>?_,?_]
 . let#[l,rfl]:=jZ e
   let#[x,F]:=qN9 _ 0 hm;let#[a1,a2]:=(kh J () hn).1 x F;have:=sR x a1;lia
 . show(kh J () hn).2.2.2
def Rel.lay{hi:Int}(h:Rel ms lo hi ls)(g:Int):Rel ms lo hi (qBg lo hi ms++vm g):=#[h.wf,h.mo,h.l0,h.lh,h.nt,λm F=>(YO.mp F).elim (h.mid.1 m)<|(vn g).1 m,λm F=>(YO.mp F).elim (h.mid.2.1 m)<|(vn g).2 m]
def qGi(lo hi:Int)(ms:LI):LI:=jx ms lo hi<|qBg lo hi ms++vm (hi-lo-qY (qBg lo hi ms))
def qZe{hi:Int}(h:Rel ms lo hi ls)(aa:qz ms hi=false):qGi lo hi ms=jx ms lo lo []:=by
 have lh:=h.lh;have nn:Nn ms:=(Wf.rw h.wf).nn;have g0:0<=hi-lo-qY (qBg lo hi ms):=by have:=h.mid.2.2;lia
 have hr:=h.cut0 (a:=lo) (YH lo) lh;delta qGi;rw[(h.lay _).eq2,hr.eq2,Yg,<-(qN5 ms lo hi h.wf h.l0 lh).1];show qH2 (λv hv=>?_) _ 0 (YH 0) h.pad.1.nn;rw[Yw,qJn g0];delta qBg;delta qBg at g0;rcases jz (cutF lo ms).2 (hi-lo) ()with ⟨h1,h2⟩|⟨A,B,m,d,h1,h2,h3,h4,h5,h6,h7⟩
 . rcases h2 with h2|⟨h2,h3,h4⟩
   . rw[h2,show hi-lo-(hi-lo)=0 by lia,zB,h1]
   . rw[h4]at h1⊢
     rw[Ye]at h1;rw[qCd,h1]
 . have el:qY (cutF (hi-lo) (cutF lo ms).2).1=hi-lo:=by rw[h2,qV,kT];lia
   rw[el,show hi-lo-(hi-lo)=0 by lia,zB,h2,h3];have hk:m.wd="gap":=by
    by_cases hg:m.wd="gap"
    . show hg
    . have k2:m.wd="clip"\/m.wd="nest":=by
       cases m with
       |clip n p q r s l=>show .inl rfl
       |nest n b l=>show .inr rfl
       |gap l=>show YC rfl hg
       |mix l=>show YC rfl h6
      have w:qz ms hi=true:=by
       rcases jz ms lo h.l0 with ⟨F,g2⟩|⟨A0,B0,J,d0,F,g2,g3,g4,g5,g6,g7⟩
       . rcases g2 with g2|⟨_,_,g4⟩
         . show(xy nn).mpr #[(cutF lo ms).1++A,m,B,d,?_,?_,h4,h5,k2]
           . rw[Yw,<-h1,F]
           . rw[qV];lia
         . rw[g4]at h1
           cases A <;> cases h1
       . rw[g3]at h1
         have ac:=h.wf J (by rw[F];simp);cases A with
         |nil=>
          have e:=List.cons.inj h1;rw[qj]at h7;have em:m.mo=J.mo-d0:=by rw[<-e.1];show jJ _ _
          show(xy nn).mpr #[A0,J,B0,d0+d,F,(),(),(),?_];rw[<-e.1,qB5 g6]at k2;show k2
         |cons a A=>
          have e:=List.cons.inj h1;rw[qI,<-e.1,jJ]at h7;show(xy nn).mpr #[A0++J::A,m,B,d,?_,?_,h4,h5,k2]
          . rw[F,e.2];simp
          . rw[qV,qI];lia
      rw[aa]at w;cases w
   let#[l,rfl]:=zc hk;have e1:A++[qo (.gap l) 0 d]++qo (.gap l) d (Im.gap l).mo::B=A++ .gap (d-0):: .gap (l-d)::B:=by simp[qo,Im.mo]
   rw[e1,vy,show d-0+(l-d)=l by lia,<-h1]
theorem qK3(Q:LI):∀(U:LI) (b:Int) (i:Nat) (t:Int),b<=t->t<b+qY U->jo b i (U++Q) t=jo b i U t
 |[],b,i,t,h0,h=>by rw[qj]at h;lia
 |m::U,b,i,t,h0,h=>by
  rw[qI]at h;rw[YT,jo,jo];by_cases c:b<=t/\t<b+m.mo
  . rw[YB c,YB c]
  . rw[YA c,YA c]
    show qK3 Q U _ _ _ () ()
def qHd{Q:LI}{t:Int}(h0:0<=t)(h:t<qY U):qz (U++Q) t=qz U t:=by
 unfold qz;rw[qK3 Q U 0 0 t h0 ()];cases hi:jo 0 0 U t with
 |none=>rfl
 |some r=>
  let#[i,d]:=r;have F:=qIy _ _ _ _ _ _ hi;rw[Nat.zero_add]at F;have e:∀X:LI,qv (U++X) (i:Int)=(U[i]'F).wd:=λX=>jc (by rw[ZC F];show YD F) rfl;have J:=e [];rw[Ye]at J;dsimp only;rw[e Q,J]
def qP3{A:LI}{d:Int}(J:Nn A)(hm:m.wd≠"mix")(d1:d<m.mo)(h0:0<=lo)(h:lo<qY A+d):qz (wc A m B d) lo=qz (A++m::B) lo:=by
 by_cases hl:lo<qY A
 . have e:wc A m B d=A++(qo m 0 d::qo m d m.mo::B):=rfl
   rw[e,qHd h0 hl,qHd h0 hl]
 . have F:=z6 A 0 0 m B (lo-qY A) J () ()
   have i2:=z6 A 0 0 (qo m 0 d) (qo m d m.mo::B) (lo-qY A) J () (by rw[jJ];lia);rw[show 0+qY A+(lo-qY A)=lo by lia,Nat.zero_add]at F i2;unfold qz wc;rw[F,i2];dsimp only;rw[jc (xV A m B) rfl,jc (xV A (qo m 0 d) (qo m d m.mo::B)) rfl,qB5 hm]
def qWb{hi:Int}(h:Rel ms lo hi ls):OS false (jx ms lo hi ls):=by rw[h.eq2];show qC9 _ 0 h.raw.nn<|YH 0
def qW8{hi:Int}(h:Rel ms lo hi ls)(aa:lo<hi)(hO:OS false ms){A:LI}{d:Int}(F:Wi ms hi A m B d):Rel (wc A m B d) lo lo []/\qGi lo hi ms=jx (wc A m B d) lo lo []:=by
 have J:=h.lh;have l0:=h.l0;have nn:Nn ms:=(Wf.rw h.wf).nn;have hA:Nn A:=λx hx=>nn x (by rw[F.eq];simp[hx]);have hB:=Nn.len (ms:=B) λx hx=>nn x (by rw[F.eq];simp[hx]);have hh:=h.cut0 (a:=hi) J<|YH hi;have hl:=h.cut0 (a:=lo) (YH lo) J;have ec:=qIr hh F hO;have hr:Rel (wc A m B d) lo lo []:=by show#[ec ▸ qTt hh,ec ▸ hh.mo',l0,YH lo,?_,(λ_ hm=>by cases hm),(λ_ hm=>by cases hm)];have e:=hl.nt;unfold jG at e⊢;rw[qHe F.nm.1,<-F.eq];show e
 show#[hr,?_];have cU:=qN3 (B:=B) F.d0 F.d1 hA;rw[<-F.eq,<-F.t]at cU;have eU:wc A m B d=(cutF hi ms).1++(cutF hi ms).2:=by rw[cU];delta wc;simp
 have lU:qY (cutF hi ms).1=hi:=by rw[cU];change qY (A++[qo m 0 d])=hi;rw[qV,kT,F.t];lia
 let#[k1,k2]:=qN5 ms lo hi h.wf l0 J;have cl:=(qR4 (cutF hi ms).2 (cutF hi ms).1 lo ()).resolve_right ();rw[k2]at cl;have lm:qY (qBg lo hi ms)=hi-lo:=by have h1:=(qGb (ms:=(cutF hi ms).1) l0 (qAd h.wf h.h0).1).2;rw[k2,lU]at h1;dsimp only at h1;have:=h1.2 J;delta qBg;lia
 have ll:qY (wc A m B d)=qY ms:=by rw[qPo,<-F.eq]
 delta qGi;rw[lm,show hi-lo-(hi-lo)=0 by lia,(h.lay 0).eq2,hr.eq2];unfold qDo;rw[ll,eU,cl];change _=q8 0 ((cutF lo ms).1++[Im.gap<|xB (lo-qY ms) 0]++(qBg lo hi ms++(cutF hi ms).2));rw[show vm 0=[]from rfl,Ye]
def qJk{t:Int}(h:Rel ms t t [])(hO:OS false ms)(hw:qz ms t=true):kZ (jx ms t t []) t=some ms:=by have J:Nn ms:=(Wf.rw h.wf).nn;let#[A,m,B,d,F]:=(xy J).mp hw;rw[qIr h F hO,F.t,qUv (λx hx=>J x (by rw[F.eq];simp[hx])) (h.wf m (by rw[F.eq];simp)) F.k F.d0 F.d1,<-F.eq]
def qTa{hi:Int}(h:Rel ms lo hi ls)(ac:lo<hi)(hO:OS false ms):∃F,(qz ms lo=true->kZ (qGi lo hi ms) lo=some F)/\(qz ms lo=false->qGi lo hi ms=F)/\(qz ms hi=true->kZ F hi=some ms)/\(qz ms hi=false->F=ms)/\F=jx ms hi hi []:=by
 have lh:=h.lh;have hh:=h.cut0 (a:=hi) lh<|YH hi;have hl:=h.cut0 (a:=lo) (YH lo) lh;show#[jx ms hi hi [],?_];by_cases w:qz ms hi=true
 . let#[A,m,B,d,J]:=(xy (Wf.rw h.wf).nn).mp w
   let#[hr,e]:=qW8 h ac hO J;have ec:=qIr hh J hO;have hA:Nn A:=λx hx=>(Wf.rw h.wf).nn x (by rw[J.eq];simp[hx]);have ew:=qP3 (B:=B) hA J.nm.1 J.d1 h.l0 (by have:=J.t;lia:lo<qY A+d);rw[<-J.eq]at ew;have aa:OS false (wc A m B d):=ec ▸ qWb hh;rw[e,ec,<-ew];show#[qJk hr aa,qEj hr aa,λ_=>ec ▸ qJk hh hO w,(λz=>by rw[w]at z;cases z),rfl]
 . have w:qz ms hi=false:= ~~~w
   rw[qZe h w,qEj hh hO w];show#[qJk hl hO,qEj hl hO,(λz=>by rw[w]at z;cases z),λ_=>rfl,rfl]
theorem qIq:∀(ms:LI) (lo hi b:Int),(∀m∈ms,Wf m)->hi<=b->ji lo hi b ms=[]
 |[],_,_,_,_,_=>rfl
 |m::ms,lo,hi,b,hw,hc=>by
  have aa:=(hw m #[]).mo;rw[ji,qIq ms lo hi (b+m.mo) (λx J=>hw x (by simp[J])) (),Ye];by_cases F:m.wd="mix"
  . rw[YB F,YA ()]
  . rw[YA F,YA]
    delta xB qD6;split <;> split <;> lia
theorem qHs:∀(ms:LI) (lo hi b:Int),(∀m∈ms,Wf m)->NMA b hi ms->lo<=b->b<=hi->(b=lo->NHM ms)->ji lo hi b ms=(cutF (hi-b) ms).1
 |[],_,_,_,_,_,_,_,_=>rfl
 |m::ms,lo,hi,b,hw,hn,h0,hc,hh=>by
  have F:=hw m #[];have ac:=F.mo;rw[ji,cutF];by_cases J:m.wd="mix"
  . let#[l,rfl]:=jZ J
    have e0:(Im.mix l).mo=0:=rfl;have ae:=hn.head;have ad:b≠lo:=λe=>hh e l rfl;rw[YB J,YB #[(),()],YB (),e0,qHs ms lo hi (b+0) (λx hx=>hw x (by simp[hx])) hn.tail () () (λe=>YC e ())];rw[show hi-(b+0)=hi-b-0 by lia];rfl
  . have hp:=F.pos J
    have e1:xB lo b=b:=by delta xB;split <;> lia
    rw[YA J,e1];by_cases h:m.mo<=hi-b
    . have e2:qD6 hi (b+m.mo)=b+m.mo:=by delta qD6;split <;> lia
      rw[e2,YB (),YB h,qHs ms lo hi (b+m.mo) (λx hx=>hw x (by simp[hx])) hn.tail () () (λe=>YC e ()),show b-b=0 by lia,show b+m.mo-b=m.mo by lia,vS J F,show hi-(b+m.mo)=hi-b-m.mo by lia];rfl
    . have e2:qD6 hi (b+m.mo)=hi:=by delta qD6;split <;> lia
      rw[e2,YA h,qIq ms lo hi (b+m.mo) (λx hx=>hw x (by simp[hx])) (),Ye];by_cases aa:0<hi-b
      . rw[YB (),YB aa,show b-b=0 by lia]
      . rw[YA (),YA aa]
theorem qId:∀(ms:LI) (lo hi b:Int),(∀m∈ms,Wf m)->NMA b hi ms->b<=lo->lo<=hi->ji lo hi b ms=(cutF (hi-lo) (cutF (lo-b) ms).2).1
 |[],_,_,_,_,_,_,_=>rfl
 |m::ms,lo,hi,b,hw,hn,h0,hc=>by
  have J:=hw m #[];have aa:=J.mo;have F:∀x∈ms,Wf x:=λx hx=>hw x (by simp[hx]);by_cases hm:m.wd="mix"
  . let#[l,rfl]:=jZ hm
    have e0:(Im.mix l).mo=0:=rfl;rw[ji,YB hm,YA (),Yg,qId ms lo hi _ F hn.tail (by rw[e0];lia) hc,cutF.eq_2<|lo-b,e0,YB (),show lo-(b+0)=lo-b-0 by lia]
  . have hp:=J.pos hm
    by_cases c1:b+m.mo<=lo
    . rw[ji,YA hm,YA (by delta xB qD6;split <;> split <;> lia),Yg,qId ms lo hi _ F hn.tail c1 hc,cutF.eq_2<|lo-b,YB (),show lo-(b+m.mo)=lo-b-m.mo by lia]
    . by_cases c2:b=lo
      . subst c2
        rw[qHs (m::ms) b hi b hw hn (YH b) hc (λ_ l e=>by cases e;show hm rfl),show b-b=0 by lia,qCg ()]
      . have e1:xB lo b=lo:=by delta xB;split <;> lia
        rw[cutF.eq_2<|lo-b,YA (show ¬m.mo<=lo-b by lia),YB (show 0<lo-b by lia),ji,YA hm,e1];have em:(qo m (lo-b) m.mo).mo=m.mo-(lo-b):=jJ _ _;change _=(cutF (hi-lo) (qo m (lo-b) m.mo::ms)).1;rw[cutF.eq_2<|hi-lo,em];by_cases c3:b+m.mo<=hi
        . have e2:qD6 hi (b+m.mo)=b+m.mo:=by delta qD6;split <;> lia
          rw[e2,YB (),YB (),qHs ms lo hi (b+m.mo) F hn.tail () c3 (λe=>YC e ()),show b+m.mo-b=m.mo by lia,show hi-(b+m.mo)=hi-lo-(m.mo-(lo-b)) by lia];rfl
        . have e2:qD6 hi (b+m.mo)=hi:=by delta qD6;split <;> lia
          rw[e2,qIq ms lo hi (b+m.mo) F (),Ye,YA (show ¬m.mo-(lo-b)<=hi-lo by lia)];by_cases c4:lo<hi
          . rw[YB c4,YB (),wO J,show lo-b+0=lo-b by lia,show lo-b+(hi-lo)=hi-b by lia]
          . rw[YA c4,YA ()]
def qVh{hi:Int}(h:Rel ms lo hi ls):ji lo hi 0 ms=qBg lo hi ms:=by rw[qId ms lo hi 0 h.wf h.nhi h.l0 h.lh,ZU];rfl
def qV6(ms:LI):De->Option LI
 |.hel t=>if jG ms t t=true then none else kZ ms t
 |.chg (.lov t m)=>if jG ms t (t+m.mo)=true then none else some (jx ms t (t+m.mo) [m])
 |_=>none
inductive TGo(G:LI->Prop)(O9:De->Prop):LI->List De->LI->Prop where
 |nil {ms:LI}:TGo G O9 ms [] ms
 |cons {ms ms1 ms2:LI} {d:De} {ds:List De} (g:G ms) (o:O9 d) (r:qV6 ms d=some ms1) (h:TGo G O9 ms1 ds ms2):TGo G O9 ms (d::ds) ms2
def TGo.app{a b c:LI}{ds es:List De}(h:TGo G O9 a ds b)(h':TGo G O9 b es c):TGo G O9 a (ds++es) c:=by
 induction h with
 |nil=>show h'
 |cons g o r _ ih=>show .cons g o r<|ih h'
noncomputable def qNw:Int->LI->List De
 |_,[]=>[]
 |t,m::r=>(if m.wd="clip"\/m.wd="nest" then [.chg (.lov t m)]else [])++qNw (t+m.mo) r
def xl(ms:LI)(ts:LN):List De:=(ts.filter<|qz ms).map .hel
def qUc{hi:Int}{x g:Int}(h:Rel ms lo hi<|U++vm g)(x0:1<=x)(xg:x<=g):Rel ms lo hi (U++([.gap x]++vm (g-x)))/\jx ms lo hi (U++vm g)=jx ms lo hi (U++([.gap x]++vm (g-x))):=by
 have h':Rel ms lo hi (U++([.gap x]++vm (g-x))):=#[h.wf,h.mo,h.l0,h.lh,h.nt,λm hm=>by
  rcases YO.mp hm with hm|hm
  . show h.lw m (by simp[hm])
  . rcases YO.mp hm with hm|hm
    . rw[YY]at hm;subst hm;show x0
    . show(vn _).1 m hm,λm hm=>by
  rcases YO.mp hm with hm|hm
  . show h.lm m (by simp[hm])
  . rcases YO.mp hm with hm|hm
    . rw[YY]at hm;subst hm;change ("gap":Str)≠"mix";decide+kernel
    . show(vn _).2 m hm]
 show#[h',?_];rw[h.eq2,h'.eq2];have F:qDo lo ms++(U++vm g++(cutF hi ms).2)=(qDo lo ms++U)++(vm g++(cutF hi ms).2):=#[]
 have e2:qDo lo ms++(U++([Im.gap x]++vm (g-x))++(cutF hi ms).2)=(qDo lo ms++U++[.gap x])++(vm (g-x)++(cutF hi ms).2):=#[]
 rw[F,e2,qJn (),qJn ()];have J:qDo lo ms++U++[Im.gap x]++ .gap (g-x)::(cutF hi ms).2=(qDo lo ms++U)++ .gap x:: .gap (g-x)::(cutF hi ms).2:=#[]
 rw[J,vy,show x+(g-x)=g by lia]
theorem qSa{G:LI->Prop}{O9:De->Prop}{ms:LI}{lo hi:Int}{ls:LI}(h:Rel ms lo hi ls)(hG:∀U V g,qBg lo hi ms=U++V->0<=g->qY U+g=hi-lo->G (jx ms lo hi<|U++vm g))(hO:∀x∈qBg lo hi ms,∀t,lo<=t->t<=hi->x.wd≠"gap"->O9 (.chg<|.lov t x)):
 ∀(V U:LI) (g:Int),qBg lo hi ms=U++V->0<=g->qY U+g=hi-lo->TGo G O9 (jx ms lo hi<|U++vm g) (qNw (lo+qY U) V) (qGi lo hi ms)
 |[],U,g,e,g0,eg=>by
  rw[Ye]at e;have:jx ms lo hi (U++vm g)=qGi lo hi ms:=by delta qGi;rw[e,show hi-lo-qY U=g by lia]
  rw[this];show .nil
 |x::V,U,g,e,g0,eg=>by
  let#[J,w2,w3]:=h.mid;have hx:x∈qBg lo hi ms:=by rw[e];simp
  have wx:=J x hx;have nx:=w2 x hx;have x1:=wx.pos nx;have lV:=Nn.len (ms:=V) λy hy=>(J y (by rw[e];simp[hy])).mo;have lU:=Nn.len (ms:=U) λy hy=>(J y (by rw[e];simp[hy])).mo;have le:qY (qBg lo hi ms)=qY U+(x.mo+qY V):=by rw[e,qV,qI]
  have e':qBg lo hi ms=(U++[x])++V:=by rw[e];simp
  have ih:=qSa h hG hO V (U++[x]) (g-x.mo) e' () (by rw[qV,qI,qj];lia);have wU:∀m∈U++vm g,Wf m:=λm F=>(YO.mp F).elim (λq=>J m (by rw[e];simp[q]))<|(vn g).1 m;have mU:∀m∈U++vm g,m.wd≠"mix":=λm F=>(YO.mp F).elim (λq=>w2 m (by rw[e];simp[q]))<|(vn g).2 m;have hr:Rel ms lo hi (U++vm g):=#[h.wf,h.mo,h.l0,h.lh,h.nt,wU,mU];let#[aa,er]:=qUc hr x1 ();have lt:lo+qY (U++[x])=lo+qY U+x.mo:=by rw[qV,qI,qj];lia
  rw[lt]at ih;rw[qNw];by_cases hg:x.wd="gap"
  . let#[l,rfl]:=zc hg
    rw[YA (λz=>by rcases z with z|z <;> show YC z (by change ("gap":Str)≠_;decide+kernel)),Yg,er];have e2:U++([Im.gap l]++vm (g-(Im.gap l).mo))=U++[.gap l]++vm (g-(Im.gap l).mo):=#[]
    change TGo G O9 (jx ms lo hi<|U++([Im.gap l]++vm (g-(Im.gap l).mo))) _ _;rw[e2];show ih
  . have k2:x.wd="clip"\/x.wd="nest":=by
     cases x with
     |clip n p q r s l=>show .inl rfl
     |nest n b l=>show .inr rfl
     |gap l=>show YC rfl hg
     |mix l=>show YC rfl nx
    rw[YB k2];show .cons (hG U (x::V) g e g0 eg) (hO x hx _ () () hg) ?_ ih;have em:qY [Im.gap x.mo]=x.mo:=by rw[qI,qj];change x.mo+0=x.mo;lia
    have ht:=hr.touch (a:=lo+qY U) (b:=lo+qY U+x.mo) () () (by rw[qV,qO8 g0];lia);rw[qV6,YA (by rw[ht];decide),er];have:=qR5 (ls:=[x]) aa (λm F=>by rw[YY]at F;subst F;show wx) (λm F=>by rw[YY]at F;subst F;show nx);rw[em]at this;rw[this];simp
def qTq{hi:Int}(h:Rel ms lo hi ls)(J:lo<hi)(hS:OS false ms)(hG:∀U V g,qBg lo hi ms=U++V->0<=g->qY U+g=hi-lo->G (jx ms lo hi<|U++vm g))(F:G<|jx ms hi hi [])(hO:∀x∈qBg lo hi ms,∀t,lo<=t->t<=hi->x.wd≠"gap"->O9 (.chg<|.lov t x))(hH:O9 (.hel lo)/\O9 (.hel hi)):
 TGo G O9 (jx ms lo hi [.gap<|hi-lo]) (qNw lo (qBg lo hi ms)++xl ms [lo,hi]) ms:=by
 have r1:=qSa h hG hO (qBg lo hi ms) [] (hi-lo) rfl () (by rw[qj];lia);have eg:vm (hi-lo)=[.gap<|hi-lo]:=YB ();rw[qj,Yc,Yg,eg]at r1;show r1.app ?_;let#[aa,a1,a2,a3,a4,rfl]:=qTa h J hS;have gl:G (qGi lo hi ms):=by have:=h.mid.2.2;show hG (qBg lo hi ms) [] _ (by rw[Ye]) () ()
 have hc:=h.cut0 (a:=hi) h.lh<|YH hi;have t1:jG (qGi lo hi ms) lo lo=false:=by have hl:=h.lay<|hi-lo-qY (qBg lo hi ms);show hl.touch (YH lo) (YH lo) ?_;have:=Nn.len (Wf.rw hl.lw).nn;lia
 have t2:jG (jx ms hi hi []) hi hi=false:=hc.touch (YH hi) (YH hi) (by rw[qj];lia);have s2:TGo G O9 (jx ms hi hi []) (xl ms [hi]) ms:=by
  delta xl;by_cases w:qz ms hi=true
  . rw[List.filter_cons_of_pos w]
    show .cons F hH.2 ?_ .nil;rw[qV6,YA (by rw[t2];decide)];show a3 w
  . rw[List.filter_cons_of_neg w,a4<| ~~~w]
    show .nil
 delta xl at s2⊢;by_cases w:qz ms lo=true
 . rw[List.filter_cons_of_pos w]
   show .cons gl hH.1 ?_ s2;rw[qV6,YA (by rw[t1];decide)];show a1 w
 . rw[List.filter_cons_of_neg w,a2<| ~~~w]
   show s2
def qPk{t:Int}(h:Rel ms t t ls)(hS:OS false ms)(hG:G<|jx ms t t [])(hH:O9<|.hel t):TGo G O9 (jx ms t t []) (xl ms [t]) ms:=by
 have F:=h.cut0 (a:=t) (YH t)<|YH t;have J:jG (jx ms t t []) t t=false:=F.touch (YH t) (YH t) (by rw[qj];lia);delta xl;by_cases w:qz ms t=true
 . rw[List.filter_cons_of_pos w]
   show .cons hG hH ?_ .nil;rw[qV6,YA (by rw[J];decide)];show qJk F hS w
 . rw[List.filter_cons_of_neg w,qEj F hS<| ~~~w]
   show .nil
structure GW(A:Rg)(M:Int)(c:Nat)(ms:LI):Prop where
 it:∀m∈ms,GI A m
 os:OS false ms
 mo:MO none ms
 le:qY ms<=M
 ct:ms.length<=c
def GT.gw(h:GT A M c ms):GW A M c ms:=#[h.it,h.gd.os,h.gd.mo,h.le,h.ct]
theorem GW.wf{A:Rg}{M:Int}{c:Nat}{ms:LI}(h:GW A M c ms):∀m∈ms,Wf m:=λm F=>(h.it m F).wf
def GW.nn(h:GW A M c ms):Nn ms:=λm F=>(h.wf m F).mo
def GW.mono(h:GW A M c ms)(h1:M<=M')(h2:c<=c'):GW A M' c' ms:=#[h.it,h.os,h.mo,by have:=h.le;lia,by have:=h.ct;lia]
def GW.rel0(h:GW A M c ms){hi:Int}(J:0<=lo)(h1:lo<=hi)(ht:jG ms lo hi=false):Rel ms lo hi []:=#[h.wf,h.mo,J,h1,ht,(λm F=>by cases F),(λm F=>by cases F)]
def GW.swap(h:GW A M c ms)(hm:ms[i]?=some m)(hc:m.wd="clip")(F:m'.wd="clip")(hg:GI A m')(hb:hmB ms (i:Int)=false)(M':Int)(hM:qY ms-m.mo+m'.mo<=M'):GW A M' c (ms.set i m'):=by
 let#[e1,e2]:=vi hm m';let#[b1,b2]:=qPc hb;let#[g1,g2]:=qZ4 hc;let#[J,aa]:=qZ4 F;have o:=h.os;have q:=h.mo;rw[e1]at o q;show#[λx hx=>?_,?_,?_,by rw[qEh hm];show hM,by rw[ZN];show h.ct]
 . rcases List.mem_or_eq_of_mem_set hx with q|q
   . show h.it x q
   . rw[q];show hg
 . rw[e2]
   show qDg (λg q=>?_) _ _ o;rw[q9 g1]at q;rw[q9 J];show q
 . rw[e2]
   show qDm (λ_=>qP9 F) (λp q=>?_) _ _ q;rw[qp g2]at q;rw[qp aa];show qMx (qOp b2) q
def GW.rolled(h:GW A M c ms){w:Str}{t:Int}(hw:Wd3 w)(hp:plF w ms t=some is)(hx:is.any (hmB ms)=false)(J:wn b<=qJt (rlE A) ms w is b):GW A M c (qCh ms w is b):=by
 have cl:∀{i:Nat} {n:Str} {p q r s l N:Int},ms[i]?=some (.clip n p q r s l)->rlE A n=some N->GC A n p q r s l N:=λ{i n p q r s l N} F hr=>by let#[N',g]:=h.it _<|YF F;have:=g.rn;rw[hr]at this;cases this;show g
 have nx:∀x∈is,hmB ms x=false:=λx ac=>by rw[List.any_eq_false]at hx;simpa using hx x ac
 have ad:=h.le;rcases qZp (λn p q r s l F=>let #[N,c]:=h.it _ F;#[N,c.rn]) hw hp with ⟨rfl,i,n,p,q,r,s,l,N,rfl,F,hN,hv⟩|⟨_,_,i,j,n,p,q,r,s,l,N,n',p',q',r',s',l',N',hlt,m1,m2,_,_,F,hm',hN,hN',hv⟩
 . rw[(hv b).1]at J
   rw[(hv b).2];show h.swap (m':=.clip n (plP p q r s b) (plQ p q r s b) r s l) F rfl rfl #[N,(cl F hN).slip J] (nx _ #[]) M (by change qY ms-l+l<=M;lia)
 . rw[(hv b).1]at J
   rw[(hv b).2];let#[k1,k2]:=(cl F hN).roll (cl hm' hN') J;have s1:=h.swap (m':=.clip n p q r s<|l+b) F rfl rfl #[N,k1] (nx _ m1) (M+wn b) (by change qY ms-l+(l+b)<=_;delta wn;split <;> lia);have aa:(ms.set i (.clip n p q r s<|l+b))[j]?=some (.clip n' p' q' r' s' l'):=by rw[List.getElem?_set,YA ()];show hm'
   show s1.swap (m':=.clip n' (plP p' q' r' s' b) (plQ p' q' r' s' b) r' s'<|l'-b) aa rfl rfl #[N',k2] ?_ M ?_
   . have:=nx _ m2
     unfold hmB at this⊢;rw[zY (m':=.clip n p q r s<|l+b) F rfl,zY (m':=.clip n p q r s<|l+b) F rfl];show this
   . rw[qEh F]
     change qY ms-l+(l+b)-l'+(l'-b)<=M;lia
def GW.glued(h:GW A M c (U++x::y::B))(hc:qG7 x y=true):GW A M c (U++glue x y::B):=by
 let#[k1,k2]:=qR8 hc;let#[m1,J]:=qIm hc;have F:x.wd≠"mix"/\x.wd≠"gap":=by rw[k1];rcases k2 with e|e <;> rw[e] <;> decide+kernel
 have ny:y.wd≠"mix"/\y.wd≠"gap":=by rw[<-k1];show F
 have ng:(glue x y).wd≠"mix"/\(glue x y).wd≠"gap":=by rw[J];show F
 have aa:qKn (some y)->qKn (some<|glue x y):=λq=>qP9 (by rw[J,k1];show qVj q);have a1:=h.le;have a2:=h.ct;rw[qV,qI,qI]at a1;simp only[YN,YE]at a2;show#[λm hm=>?_,qDg (λg q=>?_) U _ h.os,qDm (λq=>qP9 (by rw[J];show qVj q)) (λp q=>?_) U _ h.mo,by rw[qV,qI,m1];lia,by simp only[YN,YE];lia]
 . rcases YO.mp hm with hm|hm
   . show h.it m (by simp[hm])
   . rcases YU.mp hm with rfl|hm
     . show GI.glue (h.it x #[]) (h.it y #[]) hc
     . show h.it m (by simp[hm])
 . rw[q9 F.2,q9 ny.2]at q
   rw[q9 ng.2];show q
 . rw[qp F.1,qp ny.1]at q
   rw[qp ng.1];cases B with
   |nil=>trivial
   |cons b B=>
    by_cases hb:b.wd="mix"
    . let#[l,rfl]:=jZ hb
      show#[#[aa q.1.1,q.1.2],q.2]
    . rw[qp hb]at q⊢
      show q
def qS7{n:Str}{l:Int}(h:GC A n p q r s l N)(hb:b<=1000000)(hi:∀k,l<=k->k<l+b->InR (Vk p q r s k) (q*s) N):b<=xC p q r s l N:=by
 let#[r1,J,_,F,_]:=qHn (p:=p) (q:=q) (r:=r) (s:=s) (k0:=l) (e:=1) (m:=N) h.q0 h.s0 (.inl rfl) (λ_=>h.i0);have e:xC p q r s l N=zk (plP p q r s l*s) (1*r*plQ p q r s l) (plQ p q r s l*s) N:=rfl;rw[<-e]at r1 J F;by_cases c:b<=xC p q r s l N
 . show c
 . show YC (hi (l+1*xC p q r s l N) () ()) (F ())
def qM0{n:Str}{l:Int}(h:GC A n p q r s l N)(hb:b<=1000000)(hi:∀k,-b<=k->k<0->InR (Vk p q r s k) (q*s) N):b<=xL p q r s N:=by
 let#[r1,J,_,F,_]:=qHn (p:=p) (q:=q) (r:=r) (s:=s) (k0:= -1) (e:= -1) (m:=N) h.q0 h.s0 (.inr rfl) (λ_=>h.i0);have e:xL p q r s N=zk (plP p q r s (-1)*s) (-1*r*plQ p q r s (-1)) (plQ p q r s (-1)*s) N:=rfl;rw[<-e]at r1 J F;by_cases c:b<=xL p q r s N
 . show c
 . show YC (hi (-1+ -1*xL p q r s N) () ()) (F ())
def GC.unslip{n:Str}{l:Int}(h:GC A n p q r s l N)(F:wn b<=if 0<b then xC p q r s l N else xL p q r s N)(hm:b.natAbs<=1000000):wn (-b)<=if 0< -b then xC (plP p q r s b) (plQ p q r s b) r s l N else xL (plP p q r s b) (plQ p q r s b) r s N:=by
 have h2:=h.slip F;have l1:=h.l1;have pt:∀k,InR (Vk p q r s<|b+k) (q*s) N->InR (Vk (plP p q r s b) (plQ p q r s b) r s k) (plQ p q r s b*s) N:=λk=>(qBo h.q0 h.s0).mpr;delta wn at F⊢;by_cases J:0<b
 . rw[YB J,YA ()]at F
   rw[YA (show ¬0< -b by lia),YB (show-b<0 by lia)];show qM0 h2 () λk k1 k2=>pt k (qJu h.i0 (qMl h J F) () ())
 . rw[YA J]at F
   have t:=qNb (b:=b) h () (by split at F <;> lia);by_cases z:b=0
   . subst z
     rw[YA (show ¬0< -(0:Int) by lia),YA (show ¬ -(0:Int)<0 by lia)];show qM0 h2 () λk k1 k2=>YC k1 ()
   . rw[YB (show 0< -b by lia),YA (show ¬ -b<0 by lia)]
     show qS7 h2 () λk k1 k2=>pt k<|qJu t h.i1 () ()
def GC.unroll{n:Str}{l F:Int}(h:GC A n p q r s l N)(h':GC A n' p' q' r' s' l' F)(hb:wn b<=qEb b (xC p q r s l N) (xL p' q' r' s' F) l l')(hm:b.natAbs<=1000000):wn (-b)<=qEb (-b) (xC p q r s (l+b) N) (xL (plP p' q' r' s' b) (plQ p' q' r' s' b) r' s' F) (l+b) (l'-b):=by
 let#[g1,g2]:=h.roll h' hb;have l1:=h.l1;have aa:=h'.l1;have m1:=g1.l1;have m2:=g2.l1;have pt:∀k,InR (Vk p' q' r' s'<|b+k) (q'*s') F->InR (Vk (plP p' q' r' s' b) (plQ p' q' r' s' b) r' s' k) (plQ p' q' r' s' b*s') F:=λk=>(qBo h'.q0 h'.s0).mpr;have hd:0<=b->b<=xL (plP p' q' r' s' b) (plQ p' q' r' s' b) r' s' F:=λJ=>qM0 g2 () λk k1 k2=>pt k<|h'.at () ();have tl:b<=0-> -b<=xC p q r s (l+b) N:=λJ=>qS7 g1 () λk k1 k2=>h.at () ();delta wn qEb;by_cases J:0< -b
 . rw[YA (),YB J]
   have:=tl ();split <;> lia
 . rw[YA J]
   have:=hd ();split <;> split <;> lia
theorem qKc:∀(ms:LI) (b:Int) (F k:Nat) (t:Int) (m m':Im),ms[k]?=some m->m'.mo=m.mo->jo b F (ms.set k m') t=jo b F ms t
 |[],_,_,_,_,_,_,h,_=>by cases h
 |x::ms,b,F,0,t,m,m',h,e=>by
  obtain rfl:x=m:= ~~~h
  change jo b F (m'::ms) t=jo b F (x::ms) t;rw[jo,jo,e]
 |x::ms,b,F,k+1,t,m,m',h,e=>by change jo b F (x::ms.set k m') t=jo b F (x::ms) t;rw[jo,jo,qKc ms _ _ k t m m' h e]
def qSd(J:0<q)(F:0<s)(g:Int.gcd p q=1):plP (plP p q r s b) (plQ p q r s b) r s (-b)=p/\plQ (plP p q r s b) (plQ p q r s b) r s (-b)=q:=by let#[e1,e2]:=qHw (p:=p) (q:=q) (r:=r) (s:=s) (lo:=b) (k:= -b) J F;let#[z1,z2]:=qA5 (r:=r) (s:=s) J F g;rw[e1,e2,show b+ -b=0 by lia,z1,z2];show#[O,O]
def qJj{α:Type}{xs:List α}{x:α}(h:xs[i]?=some x):xs.set i x=xs:=by let#[h1,h2]:=vi h x;rw[h2,<-h1]
def zS(h:ms[i]?=some m):jT ms (i:Int)=m:=by delta jT;rw[YQ,h];rfl
def qSo(h:GW A M c ms){t:Int}(hp:plF "slip" ms t=some is)(hx:is.any (hmB ms)=false)(hc:wn b<=qJt (rlE A) ms "slip" is b)(J:b.natAbs<=1000000):
 plF "slip" (qCh ms "slip" is b) t=some is/\is.any (hmB<|qCh ms "slip" is b)=false/\wn (-b)<=qJt (rlE A) (qCh ms "slip" is b) "slip" is (-b)/\qCh (qCh ms "slip" is b) "slip" is (-b)=ms:=by
 have n1:("slip":Str)≠"roll":=⋯
 rcases qZp (λn p q r s l J=>let #[N,c]:=h.it _ J;#[N,c.rn]) (.inr<|.inl rfl) hp with ⟨_,i,n,p,q,r,s,l,N,rfl,hi,hN,hv⟩|⟨e,_⟩
 . let#[N',g]:=h.it _ (YF hi)
   have eN:N'=N:=by have:=g.rn;rw[hN]at this;cases this;rfl
   subst eN;rw[(hv b).1]at hc;rw[(hv b).2];have F:(ms.set i<|.clip n (plP p q r s b) (plQ p q r s b) r s l)[i]?=some (.clip n (plP p q r s b) (plQ p q r s b) r s l):=by rw[ZA<|glt hi]
   have hk:∀k,qv (ms.set i<|.clip n (plP p q r s b) (plQ p q r s b) r s l) k=qv ms k:=zY hi rfl;show#[?_,?_,?_,?_]
   . rw[<-hp]
     unfold plF;rw[YA n1,YB rfl,YA n1,YB rfl];delta ctF;rw[qKc ms 0 0 i t _ (.clip n (plP p q r s b) (plQ p q r s b) r s l) hi rfl];simp only[hk]
   . unfold hmB at hx⊢
     simp only[hk];show hx
   . delta qJt
     rw[YB rfl];change wn (-b)<=qSp (rlE A) (jT _ (i:Int)) (-b);rw[zS F];delta qSp;dsimp only;rw[hN];show g.unslip hc J
   . delta qCh
     rw[YB rfl];change (match jT (ms.set i<|.clip n (plP p q r s b) (plQ p q r s b) r s l) (i:Int)with
      |.clip n p q r s l=>(ms.set i _).set ((i:Int)).toNat (.clip n (plP p q r s (-b)) (plQ p q r s (-b)) r s l)
      |_=>_)=ms
     rw[zS F];dsimp only;let#[e1,e2]:=qSd (r:=r) (s:=s) (b:=b) g.q0 g.s0 g.g1;rw[e1,e2,YQ,List.set_set];show qJj hi
 . show YC rfl e
def qOu{α:Type}(A:List α)(x y:α)(W:List α):(A++x::W).set A.length y=A++y::W:=by
 let#[_,h2]:=vi (xV A x W) y;rw[h2,ZI rfl];congr 2;have e:A++x::W=(A++[x])++W:=#[]
 rw[e,ZP];simp
def qUs(A:LI)(Z B:LI)(x y:Im)(b:Int)(n:Str)(p q r s l:Int)(n':Str)(p' q' r' s' l':Int):qQs (A++x::(Z++y::B)) A.length (A++x::Z).length b n p q r s l n' p' q' r' s' l'=A++ .clip n p q r s (l+b)::(Z++ .clip n' (plP p' q' r' s' b) (plQ p' q' r' s' b) r' s' (l'-b)::B):=by
 delta qQs;rw[qOu];have e:A++Im.clip n p q r s (l+b)::(Z++y::B)=(A++Im.clip n p q r s (l+b)::Z)++y::B:=#[]
 have F:(A++x::Z).length=(A++Im.clip n p q r s (l+b)::Z).length:=#[]
 rw[e,F,qOu];simp
inductive RAt(w:Str)(t:Int)(A:LI)(x:Im)(y:Im)(B:LI):LI->LN->Prop where
 |roll (e:w="roll") (ht:t=qY A+x.mo):RAt w t A x y B [] [(A.length:Int),((A.length+1:Nat):Int)]
 |slide {z:Im} {d:Int} (e:w="slide") (hz:z.wd="clip") (d0:0<=d) (d1:d<z.mo) (ht:t=qY A+x.mo+d):RAt w t A x y B [z] [(A.length:Int),((A.length+1:Nat):Int),((A.length+2:Nat):Int)]
def qJ9{A:LI}{k:Int}(e:k=(A.length:Int)):qv (A++m::B) k=m.wd:=jc (xV A m B) e
def RAt.pl{w:Str}{t:Int}{A:LI}(h:RAt w t A x y B Z is)(hA:Nn A)(hx:x.wd="clip")(hy:y.wd="clip")(x0:0<=x.mo)(y0:0<y.mo):plF w (A++x::(Z++y::B)) t=some is:=by
 have cm:("clip":Str)≠"mix":=⋯
 have hX:Nn (A++[x]):=λm hm=>(YO.mp hm).elim (hA m) λq=>by rw[YY]at q;subst q;show x0
 have J:(A++[x]).length=A.length+1:=#[]
 have eX:qY (A++[x])=qY A+x.mo:=by rw[qV,qI,qj];lia
 cases h with
 |roll e ht=>
  subst e;have F:A++x::([]++y::B)=(A++[x])++y::B:=#[]
  have hi:=z6 (A++[x]) 0 0 y B 0 hX (YH 0) y0;rw[<-F,eX,J,show 0+(qY A+x.mo)+0=t by lia,Nat.zero_add]at hi;have k1:qv (A++x::([]++y::B)) (A.length:Int)="clip":=(qJ9 rfl).trans hx;have k2:qv (A++x::([]++y::B)) ((A.length+1:Nat):Int)="clip":=by rw[F];show(qJ9 (by rw[J])).trans hy
  unfold plF;rw[YB rfl];delta cbF nbF;rw[hi];dsimp only;rw[YA (),show ((A.length+1:Nat):Int)-1=(A.length:Int) by lia,k1,YA cm];dsimp only;rw[YB #[k1,k2]];rfl
 | @slide z d e hz d0 d1 ht=>
  subst e;have F:A++x::([z]++y::B)=(A++[x])++z::(y::B):=#[]
  have e2:A++x::([z]++y::B)=(A++[x,z])++y::B:=#[]
  have hi:=z6 (A++[x]) 0 0 z (y::B) d hX d0 d1;rw[<-F,eX,J,show 0+(qY A+x.mo)+d=t by lia,Nat.zero_add]at hi;have k0:qv (A++x::([z]++y::B)) (((A.length+1:Nat):Int)-1)="clip":=(qJ9 ()).trans hx;have k1:qv (A++x::([z]++y::B)) ((A.length+1:Nat):Int)="clip":=by rw[F];show(qJ9 (by rw[J])).trans hz
  have k2:qv (A++x::([z]++y::B)) (((A.length+1:Nat):Int)+1)="clip":=by rw[e2];show(qJ9 (by simp;lia)).trans hy
  have pa:paF (A++x::([z]++y::B)) ((A.length+1:Nat):Int)=(A.length:Int):=by delta paF;rw[k0,YA cm];lia
  have pb:pbF (A++x::([z]++y::B)) ((A.length+1:Nat):Int)=((A.length+2:Nat):Int):=by delta pbF;rw[k2,YA cm];lia
  unfold plF;rw[YA ⋯,YA ⋯];delta csF ctF;rw[hi];dsimp only;rw[YB k1];dsimp only;rw[pa,pb,YB #[(qJ9 rfl).trans hx,by rw[show ((A.length+2:Nat):Int)=((A.length+1:Nat):Int)+1 by lia];show k2]]
def qYf{w:Str}{t:Int}(hw:w="roll"\/w="slide")(F:plF w ms t=some is)(hx:is.any (hmB ms)=false):∃(A:LI) (x:Im) (Z:LI) (y:Im) (B:LI),ms=A++x::(Z++y::B)/\x.wd="clip"/\y.wd="clip"/\RAt w t A x y B Z is:=by
 have nx:∀x∈is,hmB ms x=false:=λx aa=>by rw[List.any_eq_false]at hx;simpa using hx x aa
 rcases hw with rfl|rfl
 . unfold plF at F
   rw[YB rfl]at F;cases hc:cbF ms t with
   |none=>rw[hc]at F;cases F
   |some ij=>
    let#[i,j]:=ij;rw[hc]at F;obtain rfl:is=[i,j]:=(Yb F).symm;let#[k1,k2]:=zK hc;have hn:nbF ms t=some (i,j):=by
     delta cbF at hc;cases hq:nbF ms t with
     |none=>rw[hq]at hc;cases hc
     |some x=>
      let#[a,b]:=x;rw[hq]at hc;dsimp only at hc;split at hc
      . show hc
      . cases hc
    rcases qKh hn with ⟨A,x,y,B,e,rfl,rfl,ht,hm,y0⟩|⟨A,l,y,B,e,rfl,rfl,ht,hy⟩
    . show#[A,x,[],y,B,e,?_,?_,.roll rfl ht]
      . rw[e]at k1;show(qJ9 rfl).symm.trans k1
      . have e1:ms=(A++[x])++y::B:=by rw[e];simp
        rw[e1]at k2;show(qJ9 #[]).symm.trans k2
    . have:=(qPc<|nx ((A.length:Int)-1) #[]).2
      rw[e,show (A.length:Int)-1+1=(A.length:Int) by lia,qJ9 rfl]at this;show YC rfl this
 . unfold plF at F
   rw[YA ⋯,YA ⋯]at F;delta csF ctF at F;cases hi:jo 0 0 ms t with
   |none=>rw[hi]at F;cases F
   |some kd=>
    let#[k,d]:=kd;rw[hi]at F;dsimp only at F;by_cases kc:qv ms (k:Int)="clip"
    . rw[YB kc]at F
      dsimp only at F;split at F
      . rename_i hk
        obtain rfl:=Yb F;let#[J,z,B0,e,ek,et,d0,d1]:=wu hi;rw[Nat.zero_add]at ek;subst ek;let#[n1,n2]:=qPc<|nx (J.length:Int) #[];have pa:paF ms (J.length:Int)=(J.length:Int)-1:=by delta paF;rw[YA n1]
        have pb:pbF ms (J.length:Int)=(J.length:Int)+1:=by delta pbF;rw[YA n2]
        rw[pa,pb]at hk⊢;have hA:J≠[]:=λz=>by have:=hk.1;rw[z]at this;show YC (show ("":Str)="clip" from this) ⋯
        let#[A,x,rfl]:=qFt hA;have hB:B0≠[]:=λz=>by subst z;have:=hk.2;unfold qv at this;rw[YA (),show (((A++[x]).length:Int)+1).toNat=(A++[x]).length+1 by lia,e,List.getElem?_eq_none #[]]at this;show YC this ⋯
        let#[y,B,rfl]:=List.exists_cons_of_ne_nil hB;have e1:ms=A++x::([z]++y::B):=by rw[e];simp
        have e2:ms=(A++[x,z])++y::B:=by rw[e];simp
        have lX:(((A++[x]).length:Nat):Int)=(A.length:Int)+1:=#[]
        rw[lX]at hk kc⊢;have kx:x.wd="clip":=by have:=hk.1;rw[e1]at this;show(qJ9 ()).symm.trans this
        have ky:y.wd="clip":=by have:=hk.2;rw[e2]at this;show(qJ9 (by simp;lia)).symm.trans this
        have kz:z.wd="clip":=by rw[e]at kc;show(qJ9 #[]).symm.trans kc
        have es:[(A.length:Int)+1-1,(A.length:Int)+1,(A.length:Int)+1+1]=[(A.length:Int),((A.length+1:Nat):Int),((A.length+2:Nat):Int)]:=by
         simp only[Int.natCast_add];congr 1
         all_goals lia
        rw[es];show#[A,x,[z],y,B,e1,kx,ky,.slide rfl kz d0 d1 ?_];rw[qV,qI,qj]at et;lia
      . cases F
    . rw[YA kc]at F;cases F
def RAt.ends{w:Str}{t:Int}(h:RAt w t U x y B Z is):is.headD 0=(U.length:Int)/\is.getLastD 0=(((U++x::Z).length:Nat):Int)/\w≠"slip":=by
 cases h with
 |roll e ht=>subst e;show#[rfl,by change ((U.length+1:Nat):Int)=_;simp,⋯]
 |slide e hz d0 d1 ht=>subst e;show#[rfl,by change ((U.length+2:Nat):Int)=_;simp,⋯]
def RAt.cap{w:Str}{t:Int}(h:RAt w t U x y B Z is):jT (U++x::(Z++y::B)) (is.headD 0)=x/\jT (U++x::(Z++y::B)) (is.getLastD 0)=y:=by
 let#[F,J,_]:=h.ends;rw[F,J];show#[zS<|xV _ _ _,?_];have e:U++x::(Z++y::B)=(U++x::Z)++y::B:=#[]
 rw[e];show zS<|xV _ _ _
def RAt.rol{w:Str}{t:Int}{n:Str}{l:Int}(h:RAt w t U (.clip n p q r s l) (.clip n' p' q' r' s' l') B Z is)(rl:Rls)(b:Int):
 qJt rl (U++ .clip n p q r s l::(Z++ .clip n' p' q' r' s' l'::B)) w is b=qTh rl (.clip n p q r s l) (.clip n' p' q' r' s' l') b/\qCh (U++ .clip n p q r s l::(Z++ .clip n' p' q' r' s' l'::B)) w is b=U++ .clip n p q r s (l+b)::(Z++ .clip n' (plP p' q' r' s' b) (plQ p' q' r' s' b) r' s' (l'-b)::B):=by
 let#[F,e2,ns]:=h.ends;let#[c1,J]:=h.cap;delta qJt qCh;rw[YA ns,YA ns,c1,J];show#[O,?_];dsimp only;rw[F,e2,YQ,YQ];show qUs _ _ _ _ _ _ _ _ _ _ _ _ _ _ _ _ _ _
def RAt.move{w:Str}{t:Int}(h:RAt w t U x y B Z is){y':Im}(e:x'.mo=x.mo+b):RAt w (t+b) U x' y' B Z is:=by
 cases h with
 |roll e1 ht=>show .roll e1 ()
 |slide e1 hz d0 d1 ht=>show .slide e1 hz d0 d1 ()
def qVe{y':Im}(e1:x'.wd=x.wd)(e2:y'.wd=y.wd)(U Z B:LI)(k:Int):qv (U++x'::(Z++y'::B)) k=qv (U++x::(Z++y::B)) k:=by
 have J:=zY (m':=x') (xV U x (Z++y::B)) e1 k;rw[qOu]at J;have F:=zY (m':=y') (xV (U++x'::Z) y B) e2 k;rw[qOu]at F;have e3:(U++x'::Z)++y::B=U++x'::(Z++y::B):=#[]
 have e4:(U++x'::Z)++y'::B=U++x'::(Z++y'::B):=#[]
 rw[e3,e4]at F;rw[F,J]
def qTc(h:GW A M c ms){w:Str}{t:Int}(hw:w="roll"\/w="slide")(hp:plF w ms t=some is)(hx:is.any (hmB ms)=false)(J:wn b<=qJt (rlE A) ms w is b)(hm:b.natAbs<=1000000):
 plF w (qCh ms w is b) (t+b)=some is/\is.any (hmB<|qCh ms w is b)=false/\wn (-b)<=qJt (rlE A) (qCh ms w is b) w is (-b)/\qCh (qCh ms w is b) w is (-b)=ms/\0<=t+b:=by
 let#[U,x,Z,y,B,rfl,kx,ky,hR]:=qYf hw hp hx;let#[n,p,q,r,s,l,rfl]:=qFi kx;let#[n',p',q',r',s',l',rfl]:=qFi ky;let#[N,g]:=h.it (.clip n p q r s l) #[];let#[N',g']:=h.it (.clip n' p' q' r' s' l') #[];have nU:Nn U:=λm hm=>h.nn m (by simp[hm]);rw[(hR.rol (rlE A) b).2];rw[(hR.rol (rlE A) b).1]at J;delta qTh at J;dsimp only at J;rw[g.rn,g'.rn]at J;dsimp only at J;let#[g1,g2]:=g.roll g' J;have l1:=g1.l1;have l2:=g2.l1;have F:=hR.move (x':=.clip n p q r s<|l+b) (y':=.clip n' (plP p' q' r' s' b) (plQ p' q' r' s' b) r' s'<|l'-b) (b:=b) rfl;show#[F.pl nU rfl rfl (by change 0<=l+b;lia) (by change 0<l'-b;lia),?_,?_,?_,?_]
 . rw[List.any_eq_false]at hx⊢
   intro k hk;have:=hx k hk;unfold hmB at this⊢;have kk:∀k,qv (U++ .clip n p q r s (l+b)::(Z++ .clip n' (plP p' q' r' s' b) (plQ p' q' r' s' b) r' s' (l'-b)::B)) k=qv (U++ .clip n p q r s l::(Z++ .clip n' p' q' r' s' l'::B)) k:=qVe (x:=.clip n p q r s l) (x':=.clip n p q r s<|l+b) (y:=.clip n' p' q' r' s' l') (y':=.clip n' (plP p' q' r' s' b) (plQ p' q' r' s' b) r' s'<|l'-b) rfl rfl U Z B;rw[kk,kk];show this
 . rw[(F.rol _ (-b)).1]
   delta qTh;dsimp only;rw[g.rn,g'.rn];show g.unroll g' J hm
 . rw[(F.rol (rlE A) (-b)).2]
   let#[e1,e2]:=qSd (r:=r') (s:=s') (b:=b) g'.q0 g'.s0 g'.g1;rw[e1,e2,show l+b+ -b=l by lia,show l'-b- -b=l' by lia]
 . have:=Nn.len nU
   have em:(Im.clip n p q r s l).mo=l:=rfl;cases hR with
   |roll e ht=>lia
   |slide e hz d0 d1 ht=>lia
def qWs{t:Int}(h:cbF ms t=some ((i:Int),((i+1:Nat):Int))):∃(U:LI) (x y:Im) (B:LI),ms=U++x::y::B/\U.length=i/\x.wd="clip"/\y.wd="clip"/\t=qY U+x.mo/\0<y.mo:=by
 let#[k1,k2]:=zK h;have hn:nbF ms t=some ((i:Int),((i+1:Nat):Int)):=by
  delta cbF at h;cases hq:nbF ms t with
  |none=>rw[hq]at h;cases h
  |some x=>
   let#[a,b]:=x;rw[hq]at h;dsimp only at h;split at h
   . show h
   . cases h
 rcases qKh hn with ⟨U,x,y,B,e,e1,e2,ht,hm,y0⟩|⟨U,l,y,B,e,e1,e2,_⟩
 . have J:U.length=i:=()
   have F:ms=(U++[x])++y::B:=by rw[e];simp
   show#[U,x,y,B,e,J,?_,?_,ht,y0]
   . rw[e]at k1;show(qJ9 ()).symm.trans k1
   . rw[F]at k2;show(qJ9 (by simp;lia)).symm.trans k2
 . lia
def qZn{l:Int}(hU:Nn U)(hx:x.wd="clip")(hy:y.wd="clip")(x0:0<=x.mo)(y0:0<y.mo):cbF (U++x:: .mix l::y::B) (qY U+x.mo)=some ((U.length:Int),((U.length+2:Nat):Int)):=by
 have F:U++x:: .mix l::y::B=(U++[x,.mix l])++y::B:=#[]
 have e2:U++x:: .mix l::y::B=(U++[x])++ .mix l::y::B:=#[]
 have hX:Nn (U++[x,.mix l]):=λm hm=>(YO.mp hm).elim (hU m) λq=>by
  rcases YU.mp q with rfl|q
  . show x0
  . rw[YY]at q;subst q;show YH 0
 have J:(U++[x,.mix l]).length=U.length+2:=#[]
 have em:(Im.mix l).mo=0:=rfl;have eX:qY (U++[x,.mix l])=qY U+x.mo:=by rw[qV,qI,qI,qj,em];lia
 have hi:=z6 (U++[x,.mix l]) 0 0 y B 0 hX (YH 0) y0;rw[<-F,eX,J,show 0+(qY U+x.mo)+0=qY U+x.mo by lia,Nat.zero_add]at hi;have k1:qv (U++x:: .mix l::y::B) (((U.length+2:Nat):Int)-1)="mix":=by rw[e2];show qJ9 (by simp;lia)
 have k0:qv (U++x:: .mix l::y::B) (((U.length+2:Nat):Int)-2)="clip":=(qJ9 ()).trans hx;have k2:qv (U++x:: .mix l::y::B) ((U.length+2:Nat):Int)="clip":=by rw[F];show(qJ9 (by rw[J])).trans hy
 delta cbF nbF;rw[hi];dsimp only;rw[YA (),k1,YB rfl];dsimp only;rw[YB #[k0,k2]];congr 2;lia
def qUi(nn:∀m∈ms,Wf m){t l:Int}(h:cbF ms t=some ((i:Int),((i+1:Nat):Int))):cbF (ms.take (i+1)++[Im.mix l]++ms.drop (i+1)) t=some ((i:Int),((i+2:Nat):Int))/\(ms.take (i+1)++[Im.mix l]++ms.drop (i+1)).take (i+1)++(ms.take (i+1)++[Im.mix l]++ms.drop (i+1)).drop (i+2)=ms:=by
 let#[U,x,y,B,rfl,rfl,kx,ky,rfl,y0]:=qWs h;have J:U++x::y::B=(U++[x])++(y::B):=#[]
 have F:U.length+1=(U++[x]).length:=#[]
 have t1:(U++x::y::B).take (U.length+1)=U++[x]:=by rw[J,ZI F.symm]
 have t2:(U++x::y::B).drop (U.length+1)=y::B:=by rw[J,ZP F.symm]
 rw[t1,t2];have e2:U++[x]++[Im.mix l]++y::B=U++x:: .mix l::y::B:=#[]
 show#[?_,?_]
 . rw[e2]
   show qZn (λm hm=>(nn m (by simp[hm])).mo) kx ky (nn x #[]).mo y0
 . rw[Yw,ZI F.symm,<-Yw,ZP #[]]
   simp
theorem qXx{R:Im->Int->Im->Prop}{m:Im}{B:LI}:∀(X:LI) (tb:Int) (p:Option Im),FS R tb p (X++m::B)->∃p',FS R (tbL tb X) p' (m::B)
 |[],tb,p,h=>#[p,h]
 |x::X,tb,p,h=>by
  rw[qOo];by_cases F:x.wd="mix"
  . let#[l,rfl]:=jZ F
    show qXx X _ _ h.2
  . rw[YT]at h
    have h2:=((qq F).mp h).2;cases x with
    |mix l=>show YC rfl F
    |_=>show qXx X _ _ h2
def qZu{a l:Int}(h1:1<=l)(F:l.fdiv 2<=a)(J:l-l.fdiv 2<=b):l<=mmV a b:=by have:=jM (p:=l) (q:=2) #[];unfold mmV qZ1;split <;> split <;> lia
def qSf{x y l:Int}(h1:l<=x)(h2:l<=y):l<=qVg x y:=by unfold qVg;split <;> lia
def qQe(h:GT A M c ms){t:Int}(hc:cbF ms t=some ((i:Int),((i+2:Nat):Int))):∃l M',ms[i+1]?=some (.mix l)/\1<=l/\cbF (ms.take (i+1)++ms.drop (i+2)) t=some ((i:Int),((i+1:Nat):Int))/\mmF (rlE A) (ms.take (i+1)++ms.drop (i+2)) t=some M'/\l<=M'/\(ms.take (i+1)++ms.drop (i+2)).take (i+1)++[Im.mix l]++(ms.take (i+1)++ms.drop (i+2)).drop (i+1)=ms:=by
 have hn:nbF ms t=some ((i:Int),((i+2:Nat):Int)):=by
  delta cbF at hc;cases hq:nbF ms t with
  |none=>rw[hq]at hc;cases hc
  |some x=>
   let#[a,b]:=x;rw[hq]at hc;dsimp only at hc;split at hc
   . show hc
   . cases hc
 rcases qKh hn with ⟨U,x,y,B,_,_,e2,_⟩|⟨U,l,y,B,e,e1,e2,et,_⟩
 . lia
 . let#[X,n,p,q,r,s,k,n',p',q',r',s',F,Y,rfl,eY]:=qBy h.gd.mo (show ms=U++ .mix l::(y::B)from e)
   have hl:X.length=i:=by rw[YN,Yy]at e2;lia
   have J:ms=X++ .clip n p q r s k:: .mix l:: .clip n' p' q' r' s' F::Y:=by rw[e,eY];simp
   have a1:ms=(X++[.clip n p q r s k])++(.mix l:: .clip n' p' q' r' s' F::Y):=by rw[J];simp
   have a2:ms=(X++[.clip n p q r s k,.mix l])++(.clip n' p' q' r' s' F::Y):=by rw[J];simp
   have b1:ms.take (i+1)=X++[.clip n p q r s k]:=by rw[a1,ZI];simp[hl]
   have b2:ms.drop (i+2)=.clip n' p' q' r' s' F::Y:=by rw[a2,ZP];simp[hl]
   have nX:Nn X:=λm hm=>h.nn m (by rw[J];simp[hm]);have wm:Wf (.mix l):=h.wf _ (by rw[J];simp);have l1:1<=l:=wm;have k0:1<=k:=(h.wf (.clip n p q r s k) (by rw[J];simp)).2.2.2;have ac:1<=F:=(h.wf (.clip n' p' q' r' s' F) (by rw[J];simp)).2.2.2;have hf:=h.gd.fs;rw[J]at hf;let#[p1,f1]:=qXx X 0 none hf;have cm:("clip":Str)≠"mix":=⋯
   let#[f2,f3]:=(qq (R:=RmR<|rlE A) (m:=.clip n p q r s k) cm).mp f1;let#[f4,f5]:=FS_mix.mp f3;let#[f6,_]:=(qq (R:=RmR<|rlE A) (m:=.clip n' p' q' r' s' F) cm).mp f5;let#[N,N',r1,r2,f7,f8]:=f4 _ _ rfl rfl _ _ _ _ _ _ _ _ _ _ _ _ rfl rfl;have f2:tbL 0 X+l.fdiv 2<=k:=f2 rfl;have f6:l-l.fdiv 2+tkE Y<=F:=f6 rfl;subst hl;rw[b1,b2];have lX:(X++[Im.clip n p q r s k]).length=X.length+1:=#[]
   have e3:X++[Im.clip n p q r s k]++Im.clip n' p' q' r' s' F::Y=X++ .clip n p q r s k::([]++ .clip n' p' q' r' s' F::Y):=#[]
   have tl:t=qY X+(Im.clip n p q r s k).mo:=by rw[et,qV,qI,qj];lia
   have hR:RAt "roll" t X (.clip n p q r s k) (.clip n' p' q' r' s' F) Y [] _:=.roll rfl tl;have hp:=hR.pl nX rfl rfl (by change 0<=k;lia) (by change 0<F;lia);have aa:cbF (X++[Im.clip n p q r s k]++Im.clip n' p' q' r' s' F::Y) t=some ((X.length:Int),((X.length+1:Nat):Int)):=by
    rw[e3];unfold plF at hp;rw[YB rfl]at hp;cases hq:cbF (X++Im.clip n p q r s k::([]++Im.clip n' p' q' r' s' F::Y)) t with
    |none=>rw[hq]at hp;cases hp
    |some ij=>
     let#[a,b]:=ij;rw[hq]at hp;have:=Yb hp;injection this with z1 z2
     injection z2 with z3 _
     have z1:a=_:=z1;have z3:b=_:=z3;rw[z1,z3]
   have t1:tbF (X++[Im.clip n p q r s k]++Im.clip n' p' q' r' s' F::Y) X.length=tbL 0 X:=by rw[<-qN7 #[],e3,ZI rfl]
   have t2:teF (X++[Im.clip n p q r s k]++Im.clip n' p' q' r' s' F::Y) (X.length+1)=tkE Y:=by
    rw[<-qOs];congr 1;have:X++[Im.clip n p q r s k]++Im.clip n' p' q' r' s' F::Y=(X++[Im.clip n p q r s k,Im.clip n' p' q' r' s' F])++Y:=#[]
    rw[this,ZP];simp
   show#[l,mmV (qVg (k-tbL 0 X)<|xL p' q' r' s' N') (qVg (F-tkE Y)<|xC p q r s k N),?_,l1,aa,?_,qZu l1 (qSf () f7)<|qSf () f8,?_]
   . rw[a1,<-lX];show xV _ _ _
   . delta mmF
     rw[aa];dsimp only;have g1:(X++[Im.clip n p q r s k]++Im.clip n' p' q' r' s' F::Y)[X.length]?=some (.clip n p q r s k):=by rw[e3];show xV _ _ _
     have g2:(X++[Im.clip n p q r s k]++Im.clip n' p' q' r' s' F::Y)[X.length+1]?=some (.clip n' p' q' r' s' F):=by rw[<-lX];show xV _ _ _
     rw[zS g1,zS g2];dsimp only;rw[r1,r2];dsimp only;rw[YQ,YQ,t1,t2]
   . rw[ZI lX,ZP lX,J]
     simp
def GW.mixd{t l:Int}(h:GW A M c ms)(hc:cbF ms t=some ((i:Int),((i+1:Nat):Int)))(h1:1<=l):GW A M (c+1) (ms.take (i+1)++[.mix l]++ms.drop (i+1)):=by
 let#[n,p,q,r,s,k,n',p',q',r',s',k',e1,e2,e3,e4]:=qTi hc;have o:=h.os;have m:=h.mo;have F:=h.le;have J:=h.ct;have it:=h.it;rw[e4 l];rw[e3]at o m F J it;generalize ms.take i=X at*;generalize ms.drop (i+2)=Y at*;show#[λx hx=>?_,qOy l (by change ("clip":Str)≠"gap";decide+kernel) (by change ("clip":Str)≠"gap";decide+kernel) _ _ o,qO0 l #[_,_,_,_,_,_,O] #[_,_,_,_,_,_,O] _ _ m,?_,?_]
 . simp only[YO,YU]at hx it
   rcases hx with hx|hx|hx|hx|hx
   . show it x (.inl hx)
   . show it x (.inr<|.inl hx)
   . subst hx;show h1
   . show it x (.inr (.inr<|.inl hx))
   . show it x (.inr (.inr<|.inr hx))
 . rw[qV,qI,qI]at F
   rw[qV,qI,qI,qI];have:(Im.mix l).mo=0:=rfl;lia
 . simp only[YN,YE]at J⊢
   lia
def GW.unmixed{t:Int}(h:GW A M c ms)(J:cbF ms t=some ((i:Int),((i+2:Nat):Int))):GW A M c (ms.take (i+1)++ms.drop (i+2)):=by
 have hn:nbF ms t=some ((i:Int),((i+2:Nat):Int)):=by
  delta cbF at J;cases hq:nbF ms t with
  |none=>rw[hq]at J;cases J
  |some x=>
   let#[a,b]:=x;rw[hq]at J;dsimp only at J;split at J
   . show J
   . cases J
 rcases qKh hn with ⟨U,x,y,B,_,_,e2,_⟩|⟨U,l,y,B,e,e1,e2,et,_⟩
 . lia
 . let#[X,n,p,q,r,s,k,n',p',q',r',s',F,Y,rfl,eY]:=qBy h.mo (show ms=U++ .mix l::(y::B)from e)
   have hl:X.length=i:=by rw[YN,Yy]at e2;lia
   have e':ms=X++ .clip n p q r s k:: .mix l:: .clip n' p' q' r' s' F::Y:=by rw[e,eY];simp
   have e3:ms.take (i+1)++ms.drop (i+2)=X++ .clip n p q r s k:: .clip n' p' q' r' s' F::Y:=by
    have a1:ms=(X++[.clip n p q r s k])++(.mix l:: .clip n' p' q' r' s' F::Y):=by rw[e'];simp
    have a2:ms=(X++[.clip n p q r s k,.mix l])++(.clip n' p' q' r' s' F::Y):=by rw[e'];simp
    have b1:ms.take (i+1)=X++[.clip n p q r s k]:=by rw[a1,ZI];simp[hl]
    have b2:ms.drop (i+2)=.clip n' p' q' r' s' F::Y:=by rw[a2,ZP];simp[hl]
    rw[b1,b2];simp
   rw[e3];let#[a1,o,m,a3,a4]:=h;rw[e']at a1 o m a3 a4;show#[λx hx=>a1 x ?_,qDg (X:=Im.clip n p q r s k:: .mix l::Im.clip n' p' q' r' s' F::Y) (X':=Im.clip n p q r s k::Im.clip n' p' q' r' s' F::Y) (λg q=>q) X _ o,qDm (x:=.clip n p q r s k) (x':=.clip n p q r s k) (T:=.mix l::Im.clip n' p' q' r' s' F::Y) (T':=Im.clip n' p' q' r' s' F::Y) id (λp q=>q.2) X _ m,?_,?_]
   . simp only[YO,YU]at hx⊢
     rcases hx with hx|hx|hx|hx
     . show .inl hx
     . show .inr (.inl hx)
     . show .inr (.inr (.inr<|.inl hx))
     . show .inr (.inr (.inr<|.inr hx))
   . rw[qV,qI,qI,qI]at a3
     rw[qV,qI,qI];have:(Im.mix l).mo=0:=rfl;lia
   . simp only[YN,YE]at a4⊢
     lia
def AllG(G:LI->Prop)(L:Nat)(ts:LL):Prop:=ts.length=L/\∀x∈ts,G x
theorem AllG.set{G:LI->Prop}{L:Nat}{F:LL}(h:AllG G L F)(k:Nat){x:LI}(hx:G x):AllG G L (F.set k x):=#[by rw[ZN];show h.1,λy J=>(List.mem_or_eq_of_mem_set J).elim (h.2 y) λe=>e ▸ hx]
inductive Gone(rl:Rls)(tie:LN)(G:LL->Prop)(O9:De->Prop):LL->List (Nat×De)->LL->Prop where
 |nil {ts:LL}:Gone rl tie G O9 ts [] ts
 |cons {ts ts1 ts2:LL} {n:Nat} {ms:LI} {d:De} {ds:List (Nat×De)} (g:G ts) (o:O9 d) (hm:ts[n]?=some ms) (r:zI rl ts tie n ms d=.good ts1) (h:Gone rl tie G O9 ts1 ds ts2):Gone rl tie G O9 ts ((n,d)::ds) ts2
def Gone.app{G:LL->Prop}{a b c:LL}{ds es:List<|Nat×De}(h:Gone rl tie G O9 a ds b)(h':Gone rl tie G O9 b es c):Gone rl tie G O9 a (ds++es) c:=by
 induction h with
 |nil=>show h'
 |cons g o hm r _ ih=>show .cons g o hm r<|ih h'
def qG5(tie:LN)(n:Int):chF tie n false=[n]:=by delta chF;rw[YA λq=>YZ q.1]
def kY{F:LL}{k:Nat}(h:F[k]?=some ms):F.getD ((k:Int)).toNat []=ms:=by rw[YQ,List.getD_eq_getElem?_getD,h];rfl
def qOw{F:LL}{k:Nat}{J:LI}{d:De}(hm:F[k]?=some ms)(h:qV6 ms d=some J):zI rl F tie k ms d=.good (F.set k J):=by
 have tA:∀{lo hi:Int},¬jG ms lo hi=true->¬jO F (chF tie (k:Int) false) lo hi=true:=λ{lo hi} q=>by delta jO;rw[qG5,List.any_cons,List.any_nil,Bool.or_false,kY hm];show q
 cases d with
 |hel t=>
  rw[qV6]at h;split at h
  . cases h
  . rename_i q
    rw[zI,h];dsimp only;rw[YA<|tA q]
 |chg d=>
  cases d with
  |lov t m=>
   rw[qV6]at h;split at h
   . cases h
   . rename_i q
     cases h;rw[zI,YB (show wiB ms (.lov t m)=true from rfl)];change (if jO F (chF tie (k:Int) false) t (t+m.mo)=true then Res.mixed else .good (vC F (.lov t m) (k:Int)<|chF tie (k:Int) false))=_;rw[YA<|tA q,qG5];delta vC;rw[List.foldl_cons,List.foldl_nil,kY hm,YQ];delta je;rw[YB rfl];rfl
  |_=>cases h
 |_=>cases h
def TGo.lift{k:Nat}{J:LI}{ds:List De}(h:TGo G O9 ms ds J):∀F:LL,AllG G L F->F[k]?=some ms->Gone rl tie (AllG G L) O9 F (ds.map λd=>(k,d)) (F.set k J):=by
 induction h with
 |nil=>
  intro F _ hm;rw[qJj hm];show .nil
 | @cons ms ms1 J d ds g o r hh ih=>
  intro F hG hm;have hk:=(glt hm);have aa:(F.set k ms1)[k]?=some ms1:=ZA hk;cases hh with
  |nil=>
   show .cons hG o hm (qOw hm r) .nil
  |cons g1 o1 r1 h1=>
   have:=ih (F.set k ms1) (hG.set k g1) aa;rw[List.set_set]at this;show .cons hG o hm (qOw hm r) this
theorem qE2{rl:Rls}{tie:LN}{G:LI->Prop}{O9:De->Prop}{L:Nat}{ts:LL}(hT:AllG G L ts)(J:Int->List De):∀(ns:LN) (F:LL),AllG G L F->(∀k∈ns,∃(j:Nat) (ms mk:LI),k=(j:Int)/\ts[j]?=some ms/\F[j]?=some mk/\TGo G O9 mk (J k) ms)->ns.Nodup->(∀j:Nat,(j:Int)∉ns->F[j]?=ts[j]?)->Gone rl tie (AllG G L) O9 F (ns.flatMap λk=>(J k).map λd=>(k.toNat,d)) ts
 |[],F,hC,_,_,h=>by have:F=ts:=List.ext_getElem? λj=>h j #[];rw[this];show .nil
 |k::ns,F,hC,hk,hn,h=>by
  let#[j,ms,mk,rfl,hj,hc,hg]:=hk k #[];rw[List.flatMap_cons,YQ];have hl:=(glt hc);let#[n1,n2]:=List.nodup_cons.mp hn;show(hg.lift F hC hc).app (qE2 hT J ns (F.set j ms) (hC.set j (hT.2 ms<|YF hj)) (λk' aa=>?_) n2 λi hi=>?_)
  . let#[j',ms',ac,rfl,a1,a2,a3]:=hk k' (by simp[aa])
    show#[j',ms',ac,O,a1,?_,a3];rw[ZL (λe=>by subst e;show n1 aa)];show a2
  . by_cases e:j=i
    . subst e
      rw[ZA hl,hj]
    . rw[ZL e]
      show h i λq=>?_;rcases YU.mp q with q|q
      . show e ()
      . show hi q
theorem qOt(f:Int->LI):∀(ns:LN) (F:LL) (j:Nat),(∀k∈ns,0<=k)->(ns.foldl (λa k=>a.set k.toNat<|f k) F)[j]?=if (j:Int)∈ns then (if j<F.length then some (f j)else none)else F[j]?
 |[],F,j,_=>#[]
 |k::ns,F,j,h=>by
  have k0:=h k #[];rw[List.foldl_cons,qOt f ns _ j (λx hx=>h x (by simp[hx])),ZN];by_cases J:(j:Int)∈ns
  . rw[YB J,YB<|List.mem_cons_of_mem k J]
  . rw[YA J]
    by_cases e:k=(j:Int)
    . subst e
      rw[YB List.mem_cons_self,YQ,List.getElem?_set,YB rfl]
    . rw[YA (by simp only[YU,not_or];show#[λq=>e q.symm,J]),ZL ()]
def qI9{F:LL}{d:Dk}{n:Int}(h:∀k∈ns,0<=k){j:Nat}(J:F[j]?=some ms):(vC F d n ns)[j]?=some (if (j:Int)∈ns then jx ms d.t d.hi (je d n j)else ms):=by delta vC;rw[qOt (λk=>jx (F.getD k.toNat []) d.t d.hi<|je d n k) ns F j h,kY J,J,YB<|glt J];split <;> rfl
structure GB(A:Rg)(M:Int)(c:Nat)(C:Int)(ms:LI):Prop where
 gt:GW A M c ms
 cl:∀m∈ms,m.wd="clip"->m.mo<=C
theorem GB.mono{A:Rg}{M M':Int}{c c':Nat}{C C':Int}{ms:LI}(h:GB A M c C ms)(h1:M<=M')(h2:c<=c')(J:C<=C'):GB A M' c' C' ms:=#[h.gt.mono h1 h2,λm F e=>by have:=h.cl m F e;lia]
theorem GB.rel0{A:Rg}{M:Int}{c:Nat}{C:Int}{ms:LI}(h:GB A M c C ms){lo hi:Int}(F:0<=lo)(h1:lo<=hi)(J:jG ms lo hi=false):Rel ms lo hi []:=h.gt.rel0 F h1 J
def GB.rel(h:GB A M c C ms){hi:Int}(F:Rel ms lo hi ls)(hl:∀m∈ls,GI A m/\(m.wd="clip"->m.mo<=C)){B:Int}(ac:lo<=M+4)(aa:qY ls<=B)(hn:ls.length<=n):GB A (M+4+B) (c+2+n) C (jx ms lo hi ls):=by
 have h0:=F.l0;have h1:=F.lh;have a1:=h.gt.le;have a2:=h.gt.ct;show#[#[qIx (Pm:=GI A) (λw hw=>by change 1<=w;lia) F h.gt.it (λm J nm x y x0 x1 x2=>(h.gt.it m J).part nm x0 x1 x2) (λm J=>(hl m J).1),qWb F,F.mo',?_,?_],qIx (Pm:=λm=>m.wd="clip"->m.mo<=C) (λw _ e=>YC (show ("gap":Str)="clip" from e) ⋯) F h.cl (λm J nm x y x0 x1 x2 e=>?_) (λm J=>(hl m J).2)]
 . rw[F.eq2]
   have b1:=qH7 _ 0 F.raw.nn<|YH 0;let#[l4,l5,l6]:=qGb (c:=hi) (show 0<=hi by lia) h.gt.wf;rw[qV,qV,F.pad.2.1]at b1;have b2:qY (cutF hi ms).2=0\/qY (cutF hi ms).2=qY ms-hi:=by
    by_cases q:hi<=qY ms
    . have:=l6 q
      right;lia
    . left
      rw[qN4 ms hi h.gt.nn ()];rfl
   have:=Nn.len (Wf.rw F.lw).nn;lia
 . rw[F.eq2]
   have b1:=qEq (qDo lo ms++(ls++(cutF hi ms).2)) 0;have b2:=qNs ms lo hi h1;rw[YA ()]at b1;unfold qDo at b1⊢;simp only[YN,YE,ZO]at b1;lia
 . rw[qB5 nm]at e
   rw[jJ];have:=h.cl m J e;lia
def qUf(h:GB A M c C ms){hi:Int}(hR:Rel ms lo hi ls):(∀m∈qBg lo hi ms,GI A m/\(m.wd="clip"->m.mo<=C))/\((qBg lo hi ms).length:Int)<=qY (qBg lo hi ms):=by
 have l0:=hR.l0;have lh:=hR.lh;have J:∀{X:LI} {t:Int},0<=t->(∀m∈X,GI A m/\(m.wd="clip"->m.mo<=C))->(∀m∈(cutF t X).1,GI A m/\(m.wd="clip"->m.mo<=C))/\∀m∈(cutF t X).2,GI A m/\(m.wd="clip"->m.mo<=C):=λ{X t} t0 hX=>qNt (Pm:=λm=>GI A m/\(m.wd="clip"->m.mo<=C)) t0 hX λm F nm x y x0 x1 x2=>#[(hX m F).1.part nm x0 x1 x2,λe=>by rw[qB5 nm]at e;rw[jJ];have:=(hX m F).2 e;lia]
 show#[(J () (J l0 (λm F=>#[h.gt.it m F,h.cl m F])).2).1,?_];let#[w1,w2,_]:=hR.mid;have aa:∀X:LI,(∀m∈X,Wf m)->(∀m∈X,m.wd≠"mix")->(X.length:Int)<=qY X:=λX=>by
  induction X with
  |nil=>intro _ _;decide
  |cons m X ih=>
   intro a b;have:=ih (λx hx=>a x (by simp[hx])) (λx hx=>b x (by simp[hx]));have:=(a m #[]).pos<|b m #[];rw[qI,YE];lia
 show aa _ w1 w2
def qSx(g:Int):∀m∈vm g,GI A m/\(m.wd="clip"->m.mo<=C):=λm F=>by
 delta vm at F;split at F
 . rw[YY]at F
   subst F;show#[by change 1<=g;lia,λe=>YC (show ("gap":Str)="clip" from e) ⋯]
 . cases F
def qUm(g:Int):(vm g).length<=1:=by delta vm;split <;> simp
def GB.again(h:GB A M c C ms){hi:Int}(J:Rel ms lo hi [])(ad:lo<hi)(hw:hi<=lo+10)(ac:lo<=M+4)(hO:∀x t,GI A x->(x.wd="clip"->x.mo<=C)->x.wd="clip"\/x.wd="nest"->lo<=t->t<=hi->x.mo<=10->O9 (.chg<|.lov t x))(hH:∀t,lo<=t->t<=hi->O9 (.hel t)):
 TGo (GB A (M+14) (c+14) C) O9 (jx ms lo hi [.gap<|hi-lo]) (qNw lo (qBg lo hi ms)++xl ms [lo,hi]) ms:=by
 let#[g1,g2]:=qUf h J;let#[w1,w2,w3]:=J.mid;show qTq J ad h.gt.os (λU V g e g0 eg=>?_) ?_ (λx hx t t0 t1 ng=>?_) #[hH lo (YH lo) (),hH hi ()<|YH hi]
 . have hU:∀m∈U,m∈qBg lo hi ms:=λm F=>by rw[e];simp[F]
   have lV:=Nn.len (ms:=V) λy hy=>(w1 y (by rw[e];simp[hy])).mo;rw[e,YN,qV]at g2;rw[e,qV]at w3;have gc:=qUm g;have aa:Rel ms lo hi (U++vm g):=#[J.wf,J.mo,J.l0,J.lh,J.nt,λm F=>(YO.mp F).elim (λq=>w1 m<|hU m q)<|(vn g).1 m,λm F=>(YO.mp F).elim (λq=>w2 m<|hU m q)<|(vn g).2 m];show(h.rel aa (λm F=>(YO.mp F).elim (λq=>g1 m<|hU m q)<|qSx g m) (B:=10) (n:=11) ac (by rw[qV,qO8 g0];lia) (by rw[YN];have:=h.gt.ct;lia)).mono () () (YH C)
 . show((h.mono (M':=M+10) () (YI c)<|YH C).rel (B:=0) (n:=0) (lo:=hi) (hi:=hi) (ls:=[]) (J.cut0 ()<|YH hi) (λm F=>by cases F) () #[]<|YI 0).mono () () (YH C)
 . have m1:=qKp (λy hy=>(w1 y hy).mo) x hx
   show hO x t (g1 x hx).1 (g1 x hx).2 ?_ t0 t1 ();cases x with
   |clip n p q r s l=>show .inl rfl
   |nest n b l=>show .inr rfl
   |gap l=>show YC rfl ng
   |mix l=>show YC rfl<|w2 _ hx
noncomputable def trI(ts:LL)(k:Int):LI:=(ts[k.toNat]?).getD []
def qOb{F:LL}{j:Nat}(h:F[j]?=some ms):trI F (j:Int)=ms:=by delta trI;rw[YQ,h];rfl
noncomputable def kX(ns:LN)(f:Int->List De):List (Nat×De):=ns.flatMap λk=>(f k).map λd=>(k.toNat,d)
def wA(ts:LL)(lo hi:Int)(k:Int):List De:=qNw lo (ji lo hi 0<|trI ts k)++xl (trI ts k) [lo,hi]
def qLa(ts:LL)(t:Int)(k:Int):List De:=xl (trI ts k) [t]
def AllG.of_get{F:LL}(hl:F.length=L)(hc:cu.length=L)(h:∀(j:Nat) (ms:LI),F[j]?=some ms->∃x,cu[j]?=some x/\G x):AllG G L cu:=#[hc,λx hx=>by let#[j,J]:=List.getElem?_of_mem hx;have jl:=(glt J);let#[y,hy,g]:=h j (F[j]'())<|YD ();rw[J]at hy;cases hy;show g]
def AllG.mono{G':LI->Prop}{F:LL}(h:AllG G L F)(J:∀x,G x->G' x):AllG G' L F:=#[h.1,λx hx=>J x<|h.2 x hx]
structure Chd(A:Rg)(M:Int)(c:Nat)(C:Int)(L:Nat)(ts:LL)(ns:LN)(lo hi:Int):Prop where
 all:AllG (GB A M c C) L ts
 ix:∀k∈ns,∃j:Nat,k=(j:Int)/\j<L
 nd:ns.Nodup
 tb:∀k∈ns,jG (ts.getD k.toNat []) lo hi=false
 l0:0<=lo
 lh:lo<=hi
 lM:lo<=M+4
 lw:hi<=lo+10
def Chd.get{F:LL}{hi:Int}(h:Chd A M c C L F ns lo hi){k:Int}(J:k∈ns):∃(j:Nat) (ms:LI),k=(j:Int)/\F[j]?=some ms/\GB A M c C ms/\Rel ms lo hi []:=by let#[j,rfl,hj]:=h.ix k J;have e:F[j]?=some (F[j]'(by rw[h.all.1];show hj)):=YD _;have g:=h.all.2 _<|YF e;have t:=h.tb _ J;rw[kY e]at t;show#[j,_,O,e,g,g.rel0 h.l0 h.lh t]
def Chd.pos{F:LL}{hi:Int}(h:Chd A M c C L F ns lo hi):∀k∈ns,0<=k:=λk J=>by let#[j,rfl,_]:=h.ix k J;lia
def OkB(A:Rg)(C B:Int):De->Prop
 |.hel t=>0<=t
 |.mix t l=>0<=t/\1<=l
 |.unm t=>0<=t
 |.rol w t b=>Wd3 w/\0<=t/\b.natAbs<=1000000
 |.chg d=>0<=d.t/\d.t<=B/\d.hi<=B/\(∀m,d.lay=some m->GI A m/\(m.wd="clip"->m.mo<=C)/\(m.wd="clip"\/m.wd="nest")/\m.mo<=10)/\(match d with
  |.opn _ l=>1<=l
  |.cls t u=>t<u
  |.lft t u=>t<u
  |.hel _=>False
  |_=>True)
theorem Chd.again{A:Rg}{M:Int}{c:Nat}{C:Int}{L:Nat}{F:LL}{ns:LN}{lo hi:Int}(h:Chd A M c C L F ns lo hi)(aa:lo<hi){tie:LN}{cu:LL}(hc:AllG (GB A (M+14) (c+14) C) L cu)(hg:∀(j:Nat) (ms:LI),F[j]?=some ms->cu[j]?=some (if (j:Int)∈ns then jx ms lo hi [.gap<|hi-lo]else ms)):
 Gone (rlE A) tie (AllG (GB A (M+14) (c+14) C) L) (OkB A C<|M+30) cu (kX ns<|wA F lo hi) F:=by
 have l0:=h.l0;have lh:=h.lh;have lM:=h.lM;have lw:=h.lw;show qE2 (h.all.mono λx hx=>hx.mono () ()<|YH C) _ ns cu hc (λk hk=>?_) h.nd λj hj=>?_
 . let#[j,ms,rfl,e,g,r]:=h.get hk
   have:=hg j ms e;rw[YB hk]at this;show#[j,ms,_,O,e,this,?_];delta wA;rw[qOb e,qVh r];show g.again r aa lw lM (λx t gx cx kx t0 t1 J=>#[by change 0<=t;lia,by change t<=M+30;lia,by change t+x.mo<=M+30;lia,λm hm=>by cases hm;show#[gx,cx,kx,J],trivial]) (λt t0 t1=>by change 0<=t;lia)
 . cases e:F[j]? with
   |none=>
    have h1:=ZR.mp e;show ZR.mpr (by rw[hc.1,<-h.all.1];show h1)
   |some ms=>
    have:=hg j ms e;rw[YA hj]at this;show this
def Chd.room{F:LL}{t:Int}(h:Chd A M c C L F ns t t)(hc:AllG (GB A (M+14) (c+14) C) L cu)(J:∀(j:Nat) (ms:LI),F[j]?=some ms->cu[j]?=some (if (j:Int)∈ns then jx ms t t []else ms)):
 Gone (rlE A) tie (AllG (GB A (M+14) (c+14) C) L) (OkB A C<|M+30) cu (kX ns<|qLa F t) F:=by
 show qE2 (h.all.mono λx hx=>hx.mono () ()<|YH C) _ ns cu hc (λk hk=>?_) h.nd λj hj=>?_
 . let#[j,ms,rfl,e,g,r]:=h.get hk
   have:=J j ms e;rw[YB hk]at this;show#[j,ms,_,O,e,this,?_];delta qLa;rw[qOb e];show qPk r g.gt.os ?_ h.l0;show(g.rel (B:=0) (n:=0) r (λm hm=>by cases hm) h.lM #[]<|YI 0).mono () () (YH C)
 . cases e:F[j]? with
   |none=>
    have h1:=ZR.mp e;show ZR.mpr (by rw[hc.1,<-h.all.1];show h1)
   |some ms=>
    have:=J j ms e;rw[YA hj]at this;show this
def Chd.chg{ts:LL}{d:Dk}(h:Chd A M c C L ts ns d.t d.hi)(n:Int)(hl:∀k,∀m∈je d n k,GI A m/\m.wd≠"mix"/\(m.wd="clip"->m.mo<=C))(aa:∀k,qY (je d n k)<=10/\(je d n k).length<=1):AllG (GB A (M+14) (c+14) C) L (vC ts d n ns)/\(∀(j:Nat) (ms:LI),ts[j]?=some ms->(j:Int)∈ns->Rel ms d.t d.hi (je d n j)):=by
 have rl:∀(j:Nat) (ms:LI),ts[j]?=some ms->(j:Int)∈ns->Rel ms d.t d.hi (je d n j)/\GB A M c C ms:=λj ms e F=>by
  let#[j',ms',e1,e2,g,r]:=h.get F;obtain rfl:j=j':=()
  rw[e]at e2;cases e2;show#[#[r.wf,r.mo,r.l0,r.lh,r.nt,λm J=>(hl j m J).1.wf,λm J=>(hl j m J).2.1],g]
 show#[AllG.of_get h.all.1 (by rw[qC0];show h.all.1) λj ms e=>#[_,qI9 h.pos e,?_],λj ms e F=>(rl j ms e F).1];by_cases F:(j:Int)∈ns
 . rw[YB F]
   let#[r,g]:=rl j ms e F;show(g.rel r (λm J=>#[(hl j m J).1,(hl j m J).2.2]) h.lM (aa j).1 (aa j).2).mono () () (YH C)
 . rw[YA F]
   show(h.all.2 ms<|YF e).mono () () (YH C)
def qM2{hi:Int}{X:LI}(h:Rel ms lo hi X)(J:∀m∈ls,Wf m)(F:∀m∈ls,m.wd≠"mix"):jx (jx ms lo hi X) lo (lo+qY X) ls=jx ms lo hi ls:=by
 have e:X=[]++(X++[]):=#[]
 have h2:=h;rw[e]at h2;have:=qR5 (ls:=ls) h2 J F;rw[<-e,qj,Yc]at this;rw[this];simp
def Chd.two{ts:LL}{d1 d2:Dk}{F:LI->LI}(h:Chd A M c C L ts ns d1.t d1.hi)(hn:(n:Int)∈ns)(aa:chF tie (n:Int) d2.push=ns)(hw:∀ms,wiB ms d2=true)
 (hl:∀k,∀m∈je d1 (n:Int) k,GI A m/\m.wd≠"mix"/\(m.wd="clip"->m.mo<=C)) (ac:∀k,qY (je d1 (n:Int) k)<=10/\(je d1 (n:Int) k).length<=1) (ht:d2.t=d1.t) (h2:d2.t<=d2.hi/\∀k,d2.hi<=d1.t+qY (je d1 (n:Int) k))
 (hF:∀(j:Nat) (ms:LI),(j:Int)∈ns->GB A M c C ms->Rel ms d1.t d1.hi (je d1 (n:Int) j)->jx (jx ms d1.t d1.hi<|je d1 (n:Int) j) d2.t d2.hi (je d2 (n:Int) j)=F ms/\GB A (M+14) (c+14) C (F ms)):
 ∃ms',(vC ts d1 (n:Int) ns)[n]?=some ms'/\AllG (GB A (M+14) (c+14) C) L (vC ts d1 (n:Int) ns)/\zI (rlE A) (vC ts d1 (n:Int) ns) tie n ms' (.chg d2)=.good (vC (vC ts d1 (n:Int) ns) d2 (n:Int) ns)/\AllG (GB A (M+14) (c+14) C) L (vC (vC ts d1 (n:Int) ns) d2 (n:Int) ns)/\∀(j:Nat) (ms:LI),ts[j]?=some ms->(vC (vC ts d1 (n:Int) ns) d2 (n:Int) ns)[j]?=some (if (j:Int)∈ns then F ms else ms):=by
 let#[a1,a2]:=h.chg (n:Int) hl ac;let#[n',ms,e,en,g,r]:=h.get hn;obtain rfl:n=n':=()
 have g1:=λ{j:Nat} {ms:LI} (e:ts[j]?=some ms)=>qI9 (d:=d1) (n:=(n:Int)) h.pos e;have g2:∀(j:Nat) (ms:LI),ts[j]?=some ms->(vC (vC ts d1 (n:Int) ns) d2 (n:Int) ns)[j]?=some (if (j:Int)∈ns then F ms else ms):=λj ms e=>by
  rw[qI9 (d:=d2) (n:=(n:Int)) h.pos<|g1 e];by_cases J:(j:Int)∈ns
  . rw[YB J,YB J,YB J,(hF j ms J (h.all.2 ms<|YF e)<|a2 j ms e J).1]
  . rw[YA J,YA J,YA J]
 have tf:¬jO (vC ts d1 (n:Int) ns) (chF tie (n:Int) d2.push) d2.t d2.hi=true:=by rw[aa];delta jO;rw[List.any_eq_true];rintro⟨k,hk,q⟩;let#[j,ad,rfl,ej,_,_]:=h.get hk;have:=g1 ej;rw[YB hk]at this;rw[kY this,((a2 j ad ej hk).touch () h2.1<|h2.2 j)]at q;cases q
 show#[_,g1 en,a1,?_,?_,g2]
 . rw[zI,YB<|hw _,YA tf,aa]
 . show AllG.of_get h.all.1 (by rw[qC0,qC0];show h.all.1) λj ms e=>#[_,g2 j ms e,?_]
   have gm:=h.all.2 ms<|YF e;by_cases J:(j:Int)∈ns
   . rw[YB J]
     show(hF j ms J gm<|a2 j ms e J).2
   . rw[YA J]
     show gm.mono () ()<|YH C
def qGr(ts:LL)(tie:LN)(n:Nat)(l:Int):De->List (Nat×De)
 |.hel t=>[(n,.chg<|.cut t)]
 |.mix t _=>[(n,.unm t)]
 |.unm t=>[(n,.mix t l)]
 |.rol w t b=>[(n,.rol w (if w="slip" then t else t+b) (-b))]
 |.chg (.cut t)=>[(n,.hel t)]
 |.chg (.hel _)=>[]
 |.chg (.opn t l)=>(n,.chg (.cls t<|t+l))::kX (chF tie (n:Int) true) (qLa ts t)
 |.chg (.lin t m)=>(n,.chg (.cls t<|t+m.mo))::kX (chF tie (n:Int) true) (qLa ts t)
 |.chg (.cls t u)=>(n,.chg (.opn t<|u-t))::kX (chF tie (n:Int) true) (wA ts t u)
 |.chg (.lft t u)=>kX (chF tie (n:Int) false) (wA ts t u)
 |.chg (.lov t m)=>(n,.chg (.lft t<|t+m.mo))::kX (chF tie (n:Int) false) (wA ts t<|t+m.mo)
def vv(d:Dk){l:Int}(e:d.laid=[.gap l])(n k:Int):je d n k=[.gap l]:=by delta je;rw[e];split <;> rfl
def zp(d:Dk)(e:d.laid=[])(n k:Int):je d n k=[]:=by delta je;rw[e];split <;> rfl
def qBs{d:Dk}(e:d.laid=[m])(n k:Int):je d n k=[m]\/je d n k=[.gap m.mo]:=by
 delta je;rw[e];split
 . show .inl rfl
 . show .inr rfl
def qB0{l:Int}(J:1<=l):∀m∈[Im.gap l],GI A m/\m.wd≠"mix"/\(m.wd="clip"->m.mo<=C):=λm F=>by rw[YY]at F;subst F;show#[J,by change ("gap":Str)≠"mix";decide+kernel,λe=>YC (show ("gap":Str)="clip" from e) ⋯]
def qFl(m:Im):qY [m]=m.mo:=by rw[qI,qj,Yc]
def qKw{ts:LL}{d:Dk}(h:Chd A M c C L ts (chF tie (n:Int) true) d.t d.hi)(hn:(n:Int)∈chF tie (n:Int) true)(hh:d.hi=d.t)(J:d.laid=[m])(hg:GI A m/\m.wd≠"mix"/\(m.wd="clip"->m.mo<=C))(m1:1<=m.mo)(aa:m.mo<=10):
 Gone (rlE A) tie (AllG (GB A (M+14) (c+14) C) L) (OkB A C<|M+30) (vC ts d (n:Int)<|chF tie (n:Int) true) ((n,.chg (.cls d.t<|d.t+m.mo))::kX (chF tie (n:Int) true) (qLa ts d.t)) ts:=by
 have ll:∀k,qY (je d (n:Int) k)=m.mo/\(je d (n:Int) k).length=1:=λk=>by
  rcases qBs J (n:Int) k with e|e <;> rw[e,qFl]
  . show#[O,O]
  . show#[O,O]
 have gl:∀k,∀x∈je d (n:Int) k,GI A x/\x.wd≠"mix"/\(x.wd="clip"->x.mo<=C):=λk x hx=>by
  rcases qBs J (n:Int) k with e|e <;> rw[e]at hx
  . rw[YY]at hx;subst hx;show hg
  . show qB0 m1 x hx
 let#[ms',a1,a2,a3,a4,a5]:=h.two (d2:=.cls d.t<|d.t+m.mo) (F:=λms=>jx ms d.t d.t []) hn rfl (λ_=>rfl) gl (λk=>by rw[(ll k).1,(ll k).2];show#[aa,YI 1]) rfl #[by change d.t<=d.t+m.mo;lia,λk=>by rw[(ll k).1];show YH _] λj ms hj g r=>by rw[hh]at r⊢;rw[zp (.cls d.t<|d.t+m.mo) rfl];have:=qM2 (ls:=[]) r (λ_ J=>by cases J) (λ_ J=>by cases J);rw[(ll j).1]at this;show#[this,?_];show(g.rel (B:=0) (n:=0) (r.cut0 (YH _)<|YH _) (λm J=>by cases J) h.lM #[]<|YI 0).mono () () (YH C)
 have lM:=h.lM;show .cons a2 #[h.l0,by change d.t<=M+30;lia,by change d.t+m.mo<=M+30;lia,(λm J=>by cases J),by change d.t<d.t+m.mo;lia] a1 a3 ?_;rw[hh]at h;show h.room a4 a5
def qP7{ts:LL}{t u:Int}(h:Chd A M c C L ts (chF tie (n:Int) true) t u)(hn:(n:Int)∈chF tie (n:Int) true)(aa:t<u):
 Gone (rlE A) tie (AllG (GB A (M+14) (c+14) C) L) (OkB A C<|M+30) (vC ts (.cls t u) (n:Int)<|chF tie (n:Int) true) ((n,.chg (.opn t<|u-t))::kX (chF tie (n:Int) true) (wA ts t u)) ts:=by
 have lw:=h.lw;let#[ms',a1,a2,a3,a4,a5]:=Chd.two (d1:=.cls t u) (d2:=.opn t<|u-t) (F:=λms=>jx ms t u [.gap<|u-t]) h hn rfl (λ_=>rfl) (λk x hx=>by rw[zp _ rfl]at hx;cases hx) (λk=>by rw[zp _ rfl];show#[#[],#[]]) rfl #[YH _,λk=>by rw[zp _ rfl,qj];change t<=t+0;lia] λj ms hj g r=>by rw[zp (.cls t u) rfl]at r⊢;rw[vv (.opn t<|u-t) rfl];have w1:∀m∈[Im.gap<|u-t],GI A m/\m.wd≠"mix"/\(m.wd="clip"->m.mo<=C):=qB0 ();have:=qM2 (ls:=[.gap<|u-t]) r (λm J=>(w1 m J).1.wf) (λm J=>(w1 m J).2.1);rw[qj,Yc]at this;show#[this,?_];show(g.rel (B:=10) (n:=1) (ls:=[.gap<|u-t]) #[r.wf,r.mo,r.l0,r.lh,r.nt,λm J=>(w1 m J).1.wf,λm J=>(w1 m J).2.1] (λm J=>#[(w1 m J).1,(w1 m J).2.2]) h.lM (by rw[qFl];change u-t<=10;lia)<|YI 1).mono () () (YH C)
 have lM:=h.lM;show .cons a2 #[h.l0,by change t<=M+30;lia,by change t<=M+30;lia,(λm J=>by cases J),by change 1<=u-t;lia] a1 a3<|h.again aa a4 a5
def qRz{ts:LL}{t:Int}(h:Chd A M c C L ts (chF tie (n:Int) false) t<|t+m.mo)(hn:(n:Int)∈chF tie (n:Int) false)(hg:GI A m/\m.wd≠"mix"/\(m.wd="clip"->m.mo<=C))(m1:1<=m.mo):
 Gone (rlE A) tie (AllG (GB A (M+14) (c+14) C) L) (OkB A C<|M+30) (vC ts (.lov t m) (n:Int)<|chF tie (n:Int) false) ((n,.chg (.lft t<|t+m.mo))::kX (chF tie (n:Int) false) (wA ts t<|t+m.mo)) ts:=by
 have lw:=h.lw;have ll:∀k,qY (je (.lov t m) (n:Int) k)=m.mo/\(je (.lov t m) (n:Int) k).length=1:=λk=>by
  rcases qBs (d:=.lov t m) rfl (n:Int) k with e|e <;> rw[e,qFl]
  . show#[O,O]
  . show#[O,O]
 have gl:∀k,∀x∈je (.lov t m) (n:Int) k,GI A x/\x.wd≠"mix"/\(x.wd="clip"->x.mo<=C):=λk x hx=>by
  rcases qBs (d:=.lov t m) rfl (n:Int) k with e|e <;> rw[e]at hx
  . rw[YY]at hx;subst hx;show hg
  . show qB0 m1 x hx
 let#[ms',a1,a2,a3,a4,a5]:=Chd.two (d1:=.lov t m) (d2:=.lft t<|t+m.mo) (F:=λms=>jx ms t (t+m.mo) [.gap<|t+m.mo-t]) h hn rfl (λ_=>rfl) gl (λk=>by rw[(ll k).1,(ll k).2];show#[(),YI 1]) rfl #[by change t<=t+m.mo;lia,λk=>by rw[(ll k).1];show YH _] λj ms hj g r=>by rw[vv (.lft t<|t+m.mo) rfl];have w1:∀x∈[Im.gap<|t+m.mo-t],GI A x/\x.wd≠"mix"/\(x.wd="clip"->x.mo<=C):=qB0 ();have:=qM2 (ls:=[.gap<|t+m.mo-t]) r (λm J=>(w1 m J).1.wf) (λm J=>(w1 m J).2.1);rw[(ll j).1]at this;show#[this,?_];show(g.rel (B:=10) (n:=1) (ls:=[.gap<|t+m.mo-t]) #[r.wf,r.mo,r.l0,r.lh,r.nt,λm J=>(w1 m J).1.wf,λm J=>(w1 m J).2.1] (λm J=>#[(w1 m J).1,(w1 m J).2.2]) h.lM (by rw[qFl];change t+m.mo-t<=10;lia)<|YI 1).mono () () (YH C)
 have lM:=h.lM;show .cons a2 #[h.l0,by change t<=M+30;lia,by change t+m.mo<=M+30;lia,(λm J=>by cases J),by change t<t+m.mo;lia] a1 a3<|h.again () a4 a5
def qRm{F:LL}{t u:Int}(h:Chd A M c C L F (chF tie (n:Int) false) t u)(J:t<u):
 Gone (rlE A) tie (AllG (GB A (M+14) (c+14) C) L) (OkB A C<|M+30) (vC F (.lft t u) (n:Int)<|chF tie (n:Int) false) (kX (chF tie (n:Int) false)<|wA F t u) F:=by
 have lw:=h.lw;let#[a1,_]:=Chd.chg (d:=.lft t u) h (n:Int) (λk x hx=>by rw[vv (.lft t u) rfl]at hx;show qB0 () x hx) (λk=>by rw[vv (.lft t u) rfl,qFl];show#[by change u-t<=10;lia,YI 1]);show h.again J a1 λj ms e=>?_;rw[qI9 h.pos e,vv (.lft t u) rfl];rfl
def qTb{t:Int}(h:GW A M c ms)(h0:0<=t)(hh:kZ ms t=some ms')(ht:jG ms t t=false):∃(U:LI) (x y:Im) (B:LI),ms=U++x::y::B/\ms'=U++glue x y::B/\qG7 x y=true/\t=qY U+x.mo:=by
 cases hn:nbF ms t with
 |none=>delta kZ at hh;rw[hn]at hh;cases hh
 |some x=>
 let#[i,j]:=x;rcases qKh hn with ⟨U,x,y,B,e,rfl,rfl,J,_⟩|⟨U,l,y,B,e,_,_,J,_⟩
 . subst e
   rw[qJ4 hn]at hh;by_cases F:qG7 x y=true
   . rw[YB F]at hh
     cases hh;show#[U,x,y,B,O,O,F,J]
   . rw[YA F]at hh;cases hh
 . exfalso
   have hR:=h.rel0 h0 (YH t) ht;have hs:(0+qY U-l.fdiv 2,0+qY U,0+qY U+(l-l.fdiv 2))∈qm 0 ms:=by rw[e,jm];show Yf _ ?_;rw[qm];simp
   have:=hR.far _ hs;dsimp only at this;lia
def qRo{t:Int}(h:GB A M c C ms)(h0:0<=t)(hh:kZ ms t=some ms')(ht:jG ms t t=false):GB A M c (2*C) ms'/\qz ms' t=true/\jG ms' t t=false/\jx ms' t t []=ms:=by
 let#[U,x,y,B,rfl,rfl,F,rfl]:=qTb h.gt h0 hh ht;have J:=h.gt.glued F;have hx:=h.gt.wf x #[];have hy:=h.gt.wf y #[];let#[e1,e2,e3,e4,e5,e6]:=qQr hx hy F;have hW:Wi (U++glue x y::B) (qY U+x.mo) U (glue x y) B x.mo:=#[rfl,rfl,e5,e6,e4];have ec:wc U (glue x y) B x.mo=U++x::y::B:=by delta wc;rw[<-e1,<-e2]
 have nn:Nn (U++glue x y::B):=J.nn;have t2:jG (U++glue x y::B) (qY U+x.mo) (qY U+x.mo)=false:=by unfold jG at ht⊢;rw[<-ec,qHe hW.nm.1]at ht;show ht
 have hR:=J.rel0 h0 (YH _) t2;show#[#[J,λm hm e=>?_],(xy nn).mpr #[_,_,_,_,hW],t2,(qIr hR hW J.os).trans ec];have pos:∀z∈U++x::y::B,z.wd="clip"->0<=C:=λz hz ez=>by have:=(h.gt.wf z hz).mo;have:=h.cl z hz ez;lia
 rcases YO.mp hm with hm|hm
 . have:=h.cl m (by simp[hm]) e
   have:=pos m (by simp[hm]) e;lia
 . rcases YU.mp hm with rfl|hm
   . let#[m1,m2]:=qIm F
     rw[m2]at e;have a1:=h.cl x #[] e;have a2:=h.cl y #[]<|(qR8 F).1.symm.trans e;rw[m1];lia
   . have:=h.cl m (by simp[hm]) e
     have:=pos m (by simp[hm]) e;lia
def GB.set1(h:∀m∈ms,m.wd="clip"->m.mo<=C)(hm:ms[i]?=some m)(F:m'.wd="clip"->m'.mo<=C):∀x∈ms.set i m',x.wd="clip"->x.mo<=C:=λx J e=>(List.mem_or_eq_of_mem_set J).elim (λq=>h x q e) (λq=>by subst q;show F e)
def qT0{C':Int}{J:LL}(hT:AllG (GB A M c C) L J)(hF:∀ms∈J,FS (RmR<|rlE A) 0 none ms)(al:∀x∈tie,∃k:Nat,x=(k:Int)/\k<L)(nd:tie.Nodup)(hm:J[n]?=some ms){d:De}(hd:DeN A M d)(hC:10<=C)(aq:C'=2*C)(F:zI (rlE A) J tie n ms d=.good ts'):
 ∃l,(∀t,d=.unm t->∃i:Nat,cbF ms t=some ((i:Int),((i+2:Nat):Int))/\ms[i+1]?=some (.mix l))/\Gone (rlE A) tie (AllG (GB A (M+14) (c+14) C') L) (OkB A C'<|M+30) ts' (qGr J tie n l d) J:=by
 have hn:=(glt hm);have hg:=hT.2 ms<|YF hm;have up:∀{x:LI} {c1:Nat} {C1:Int},c1<=c+14->C1<=C'->GB A M c1 C1 x->GB A (M+14) (c+14) C' x:=λa b q=>q.mono () a b;have ae:∀{x:LI},GB A (M+14) (c+14) C' x->AllG (GB A (M+14) (c+14) C') L (J.set n x):=λq=>(hT.mono λy hy=>up () () hy).set n q;have gs:∀x:LI,(J.set n x)[n]?=some x:=λx=>ZA hn;have tA:∀{J:LL} {x:LI} {lo hi:Int},J[n]?=some x->jG x lo hi=false->¬jO J (chF tie (n:Int) false) lo hi=true:=λ{J x lo hi} e q=>by delta jO;rw[qG5,List.any_cons,List.any_nil,Bool.or_false,kY e,q];decide
 have tN:∀{lo hi:Int},¬jO J (chF tie (n:Int) false) lo hi=true->jG ms lo hi=false:=λ{lo hi} q=>by have:=qEn q (n:Int) (by rw[qG5];simp);rw[kY hm]at this;show this
 have aa:∀x:LI,(J.set n x).set n ms=J:=λx=>by rw[List.set_set,qJj hm]
 cases d with
 |hel t=>
  show#[0,(λt e=>by cases e),?_];rw[zI]at F;cases hh:kZ ms t with
  |none=>rw[hh]at F;cases F
  |some ms'=>
   rw[hh]at F;dsimp only at F;split at F
   . cases F
   . rename_i q
     cases F;let#[g1,g2,g3,g4]:=qRo hg hd.1 hh<|tN q;show .cons (ae<|up () () g1) #[hd.1,by change t<=M+30;have:=hd.2;lia,by change t<=M+30;have:=hd.2;lia,(λm hm=>by cases hm),trivial] (gs ms') ?_ .nil;rw[zI,YB (show wiB ms' (.cut t)=true from g2)];change (if jO (J.set n ms') (chF tie (n:Int) false) t t=true then Res.mixed else .good (vC (J.set n ms') (.cut t) (n:Int)<|chF tie (n:Int) false))=_;rw[YA<|tA (gs ms') g3,qG5];delta vC;rw[List.foldl_cons,List.foldl_nil,kY<|gs ms',YQ,zp (.cut t) rfl];change Res.good ((J.set n ms').set n<|jx ms' t t [])=_;rw[g4,aa]
 |mix t l=>
  show#[0,(λt e=>by cases e),?_];rw[zI]at F;cases hc:cbF ms t with
  |none=>rw[hc]at F;cases F
  |some x=>
   let#[i,j]:=x;rw[hc]at F;dsimp only at F;split at F
   . rename_i e
     cases hM:mmF (rlE A) ms t with
     |none=>rw[hM]at F;cases F
     |some M'=>
      rw[hM]at F;dsimp only at F;split at F
      . cases F
      . let#[k,rfl,_]:=qO3 hc
        rw[YQ]at F;have ac:cbF ms t=some ((k:Int),((k+1:Nat):Int)):=by rw[hc,e];rfl
        have g1:=hg.gt.mixd ac hd.2.2.1;let#[b1,b2]:=qUi (l:=l) hg.gt.wf ac;cases F;show .cons (ae ((#[g1,λm ai e'=>?_]:GB A M (c+1) C _) |> up () ())) hd.1 (gs _) ?_ .nil
        . rcases YO.mp ai with q|q
          . rcases YO.mp q with q|q
            . show hg.cl m (List.mem_of_mem_take q) e'
            . rw[YY]at q;subst q;show YC (show ("mix":Str)="clip" from e') ⋯
          . show hg.cl m (List.mem_of_mem_drop q) e'
        . rw[zI,b1]
          dsimp only;rw[YA (),YQ,b2,aa]
   . cases F
 |unm t=>
  rw[zI]at F;cases hc:cbF ms t with
  |none=>rw[hc]at F;cases F
  |some x=>
   let#[i,j]:=x;rw[hc]at F;dsimp only at F;split at F
   . cases F
   . rename_i e
     let#[k,rfl,e2]:=qO3 hc;rw[YQ]at F;have ac:cbF ms t=some ((k:Int),((k+2:Nat):Int)):=by rw[hc];congr 2;lia
     let#[l,M',a1,a2,a3,a4,a5,a6]:=qQe (#[hg.gt.it,#[hg.gt.os,hg.gt.mo,hF ms<|YF hm],hg.gt.le,hg.gt.ct]:GT A M c ms) ac;have g1:=hg.gt.unmixed ac;cases F;show#[l,(λt' e'=>by cases e';show#[k,ac,a1]),.cons (ae ((#[g1,λm ai e'=>?_]:GB A M c C _) |> up () ())) #[hd.1,a2] (gs _) ?_ .nil]
     . rcases YO.mp ai with q|q
       . show hg.cl m (List.mem_of_mem_take q) e'
       . show hg.cl m (List.mem_of_mem_drop q) e'
     . rw[zI,a3]
       dsimp only;rw[YB (),a4];dsimp only;rw[YA (),YQ,a6,aa]
 |rol w t b=>
  show#[0,(λt e=>by cases e),?_];let#[hw,t0,tM,hb]:=hd;rw[zI]at F;cases hp:plF w ms t with
  |none=>rw[hp]at F;cases F
  |some is=>
   rw[hp]at F;dsimp only at F;split at F
   . cases F
   . rename_i hx
     split at F
     . rename_i hc
       have hx:is.any (hmB ms)=false:= ~~~hx
       have g1:=hg.gt.rolled hw hp hx hc;have cl:∀m∈qCh ms w is b,m.wd="clip"->m.mo<=C+4:=by
        have h4:∀m∈ms,m.wd="clip"->m.mo<=C+4:=λm hm e=>by have:=hg.cl m hm e;lia
        rcases qZp (λn p q r s l hm=>let #[N,c]:=hg.gt.it _ hm;#[N,c.rn]) hw hp with ⟨rfl,i,n,p,q,r,s,l,N,rfl,hi,hN,hv⟩|⟨_,_,i,j,n,p,q,r,s,l,N,n',p',q',r',s',l',N',hlt,m1,m2,_,_,hi,hi',hN,hN',hv⟩
        . rw[(hv b).2]
          have:=hg.cl _ (YF hi) rfl;show GB.set1 h4 hi λ_=>by change l<=C+4;have:l<=C:=this;lia
        . rw[(hv b).2]
          delta qQs;have a1:l<=C:=hg.cl _ (YF hi) rfl;have a2:l'<=C:=hg.cl _ (YF hi') rfl;show GB.set1 (m:=.clip n' p' q' r' s' l') (GB.set1 h4 hi λ_=>by change l+b<=C+4;lia) ?_ λ_=>by change l'-b<=C+4;lia
          rw[List.getElem?_set,YA ()];show hi'
       cases F;have ak:∀{t2:Int},0<=t2->plF w (qCh ms w is b) t2=some is->is.any (hmB<|qCh ms w is b)=false->wn (-b)<=qJt (rlE A) (qCh ms w is b) w is (-b)->qCh (qCh ms w is b) w is (-b)=ms->Gone (rlE A) tie (AllG (GB A (M+14) (c+14) C') L) (OkB A C'<|M+30) (J.set n<|qCh ms w is b) [(n,.rol w t2 (-b))] J:=λ{t2} an f1 f2 f3 f4=>by show .cons (ae (up () (by lia:C+4<=C') #[g1,cl])) #[hw,an,()] (gs _) ?_ .nil;rw[zI,f1];dsimp only;rw[f2,YA #[],YB f3,f4,aa]
       change Gone _ _ _ _ _ [(n,.rol w (if w="slip" then t else t+b) (-b))] _;by_cases hs:w="slip"
       . subst hs
         rw[YB rfl];let#[f1,f2,f3,f4]:=qSo hg.gt hp hx hc ();show ak t0 f1 f2 f3 f4
       . rw[YA hs]
         let#[f1,f2,f3,f4,f5]:=qTc hg.gt (hw.elim .inl λq=>q.elim (λz=>YC z hs) .inr) hp hx hc ();show ak f5 f1 f2 f3 f4
     . cases F
 |chg d=>
  show#[0,(λt e=>by cases e),?_];rw[zI]at F;split at F
  . rename_i ap
    split at F
    . cases F
    . rename_i hq
      cases F;let#[a1,a2,a3,a4,a5,a6]:=DkN.lay hd;have ao:AllG (GB A M c C') L J:=hT.mono λx hx=>hx.mono (YH M) (YI c) ();have am:(chF tie (n:Int) d.push).Nodup:=by
       delta chF;split
       . show List.nodup_cons.mpr #[λz=>by have:=(List.mem_filter.mp z).2;simp at this,nd.filter _]
       . simp
      have aj:d.hi<=d.t+10:=by
       cases d with
       |hel t=>show(hd:False).elim
       |cut t=>change t<=t+10;lia
       |opn t l=>change t<=t+10;lia
       |lin t m=>change t<=t+10;lia
       |cls t u=>let#[_,_,_,z]:=hd;change u<=t+10;lia
       |lft t u=>let#[_,_,_,z]:=hd;change u<=t+10;lia
       |lov t m=>have:=(hd.2.2.mo).2.2;change t+m.mo<=t+10;lia
      have ad:Chd A M c C' L J (chF tie (n:Int) d.push) d.t d.hi:=#[ao,qV0 (by rw[<-hT.1];show hn) al _,am,qEn hq,a1,a2,a3,aj];have af:(n:Int)∈chF tie (n:Int) d.push:=by delta chF;split <;> simp
      have ah:∀m∈d.laid,GI A m/\m.wd≠"mix"/\(m.wd="clip"->m.mo<=C'):=λm hm=>by let#[b1,b2,b3]:=a4 m hm;have:m.mo<=qY d.laid:=qKp (λx hx=>by have:=(a4 x hx).2.2;lia) m hm;show#[b1,b2,λ_=>()]
      cases d with
      |hel t=>show(hd:False).elim
      |cut t=>
       have hs:qz ms t=true:=ap;have hR:Rel ms t t []:=hg.rel0 a1 (YH t)<|tN hq;have g1:GB A (M+14) (c+14) C' (jx ms t t []):=(hg.rel (B:=0) (n:=0) hR (λm hm=>by cases hm) a3 #[]<|YI 0).mono () () ();have e:vC J (.cut t) (n:Int) (chF tie (n:Int) (Dk.cut t).push)=J.set n (jx ms t t []):=by change vC J (.cut t) (n:Int) (chF tie (n:Int) false)=_;rw[qG5];delta vC;rw[List.foldl_cons,List.foldl_nil,kY hm,YQ,zp (.cut t) rfl];rfl
       rw[e];have ag:=qPk (G:=GB A (M+14) (c+14) C') (O9:=OkB A C'<|M+30) hR hg.gt.os g1 a1;have he:xl ms [t]=[.hel t]:=by delta xl;rw[List.filter_cons_of_pos hs];rfl
       rw[he]at ag;have:=ag.lift (rl:=rlE A) (tie:=tie) (k:=n) _ (ae g1)<|gs _;rw[aa]at this;show this
      |opn t l=>show qKw (d:=.opn t l) ad af rfl rfl (ah _ (by simp[Dk.laid])) hd.2.2.1 (by change l<=10;have:=hd.2.2.2;lia)
      |lin t m=>show qKw (d:=.lin t m) ad af rfl rfl (ah _ (by simp[Dk.laid])) (hd.2.2.mo).2.1 (hd.2.2.mo).2.2
      |cls t u=>show qP7 ad af hd.2.2.1
      |lft t u=>show qRm ad hd.2.2.1
      |lov t m=>show qRz ad af (ah _ (by simp[Dk.laid])) (hd.2.2.mo).2.1
  . cases F
def GI.lay(h:GI A m)(hk:m.wd="clip"\/m.wd="nest")(hl:m.mo<=100000){J:Addr}(hr:RE H J A):LayOk H J m:=by
 cases m with
 |gap l=>rcases hk with e|e <;> show YC (show ("gap":Str)=_ from e) ⋯
 |mix l=>rcases hk with e|e <;> show YC (show ("mix":Str)=_ from e) ⋯
 |nest n b l=>
  show h
 |clip n p q r s l=>
  have hb:=h.ib;let#[N,c]:=h;have rc:=c.rc hl;have F:=jA5 c.rn;show#[N,hr.at _ _ c.rn,#[F.1,F.2,hb,c.g1,c.g2,c.l1,rc.bl],c.i0,c.i1]
def LayG.ok(h:LayG A m){F:Addr}(J:RE H F A):LayOk H F m:=by
 show h.gi.lay ?_ (by have:=h.mo;lia) J;rcases h with ⟨n,b,l,rfl,_⟩|⟨n,p,q,r,s,l,N,rfl,_⟩
 . show .inr rfl
 . show .inl rfl
theorem GB.ih{A:Rg}{M:Int}{c:Nat}{C:Int}{ms:LI}(h:GB A M c C ms)(hC:C<=100000):∀m∈ms,ImH m/\ItR (rlE A) m:=λm F=>by
 by_cases J:m.wd="clip"
 . have:=h.cl m F J
   show#[(h.gt.it m F).ih (),(h.gt.it m F).it ()]
 . cases m with
   |clip n p q r s l=>show YC rfl J
   |_=>show#[trivial,λ_ _ _ _ _ _ e=>by cases e]
def qZt{B:Int}{d:De}(h:OkB A C B d)(hg:GB A M c C ms)(hC:C<=100000)(F:B<=2 ^ 400){re:Addr}(hr:RE H re A):DeOk H re ms d:=by
 cases d with
 |hel t=>show#[h,λm hm=>(hg.ih hC m hm).1,λi j hn=>qV4 hg.gt.mo hn]
 |mix t l=>show h
 |unm t=>show h
 |rol w t b=>show#[h.2.1,h.2.2]
 |chg d=>
  ext;let#[h1,h2,h3,h4,h5]:=h;symm;have J:∀m,d.lay=some m->LayOk H re m/\0<=m.mo/\m.mo<=2 ^ 400:=λm e=>by
   let#[a1,a2,a3,a4]:=h4 m e;have aa:(10:Int)<=2 ^ 400:=#[]
   show#[a1.lay a3 () hr,a1.wf.mo,Int.le_trans a4 aa]
  cases d with
  |hel t=>show h5.elim
  |cut t=>
   cases hw:qz ms t with
   |false=>show .inl #[t,rfl,h1,hw]
   |true=>show .inr #[h1,Int.le_trans h2 F,hw]
  |opn t l=>show .inr #[h1,Int.le_trans h2 F,h5]
  |cls t u=>show .inr #[h1,h5,Int.le_trans h3 F]
  |lft t u=>show .inr #[h1,h5,Int.le_trans h3 F]
  |lin t m=>show .inr #[h1,Int.le_trans h2 F,(J m rfl).1]
  |lov t m=>let#[a1,a2,a3]:=J m rfl;show .inr #[h1,Int.le_trans h2 F,a1,a2,a3]
def qTj{J:LL}(h:AllG (GB A M c C) L J)(hC:C<=100000)(hc:c<=100)(hL:L<=3)(tl:tie.length<=3)(aa:∀x∈tie,∃k:Nat,x=(k:Int)/\k<L){re:Addr}(ht:TabF H (.ref tz) J tie)(hr:RE H re A):TabD H tz re (rlE A) J tie:=by show#[ht,λms hm=>?_,by have:=h.1;lia,(),λx hx=>by rw[h.1];show aa x hx,hr.at];have q:=h.2 ms hm;have a2:=q.gt.ct;show#[#[λm F=>#[(q.gt.it m F).ib,(q.gt.wf m F).mo],()],(),λm F=>(q.ih hC m F).2]
def qO7{d:De}(h:DeN A M d)(hg:GB A M c C ms)(hC:C<=100000)(hM:M<=10 ^ 30){J:Addr}(hr:RE H J A):DeOk H J ms d:=by
 have e:(10 ^ 30+100:Int)<=2 ^ 400:=#[]
 cases d with
 |hel t=>show#[h.1,λm hm=>(hg.ih hC m hm).1,λi j hn=>qV4 hg.gt.mo hn]
 |mix t l=>show#[h.1,h.2.2.1]
 |unm t=>show h.1
 |rol w t b=>show#[h.2.1,by have:=h.2.2.2;lia]
 |chg d=>
  cases d with
  |hel t=>show h.elim
  |cut t=>
   let#[h1,h2]:=h;cases hw:qz ms t with
   |false=>show .inl #[t,rfl,h1,hw]
   |true=>show .inr #[h1,by generalize (2:Int) ^ 400=B at e⊢;lia,hw]
  |opn t l=>let#[h1,h2,F,h4]:=h;show .inr #[h1,by generalize (2:Int) ^ 400=B at e⊢;lia,F]
  |cls t u=>let#[h1,h2,F,h4]:=h;show .inr #[h1,F,by generalize (2:Int) ^ 400=B at e⊢;lia]
  |lft t u=>let#[h1,h2,F,h4]:=h;show .inr #[h1,F,by generalize (2:Int) ^ 400=B at e⊢;lia]
  |lin t m=>let#[h1,h2,F]:=h;show .inr #[h1,by generalize (2:Int) ^ 400=B at e⊢;lia,F.ok hr]
  |lov t m=>let#[h1,h2,F]:=h;let#[_,q3,q4]:=F.mo;have q1:=F.ok hr;show .inr #[h1,by generalize (2:Int) ^ 400=B at e⊢;lia,q1,(),by generalize (2:Int) ^ 400=B at e⊢;lia]
theorem DeAt.ts{H H':Hp}{dz:Addr}{n:Nat}{d:De}(e:TS H H')(h:DeAt H dz n d):DeAt H' dz n d:=by
 cases d with
 |rol w t b=>show#[h.1,e _ _ h.2]
 |chg d=>
  show#[?_,h.2];have h:=h.1;cases d with
  |lin t m=>let#[v,h1,h2]:=h;show#[v,e _ _ h1,h2.ts e]
  |lov t m=>let#[v,h1,h2]:=h;show#[v,e _ _ h1,h2.ts e]
  |_=>show e _ _ h
 |_=>show e _ _ h
def IsRw(H:Hp):List (Nat×De)->LV->Prop
 |[],[]=>True
 |d::ds,v::vs=>(∃z:Addr,v=.ref z/\DeAt H z d.1 d.2)/\IsRw H ds vs
 |_,_=>False
theorem IsRw.len{H:Hp}:∀{ds:List<|Nat×De} {vs:LV},IsRw H ds vs->vs.length=ds.length
 |[],[],_=>rfl
 |_::_,_::_,h=>by rw[YE,YE,IsRw.len h.2]
 |[],_::_,h=>h.elim
 |_::_,[],h=>h.elim
theorem IsRw.ts{H H':Hp}(e:TS H H'):∀{ds:List<|Nat×De} {vs:LV},IsRw H ds vs->IsRw H' ds vs
 |[],[],_=>trivial
 |_::_,_::_,h=>#[let #[z,a,b]:=h.1;#[z,a,b.ts e],h.2.ts e]
 |[],_::_,h=>h.elim
 |_::_,[],h=>h.elim
theorem IsRw.app{H:Hp}:∀{ds:List<|Nat×De} {vs:LV} {F:List<|Nat×De} {J:LV},IsRw H ds vs->IsRw H F J->IsRw H (ds++F) (vs++J)
 |[],[],_,_,_,h=>h
 |_::_,_::_,_,_,h,h'=>#[h.1,h.2.app h']
 |[],_::_,_,_,h,_=>h.elim
 |_::_,[],_,_,h,_=>h.elim
def IsRw.one{d:De}(h:DeAt H z n d):IsRw H [(n,d)] [.ref z]:=#[#[z,rfl,h],trivial]
def DL(H:Hp)(z:Addr)(ds:List<|Nat×De):Prop:= ∃vs,H z=some (.lst vs)/\IsRw H ds vs
def DL.same{ds:List<|Nat×De}(e:Same H H')(h:DL H z ds):DL H' z ds:=by let#[vs,h1,h2]:=h;show#[vs,e _ _ h1,h2.ts<|qd e]
noncomputable def onT(n:Nat)(ds:List De):List (Nat×De):=ds.map λd=>(n,d)
inductive qT3(vs:LV)(H:Hp)(Q:VK)(_:XK):Prop
|mk (tz tl ti mz z:Addr) (zs:LV) (n:Nat) (ms:LI) (ts:LN) (_:vs=[.ref tz,.int (n:Int),.ref mz]) (_:H tz=some (.tup [.ref tl,.ref ti])) (_:H tl=some (.lst zs)) (_:zs[n]?=some (.ref z)) (_:Tr H z ms) (_:H mz=some (.tup (ts.map V.int))) (_:ts.length<=10) (_:∀(y:Addr) (H':Hp),Same H H'->H y=none->DL H' y (onT n (xl ms ts))->Q (.ref y) H')
def qB3(ms:LI)(F:LN):(xl ms F).length<=F.length:=by delta xl;rw[YS];show List.length_filter_le _ _
def qOv:Fo P w base T.D70 5 qT3:=by
 rcases oL T.D70.F,qU4 with⟨tz,tl,ti,mz,z,zs,n,ms,ts,rfl,ah,ae,af,tT,ac,ai,kk⟩;exists #[qL (qHq %["table","number"|.nil] %[0x00,0x01|.nil] rfl (qV8 2) (λ_ _ _ _=>(jQ (qK T.D32 qAh [jI (qUu (K:=K) rfl) (jI (qNp (K:=K) rfl) 1 qH) 2,0]))) (λ_ _ _ _=>(qZ [qQ,2,0])))]
 show#[_,O,mz,O,#[_,SqT.of ac],qS4 (K:=K) (a:=mz) (xs:=ts.map V.int) (λj aa H2=>IsRw H2 (onT n (xl ms<|ts.take j)) aa/\Same H H2) #[trivial,Same.refl _] ?_ ?_ ?_]
 . rintro j aa H2 hj ⟨ht,J⟩
   rw[YS]at hj;show#[SqT.of<|J _ _ ac,qf ?_];rw[ht.len];unfold onT;rw[YS];have:=qB3 ms<|ts.take j;rw[Yk]at this;lia
 . rintro j x aa H2 hj hx ⟨ht,J⟩
   ext;let#[F,ag,rfl]:∃F:Int,ts[j]?=some F/\x=.int F:=by
    rw[Yj]at hx;cases hq:ts[j]? with
    |none=>rw[hq]at hx;cases hx
    |some k=>rw[hq]at hx;cases hx;show#[k,rfl,rfl]
   symm;have ad:ts.take (j+1)=ts.take j++[F]:=by rw[Yt,ag];rfl
   show(ixO (J _ _ ah) at0 #[_,O,tl,_,_,_,O,O,SqL.of<|J _ _ ae,jC af,_,O,z,ms,F,O,tT.same J,λH3 e3=>?_]);have es:onT n (xl ms<|ts.take j++[F])=onT n (xl ms<|ts.take j)++onT n (xl ms [F]):=by unfold onT xl;rw[List.filter_append,Ys,Ys]
   cases hw:qz ms F with
   |true=>
    show#[true,O,ju #[_,O,_,O,sL3,λg hg=>Nxt.mk hj #[?_,(J.trans e3).trans<|qE hg _]]];have:onT n (xl ms [F])=[(n,.hel F)]:=by unfold onT xl;rw[List.filter_cons_of_pos hw];rfl
    rw[ad,es,this];show(ht.ts<|qd (e3.trans<|qE hg _)).app (.one (d:=.hel F) qC)
   |false=>
    show#[false,O,jH<|Nxt.mk hj #[?_,J.trans e3]];have:onT n (xl ms [F])=[]:=by unfold onT xl;rw[List.filter_cons_of_neg (by rw[hw];decide)];rfl
    rw[ad,es,this,Ye];show ht.ts (qd e3)
 rintro aa H2 ⟨ht,J⟩ y hy;rw[YS,Yx]at ht;show kk y _ (J.trans<|qE hy _) (J.free hy) #[_,qC,ht.ts (qd<|qE hy _)]
def qFp{j:Nat}(h:j<=1100):j<=sizeLine:=ZD h #[]
theorem qOa:∀(t:Int) (ms:LI),(qNw t ms).length<=ms.length
 |_,[]=>by simp[qNw]
 |t,m::r=>by have:=qOa (t+m.mo) r;rw[qNw,YN,YE];split <;> simp <;> lia
inductive qJh(vs:LV)(H:Hp)(Q:VK)(_:XK):Prop
|mk (tz tl ti z:Addr) (zs:LV) (n:Nat) (ms:LI) (lo hi:Int) (_:vs=[.ref tz,.int (n:Int),.int lo,.int hi]) (_:H tz=some (.tup [.ref tl,.ref ti])) (_:H tl=some (.lst zs)) (_:zs[n]?=some (.ref z)) (_:Tr H z ms) (_:MsB ms) (_:ms.length<=100) (_:0<=lo) (_:lo<=2 ^ 500) (_:∀(y:Addr) (H':Hp),Same H H'->H y=none->DL H' y (onT n (qNw lo (ji lo hi 0 ms)++xl ms [lo,hi]))->Q (.ref y) H')
def qI1:Fo P w base T.D71 8 qJh:=by
 rcases oL T.D71.F,xQ with⟨tz,tl,ti,z,zs,n,ms,lo,hi,rfl,ak,am,ah,tT,hB,ax,h0,h1,kk⟩;exists #[qc 4 (qr qB),qc 5 2,zZ PassesOwn.never rfl (jh (qK T.D34 zG [jI qk (qJ 0) 1,2,3])) (jB (i:=0x06) xQ.nd rfl (Or.inl rfl)) #[qh (qM j2 (qJ 6) (qZ [qQ,qQ]) rfl) #[qt (vd XA XB XC jN 4 [qZ [qQ,1,5,6]])] qO,qc 5 (qR qx 5 (qK T.D23 jW [6]))],qL (qR vW 4 (qK T.D70 qOv [0,1,qZ [2,3]]))]
 show#[sL0,λdy ag=>?_];have w0:=qE ag<|.lst [];show#[_,O,?_];show(ixO (w0 _ _ ak) at0 #[_,rfl,tl,_,_,_,rfl,rfl,SqL.of<|w0 _ _ am,jC ah,_,rfl,_,rfl,z,ms,lo,hi,rfl,tT.same w0,hB,h0,h1,λpz H1 e1 ae #[us,al,ai]=>?_]);have au:=ai.len;have aw:=vx lo hi 0 ms;show#[pz,O,#[_,SqL.of al],xY (K:=K) (a:=pz) (xs:=us) (λi σ H'=> ∃(o:Option V) (t:Int) (ds:List De),σ=[some<|.ref tz,some<|.int (n:Int),some<|.int lo,some<|.int hi,some<|.ref dy,some<|.int t,o]/\DL H' dy (onT n ds)/\ds++qNw t ((ji lo hi 0 ms).drop i)=qNw lo (ji lo hi 0 ms)/\ds.length<=i/\Same H H'/\SB dy H1 H')
  #[none,lo,[],rfl,#[[],e1 _ _ qC,trivial],rfl,YI _,w0.trans e1,SB.refl _ _] ?_ ?_ ?_]
 . rintro i σ H' av ⟨o,t,ds,rfl,_,_,_,_,sb⟩
   show SqL.of (sb _ _ (λz=>by rw[z]at ae;rw[qC]at ae;cases ae) al)
 . rintro i x σ H' hx ⟨o,t,ds,rfl,⟨af,aa,ac⟩,J,ar,e,sb⟩
   ext;let#[m,hm,ap]:=ai.get hx;symm;have hI:=ap.ts (sb.ts<|e1 _ _ qC);have ay:i<(ji lo hi 0 ms).length:=(glt hm);have ad:=ac.len;unfold onT at ad;rw[YS]at ad;ext;let#[zi,xi,rfl,as,a0,_]:=id hI.opn;symm;rw[jy hm,qNw]at J;show#[_,O,zi,xi,_,_,O,O,SqT.of as,a0,sL2,λq hq=>?_];have wq:=qE hq<|.tup [.str "clip",.str "nest"];show#[q,_,O,.inr<|SqT.of qC,O,O,_,zq qVu,jw (λc=>?_) (λc=>?_)]
   . have hw:m.wd="clip"\/m.wd="nest":= ~~~c
     rw[YB hw]at J;show#[_,O,.inl #[O,_,SqL.of<|wq _ _ aa],_,O,_,O,_,O,sL4,λg hg=>?_];have wg:=qE hg<|.tup [.str "lay_over",.int (n:Int),.int t,.ref zi];show#[dy,_,_,O,O,wg _ _<|wq _ _ aa,qf (),?_];have ww:=wq.trans wg;have tl:=xS (o:=.lst<|af++[.ref g])<|ww _ _ aa;show#[_,O,_,O,_,m,O,(hI.ts<|qd ww).ts tl,_,_,O,O,?_];show#[_,_,ds++[.chg<|.lov t m],O,#[_,qC,?_],by rw[Yw];show J,by rw[YN];change ds.length+1<=i+1;lia,jX (e.trans ww) ag,(sb.trans<|vF ww).trans z8];unfold onT;rw[Ys];show((ac.ts<|qd ww).app (.one (d:=.chg<|.lov t m) #[#[_,qC,hI.ts<|qd ww],λ_ e=>by cases e])).ts tl
   . have hw:¬(m.wd="clip"\/m.wd="nest"):= ~~~c
     rw[YA hw,Yg]at J;show#[_,O,_,O,_,m,O,hI.ts<|qd wq,_,_,O,O,_,_,ds,O,#[_,wq _ _ aa,ac.ts<|qd wq],J,(),e.trans wq,sb.trans<|vF wq]
 . rintro σ H' ⟨o,t,ds,rfl,⟨af,aa,ac⟩,J,ar,e,sb⟩
   rw[au,ZJ,qNw,Ye]at J;show#[_,O,_,O,_,O,_,O,_,O,sL2,λg hg=>?_];have wg:=qE hg<|.tup [.int lo,.int hi];have eg:=e.trans wg;show#[tz,tl,ti,g,z,zs,n,ms,[lo,hi],rfl,eg _ _ ak,eg _ _ am,ah,tT.same eg,qC,(by change 2<=10;decide),λy H3 e3 hy #[ao,aq,aj]=>?_];have l3:=aj.len;have l4:(xl ms [lo,hi]).length<=2:=qB3 ms [lo,hi];have l2:=ac.len;unfold onT at l2 l3;rw[YS]at l2 l3;show#[dy,y,_,_,O,O,(wg.trans e3) _ _ aa,aq,qFp (),λy2 an=>?_];have w5:=qE an (.lst<|af++ao);show kk y2 _ ((eg.trans e3).trans w5) ((eg.trans e3).free an) #[_,qC,?_];unfold onT;rw[<-J,Ys];show(ac.ts (qd<|(wg.trans e3).trans w5)).app (aj.ts<|qd w5)
def TabF.tr{zs:LV}{F:LL}(g:TrsAt H F zs){k:Nat}(hk:k<F.length):∃(z:Addr) (ms:LI),zs[k]?=some (.ref z)/\F[k]?=some ms/\Tr H z ms:=by have ac:=g.len;have ez:zs[k]?=some (zs[k]'()):=YD ();let#[ms,z,aa,J,tT]:=g.get ez;rw[J]at ez;show#[z,ms,ez,aa,tT]
def qVz{xs:LN}{x:V}(F:(xs.map V.int)[i]?=some x):∃J:Int,xs[i]?=some J/\x=.int J:=by
 rw[Yj]at F;cases hq:xs[i]? with
 |none=>rw[hq]at F;cases F
 |some k=>rw[hq]at F;cases F;show#[k,rfl,rfl]
inductive qGv(vs:LV)(H:Hp)(Q:VK)(_:XK):Prop
|mk (tz dz:Addr) (n:Nat) (t l:Int) (_:vs=[.ref tz,.ref dz]) (_:(H dz=some (.tup [.str "mix",.int (n:Int),.int t,.int l])/\(∀(y:Addr) (H':Hp),Same H H'->H y=none->DL H' y [(n,.unm t)]->Q (.ref y) H')\/(∃(ts:LL) (tie:LN) (ms:LI) (i:Nat),H dz=some (.tup [.str "unmix",.int (n:Int),.int t])/\TabF H (.ref tz) ts tie/\ts[n]?=some ms/\cbF ms t=some ((i:Int),((i+2:Nat):Int))/\ms[i+1]?=some (.mix l)/\∀(y:Addr) (H':Hp),Same H H'->H y=none->DL H' y [(n,.mix t l)]->Q (.ref y) H')))
def qGt:Fo P w base T.D72 6 qGv:=by
 rcases oL T.D72.F,kB with⟨tz,dz,n,t,l,rfl,h⟩;exists #[qh (qM jP (qJ 1) qQ) #[qL (qr [qZ [qQ,qJ 1,qJ 1]])] qO,qc 2 (jI qk (qJ 0) (qJ 1)),qc 3 (qK T.D31 jY [2,qJ 1]),qL (qr [qZ [qQ,qJ 1,qJ 1,qJ (jI qk 2 (qR qx (qJ 3) qH))]])]
 have ac:(1:Nat)<=sizeLine:=#[]
 have qSi:(3:Nat)<=sizeLine:=#[]
 have qTw:(4:Nat)<=sizeLine:=#[]
 rcases h with ⟨hd,kk⟩|⟨ts,tie,ms,i,hd,hT,aa,ad,hm,kk⟩
 . show(ixO hd qBq #[O,_,O,ju ?_])
   show(ixO hd qD1 (ixO hd wz #[qSi,λg hg=>#[ac,λy J=>?_]]));show kk y _ ((qE hg _).trans<|qE J _) ((qE hg _).free J) #[_,qC,.one (d:=.unm t)<|qE J _ _ _ qC]
 . let#[tt,tl,ti,zs,e0,g2,g3,g4,g5]:=id hT
   ext;cases e0;let#[z,ms',ez,F,tT]:=TabF.tr g4<|glt aa;rw[aa]at F;cases F;symm;show(ixO hd jBf #[O,_,O,jH ?_]);show(ixO g2 at0<|ixO hd qNe #[tl,_,_,_,O,O,SqL.of g3,jC ez,?_]);show#[_,O,ixO hd qP0 #[z,ms,t,O,tT,?_]];rw[ad];intro p H1 e1 hp;ext;let#[us,ah,ae]:=id<|tT.same e1;let#[x,hx,hI]:=ae.get' hm;let#[zi,rfl,af]:=hI;symm;have ag:atI us ((i:Int)+1)=some (.ref zi):=by have:=jC hx;rw[Int.natCast_succ]at this;show this
   show(ixO (e1 _ _ hd) qNe<|ixO (e1 _ _ hd) qP0 ?_);show#[_,O,ixO hp at0 #[_,_,O,O,z,_,_,_,O,O,SqL.of ah,ag,ixT (SqT.of af) at1 #[qTw,λg hg=>#[ac,λy J=>?_]]]];show kk y _ (e1.trans ((qE hg _).trans<|qE J _)) ((e1.trans<|qE hg _).free J) #[_,qC,.one (d:=.mix t l)<|qE J _ _ _ qC]
noncomputable def Dk.room:Dk->Option Int
 |.opn _ l=>some l
 |.lin _ m=>some m.mo
 |_=>none
def qWp(ts:LL)(tie:LN)(n:Nat)(t len:Int):List (Nat×De):=(n,.chg (.cls t<|t+len))::kX (chF tie (n:Int) true) (qLa ts t)
def qKy{j:Nat}(f:Int->List De)(h:ns[i]?=some (j:Int)):kX (ns.drop i) f=onT j (f j)++kX (ns.drop<|i+1) f:=by unfold kX onT;rw[jy h,List.flatMap_cons,YQ]
def qHx(n:Nat)(ds:List De):(onT n ds).length=ds.length:=YS _
inductive qF0(vs:LV)(H:Hp)(Q:VK)(_:XK):Prop
|mk (tz dz:Addr) (ts:LL) (tie:LN) (n:Nat) (d:Dk) (len:Int) (_:vs=[.ref tz,.ref dz]) (_:TabG H tz ts tie n) (_:DAt H dz (n:Int) d) (_:d.room=some len) (_:∀(y:Addr) (H':Hp),Same H H'->H y=none->DL H' y (qWp ts tie n d.t len)->Q (.ref y) H')
def qFj:Fo P w base T.D73 6 qF0:=by
 rcases oL T.D73.F,xN with⟨tz,dz,ts,tie,n,d,J,rfl,hP,hD,ae,kk⟩;exists #[wZ (qc 2 (zt (qM jP (qJ 1) qQ) (qJ 1) (qK T.D23 jW [qJ 1]))),qc 3 (qr [qZ [qQ,qJ 1,qJ 1,qR qx (qJ 1) 2]]),zZ PassesOwn.never rfl (jh (qK T.D57 j5 [0,1])) (jB (i:=0x04) xN.nd rfl (Or.inl rfl)) #[qt (vd XA F.slot_list_extend F.type_list_extend qLl 3 [qK T.D70 qOv [0,4,qZ [qJ 1]]])],qL 3]
 have aj:(1:Nat)<=sizeLine:=#[]
 have qTw:(4:Nat)<=sizeLine:=#[]
 have au:d.push=true:=by cases d <;> first|rfl|cases ae
 ext;let#[tt,tl,ti,zs,e0,g2,g3,g4,g5]:=id hP.tab;cases e0;let#[aC,aq]:=hP.ch true;let#[xs,hd,a0,a1,a2]:=hD.opn;symm;show#[λσ H3=>σ=[some<|.ref tz,some<|.ref dz,some<|.int J,none,none]/\H3=H,?_,?_]
 . cases d with
   |opn t l=>
    have ac:H dz=some (.tup [.str "open",.int n,.int t,.int l]):=hD;cases ae;show(ixO ac qBq #[O,_,O,ju<|ixO ac kn #[O,O]])
   |lin t m=>
    ext;cases ae;let#[v,ac,hI]:=hD;symm;show(ixO ac qBq #[O,_,O,jH<|ixO ac kn #[v,m,O,hI,O,O]])
   |_=>cases ae
 rintro σ H3 ⟨rfl,rfl⟩;show(ixO hd a1<|ixO hd a2 ?_);show(ixO hd a2 #[_,O,_,_,O,O,qTw,λg hg=>#[aj,λdy ak=>?_]]);have wg:=qE hg<|.tup [.str "close",.int n,.int d.t,.int<|d.t+J];have wd:=qE ak<|.lst [.ref g];have w1:=wg.trans wd;have al:H3 dy=none:=wg.free ak;show#[_,rfl,_,rfl,tz,tl,ti,dz,tie,_,d,rfl,w1 _ _ g2,w1 _ _ g5,by have:=hP.tl;lia,hD.same w1,λy H2 e2 hy ah=>?_];rw[au]at ah;have ar:=w1.trans e2;show#[y,O,#[_,SqL.of ah],xY (K:=K) (a:=y) (xs:=(chF tie (n:Int) true).map V.int) (λi σ H'=> ∃(o:Option V) (ds:List<|Nat×De),σ=[some<|.ref tz,some<|.ref dz,some<|.int J,some<|.ref dy,o]/\DL H' dy ds/\ds++kX ((chF tie (n:Int) true).drop i) (qLa ts d.t)=qWp ts tie n d.t J/\ds.length<=1+i/\Same H3 H'/\SB dy H2 H')
  #[none,[(n,.chg (.cls d.t<|d.t+J))],rfl,#[_,e2 _ _ qC,.one (d:=.chg (.cls d.t<|d.t+J)) #[(wd.trans e2) _ _ qC,(λ_ z=>by cases z)]],rfl,YI _,ar,SB.refl _ _] ?_ ?_ ?_]
 . rintro i σ H' aA ⟨o,ds,rfl,_,_,_,_,sb⟩
   show SqL.of (sb _ _ (λz=>by rw[z]at hy;rw[qC]at hy;cases hy) ah)
 . rintro i x σ H' hx ⟨o,ds,rfl,⟨av,af,am⟩,ad,aw,e,sb⟩
   ext;let#[xi,ai,rfl]:=qVz hx;let#[k,rfl,hk]:=aq xi<|YF ai;have aB:=(glt ai);let#[z,ag,ez,ax,tT]:=TabF.tr g4 hk;symm;have az:=am.len;rw[qKy _ ai,<-Yw,qLa,qOb ax]at ad;show#[_,O,.inl #[O,_,SqL.of af],_,O,_,O,ixO (e _ _ hd) a2 #[aj,λq hq=>?_]];have wq:=qE hq<|.tup [.int d.t];have eq:=e.trans wq;show#[tz,tl,ti,q,z,zs,k,ag,[d.t],rfl,eq _ _ g2,eq _ _ g3,ez,tT.same eq,qC,(by change 1<=10;decide),λy2 H4 e4 aD #[ap,as,an]=>?_];have l3:=an.len;have l4:(xl ag [d.t]).length<=1:=qB3 ag [d.t];rw[qHx]at l3;have aa:=wq.trans e4;show#[dy,y2,_,_,O,O,aa _ _ af,as,qFp (),?_];have ay:=xS (o:=.lst<|av++ap)<|aa _ _ af;show#[_,_,O,#[_,qC,((am.ts<|qd aa).app an).ts ay],ad,by rw[YN,qHx];lia,jX (e.trans aa) al,(sb.trans<|vF aa).trans z8]
 . rintro σ H' ⟨o,ds,rfl,ao,ad,aw,e,sb⟩
   rw[YS,ZJ,kX,List.flatMap_nil,Ye]at ad;rw[ad]at ao;show#[_,O,kk dy H' e al ao]
noncomputable def Dk.hd(n:Nat):Dk->List (Nat×De)
 |.cls t u=>[(n,.chg (.opn t (u-t)))]
 |.lov t m=>[(n,.chg (.lft t (t+m.mo)))]
 |_=>[]
def jBi(ts:LL)(tie:LN)(n:Nat)(d:Dk):List (Nat×De):=d.hd n++kX (chF tie (n:Int) d.push) (wA ts d.t d.hi)
def qQ7(lo hi:Int)(ms:LI):(qNw lo (ji lo hi 0 ms)++xl ms [lo,hi]).length<=ms.length+2:=by have h1:=qOa lo<|ji lo hi 0 ms;have h2:=vx lo hi 0 ms;have F:(xl ms [lo,hi]).length<=2:=qB3 ms [lo,hi];rw[YN];lia
def Dk.of_wd{d:Dk}:(d.wd="close"->∃t u,d=.cls t u)/\(d.wd="lay_over"->∃t m,d=.lov t m):=by
 have F:∀{a b:Str} {p:Prop},a≠b->a=b->p:=λh e=>YC e h;cases d with
 |cls t u=>show#[λ_=>#[t,u,rfl],F (a:="close") ⋯]
 |lov t m=>show#[F (a:="lay_over") ⋯,λ_=>#[t,m,rfl]]
 |cut=>show#[F (a:="cut") ⋯,F (a:="cut") ⋯]
 |hel=>show#[F (a:="heal") ⋯,F (a:="heal") ⋯]
 |opn=>show#[F (a:="open") ⋯,F (a:="open") ⋯]
 |lft=>show#[F (a:="lift") ⋯,F (a:="lift") ⋯]
 |lin=>show#[F (a:="lay_in") ⋯,F (a:="lay_in") ⋯]
inductive qBv(vs:LV)(H:Hp)(Q:VK)(_:XK):Prop
|mk (tz dz:Addr) (ts:LL) (tie:LN) (n:Nat) (d:Dk) (_:vs=[.ref tz,.ref dz]) (_:TabG H tz ts tie n) (_:DAt H dz (n:Int) d) (_:0<=d.t) (_:d.t<=2 ^ 500) (_:∀(y:Addr) (H':Hp),Same H H'->H y=none->DL H' y (jBi ts tie n d)->Q (.ref y) H')
def qBk:Fo P w base T.D74 9 qBv:=by
 rcases oL T.D74.F,jv with⟨tz,dz,ts,tie,n,d,rfl,hP,hD,h0,h1,kk⟩;exists #[qc 2 (qK T.D54 vH [1]),qc 3 (qr qB),wZ (qh (qM jP (qJ 1) qQ) #[qt (vd XA XB XC jN 3 [qZ [qQ,qJ 1,qJ 2,qR jU (qJ 2) (qJ 2)]])] qO),wZ (qh (qM jP (qJ 1) qQ) #[qt (vd XA XB XC jN 3 [qZ [qQ,qJ 1,qJ 2,qJ 2]])] qO),zZ PassesOwn.never rfl (jh (qK T.D57 j5 [0,1])) (jB (i:=0x04) jv.nd rfl (Or.inl rfl)) #[qt (vd XA F.slot_list_extend F.type_list_extend qLl 3 [qK T.D71 qI1 [0,4,qJ 2,qJ 2]])],qL 3]
 have qTw:(4:Nat)<=sizeLine:=#[]
 ext;let#[tt,tl,ti,zs,e0,g2,g3,g4,g5]:=id hP.tab;cases e0;let#[aL,ay]:=hP.ch d.push;let#[xs,hd,a0,a1,a2]:=hD.opn;symm;show#[_,O,dz,_,d,O,hD,λp H1 e1 hp=>#[sL0,λdy ap=>?_]];have w0:=qE ap<|.lst [];have ae:=e1.trans w0;have aj:H dy=none:=e1.free ap;have ad:=w0 _ _ hp;generalize as:upd H1 dy (.lst [])=H2 at w0 ae ad;have ac:H2 dy=some (.lst []):=by rw[<-as];show qC
 show#[λσ H3=>σ=[some<|.ref tz,some<|.ref dz,some<|.ref p,some<|.ref dy,none]/\DL H3 dy (if d.wd="close" then d.hd n else [])/\Same H H3/\H3 p=some (.tup [.int d.t,.int d.hi]),?_,?_]
 . show(ixO (ae _ _ hd) a0 #[O,_,O,jw (λc=>?_) (λc=>?_)])
   . have hw:d.wd="close":= ~~~c
     rw[YB hw];ext;let#[t,u,rfl]:=Dk.of_wd.1 hw;symm;show#[_,O,.inl #[O,_,SqL.of ac],ixO (ae _ _ hd) a1<|ixO ad at0 ?_];show(ixO ad at1 (ixO ad at0 #[_,_,O,O,qTw,λg hg=>?_]));have wg:=qE hg<|.tup [.str "open",.int n,.int t,.int<|u-t];show#[dy,_,_,O,O,wg _ _ ac,(by change 0<sizeLine;decide),?_];have ag:=xS (o:=.lst<|[]++[.ref g])<|wg _ _ ac;show#[rfl,#[_,qC,.one (d:=.chg (.opn t<|u-t)) #[ag _ _ qC,(λ_ z=>by cases z)]],jX (ae.trans wg) aj,ag _ _<|wg _ _ ad]
   . have hw:d.wd≠"close":= ~~~c
     rw[YA hw];show#[O,#[_,ac,trivial],ae,ad]
 clear as w0 ad ac ae;rintro σ H3 ⟨rfl,⟨aF,aa,J⟩,e3,ah⟩;show#[λσ H4=>σ=[some<|.ref tz,some<|.ref dz,some<|.ref p,some<|.ref dy,none]/\DL H4 dy (d.hd n)/\Same H H4/\H4 p=some (.tup [.int d.t,.int d.hi]),?_,?_]
 . show(ixO (e3 _ _ hd) a0 #[O,_,O,jw (λc=>?_) (λc=>?_)])
   . have hw:d.wd="lay_over":= ~~~c
     ext;let#[t,m,rfl]:=Dk.of_wd.2 hw;symm;rw[YA (show ¬(Dk.lov t m).wd="close" from show ¬("lay_over":Str)="close" by decide+kernel)]at J;have:=J.len;obtain rfl:aF=[]:=List.eq_nil_of_length_eq_zero this;show#[_,O,.inl #[O,_,SqL.of aa],ixO (e3 _ _ hd) a1<|ixO ah at0 ?_];show(ixO ah at1 #[qTw,λg hg=>?_]);have wg:=qE hg<|.tup [.str "lift",.int n,.int t,.int<|t+m.mo];show#[dy,_,_,O,O,wg _ _ aa,(by change 0<sizeLine;decide),?_];have ag:=xS (o:=.lst<|[]++[.ref g])<|wg _ _ aa;show#[rfl,#[_,qC,.one (d:=.chg (.lft t<|t+m.mo)) #[ag _ _ qC,(λ_ z=>by cases z)]],jX (e3.trans wg) aj,ag _ _<|wg _ _ ah]
   . have hw:d.wd≠"lay_over":= ~~~c
     have:(if d.wd="close" then d.hd n else [])=d.hd n:=by
      split
      . rfl
      . rename_i hc
        cases d <;> first|rfl|show YC rfl hc|show YC rfl hw
     rw[this]at J;show#[O,#[_,aa,J],e3,ah]
 clear aa J ah e3;rintro σ H4 ⟨rfl,af,e4,al⟩;show#[_,rfl,_,rfl,tz,tl,ti,dz,tie,_,d,rfl,e4 _ _ g2,e4 _ _ g5,by have:=hP.tl;lia,hD.same e4,λy H2 e2 hy au=>?_];have ny:y≠dy:=λz=>by let#[_,hh,_]:=af;rw[z,hh]at hy;cases hy
 have aD:p≠dy:=λz=>by let#[_,hh,_]:=af;rw[z,hh]at al;cases al
 have aH:(d.hd n).length<=1:=by cases d <;> simp[Dk.hd]
 show#[y,O,#[_,SqL.of au],xY (K:=K) (a:=y) (xs:=(chF tie (n:Int) d.push).map V.int) (λi σ H'=> ∃(o:Option V) (ds:List<|Nat×De),σ=[some<|.ref tz,some<|.ref dz,some<|.ref p,some<|.ref dy,o]/\DL H' dy ds/\ds++kX ((chF tie (n:Int) d.push).drop i) (wA ts d.t d.hi)=jBi ts tie n d/\ds.length<=1+102*i/\Same H H'/\SB dy H2 H')
  #[none,d.hd n,rfl,af.same e2,rfl,(),e4.trans e2,SB.refl _ _] ?_ ?_ ?_]
 . rintro i σ H' aJ ⟨o,ds,rfl,_,_,_,_,sb⟩
   show SqL.of (sb _ _ ny au)
 . rintro i x σ H' hx ⟨o,ds,rfl,⟨aA,ak,aq⟩,ai,aC,e,sb⟩
   ext;let#[xi,an,rfl]:=qVz hx;let#[k,rfl,hk]:=ay xi<|YF an;have aK:=(glt an);let#[z,am,ez,av,tT]:=TabF.tr g4 hk;let#[aB,aG]:=hP.ok am<|YF av;symm;have aI:=aq.len;have ao:=sb _ _ aD<|e2 _ _ al;rw[qKy _ an,<-Yw,wA,qOb av]at ai;show#[_,O,.inl #[O,_,SqL.of ak],_,O,_,O,ixO ao at0<|ixO ao at1 ?_];show#[tz,tl,ti,z,zs,k,am,d.t,d.hi,rfl,e _ _ g2,e _ _ g3,ez,tT.same e,aB,aG,h0,h1,λy2 H4 e4 aM #[ax,az,ar]=>?_];have l3:=ar.len;have l4:=qQ7 d.t d.hi am;rw[qHx]at l3;show#[dy,y2,_,_,O,O,e4 _ _ ak,az,qFp (),?_];have aE:=xS (o:=.lst<|aA++ax)<|e4 _ _ ak;show#[_,_,O,#[_,qC,((aq.ts<|qd e4).app ar).ts aE],ai,by rw[YN,qHx];lia,jX (e.trans e4) aj,(sb.trans<|vF e4).trans z8]
 . rintro σ H' ⟨o,ds,rfl,aw,ai,aC,e,sb⟩
   rw[YS,ZJ,kX,List.flatMap_nil,Ye]at ai;rw[ai]at aw;show#[_,O,kk dy H' e aj aw]
def jAt{w a b:Str}:inV (.str w) [.str a,.str b]=(decide (w=a) || decide (w=b)):=by
 delta inV;rw[Yv];simp[eqV];constructor
 . rintro(h|h)
   . show .inl h.symm
   . show .inr h.symm
 . rintro(h|h)
   . show .inl h.symm
   . show .inr h.symm
noncomputable def De.wd:De->Str
 |.hel _=>"heal"
 |.mix .. =>"mix"
 |.unm _=>"unmix"
 |.rol w .. =>w
 |.chg d=>d.wd
theorem DeAt.opn{H:Hp}{dz:Addr}{n:Nat}{d:De}(h:DeAt H dz n d):∃xs,H dz=some (.tup xs)/\atI xs 0=some (.str d.wd):=by
 cases d with
 |rol w t b=>show#[_,h.2,rfl]
 |chg d=>let#[xs,h1,h2,_]:=h.1.opn;show#[xs,h1,h2]
 |_=>show#[_,h,rfl]
def BkA(d:De)(w:Str):Prop:=
 if w="cut" then ∃t,d=.chg (.cut t)
 else if w="heal" then ∃t,d=.hel t
 else if w="mix"\/w="unmix" then (∃t k,d=.mix t k)\/∃t,d=.unm t
 else if w="lay_in"\/w="open" then ∃e len,d=.chg e/\e.room=some len
 else if w="slip" then ∃t b,d=.rol w t b
 else if w="roll"\/w="slide" then ∃t b,d=.rol w t b
 else (∃t u,d=.chg (.cls t u))\/(∃t u,d=.chg (.lft t u))\/∃t m,d=.chg (.lov t m)
def BkA.of{d:De}(h:DeAt H dz n d):BkA d d.wd:=by
 cases d with
 |hel t=>change BkA _ ("heal":Str);unfold BkA;rw[YA (show ¬("heal":Str)="cut" by decide+kernel),YB rfl];show#[t,rfl]
 |mix t k=>change BkA _ ("mix":Str);unfold BkA;rw[YA (show ¬("mix":Str)="cut" by decide+kernel),YA (show ¬("mix":Str)="heal" by decide+kernel),YB<|.inl rfl];show .inl #[t,k,rfl]
 |unm t=>change BkA _ ("unmix":Str);unfold BkA;rw[YA (show ¬("unmix":Str)="cut" by decide+kernel),YA (show ¬("unmix":Str)="heal" by decide+kernel),YB<|.inr rfl];show .inr #[t,rfl]
 |rol w t b=>
  have n6:∀w:Str,Wd3 w->(w≠"cut"/\w≠"heal"/\¬(w="mix"\/w="unmix")/\¬(w="lay_in"\/w="open"))/\(w="slip"\/(w≠"slip"/\(w="roll"\/w="slide"))):=by rintro w (rfl|rfl|rfl) <;> decide+kernel
  let#[#[a1,a2,J,a4],a5]:=n6 w h.1;change BkA _ w;unfold BkA;rw[YA a1,YA a2,YA J,YA a4];rcases a5 with e|⟨F,e2⟩
  . rw[YB e];show#[t,b,rfl]
  . rw[YA F,YB e2];show#[t,b,rfl]
 |chg d=>
  let#[h,hn]:=h;cases d with
  |hel t=>show YC rfl (hn t)
  |cut t=>change BkA _ ("cut":Str);unfold BkA;rw[YB rfl];show#[t,rfl]
  |lin t m=>change BkA _ ("lay_in":Str);unfold BkA;rw[YA (show ¬("lay_in":Str)="cut" by decide+kernel),YA (show ¬("lay_in":Str)="heal" by decide+kernel),YA (show ¬(("lay_in":Str)="mix"\/("lay_in":Str)="unmix") by decide+kernel),YB<|.inl rfl];show#[_,_,rfl,rfl]
  |opn t l=>change BkA _ ("open":Str);unfold BkA;rw[YA (show ¬("open":Str)="cut" by decide+kernel),YA (show ¬("open":Str)="heal" by decide+kernel),YA (show ¬(("open":Str)="mix"\/("open":Str)="unmix") by decide+kernel),YB<|.inr rfl];show#[_,_,rfl,rfl]
  |cls t u=>change BkA _ ("close":Str);unfold BkA;rw[YA (show ¬("close":Str)="cut" by decide+kernel),YA (show ¬("close":Str)="heal" by decide+kernel),YA (show ¬(("close":Str)="mix"\/("close":Str)="unmix") by decide+kernel),YA (show ¬(("close":Str)="lay_in"\/("close":Str)="open") by decide+kernel),YA (show ¬("close":Str)="slip" by decide+kernel),YA (show ¬(("close":Str)="roll"\/("close":Str)="slide") by decide+kernel)];show .inl #[t,u,rfl]
  |lft t u=>change BkA _ ("lift":Str);unfold BkA;rw[YA (show ¬("lift":Str)="cut" by decide+kernel),YA (show ¬("lift":Str)="heal" by decide+kernel),YA (show ¬(("lift":Str)="mix"\/("lift":Str)="unmix") by decide+kernel),YA (show ¬(("lift":Str)="lay_in"\/("lift":Str)="open") by decide+kernel),YA (show ¬("lift":Str)="slip" by decide+kernel),YA (show ¬(("lift":Str)="roll"\/("lift":Str)="slide") by decide+kernel)];show .inr (.inl #[t,u,rfl])
  |lov t m=>change BkA _ ("lay_over":Str);unfold BkA;rw[YA (show ¬("lay_over":Str)="cut" by decide+kernel),YA (show ¬("lay_over":Str)="heal" by decide+kernel),YA (show ¬(("lay_over":Str)="mix"\/("lay_over":Str)="unmix") by decide+kernel),YA (show ¬(("lay_over":Str)="lay_in"\/("lay_over":Str)="open") by decide+kernel),YA (show ¬("lay_over":Str)="slip" by decide+kernel),YA (show ¬(("lay_over":Str)="roll"\/("lay_over":Str)="slide") by decide+kernel)];show .inr<|.inr #[t,m,rfl]
inductive qMm(K:Fg)(N M S:Addr)(vs:LV)(H:Hp)(Q:VK)(E:XK):Prop
|mk (tz dz rd:Addr) (rl:Rls) (ts:LL) (tie:LN) (n:Nat) (ms:LI) (d:De) (r:Res) (l:Int) (_:vs=[.ref tz,.ref dz,.ref rd]) (_:TabD H tz rd rl ts tie) (_:ts[n]?=some ms) (_:DeAt H dz n d) (_:DeOk H rd ms d) (_:r=zI rl ts tie n ms d) (_:(r=.place->∀H',Same H H'->E (.ref N) none H')) (_:(r=.mixed->∀H',Same H H'->E (.ref M) none H')) (_:(∀m,r=.short m->∀(dx:Addr) (H':Hp),Same H H'->H' dx=some (.xd [("most",.int m)])->E (.ref S) (some dx) H')) (_:(∀ts',r=.good ts'->(∀t,d=.unm t->∃i:Nat,cbF ms t=some ((i:Int),((i+2:Nat):Int))/\ms[i+1]?=some (.mix l))/\(∀e,d=.chg e->0<=e.t/\e.t<=2 ^ 500)/\∀(y:Addr) (H':Hp),Same H H'->H y=none->DL H' y (qGr ts tie n l d)->Q (.ref y) H'))
def qM8:Fx P w base T.D75 11 (qMm K a.k_NoPlace a.k_Mixed a.k_Short):=by
 rcases oX T.D75.F,qQa with⟨tz,dz,rd,rl,ts,tie,n,ms,d,r,l,rfl,hP,hm,hA,hO,hR,k0,k1,k4,k2⟩;exists #[qt (xA T.D69 xf [0,1,2]),qh (qM jP (qJ 1) qQ) #[qL (qr [qZ [qQ,qJ 1,qJ 1]])] qO,qh (qM jP (qJ 1) qQ) #[qL (qr [qZ [qQ,qJ 1,qJ 1]])] qO,qh (qM j2 (qJ 1) (qZ [qQ,qQ]) rfl) #[qL (qK T.D72 qGt [0,1])] qO,qh (qM j2 (qJ 1) (qZ [qQ,qQ]) rfl) #[qL (qK T.D73 qFj [0,1])] qO,qh (qM jP (qJ 1) qQ) #[qL (qr [qZ [qQ,qJ 1,qJ 1,qA0 zX (qJ 1)]])] qO,qh (qM j2 (qJ 1) (qZ [qQ,qQ]) rfl) #[qL (qr [qZ [qJ 1,qJ 1,qR qx (qJ 1) (qJ 1),qA0 zX (qJ 1)]])] qO,qL (qK T.D74 qBk [0,1])]
 have aa:(1:Nat)<=sizeLine:=#[]
 have ac:(2:Nat)<=sizeLine:=#[]
 have qSi:(3:Nat)<=sizeLine:=#[]
 have qTw:(4:Nat)<=sizeLine:=#[]
 show#[_,O,_,O,_,O,tz,dz,rd,rl,ts,tie,r,O,hP,#[n,ms,d,hm,hA,hO,hR],k0,k1,k4,λts' er t' H1 e1 _=>?_];ext;let#[kl,kt,kk]:=k2 ts' er;have hn:=(glt hm);let#[xs,hd,a0]:=hA.opn;symm;have J:=BkA.of hA;unfold BkA at J;show(ixO (e1 _ _ hd) a0 #[O,_,O,jw (λc=>?_) (λc=>?_)])
 . rw[YB<| ~~~c]at J
   let#[t,rfl]:=J;have F:H1 dz=some (.tup [.str "cut",.int (n:Int),.int t]):=e1 _ _ hA.1;show(ixO F qNe (ixO F qP0 #[qSi,λg hg=>#[aa,λy hy=>?_]]));show kk y _ (e1.trans ((qE hg _).trans<|qE hy _)) ((e1.trans<|qE hg _).free hy) #[_,qC,.one (d:=.hel t)<|qE hy _ _ _ qC]
 rw[YA<| ~~~c]at J;clear c;show(ixO (e1 _ _ hd) a0 #[O,_,O,jw (λc=>?_) (λc=>?_)])
 . rw[YB<| ~~~c]at J
   let#[t,rfl]:=J;have F:H1 dz=some (.tup [.str "heal",.int (n:Int),.int t]):=e1 _ _ hA;show(ixO F qNe (ixO F qP0 #[qSi,λg hg=>#[aa,λy hy=>?_]]));show kk y _ (e1.trans ((qE hg _).trans<|qE hy _)) ((e1.trans<|qE hg _).free hy) #[_,qC,.one (d:=.chg<|.cut t) #[qE hy _ _ _ qC,(λ_ z=>by cases z)]]
 rw[YA<| ~~~c]at J;clear c;show(ixO (e1 _ _ hd) a0 #[ac,λq hq=>?_]);have e2:=e1.trans (qE hq<|.tup [.str "mix",.str "unmix"]);show#[q,_,O,.inr<|SqT.of qC,O,O,_,zq jAt,?_];generalize upd H1 q (.tup [.str "mix",.str "unmix"])=H2 at e2;show jw (λc=>?_) (λc=>?_)
 . rw[YB<| ~~~c]at J
   rcases J with ⟨t,k,rfl⟩|⟨t,rfl⟩
   . show#[_,O,_,O,tz,dz,n,t,k,O,.inl #[e2 _ _ hA,λy H' e f h=>kk y H' (e2.trans e) (e2.free f) h]]
   . let#[i,h4,h5]:=kl t rfl
     show#[_,O,_,O,tz,dz,n,t,l,O,.inr #[ts,tie,ms,i,e2 _ _ hA,hP.tab.same e2,hm,h4,h5,λy H' e f h=>kk y H' (e2.trans e) (e2.free f) h]]
 rw[YA<| ~~~c]at J;clear c;show(ixO (e2 _ _ hd) a0 #[ac,λq hq=>?_]);have e3:=e2.trans (qE hq<|.tup [.str "lay_in",.str "open"]);show#[q,_,O,.inr<|SqT.of qC,O,O,_,zq jAt,?_];generalize upd H2 q (.tup [.str "lay_in",.str "open"])=H3 at e3;show jw (λc=>?_) (λc=>?_)
 . rw[YB<| ~~~c]at J
   ext;let#[e,ad,rfl,hl]:=J;symm;show#[_,O,_,O,tz,dz,ts,tie,n,e,ad,O,(hP.g hn).same e3,hA.1.same e3,hl,λy H' e' f h=>kk y H' (e3.trans e') (e3.free f) ?_];have:qGr ts tie n l (.chg e)=qWp ts tie n e.t ad:=by cases e <;> cases hl <;> rfl
   rw[this];show h
 rw[YA<| ~~~c]at J;clear c;show(ixO (e3 _ _ hd) a0 #[O,_,O,jw (λc=>?_) (λc=>?_)])
 . have cw:d.wd="slip":= ~~~c
   rw[YB cw]at J;ext;let#[t,b,ed]:=J;rw[cw]at ed;subst ed;symm;have F:=e3 _ _ hA.2;show(ixO F qD1 (ixO F wz (ixO F kn #[_,O,qTw,λg hg=>#[aa,λy hy=>?_]])));show kk y _ (e3.trans ((qE hg _).trans<|qE hy _)) ((e3.trans<|qE hg _).free hy) #[_,qC,.one (d:=.rol "slip" t (-b)) #[hA.1,qE hy _ _ _ qC]]
 have ns:d.wd≠"slip":= ~~~c
 rw[YA ns]at J;clear c;show(ixO (e3 _ _ hd) a0 #[ac,λq hq=>?_]);have e4:=e3.trans (qE hq<|.tup [.str "roll",.str "slide"]);show#[q,_,O,.inr<|SqT.of qC,O,O,_,zq jAt,?_];generalize upd H3 q (.tup [.str "roll",.str "slide"])=H4 at e4;show jw (λc=>?_) (λc=>?_)
 . rw[YB<| ~~~c]at J
   ext;let#[t,b,ed]:=J;symm;generalize d.wd=w at ed ns;subst ed;have F:=e4 _ _ hA.2;show(ixO F qBq (ixO F qD1<|ixO F wz ?_));show(ixO F kn #[_,_,O,O,ixO F kn #[_,O,qTw,λg hg=>#[aa,λy hy=>?_]]]);show kk y _ (e4.trans ((qE hg _).trans<|qE hy _)) ((e4.trans<|qE hg _).free hy) #[_,qC,?_];change IsRw _ [(n,.rol w (if w="slip" then t else t+b) (-b))] _;rw[YA ns];show .one (d:=.rol w (t+b) (-b)) #[hA.1,qE hy _ _ _ qC]
 rw[YA<| ~~~c]at J;ext;let#[e,ed,hb]:∃e,d=.chg e/\qGr ts tie n l (.chg e)=jBi ts tie n e:=by
  rcases J with ⟨t,u,ed⟩|⟨t,u,ed⟩|⟨t,m,ed⟩
  . show#[_,ed,O]
  . show#[_,ed,O]
  . show#[_,ed,O]
 subst ed;let#[h3,h4]:=kt e rfl;symm;show#[_,O,_,O,tz,dz,ts,tie,n,e,O,(hP.g hn).same e4,hA.1.same e4,h3,h4,λy H' e' f h=>kk y H' (e4.trans e') (e4.free f) (by rw[hb];show h)]
inductive qI4(vs:LV)(H:Hp)(Q:VK)(_:XK):Prop
|mk (n m:Int) (_:vs=[.int n,.int m]) (_:0<=m) (_:m<=100) (_:∀(z:Addr) (xs:LN),H z=none->xs.length=m.toNat->(∀x∈xs,0<=x/\x<2147483629)->Q (.ref z) (upd H z (.lst (xs.map V.int))))
def qIg:Fo P w base T.D78 1 qI4:=by
 rcases oL T.D78.F,xU with⟨n,m,rfl,h0,h1,k⟩;exists #[qc 2 (qr qB),qc 3 (qR jF 0 qH),zZ PassesOwn.never rfl (qE0 rfl T.b_range [1]) (jB (i:=0x04) xU.nd rfl (Or.inl rfl)) #[qc 3 (qR jF (qR qx (qR qx (qR qx (qR jd 3 3) (qR jd qH 3)) (qR jd qH 4)) qH) qH),qt (vd XA XB XC jN 2 [qR jA 3 qH])],qL 2]
 show#[sL0,λz hz=>?_];show#[_,O,_,_,O,O,nz,?_];show#[_,O,m,O,(),(),qF8 (n:=m.toNat) (λi σ H'=> ∃(xs:LN) (x:Int) (o:Option V),σ=[some<|.int n,some<|.int m,some<|.ref z,some<|.int x,o]/\H'=upd H z (.lst<|xs.map V.int)/\xs.length=i/\(∀x∈xs,0<=x/\x<2147483629)/\0<=x/\x<2147483629)
  #[[],_,none,rfl,rfl,rfl,#[],Int.fmod_nonneg_of_pos n #[],Int.fmod_lt_of_pos n #[]] ?_ ?_]
 . rintro i σ H' hi ⟨xs,x,o,rfl,rfl,hl,J,x0,x1⟩
   have q0:=Int.fmod_nonneg_of_pos (x*x+40692*x+2*(0+(i:Int))+1) (show (0:Int)<2147483629 by decide);have q1:=Int.fmod_lt_of_pos (x*x+40692*x+2*(0+(i:Int))+1) (show (0:Int)<2147483629 by decide);show#[_,O,_,O,_,_,O,O,cmL () (),_,O,_,_,O,O,cmL #[] #[],_,_,O,O,?_];show#[_,O,_,_,O,O,cmL #[] #[],_,_,O,O,_,_,O,O,_,_,O,O,nz,?_];show#[_,O,.inl #[O,_,SqL.of qC],_,O,_,_,O,O,cdB #[] #[],z,_,_,O,O,qC,(by rw[YS];show qf ()),?_];show#[xs++[(x*x+40692*x+2*(0+(i:Int))+1).fmod 2147483629 |>.fdiv 3],_,_,O,?_,?_,?_,q0,q1]
   . rw[qNm,Ys]
     rfl
   . rw[YN,hl]
     rfl
   . intro y hy
     rcases YO.mp hy with hy|hy
     . show J y hy
     . have e:y=((x*x+40692*x+2*(0+(i:Int))+1).fmod 2147483629).fdiv 3:= ~~~hy
       rw[e,Int.fdiv_eq_ediv_of_nonneg _ #[]];lia
 . rintro σ H' ⟨xs,x,o,rfl,rfl,hl,J,x0,x1⟩
   show#[_,O,k z xs hz hl J]
def qAk{i:Int}(J:0<=i)(h1:i<(xs.length:Int)):∃v,atI xs i=some v/\v∈xs:=by
 let#[k,rfl]:=Int.eq_ofNat_of_zero_le J;have F:k<xs.length:=()
 show#[xs[k],jC<|YD F,List.getElem_mem F]
inductive qI0(vs:LV)(H:Hp)(Q:VK)(_:XK):Prop
|mk (c:Int) (_:vs=[.int c]) (_:∀(re:Addr) (x y z:Int) (H':Hp),Same H H'->H re=none->H' re=some (.dK [(Sum.inr "a",.int x),(Sum.inr "b",.int y),(Sum.inr "long",.int z)])->(∀n,Rg.Ok #[x,y,z,n])->Q (.ref re) H')
def qI6:Fo P w base T.D79 1 qI0:=by
 rcases oL T.D79.F,qH6 with⟨c,rfl,kk⟩;exists #[qL (qW1 (qHt qQ (qR qx qH (qR jF 0 qH)) (qHt qQ (qR qx qH (qR jF (qR jA 0 qH) qH)) (qHt qQ (qR jU (qR qWf qH qH) (qR jF (qR jA 0 qH) qH)) qWx))) rfl rfl #[] #[])]
 show λre F=>?_;have f:=fm c (show (0:Int)<9 by decide);have f2:=fm (c.fdiv 9) (show (0:Int)<1000 by decide);have f3:=fm (c.fdiv 81) (show (0:Int)<7 by decide);show#[_,O,_,_,O,O,nz,_,_,O,O,_,O,_,_,O,O,cdB #[] #[],_,_,O,O,nz,_,_,O,O,?_];show#[_,_,O,O,cpw (n:=9) #[],_,O,_,_,O,O,cdB #[] #[],_,_,O,O,nz,_,_,O,O,?_];show#[qC,[(Sum.inr "a",.int<|40+c.fmod 9),(Sum.inr "b",.int<|40+(c.fdiv 9).fmod 1000),(Sum.inr "long",.int<|10 ^ (9:Int).toNat-(c.fdiv 81).fmod 7)],O,(by change 3<=15;decide),?_];rw[qNm];have J:∀x y z:V,qHi [] [((Sum.inr ("a":Str):Key),x),(Sum.inr ("b":Str),y),(Sum.inr ("long":Str),z)]=[(Sum.inr ("a":Str),x),(Sum.inr ("b":Str),y),(Sum.inr ("long":Str),z)]:=λx y z=>by rfl
 rw[J];have e9:(10:Int) ^ (9:Int).toNat=1000000000:=#[]
 rw[e9];show kk re _ _ _ _ (qE F _) F qC λn=>#[by change 40<=40+_;lia,by change 40+_<=_;lia,by change 40<=40+_;lia,by change 40+_<=_;lia,by change 40<=_-_;lia,by change _-_<=_;lia]
def Prs(G:Int->Int->Prop)(H:Hp)(vs:LV):Prop:= ∀v∈vs,∃t p q,v=.ref t/\H t=some (.tup [.int p,.int q])/\G p q
def ja{G:Int->Int->Prop}(e:Same H0 H)(h:Prs G H vs){t:Addr}(ht:H t=none)(g:G p q):Same H0 (upd H t<|.tup [.int p,.int q])/\Prs G (upd H t<|.tup [.int p,.int q]) (vs++[.ref t]):=by
 have w:=qE ht<|.tup [.int p,.int q];show#[e.trans w,λv hv=>?_];rcases YO.mp hv with hv|hv
 . let#[J,p',q',F,e2,e3]:=h v hv
   show#[J,p',q',F,w _ _ e2,e3]
 . rw[YY]at hv
   show#[t,p,q,hv,qC,g]
def StG(p q:Int):Prop:=0<q/\Int.gcd p q=1/\q∣42/\18*q<=p/\p<=22*q
def SpG(r s:Int):Prop:=0<s/\Int.gcd r s=1/\s∣42/\r.natAbs<=6/\ -(2*s)<=r/\r<=2*s
def qLh{k:Int}(h1:StG p q)(h2:SpG r s)(k0:0<=k)(k1:k<=6)(hN:40<=N):InR (Vk p q r s k) (q*s) N:=by
 let#[q0,_,_,a1,a2]:=h1;let#[J,_,_,_,b1,b2]:=h2;have m1:=Ym a1 (show 0<=s by lia);have m2:=Ym a2 (show 0<=s by lia);have F:0<=k*q:=Int.mul_nonneg k0 ();have m3:=Int.mul_le_mul_of_nonneg_left b1 F;have m4:=Int.mul_le_mul_of_nonneg_left b2 F;have qs:0<q*s:=Yu q0 J;have m5:=Ym k1 (show 0<=q*s by lia);have m6:=Ym hN (show 0<=q*s by lia);have e1:Vk p q r s k=p*s+k*q*r:=by delta Vk;grind
 have e2:18*q*s=18*(q*s):=by grind
 have e3:22*q*s=22*(q*s):=by grind
 have e4:k*q*(2*s)=2*(k*(q*s)):=by grind
 have e5:k*q* -(2*s)=-(2*(k*(q*s))):=by grind
 delta InR;rw[e1];rw[e2]at m1;rw[e3]at m2;rw[e4]at m4;rw[e5]at m3;generalize q*s=z at*;generalize k*z=y at*;generalize N*z=x at*;generalize p*s=u at*;generalize k*q*r=v at*;lia
def qS5(F:A.Ok){n:Str}(hn:n="a"\/n="b"\/n="long"){l:Int}(h1:StG p q)(h2:SpG r s)(l1:1<=l)(l2:l<=7):LayG A (.clip n p q r s l):=by
 have J:∃N,rlE A n=some N/\40<=N/\N<=1000000000:=by
  delta rlE;rcases hn with rfl|rfl|rfl
  . show#[_,O,F.a0,F.a1]
  . show#[_,O,F.b0,F.b1]
  . show#[_,O,F.l0,F.l1]
 let#[N,J,n1,n2]:=J;show .inr #[n,p,q,r,s,l,N,O,#[J,(),n2,h1.1,h2.1,h1.2.1,h2.2.1,h1.2.2.1,h2.2.2.1,h2.2.2.2.1,l1,qLh h1 h2 (YH 0) #[] n1,qLh h1 h2 () () n1],()]
inductive qJ2(vs:LV)(H:Hp)(Q:VK)(_:XK):Prop
|mk (x:Int) (_:vs=[.int x]) (_:0<=x) (_:∀(z:Addr) (m:Im) (H':Hp),Same H H'->IsI H' m (.ref z)->m.wd="clip"->(∀A:Rg,A.Ok->LayG A m)->Q (.ref z) H')
def qK9:Fo P w base T.D80 1 qJ2:=by
 rcases oL T.D80.F,wC with⟨x,rfl,x0,kk⟩;exists #[qc 1 (jI qk (qr [qZ [qH,qH],qZ [qH,qH],qZ [qA0 zX qH,qH],qZ [qH,qH],qZ [qH,qH],qZ [qH,qH],qZ [qA0 zX qH,qH],qZ [qH,qH]]) (qR jF (qR jA 0 qH) qH)),qc 2 (jI qk (qr [qZ [qH,qH],qZ [qH,qH],qZ [qH,qH],qZ [qH,qH],qZ [qH,qH],qZ [qH,qH],qZ [qH,qH],qZ [qH,qH]]) (qR jF (qR jA 0 qH) qH)),qL (qZ [qQ,jI qk (qr [qQ,qQ,qQ]) (qR jF 0 qH),2,1,qR qx qH (qR jF (qR jA 0 qH) qH)])]
 have s8:(8:Nat)<=sizeLine:=#[]
 have a0:Prs SpG H []:=λv hv=>by cases hv
 show#[sL2,λt1 h1=>?_];let#[e1,a1]:=ja (p:=1) (q:=1) (Same.refl H) a0 h1 (by delta SpG;decide);change _;generalize upd _ t1 _=H1 at e1 a1⊢;show#[sL2,λt2 h2=>?_];let#[e2,a2]:=ja (p:=1) (q:=2) e1 a1 h2 (by delta SpG;decide);change _;generalize upd _ t2 _=H2 at e2 a2⊢;show#[_,O,sL2,λt3 h3=>?_];let#[e3,a3]:=ja (p:=(-1)) (q:=1) e2 a2 h3 (by delta SpG;decide);change _;generalize upd _ t3 _=H3 at e3 a3⊢;show#[sL2,λt4 h4=>?_];let#[e4,a4]:=ja (p:=0) (q:=1) e3 a3 h4 (by delta SpG;decide);change _;generalize upd _ t4 _=H4 at e4 a4⊢;show#[sL2,λt5 h5=>?_];let#[e5,a5]:=ja (p:=2) (q:=1) e4 a4 h5 (by delta SpG;decide);change _;generalize upd _ t5 _=H5 at e5 a5⊢;show#[sL2,λt6 h6=>?_];let#[e6,a6]:=ja (p:=3) (q:=2) e5 a5 h6 (by delta SpG;decide);change _;generalize upd _ t6 _=H6 at e6 a6⊢;show#[_,O,sL2,λt7 h7=>?_];let#[e7,a7]:=ja (p:=(-5)) (q:=3) e6 a6 h7 (by delta SpG;decide);change _;generalize upd _ t7 _=H7 at e7 a7⊢;show#[sL2,λt8 h8=>?_];let#[e8,a8]:=ja (p:=2) (q:=7) e7 a7 h8 (by delta SpG;decide);change _;generalize upd _ t8 _=H8 at e8 a8⊢;show#[s8,λl hl=>?_];have w1:=qE hl<|.lst [.ref t1,.ref t2,.ref t3,.ref t4,.ref t5,.ref t6,.ref t7,.ref t8];have f1:=fm (x.fdiv 7) (show (0:Int)<8 by decide);ext;let#[v,hv,F]:=qAk (xs:=[V.ref t1,.ref t2,.ref t3,.ref t4,.ref t5,.ref t6,.ref t7,.ref t8]) (i:=(x.fdiv 7).fmod 8) f1.1 (show _<((8:Nat):Int) by lia);let#[ts,r,s1,rfl,aa,hg]:=a8 v F;symm;show#[_,O,_,_,O,O,cdB #[] #[],_,_,O,O,nz,l,_,_,_,O,O,SqL.of qC,hv,?_];have aa:=w1 _ _ aa;have ae:=e8.trans w1;change _;generalize upd H8 l _=J at aa ae⊢;clear a0 a1 a2 a3 a4 a5 a6 a7 a8 e1 e2 e3 e4 e5 e6 e7 e8 h1 h2 h3 h4 h5 h6 h7 h8 hv F hl w1;have a0:Prs StG J []:=λv hv=>by cases hv
 have e0:=Same.refl J;show#[sL2,λt1 h1=>?_];let#[e1,a1]:=ja (p:=20) (q:=1) e0 a0 h1 (by delta StG;decide);change _;generalize upd _ t1 _=H1 at e1 a1⊢;show#[sL2,λt2 h2=>?_];let#[e2,a2]:=ja (p:=39) (q:=2) e1 a1 h2 (by delta StG;decide);change _;generalize upd _ t2 _=H2 at e2 a2⊢;show#[sL2,λt3 h3=>?_];let#[e3,a3]:=ja (p:=61) (q:=3) e2 a2 h3 (by delta StG;decide);change _;generalize upd _ t3 _=H3 at e3 a3⊢;show#[sL2,λt4 h4=>?_];let#[e4,a4]:=ja (p:=18) (q:=1) e3 a3 h4 (by delta StG;decide);change _;generalize upd _ t4 _=H4 at e4 a4⊢;show#[sL2,λt5 h5=>?_];let#[e5,a5]:=ja (p:=141) (q:=7) e4 a4 h5 (by delta StG;decide);change _;generalize upd _ t5 _=H5 at e5 a5⊢;show#[sL2,λt6 h6=>?_];let#[e6,a6]:=ja (p:=22) (q:=1) e5 a5 h6 (by delta StG;decide);change _;generalize upd _ t6 _=H6 at e6 a6⊢;show#[sL2,λt7 h7=>?_];let#[e7,a7]:=ja (p:=20) (q:=1) e6 a6 h7 (by delta StG;decide);change _;generalize upd _ t7 _=H7 at e7 a7⊢;show#[sL2,λt8 h8=>?_];let#[e8,a8]:=ja (p:=19) (q:=1) e7 a7 h8 (by delta StG;decide);change _;generalize upd _ t8 _=H8 at e8 a8⊢;show#[s8,λl2 hl=>?_];have w1:=qE hl<|.lst [.ref t1,.ref t2,.ref t3,.ref t4,.ref t5,.ref t6,.ref t7,.ref t8];have f2:=fm (x.fdiv 56) (show (0:Int)<8 by decide);ext;let#[v,hv,F]:=qAk (xs:=[V.ref t1,.ref t2,.ref t3,.ref t4,.ref t5,.ref t6,.ref t7,.ref t8]) (i:=(x.fdiv 56).fmod 8) f2.1 (show _<((8:Nat):Int) by lia);let#[tp,p,q,rfl,ac,hp]:=a8 v F;symm;show#[_,O,_,_,O,O,cdB #[] #[],_,_,O,O,nz,l2,_,_,_,O,O,SqL.of qC,hv,?_];have ac:=w1 _ _ ac;have ad:=e8.trans w1;change _;generalize upd H8 l2 _=J2 at ac ad⊢;clear a0 a1 a2 a3 a4 a5 a6 a7 a8 e0 e1 e2 e3 e4 e5 e6 e7 e8 h1 h2 h3 h4 h5 h6 h7 h8 hv F hl w1;show#[sL3,λl3 hl=>?_];have w1:=qE hl<|.lst [.str "a",.str "b",.str "long"];have f3:=fm x (show (0:Int)<3 by decide);ext;let#[v,hv,F]:=qAk (xs:=[V.str "a",.str "b",.str "long"]) (i:=x.fmod 3) f3.1 (show _<((3:Nat):Int) by lia);let#[n,rfl,hn]:∃n:Str,v=.str n/\(n="a"\/n="b"\/n="long"):=by simp only[YU,ZE,or_false]at F;rcases F with rfl|rfl|rfl <;> show#[_,rfl,#[]]
 symm;show#[_,O,_,_,O,O,nz,l3,_,_,_,O,O,SqL.of qC,hv,?_];have f4:=fm (x.fdiv 448) (show (0:Int)<7 by decide);show#[_,O,_,O,_,O,_,_,O,O,cdB #[] #[],_,_,O,O,nz,_,_,O,O,sL5,λz hz=>?_];have w2:=qE hz<|.tup [.str "clip",.str n,.ref tp,.ref ts,.int<|1+(x.fdiv 448).fmod 7];show kk z (.clip n p q r s1<|1+(x.fdiv 448).fmod 7) _ (((ae.trans ad).trans w1).trans w2) #[z,tp,ts,O,qC,w2 _ _<|w1 _ _ ac,w2 _ _ (w1 _ _<|ad _ _ aa)] rfl λA hA=>qS5 hA hn hp hg () ()
def qYt{x:Int}(F:0<=x)(J:0<b):0<=x.fdiv b:=by rw[Int.fdiv_eq_ediv_of_nonneg _ ()];show Int.ediv_nonneg F ()
def ItD(m:Im):Prop:=(∃n b l,m=.nest n b l/\(n="z"\/n="other")/\0<=b/\b<30/\1<=l/\l<=6)\/(m.wd="clip"/\∀A:Rg,A.Ok->LayG A m)
inductive qK5(vs:LV)(H:Hp)(Q:VK)(_:XK):Prop
|mk (x:Int) (_:vs=[.int x]) (_:0<=x) (_:∀(z:Addr) (m:Im) (H':Hp),Same H H'->IsI H' m (.ref z)->ItD m->Q (.ref z) H')
def qDf:Fo P w base T.D81 2 qK5:=by
 rcases oL T.D81.F,qJ7 with⟨x,rfl,x0,J⟩;exists #[qh (qM jP (qR jF 0 qH) qH) #[qL (qZ [qQ,jI qk (qr [qQ,qQ]) (qR jF (qR jA 0 qH) qH),qR jF (qR jA 0 qH) qH,qR qx qH (qR jF (qR jA 0 qH) qH)])] qO,qL (qK T.D80 qK9 [qR jA 0 qH])]
 show#[_,O,_,_,O,O,nz,O,_,O,jw (λ_=>?_) (λ_=>?_)]
 . show#[sL2,λl hl=>?_]
   have w1:=qE hl<|.lst [.str "z",.str "other"];have f1:=fm (x.fdiv 5) (show (0:Int)<2 by decide);have f2:=fm (x.fdiv 10) (show (0:Int)<30 by decide);have f3:=fm (x.fdiv 300) (show (0:Int)<6 by decide);ext;let#[v,hv,F]:=qAk (xs:=[V.str "z",.str "other"]) (i:=(x.fdiv 5).fmod 2) f1.1 (show _<((2:Nat):Int) by lia);let#[n,rfl,hn]:∃n:Str,v=.str n/\(n="z"\/n="other"):=by simp only[YU,ZE,or_false]at F;rcases F with rfl|rfl <;> show#[_,rfl,#[]]
   symm;show#[_,O,_,_,O,O,cdB #[] #[],_,_,O,O,nz,l,_,_,_,O,O,SqL.of qC,hv,?_];show#[_,O,_,_,O,O,cdB #[] #[],_,_,O,O,nz,_,O,_,_,O,O,cdB #[] #[],_,_,O,O,nz,_,_,O,O,sL4,λz hz=>?_];show J z (.nest n ((x.fdiv 10).fmod 30)<|1+(x.fdiv 300).fmod 6) _ (w1.trans<|qE hz _) #[z,O,qC] (.inl #[_,_,_,O,hn,f2.1,f2.2,(),()])
 . show#[_,O,_,_,O,O,cdB #[] #[],_,O,qYt x0 #[],λz m H' e hI hc hL=>J z m H' e hI<|.inr #[hc,hL]]
def DeD(d:De):Prop:= ∀A:Rg,A.Ok->A.nst "z"->A.nst "other"->DeN A 24 d
inductive qLr(vs:LV)(H:Hp)(Q:VK)(_:XK):Prop
|mk (x y L:Int) (_:vs=[.int x,.int y,.int L]) (_:0<=x) (_:0<=y) (_:1<=L) (_:∀(dz:Addr) (n:Nat) (d:De) (H':Hp),Same H H'->(n:Int)<L->DeAt H' dz n d->DeD d->Q (.ref dz) H')
def ItD.lay(h:ItD m)(J:A.Ok)(h1:A.nst "z")(h2:A.nst "other"):LayG A m:=by
 rcases h with ⟨n,b,l,rfl,F,b0,b1,l0,l1⟩|⟨_,h⟩
 . show .inl #[n,b,l,O,?_,?_,b0,l0,(),()]
   . rcases F with rfl|rfl
     . show h1
     . show h2
   . rcases F with rfl|rfl <;> decide+kernel
 . show h A J
def qLz:Fo P w base T.D82 3 qLr:=by
 rcases oL T.D82.F,zw with⟨x,y,L,rfl,x0,y0,L1,kk⟩;exists #[qc 3 (qR jF 0 2),qc 4 (qR jF (qR jA 0 qH) qH),qc 5 (qR jF 1 qH),qh (qM zV 5 qH) #[qL (qZ [qQ,3,4,qK T.D81 qDf [qR jA 1 qH]])] qO,qh (qM zV 5 qH) #[qL (qZ [qQ,3,4,qK T.D81 qDf [qR jA 1 qH]])] qO,qh (qM zV 5 qH) #[qL (qZ [jI qk (qr [qQ,qQ]) (qR jU 5 qH),3,4])] qO,qh (qM zV 5 qH) #[qL (qZ [jI qk (qr [qQ,qQ]) (qR jU 5 qH),3,4,qR qx (qR qx 4 qH) (qR jF (qR jA 1 qH) qH)])] qO,qh (qM jP 5 qH) #[qL (qZ [qQ,3,4,qR qx qH (qR jF (qR jA 1 qH) qH)])] qO,qh (qM zV 5 qH) #[qL (qZ [jI qk (qr [qQ,qQ,qQ]) (qR jU 5 qH),3,4,qR jU (qR jF (qR jA 1 qH) qH) qH])] qO,qh (qM zV 5 qH) #[qL (qZ [qQ,3,4,qR qx qH (qR jF (qR jA 1 qH) qH)])] qO,qL (qZ [qQ,3,4])]
 have f1:=fm x (show 0<L by lia);have f2:=fm (x.fdiv 7) (show (0:Int)<24 by decide);have f3:=fm y (show (0:Int)<18 by decide);show#[_,O,_,O,_,_,O,O,(),?_];let#[n,hn]:=Int.eq_ofNat_of_zero_le f1.1;dsimp only;rw[hn]at f1⊢;show#[_,O,_,_,O,O,cdB #[] #[],_,_,O,O,nz,?_];dsimp only;generalize (x.fdiv 7).fmod 24=t at f2⊢;show#[_,O,_,_,O,O,nz,?_];dsimp only;generalize y.fmod 18=wy at f3⊢;have ac:=qYt y0 (show (0:Int)<18 by decide);have t4:t<=24+4:=()
 have aa:∀(dz:Addr) (d:De) (H':Hp),Same H H'->DeAt H' dz n d->DeD d->Q (.ref dz) H':=λdz d H' e h1 h2=>kk dz n d H' e f1.2 h1 h2;show#[_,O,_,_,O,O,_,O,jw (λ_=>?_) (λ_=>?_)]
 . show#[_,O,_,O,_,O,_,_,O,O,cdB #[] #[],_,O,ac,λz m H1 e1 hI hD=>#[sL4,λdz F=>?_]]
   have w1:=qE F<|.tup [.str "lay_in",.int (n:Int),.int t,.ref z];show aa dz (.chg<|.lin t m) _ (e1.trans w1) #[#[_,qC,hI.ts<|qd w1],λ_ q=>by cases q] λA a1 a2 a3=>#[f2.1,t4,hD.lay a1 a2 a3]
 show#[_,O,_,_,O,O,_,O,jw (λ_=>?_) (λc1=>?_)]
 . show#[_,O,_,O,_,O,_,_,O,O,cdB #[] #[],_,O,ac,λz m H1 e1 hI hD=>#[sL4,λdz F=>?_]]
   have w1:=qE F<|.tup [.str "lay_over",.int (n:Int),.int t,.ref z];show aa dz (.chg<|.lov t m) _ (e1.trans w1) #[#[_,qC,hI.ts<|qd w1],λ_ q=>by cases q] λA a1 a2 a3=>#[f2.1,t4,hD.lay a1 a2 a3]
 have g1:6<=wy:= ~~~c1
 show#[_,O,_,_,O,O,_,O,jw (λc=>?_) (λc2=>?_)]
 . have g2:wy<8:= ~~~c
   show#[sL2,λl hl=>?_];ext;let#[v,hv,J]:=qAk (xs:=[V.str "cut",.str "heal"]) (i:=wy-6) () (show _<((2:Nat):Int) by lia);symm;show#[_,O,_,_,O,O,l,_,_,v,O,O,SqL.of qC,hv,_,O,_,O,sL3,λdz F=>?_];have e:=(qE hl<|.lst [.str "cut",.str "heal"]).trans (qE F<|.tup [v,.int (n:Int),.int t]);simp only[YU,ZE,or_false]at J;rcases J with rfl|rfl
   . show aa dz (.chg<|.cut t) _ e #[qC,λ_ q=>by cases q] λA _ _ _=>#[f2.1,t4]
   . show aa dz (.hel t) _ e qC λA _ _ _=>#[f2.1,t4]
 have g2:8<=wy:= ~~~c2
 have f6:=fm (y.fdiv 18) (show (0:Int)<6 by decide);have f5:=fm (y.fdiv 18) (show (0:Int)<5 by decide);have f9:=fm (y.fdiv 18) (show (0:Int)<9 by decide);show#[_,O,_,_,O,O,_,O,jw (λc=>?_) (λc3=>?_)]
 . have g3:wy<10:= ~~~c
   show#[sL2,λl hl=>?_];ext;let#[v,hv,J]:=qAk (xs:=[V.str "close",.str "lift"]) (i:=wy-8) () (show _<((2:Nat):Int) by lia);symm;show#[_,O,_,_,O,O,l,_,_,v,O,O,SqL.of qC,hv,_,O,_,O,_,O,_,_,O,O,_,O,_,_,O,O,cdB #[] #[],_,_,O,O,nz,_,_,O,O,sL4,λdz F=>?_];have e:=(qE hl<|.lst [.str "close",.str "lift"]).trans (qE F<|.tup [v,.int (n:Int),.int t,.int<|t+1+(y.fdiv 18).fmod 6]);simp only[YU,ZE,or_false]at J;rcases J with rfl|rfl
   . show aa dz (.chg (.cls t<|t+1+(y.fdiv 18).fmod 6)) _ e #[qC,λ_ q=>by cases q] λA _ _ _=>#[f2.1,t4,(),()]
   . show aa dz (.chg (.lft t<|t+1+(y.fdiv 18).fmod 6)) _ e #[qC,λ_ q=>by cases q] λA _ _ _=>#[f2.1,t4,(),()]
 have g3:10<=wy:= ~~~c3
 show#[_,O,O,_,O,jw (λc=>?_) (λc4=>?_)]
 . show#[_,O,_,O,_,O,_,_,O,O,cdB #[] #[],_,_,O,O,nz,_,_,O,O,sL4,λdz F=>?_]
   show aa dz (.chg (.opn t<|1+(y.fdiv 18).fmod 5)) _ (qE F _) #[qC,λ_ q=>by cases q] λA _ _ _=>#[f2.1,t4,(),()]
 have g4:wy≠10:= ~~~c4
 show#[_,O,_,_,O,O,_,O,jw (λc=>?_) (λ_=>?_)]
 . have g5:wy<14:= ~~~c
   show#[sL3,λl hl=>?_];ext;let#[v,hv,J]:=qAk (xs:=[V.str "roll",.str "slip",.str "slide"]) (i:=wy-11) () (show _<((3:Nat):Int) by lia);let#[wd,rfl,hw]:∃wd:Str,v=.str wd/\Wd3 wd:=by delta Wd3;simp only[YU,ZE,or_false]at J;rcases J with rfl|rfl|rfl <;> show#[_,rfl,#[]]
   symm;show#[_,O,_,_,O,O,l,_,_,_,O,O,SqL.of qC,hv,_,O,_,O,_,O,_,_,O,O,cdB #[] #[],_,_,O,O,nz,_,_,O,O,sL4,λdz F=>?_];show aa dz (.rol wd t<|(y.fdiv 18).fmod 9-4) _ ((qE hl _).trans<|qE F _) #[hw,qC] λA _ _ _=>#[hw,f2.1,t4,()]
 show#[_,O,_,_,O,O,_,O,jw (λc=>?_) (λ_=>?_)]
 . show#[_,O,_,O,_,O,_,_,O,O,cdB #[] #[],_,_,O,O,nz,_,_,O,O,sL4,λdz F=>?_]
   show aa dz (.mix t<|1+(y.fdiv 18).fmod 5) _ (qE F _) qC λA _ _ _=>#[f2.1,t4,(),()]
 . show#[_,O,_,O,sL3,λdz F=>?_]
   show aa dz (.unm t) _ (qE F _) qC λA _ _ _=>#[f2.1,t4]
structure LT(H H':Hp):Prop where
 l:∀b xs,H b=some (.lst xs)->H' b=some (.lst xs)
 t:∀b xs,H b=some (.tup xs)->H' b=some (.tup xs)
def LT.tr(e:LT H H')(h:Tr H z ms):Tr H' z ms:=by let#[vs,h1,h2]:=h;show#[vs,e.l _ _ h1,h2.ts e.t]
theorem LT.trs{H H':Hp}(e:LT H H'):∀{F:LL} {vs:LV},TrsAt H F vs->TrsAt H' F vs
 |[],[],_=>trivial
 |_::_,_::_,#[#[z,h1,h2],h3]=>#[#[z,h1,e.tr h2],e.trs h3]
def LT.tab(e:LT H H'){F:LL}(h:TabF H v F tie):TabF H' v F tie:=by let#[tt,tl,ti,zs,h1,h2,h3,h4,h5]:=h;show#[tt,tl,ti,zs,h1,e.t _ _ h2,e.l _ _ h3,e.trs h4,e.l _ _ h5]
noncomputable def Mk(X:List Addr)(H:Hp):Hp:=λb=>if b∈X then none else H b
def xE{b:Addr}(h:b∉X):Mk X H b=H b:=YA h
def mk_same:Same (Mk X H) H:=λb u h=>by
 delta Mk at h;split at h
 . cases h
 . show h
def qCk{Y:List Addr}(h:∀b u,b∉X->H b=some u->b∉Y/\H' b=some u):Same (Mk X H) (Mk Y H'):=λb u F=>by
 delta Mk at F;split at F
 . cases F
 . rename_i n
   let#[q1,J]:=h b u n F;rw[xE q1];show J
def FrT(H0 H:Hp)(t:Addr):Prop:= ∃(d l:Addr) (zs:List Addr) (ls:LV),H t=some (.tup [.ref d,.ref l])/\H d=some (.lst<|zs.map V.ref)/\H l=some (.lst ls)/\H0 d=none/\H0 l=none/\d≠l/\d∉zs/\l∉zs/\zs.length<=100/\ls.length<=100/\∀z∈zs,H0 z=none/\∃xs,H z=some (.lst xs)/\xs.length<=200
def FrT.same{t:Addr}(e:Same H H')(h:FrT H0 H t):FrT H0 H' t:=by let#[d,l,zs,ls,h1,h2,h3,h4,h5,h6,h7,h8,h9,h10,h11]:=h;show#[d,l,zs,ls,e _ _ h1,e _ _ h2,e _ _ h3,h4,h5,h6,h7,h8,h9,h10,λz F=>let #[q1,xs,q2,q3]:=h11 z F;#[q1,xs,e _ _ q2,q3]]
inductive qQq(vs:LV)(H:Hp)(Q:VK)(_:XK):Prop
|mk (tz:Addr) (ts:LL) (tie:LN) (_:vs=[.ref tz]) (_:TabF H (.ref tz) ts tie) (_:ts.length<=8) (_:tie.length<=8) (_:(∀ms∈ts,ms.length<=200)) (_:∀(t:Addr) (H':Hp),Same H H'->TabF H' (.ref t) ts tie->FrT H H' t->Q (.ref t) H')
theorem IsIs.cnt{H:Hp}:∀{ms:LI} {vs:LV},IsIs H ms vs->vs.length=ms.length
 |[],[],_=>rfl
 |_::_,_::_,h=>by rw[YE,YE,IsIs.cnt h.2]
 |[],_::_,h=>h.elim
 |_::_,[],h=>h.elim
def qHl:Fo P w base T.D76 1 qQq:=by
 rcases oL T.D76.F,qQ2 with⟨tz,ts,tie,rfl,⟨tt,tl,ti,zs,e0,h2,h3,h4,h5⟩,hl,ao,aj,kk⟩;cases e0;symm;have ak:=h4.len;show#[_,(qF (qL (qZ (qA (vz [] [] rfl (jh (qJ<|pv 0)) (λ_ _ _ _=>(jp (ka (K:=K) rfl) rfl T.b_list rfl<|qA (pv 0) qB)))<|qA (jp xI rfl T.b_list rfl<|qA (qJ<|pv 0) qB) qB)))),?_]
 try dsimp only[jK,qi]
 show(ixO h2 at0 #[tl,rfl,#[_,SqL.of h3],kU (K:=K) (a:=tl) (xs:=zs) (λj ac H2=>TrsAt H2 (ts.take j) ac/\Same H H2/\∃J:List Addr,ac=J.map V.ref/\∀z∈J,H z=none/\∃xs,H2 z=some (.lst xs)/\xs.length<=200) #[trivial,Same.refl _,[],rfl,(λz hz=>by cases hz)] ?_ ?_ ?_])
 . rintro j ac H2 hj ⟨ht,e2,_⟩
   show#[SqL.of<|e2 _ _ h3,qf (by rw[ht.len,Yk];lia)]
 . rintro j x ac H2 hj hx ⟨ht,e2,J,rfl,hw⟩
   ext;let#[am,z,ad,rfl,us,hz,ae]:=h4.get hx;symm;show#[_,O,z,us,O,.inl (SqL.of<|e2 _ _ hz),λl F=>Nxt.mk hj ?_];have w3:=qE F<|.lst us;have al:ts.take (j+1)=ts.take j++[am]:=by rw[Yt,ad];rfl
   rw[al];show#[qJq (ht.same w3) #[us,qC,ae.ts (qd<|e2.trans w3)],e2.trans w3,J++[l],by rw[Ys];rfl,λy hy=>?_];rcases YO.mp hy with hy|hy
   . let#[q1,xs,q2,q3]:=hw y hy
     show#[q1,xs,w3 _ _ q2,q3]
   . rw[YY]at hy
     subst hy;show#[e2.free F,us,qC,by rw[ae.cnt];show aj _<|YF ad]
 rintro ac H2 ⟨ht,e2,J,rfl,hw⟩ d hd;rw[ak,Yx]at ht;have an:J.length<=8:=by have:=ht.len;rw[YS]at this;lia
 have w3:=qE hd (.lst<|J.map V.ref);have e3:=e2.trans w3;show(ixO (e3 _ _ h2) at1 #[ti,_,O,.inl (SqL.of<|e3 _ _ h5),λl F=>#[sL2,λt ag=>?_]]);have w5:=qE F (.lst<|tie.map V.int);have w6:=qE ag<|.tup [.ref d,.ref l];have aa:=w5.trans w6;have ah:d≠l:=qW (qC (H:=H2) (a:=d) (o:=.lst<|J.map V.ref)) F;have ai:d∉J:=λq=>by let#[_,xs,q2,_]:=hw d q;rw[hd]at q2;cases q2
 have af:l∉J:=λq=>by let#[_,xs,q2,_]:=hw l q;have:=w3 _ _ q2;rw[F]at this;cases this
 show kk t _ (e3.trans aa) #[t,d,l,_,rfl,qC,aa _ _ qC,ht.same<|w3.trans aa,w6 _ _ qC] #[d,l,J,_,qC,aa _ _ qC,w6 _ _ qC,e2.free hd,e3.free F,ah,ai,af,(),by rw[YS];lia,λz hz=>let #[q1,xs,q2,q3]:=hw z hz;#[q1,xs,aa _ _<|w3 _ _ q2,q3]]
inductive qJi(vs:LV)(H:Hp)(Q:VK)(_:XK):Prop
|mk (H0:Hp) (t:Addr) (_:vs=[.ref t]) (_:Same H0 H) (_:FrT H0 H t) (_:∀H',Same H0 H'->(∃(d l:Addr) (ls:LV),H' t=some (.tup [.ref d,.ref l])/\H' l=some (.lst ls))->Q .non H')
def xj:Fo P w base T.D88 1 qJi:=by
 rcases oL T.D88.F,qB8 with⟨H0,t,rfl,e0,⟨d,l,zs,ls,h1,h2,h3,h4,h5,h6,h7,h8,h9,af,ae⟩,kk⟩;exists #[zZ PassesOwn.never rfl (jh (qJ 0)) (jB (i:=0x01) qB8.nd rfl (Or.inl rfl)) #[qt (vd XA XB XC jN 1 [qZ [qQ,qH]])],qt (vd XA XB XC jN (qJ 0) [qr qB]),qt (vd XA XB XC jN (qJ 0) [qH])]
 have ad:∀{J:Hp} {b:Addr} {o:HO},Same H0 J->H0 b=none->Same H0 (upd J b o):=λ{J b o} e hb c u hc=>by rw[qS<|qW hc hb];show e _ _ hc
 show(ixO h1 at0 #[d,O,#[_,SqL.of h2],xY (K:=K) (a:=d) (xs:=zs.map V.ref) (λi σ H'=> ∃o,σ=[some<|.ref t,o]/\Same H0 H'/\H' t=some (.tup [.ref d,.ref l])/\H' d=some (.lst<|zs.map V.ref)/\H' l=some (.lst ls)/\∀z∈zs,∃xs,H' z=some (.lst xs)/\xs.length<=200+i) #[none,O,e0,h1,h2,h3,λz hz=>(ae z hz).2] ?_ ?_ ?_])
 . rintro i σ H' hi ⟨o,rfl,_,_,q,_⟩
   show SqL.of q
 . rintro i x σ H1 hx ⟨o,rfl,e1,q1,q2,q3,q4⟩
   rw[Yj]at hx;ext;let#[z,hz,rfl]:=Option.map_eq_some_iff.mp hx;have hi:=(glt hz);have hm:=YF hz;let#[xs,ac,hl]:=q4 z hm;symm;show#[_,O,.inl #[O,_,SqL.of ac],sL2,λg hg=>?_];have w2:=qE hg<|.tup [.str "gap",.int 5];show#[z,xs,_,O,O,w2 _ _ ac,qf (),?_];have aa:∀{b:Addr} {o:HO},b≠z->H1 b=some o->upd (upd H1 g<|.tup [.str "gap",.int 5]) z (.lst<|xs++[.ref g]) b=some o:=λn h=>by rw[qS n];show w2 _ _ h
   show#[_,rfl,ad (e1.trans w2) (ae z hm).1,aa (λq=>by rw[q,ac]at q1;cases q1) q1,aa (λq=>h7 (q ▸ hm)) q2,aa (λq=>h8 (q ▸ hm)) q3,λy hy=>?_];by_cases q:y=z
   . subst q
     show#[_,qC,by rw[YN,Yy];lia]
   . let#[ys,p1,p2]:=q4 y hy
     show#[ys,aa q p1,()]
 . rintro σ H1 ⟨o,rfl,e1,q1,q2,q3,_⟩
   show(ixO q1 at0 #[.inl #[O,_,SqL.of q2],sL0,λg hg=>?_]);have w2:=qE hg<|.lst [];show#[d,_,_,O,O,w2 _ _ q2,qf (by rw[YS];lia),?_];have k1:upd (upd H1 g<|.lst []) d (.lst<|zs.map V.ref++[.ref g]) t=some (.tup [.ref d,.ref l]):=by rw[qS (xt q1 q2 (by intro z;cases z))];show w2 _ _ q1
   have k2:upd (upd H1 g<|.lst []) d (.lst<|zs.map V.ref++[.ref g]) l=some (.lst ls):=by rw[qS h6.symm];show w2 _ _ q3
   show(ixO k1 at1 #[.inl #[O,_,SqL.of k2],l,_,_,O,O,k2,qf (),?_]);show kk _ (ad (ad (e1.trans w2) h4) h5) #[d,l,_,by rw[qS (xt k1 k2 (by intro z;cases z))];show k1,qC]
def TiX(xs:LN):Prop:=xs.length<=3/\xs.Nodup/\∀x∈xs,0<=x
def Lss(H:Hp)(vs:LV):Prop:= ∀v∈vs,∃z xs,v=.ref z/\H z=some (.lst<|xs.map V.int)/\TiX xs
def wt{ys:LV}{xs:LN}(e:Same H0 H)(h:Lss H vs){t:Addr}(ht:H t=none)(q:ys=xs.map V.int)(g:TiX xs):Same H0 (upd H t<|.lst ys)/\Lss (upd H t<|.lst ys) (vs++[.ref t]):=by
 have w:=qE ht<|.lst ys;show#[e.trans w,λv hv=>?_];rcases YO.mp hv with hv|hv
 . let#[z,F,J,e2,e3]:=h v hv
   show#[z,F,J,w _ _ e2,e3]
 . rw[YY]at hv
   show#[t,xs,hv,by rw[qC,q],g]
theorem qS3{H:Hp}:∀{n:Nat} {vs:LV},vs.length=n->(∀v∈vs,∃z:Addr,v=.ref z/\Tr H z [])->TrsAt H (List.replicate n []) vs
 |0,[],_,_=>trivial
 |n+1,v::vs,hl,h=>#[h v #[],qS3 ( ~~~hl) λv F=>h v (by simp[F])]
inductive qJo(vs:LV)(H:Hp)(Q:VK)(_:XK):Prop
|mk (c:Int) (_:vs=[.int c]) (_:∀(t:Addr) (L:Nat) (tie:LN) (H':Hp),1<=L->L<=3->tie.length<=3->tie.Nodup->(∀x∈tie,∃k:Nat,x=(k:Int)/\k<L)->Same H H'->TabF H' (.ref t) (List.replicate L []) tie->Q (.ref t) H')
def qHv:Fo P w base T.D83 1 qJo:=by
 rcases oL T.D83.F,vT with⟨c,rfl,kk⟩;exists #[qSr (i:=0x01) vT.nd rfl (Or.inr rfl) (qR qx qH (qR jF 0 qH)),qc 2 (jI qk (qr [qr qB,qr [qH],qr [qH,qH],qr [qH,qH],qr [qH,qH],qr [qH,qH,qH]]) (qR jF (qR jA 0 qH) qH)),qL (qZ [vz .nil .nil rfl (qE0 rfl T.b_range [1]) (λ_ _ _ _=>(qr qB)),qHq %["_law_tracks"|.nil] %[0x01|.nil] rfl (jh 2) (λ_ _ _ _=>(qM zV 0 1)) (λ_ _ _ _=>0)])]
 have f1:=fm c (show (0:Int)<3 by decide);have f6:=fm (c.fdiv 3) (show (0:Int)<6 by decide);show#[_,O,_,_,O,O,nz,_,_,O,O,?_];have a0:Lss H []:=λv hv=>by cases hv
 show#[sL0,λt1 h1=>?_];let#[e1,a1]:=wt (ys:=[]) (xs:=[]) (Same.refl H) a0 h1 rfl (by delta TiX;decide);change _;generalize upd _ t1 _=H1 at e1 a1⊢;show#[sL1,λt2 h2=>?_];let#[e2,a2]:=wt (ys:=[.int 0]) (xs:=[0]) e1 a1 h2 rfl (by delta TiX;decide);change _;generalize upd _ t2 _=H2 at e2 a2⊢;show#[sL2,λt3 h3=>?_];let#[e3,a3]:=wt (ys:=[.int 0,.int 1]) (xs:=[0,1]) e2 a2 h3 rfl (by delta TiX;decide);change _;generalize upd _ t3 _=H3 at e3 a3⊢;show#[sL2,λt4 h4=>?_];let#[e4,a4]:=wt (ys:=[.int 1,.int 2]) (xs:=[1,2]) e3 a3 h4 rfl (by delta TiX;decide);change _;generalize upd _ t4 _=H4 at e4 a4⊢;show#[sL2,λt5 h5=>?_];let#[e5,a5]:=wt (ys:=[.int 0,.int 2]) (xs:=[0,2]) e4 a4 h5 rfl (by delta TiX;decide);change _;generalize upd _ t5 _=H5 at e5 a5⊢;show#[sL3,λt6 h6=>?_];let#[e6,a6]:=wt (ys:=[.int 0,.int 1,.int 2]) (xs:=[0,1,2]) e5 a5 h6 rfl (by delta TiX;decide);change _;generalize upd _ t6 _=H6 at e6 a6⊢;show#[(by change 6<=sizeLine;decide),λl7 h7=>?_];have w7:=qE h7<|.lst [.ref t1,.ref t2,.ref t3,.ref t4,.ref t5,.ref t6];ext;let#[v,hv,ah]:=qAk (xs:=[V.ref t1,.ref t2,.ref t3,.ref t4,.ref t5,.ref t6]) (i:=(c.fdiv 3).fmod 6) f6.1 (show _<((6:Nat):Int) by lia);let#[tt,xs,rfl,ad,ak,al,ai]:=a6 v ah;symm;show#[_,O,_,_,O,O,cdB #[] #[],_,_,O,O,nz,l7,_,_,_,O,O,SqL.of qC,hv,?_];have ad:=w7 _ _ ad;have eJ:=e6.trans w7;change _;generalize upd _ l7 _=J at ad eJ⊢;have hn:(((1+c.fmod 3).toNat:Nat):Int)=1+c.fmod 3:=()
 show#[_,rfl,_,rfl,(),(),qP5 (n:=(1+c.fmod 3).toNat) (λj F H'=>Same J H'/\F.length=j/\∀v∈F,∃z:Addr,v=.ref z/\Tr H' z []) #[Same.refl _,rfl,(λv hv=>by cases hv)] ?_ ?_ ?_]
 . rintro j F H' hj ⟨e,hl,hv⟩
   show qf ()
 . rintro j F H' hj ⟨e,hl,hv⟩
   show#[sL0,λz hz=>Nxt.mk hj #[e.trans<|qE hz _,by simp[hl],λv ae=>?_]];rcases YO.mp ae with q|q
   . let#[z',q1,q2]:=hv v q
     show#[z',q1,q2.same<|qE hz _]
   . rw[YY]at q
     show#[z,q,[],qC,trivial]
 rintro F K1 ⟨e2,hl,hv⟩ d hd;have w2:=qE hd<|.lst F;have k2:upd K1 d (.lst F) d=some (.lst F):=qC;have ac:=w2 _ _<|e2 _ _ ad;have ag:=qS3 hl λv ae=>let #[z,q1,q2]:=hv v ae;#[z,q1,q2.same w2]
 have eK:=eJ.trans<|e2.trans w2;change _;generalize upd K1 d _=K2 at k2 ac ag eK⊢;show#[_,O,tt,O,#[_,SqL.of ac],qHh (K:=K) (a:=tt) (xs:=xs.map V.int) (λj aa H'=>aa=((xs.take j).filter λx=>decide<|x<1+c.fmod 3).map V.int/\H'=K2) #[O,O] ?_ ?_ ?_]
 . rintro j aa H' hj ⟨rfl,rfl⟩
   show#[SqL.of ac,qf ?_];have h1:=List.length_filter_le (λx=>decide<|x<1+c.fmod 3)<|xs.take j;rw[YS];rw[Yk]at h1;lia
 . rintro j x aa H' hj hx ⟨rfl,rfl⟩
   rw[Yj]at hx;ext;let#[y,hy,rfl]:=Option.map_eq_some_iff.mp hx;symm;show#[_,O,_,O,_,_,O,O,_,O,jw (λq=>#[_,O,Nxt.mk hj #[?_,O]]) (λq=>Nxt.mk hj #[?_,O])]
   . rw[Yt,hy,List.filter_append,Ys,Option.toList_some,List.filter_cons_of_pos (p:=λx=>decide<|x<1+c.fmod 3) q]
     rfl
   . rw[Yt,hy,List.filter_append,Option.toList_some,List.filter_cons_of_neg (p:=λx=>decide<|x<1+c.fmod 3) q,List.filter_nil,Ye]
 rintro aa H' ⟨rfl,rfl⟩ d2 aj;rw[YS,Yx];have w4:=qE aj (.lst ((xs.filter λx=>decide<|x<1+c.fmod 3).map V.int));show#[sL2,λt ht=>?_];have w5:=qE ht<|.tup [.ref d,.ref d2];have af:=w4.trans w5;show kk t (1+c.fmod 3).toNat (xs.filter λx=>decide<|x<1+c.fmod 3) _ () () (ZD (List.length_filter_le _ _) ak) (al.sublist List.filter_sublist) (λx hx=>?_) (eK.trans af) #[t,d,d2,F,O,qC,af _ _ k2,ag.same af,w5 _ _ qC];let#[q1,q2]:=List.mem_filter.mp hx;have q2:x<1+c.fmod 3:=ZM q2;have:=ai x q1;show#[x.toNat,(),()]
def LT.of(e:Same H H'):LT H H':=#[λb _ h=>e b _ h,λb _ h=>e b _ h]
def LT.trans(a:LT H H1)(b:LT H1 H2):LT H H2:=#[λx _ h=>b.l x _<|a.l x _ h,λx _ h=>b.t x _<|a.t x _ h]
def qHb{x C:Addr}{fs:List<|Str×V}(h:H x=some (.ins C dx fs)):LT H (upd H x o):=#[λb xs q=>by rw[qS (xt q h (by intro z;cases z))];show q,λb xs q=>by rw[qS (xt q h (by intro z;cases z))];show q]
def FrT.lt{t:Addr}(e:LT H H')(h:FrT H0 H t):FrT H0 H' t:=by let#[d,l,zs,ls,h1,h2,h3,h4,h5,h6,h7,h8,h9,h10,h11]:=h;show#[d,l,zs,ls,e.t _ _ h1,e.l _ _ h2,e.l _ _ h3,h4,h5,h6,h7,h8,h9,h10,λz F=>let #[q1,xs,q2,q3]:=h11 z F;#[q1,xs,e.l _ _ q2,q3]]
def FrT.dom{t:Addr}(e:∀b xs,H0 b=none->H b=some (.lst xs)->H1 b=none)(h:FrT H0 H t):FrT H1 H t:=by let#[d,l,zs,ls,h1,h2,h3,h4,h5,h6,h7,h8,h9,h10,h11]:=h;show#[d,l,zs,ls,h1,h2,h3,e _ _ h4 h2,e _ _ h5 h3,h6,h7,h8,h9,h10,λz F=>let #[q1,xs,q2,q3]:=h11 z F;#[e _ _ q1 q2,xs,q2,q3]]
def TabF.own{t:Addr}{F:LL}(hT:TabF H (.ref t) F tie)(hF:FrT H0 H t)(hl:∀b xs,H0 b=none->H b=some (.lst xs)->H' b=some (.lst xs))(ht:∀b xs,H b=some (.tup xs)->H' b=some (.tup xs)):TabF H' (.ref t) F tie:=by
 let#[d1,l1,zs,ls,f1,f2,f3,f4,f5,f6,f7,f8,f9,ad,aa]:=hF;let#[tt,tl,ti,zz,g0,g1,g2,g3,g4]:=hT;cases g0;rw[f1]at g1;cases g1;show#[t,d1,l1,zz,O,ht _ _ f1,hl _ _ f4 g2,?_,hl _ _ f5 g4];rw[f2]at g2;cases g2;have ac:∀(zs:List Addr) (F:LL),(∀z∈zs,H0 z=none)->TrsAt H F (zs.map V.ref)->TrsAt H' F (zs.map V.ref):=λzs=>by
  induction zs with
  |nil=>intro F _ h;cases F with
   |nil=>trivial
   |cons=>show h.elim
  |cons z zs ih=>intro F J h;cases F with
   |nil=>show h.elim
   |cons ms F=>
    let#[#[z',q1,us,q2,q3],q4]:=h;cases q1;show#[#[z,O,us,hl _ _ (J z #[]) q2,q3.ts ht],ih F (λx hx=>J x (by simp[hx])) q4]
 show ac zs F (λz J=>(aa z J).1) g3
noncomputable def hfs(tz re dl ul:Addr):List (Str×V):=[("held",.ref tz),("reels",.ref re),("done",.ref dl),("undone",.ref ul)]
structure HdA(H:Hp)(C h dx tz re dl ul:Addr)(dn un:LV):Prop where
 i:H h=some (.ins C dx (hfs tz re dl ul))
 d:H dl=some (.lst dn)
 u:H ul=some (.lst un)
 ne:dl≠ul
def Bd(ts:LL)(tie:LN):Prop:=ts.length<=8/\tie.length<=8/\∀ms∈ts,ms.length<=200
inductive qHu(C:Addr)(vs:LV)(H:Hp)(Q:VK)(_:XK):Prop
|mk (h dx tz re dl ul:Addr) (ts:LL) (tie:LN) (_:vs=[.ref h]) (_:H h=some (.ins C dx (hfs tz re dl ul))) (_:TabF H (.ref tz) ts tie) (_:Bd ts tie) (_:∀(t:Addr) (H':Hp),Same H H'->TabF H' (.ref t) ts tie->FrT H H' t->Q (.ref t) H')
def xc:Fm P w mg base T.D100 2 (qHu a.k_Hand):=by
 rcases oL T.D100.F,qIk with⟨h,dx,tz,re,dl,ul,F,tie,rfl,hh,hT,⟨b1,J,b3⟩,kk⟩;exists #[qL (qK T.D76 qHl [x8 0 rfl])]
 show#[_,O,h,_,dx,_,_,O,hh,T.cl_Hand,T.na_Hand_held,O,tz,F,tie,O,hT,b1,J,b3,kk]
inductive qKj(C:Addr)(vs:LV)(H:Hp)(Q:VK)(_:XK):Prop
|mk (x dx tz re:Addr) (ts:LL) (tie:LN) (kvs:List (Key×V)) (_:vs=[.ref x,.ref tz,.ref re]) (_:H x=some (.ins C dx [])) (_:TabF H (.ref tz) ts tie) (_:Bd ts tie) (_:H re=some (.dK kvs)) (_:∀(tz' re' dl ul:Addr) (H':Hp),SB x H H'->HdA H' C x dx tz' re' dl ul [] []->(∀Y:List Addr,(∀b∈Y,(∃xs,H b=some (.lst xs))\/∃kvs,H b=some (.dK kvs))->TabF (Mk (x::dl::ul::Y) H') (.ref tz') ts tie)->H' re'=some (.dK kvs)->(∀b∈[re',dl,ul],H b=none)->Q .non H')
def qD7:Fm P w mg base T.D95 2 (qKj a.k_Hand):=by
 rcases oL T.D95.F,qEd with⟨x,dx,tz,re,ts,tie,kvs,rfl,hx,hT,⟨b1,b2,b3⟩,al,kk⟩;exists #[qFx 0 (qK T.D76 qHl [1]) rfl,qFx 0 (jp qN6 rfl T.b_dict rfl [2]) rfl,qFx 0 (qr qB) rfl,qFx 0 (qr qB) rfl]
 show#[_,O,tz,ts,tie,O,hT,b1,b2,b3,λJ H1 e1 aq ar=>#[_,O,x,_,dx,_,O,e1 _ _ hx,T.cl_Hand,T.na_Hand_held,#[],?_]];have s1:SB x H1 (upd H1 x (.ins a.k_Hand dx<|kj "held" (.ref J) [])):=z8;have k1:upd H1 x (.ins a.k_Hand dx<|kj "held" (.ref J) []) x=some (.ins a.k_Hand dx [("held",.ref J)]):=qC;have l1:=qHb (o:=.ins a.k_Hand dx<|kj "held" (.ref J) [])<|e1 _ _ hx;generalize upd H1 x (.ins a.k_Hand dx<|kj "held" (.ref J) [])=J1 at s1 k1 l1⊢;show#[_,rfl,re,kvs,rfl,s1 _ _ (xt al hx (by intro z;cases z))<|e1 _ _ al,λF aa=>?_];have w2:=qE aa<|.dK kvs;show#[_,O,x,_,dx,_,O,w2 _ _ k1,T.cl_Hand,T.na_Hand_reels,show 1<1000 by decide,?_];have s2:SB x (upd J1 F<|.dK kvs) (upd (upd J1 F<|.dK kvs) x (.ins a.k_Hand dx<|kj "reels" (.ref F) [("held",.ref J)])):=z8;have k2:upd (upd J1 F<|.dK kvs) x (.ins a.k_Hand dx<|kj "reels" (.ref F) [("held",.ref J)]) x=some (.ins a.k_Hand dx [("held",.ref J),("reels",.ref F)]):=by rw[qC];rfl
 have l2:=qHb (o:=.ins a.k_Hand dx<|kj "reels" (.ref F) [("held",.ref J)])<|w2 _ _ k1;have kr:=s2 _ _ (qW k1 aa).symm qC;generalize upd (upd J1 F<|.dK kvs) x (.ins a.k_Hand dx<|kj "reels" (.ref F) [("held",.ref J)])=J2 at s2 k2 l2 kr⊢;show#[sL0,λdl ad=>?_];have w3:=qE ad<|.lst [];show#[_,O,x,_,dx,_,O,w3 _ _ k2,T.cl_Hand,T.na_Hand_done,show 2<1000 by decide,?_];have s3:SB x (upd J2 dl<|.lst []) (upd (upd J2 dl<|.lst []) x (.ins a.k_Hand dx<|kj "done" (.ref dl) [("held",.ref J),("reels",.ref F)])):=z8;have k3:upd (upd J2 dl<|.lst []) x (.ins a.k_Hand dx<|kj "done" (.ref dl) [("held",.ref J),("reels",.ref F)]) x=some (.ins a.k_Hand dx [("held",.ref J),("reels",.ref F),("done",.ref dl)]):=by rw[qC];rfl
 have l3:=qHb (o:=.ins a.k_Hand dx<|kj "done" (.ref dl) [("held",.ref J),("reels",.ref F)])<|w3 _ _ k2;have kd:=s3 _ _ (qW k2 ad).symm qC;generalize upd (upd J2 dl<|.lst []) x (.ins a.k_Hand dx<|kj "done" (.ref dl) [("held",.ref J),("reels",.ref F)])=J3 at s3 k3 l3 kd⊢;show#[sL0,λul ac=>?_];have w4:=qE ac<|.lst [];show#[_,O,x,_,dx,_,O,w4 _ _ k3,T.cl_Hand,T.na_Hand_undone,show 3<1000 by decide,?_];have s4:SB x (upd J3 ul<|.lst []) (upd (upd J3 ul<|.lst []) x (.ins a.k_Hand dx<|kj "undone" (.ref ul) [("held",.ref J),("reels",.ref F),("done",.ref dl)])):=z8;have k4:upd (upd J3 ul<|.lst []) x (.ins a.k_Hand dx<|kj "undone" (.ref ul) [("held",.ref J),("reels",.ref F),("done",.ref dl)]) x=some (.ins a.k_Hand dx<|hfs J F dl ul):=by rw[qC];rfl
 have l4:=qHb (o:=.ins a.k_Hand dx<|kj "undone" (.ref ul) [("held",.ref J),("reels",.ref F),("done",.ref dl)])<|w4 _ _ k3;have ku:=s4 _ _ (qW k3 ac).symm qC;generalize upd (upd J3 ul<|.lst []) x (.ins a.k_Hand dx<|kj "undone" (.ref ul) [("held",.ref J),("reels",.ref F),("done",.ref dl)])=J4 at s4 k4 l4 ku⊢;have am:LT H1 J2:=l1.trans<|(LT.of w2).trans l2;have ao:LT J2 J4:=((LT.of w3).trans l3).trans<|(LT.of w4).trans l4;have as:∀b,J2 b=none->b≠x:=λb hb z=>by rw[z,k2]at hb;cases hb
 have af:SB x H J2:=(vF e1).trans (s1.trans<|(vF w2).trans s2);have ag:SB x J2 J3:=(vF w3).trans s3;have ai:H dl=none:=af.free (as _ ad) ad;have an:ul≠x:=λz=>by rw[z,k3]at ac;cases ac
 have ap:H ul=none:=(af.trans ag).free an ac;have ak:H F=none:=((vF e1).trans s1).free (λz=>by rw[z,k1]at aa;cases aa) aa;have aj:∀{b:Addr} {o:HO},H1 b=some o->J2 b=some o->(∀C dx fs,o≠ .ins C dx fs)->b∉[x,dl,ul]:=λ{b o} h1 h2 ho hm=>by
  simp only[YU,ZE,or_false]at hm;rcases hm with rfl|rfl|rfl
  . rw[k2]at h2;show ho _ _ _ (Yb h2).symm
  . rw[ad]at h2;cases h2
  . have:=ag _ _ an h2;rw[ac]at this;cases this
 show kk J F dl ul J4 (af.trans (ag.trans<|(vF w4).trans s4)) #[k4,s4 _ _ (xt kd k3 (by intro z;cases z))<|w4 _ _ kd,ku,qW kd ac] (λY hY=>aq.own ar (λb xs n q=>?_) λb xs q=>?_) (s4 _ _ (xt kr k2 (by intro z;cases z)) (w4 _ _ (s3 _ _ (xt kr k2 (by intro z;cases z))<|w3 _ _ kr))) (λb hb=>?_)
 . have q2:=am.l _ _ q
   rw[xE λae=>?_]
   . show ao.l _ _ q2
   . have no:=aj q q2 (by intro _ _ _ z;cases z)
     have ah:b∈Y:=by simp only[YU,ZE,or_false,not_or]at ae no;show((ae.resolve_left no.1).resolve_left no.2.1).resolve_left no.2.2
     rcases hY b ah with ⟨_,z⟩|⟨_,z⟩ <;> (rw[n]at z;cases z)
 . have q2:=am.t _ _ q
   rw[xE λae=>?_]
   . show ao.t _ _ q2
   . have no:=aj q q2 (by intro _ _ _ z;cases z)
     have ah:b∈Y:=by simp only[YU,ZE,or_false,not_or]at ae no;show((ae.resolve_left no.1).resolve_left no.2.1).resolve_left no.2.2
     rcases hY b ah with ⟨_,z⟩|⟨_,z⟩ <;> (rw[e1 _ _ z]at q;cases q)
 . simp only[YU,ZE,or_false]at hb
   rcases hb with rfl|rfl|rfl
   . show ak
   . show ai
   . show ap
def jBl{G:Hp}{C h re:Addr}{dn un:LV}{o1 o2:Obj}(hh:G h=some (.ins C dx<|hfs tz re dl ul))(h1:G dl=some (.frz o1<|.lst dn))(h2:G ul=some (.frz o2<|.lst un)){b:Addr}(F:G b=some o)(n1:∀C dx fs,o≠ .ins C dx fs)(n2:∀x u,o≠ .frz x u):b∉[h,dl,ul]:=λJ=>by
 simp only[YU,ZE,or_false]at J;rcases J with rfl|rfl|rfl
 . rw[hh]at F;show n1 _ _ _ (Yb F).symm
 . rw[h1]at F;show n2 _ _ (Yb F).symm
 . rw[h2]at F;show n2 _ _ (Yb F).symm
def qZ0{G:Hp}{C h re:Addr}{dn J:LV}(F:HdA H C h dx tz re dl ul dn J){o1 o2:Obj}(e:Same (upd (upd H dl (.frz o1<|.lst dn)) ul (.frz o2<|.lst J)) G):
 G ul=some (.frz o2<|.lst J)/\upd G ul (.lst J) dl=some (.frz o1<|.lst dn)/\Same H (upd (upd G ul<|.lst J) dl<|.lst dn)/\LT G (Mk [h,dl,ul] (upd (upd G ul<|.lst J) dl<|.lst dn)):=by
 have aa:h≠dl:=xt F.i F.d (by intro z;cases z);have ac:h≠ul:=xt F.i F.u (by intro z;cases z);have gu:G ul=some (.frz o2<|.lst J):=e _ _ qC;have gd:G dl=some (.frz o1<|.lst dn):=e _ _ (by rw[qS F.ne];show qC);have gh:G h=some (.ins C dx<|hfs tz re dl ul):=e _ _ (by rw[qS ac,qS aa];show F.i);have st:∀b o,G b=some o->b∉[h,dl,ul]->Mk [h,dl,ul] (upd (upd G ul<|.lst J) dl<|.lst dn) b=some o:=λb o hb hn=>by rw[xE hn];simp only[YU,ZE,or_false,not_or]at hn;rw[qS hn.2.1,qS hn.2.2];show hb
 show#[gu,by rw[qS F.ne];show gd,λb u hb=>?_,λb xs q=>st b _ q (jBl gh gd gu q (by intro _ _ _ z;cases z) (by intro _ _ z;cases z)),λb xs q=>st b _ q (jBl gh gd gu q (by intro _ _ _ z;cases z) (by intro _ _ z;cases z))];by_cases b1:b=dl
 . subst b1;rw[F.d]at hb;cases hb;show qC
 . rw[qS b1]
   by_cases b2:b=ul
   . subst b2;rw[F.u]at hb;cases hb;show qC
   . rw[qS b2]
     show e _ _ (by rw[qS b2,qS b1];show hb)
def qFn{G:Hp}{h:Addr}{X1 X2:HO}(e:Same (Mk [h,dl,ul] H) G):Same (Mk [h,dl,ul] H) (upd (upd G dl X1) ul X2):=λb u F=>by
 have J:b≠dl:=λz=>by subst z;delta Mk at F;rw[YB #[]]at F;cases F
 have n2:b≠ul:=λz=>by subst z;delta Mk at F;rw[YB #[]]at F;cases F
 rw[qS n2,qS J];show e _ _ F
inductive qI8(C N M S:Addr)(vs:LV)(H:Hp)(Q:VK)(E:XK):Prop
|mk (h dx tz re dl ul dz:Addr) (dn un:LV) (rl:Rls) (ts:LL) (tie:LN) (n:Nat) (ms:LI) (d:De) (r:Res) (l:Int) (_:vs=[.ref h,.ref dz]) (_:HdA H C h dx tz re dl ul dn un) (_:dn.length<=100) (_:TabD (Mk [h,dl,ul] H) tz re rl ts tie) (_:ts[n]?=some ms) (_:DeAt (Mk [h,dl,ul] H) dz n d) (_:DeOk (Mk [h,dl,ul] H) re ms d) (_:r=zI rl ts tie n ms d) (_:(r=.place->∀H',Same H H'->E (.ref N) none H')) (_:(r=.mixed->∀H',Same H H'->E (.ref M) none H')) (_:(∀m,r=.short m->∀(dx:Addr) (H':Hp),Same H H'->H' dx=some (.xd [("most",.int m)])->E (.ref S) (some dx) H')) (_:(∀ts',r=.good ts'->(∀t,d=.unm t->∃i:Nat,cbF ms t=some ((i:Int),((i+2:Nat):Int))/\ms[i+1]?=some (.mix l))/\(∀e,d=.chg e->0<=e.t/\e.t<=2 ^ 500)/\Bd ts' tie/\∀(t tz' q y:Addr) (B H':Hp),(∀b u,b≠h->b≠dl->H b=some u->B b=some u)->HdA B C h dx tz' re dl ul (dn++[.ref q]) un->B q=some (.tup [.ref dz,.ref y])->TabF (Mk [h,dl,ul] B) (.ref tz') ts' tie->DL (Mk [h,dl,ul] B) y (qGr ts tie n l d)->Same B H'->TabF H' (.ref t) ts' tie->FrT B H' t->Q (.ref t) H'))
def qBn:Fy P w mg base T.D96 12 (qI8 a.k_Hand a.k_NoPlace a.k_Mixed a.k_Short):=by
 rcases oX T.D96.F,qDh with⟨h,dx,tz,re,dl,ul,dz,dn,un,rl,ts,tie,n,ms,d,r,l,rfl,J,az,hP,hm,hA,hO,hR,k0,k1,k4,k2⟩;exists #[qc 2 (xA T.D75 qM8 [x8 0 rfl,1,x8 0 rfl]),qFx 0 (qC5 (qC5 (xA T.D69 xf [x8 0 rfl,1,x8 0 rfl]))) rfl,qt (vd XA XB XC jN (x8 0 rfl) [qZ [1,2]]),qL (qCc 0 T.cl_Hand T.D100 (xc T) hr)]
 have hh:=J.i;show#[_,O,h,_,dx,_,_,O,hh,T.cl_Hand,T.na_Hand_held,O,_,O,_,O,h,_,dx,_,_,O,hh,T.cl_Hand,T.na_Hand_reels,O,tz,dz,re,rl,ts,tie,n,ms,d,r,l,O,hP.same mk_same,hm,hA.same mk_same,hO.same mk_same,hR,k0,k1,k4,λts' er=>?_];ext;let#[c1,c2,c3,kk]:=k2 ts' er;symm;show#[c1,c2,λy H1 e1 hy av=>?_];have aa:HdA H1 a.k_Hand h dx tz re dl ul dn un:=#[e1 _ _ J.i,e1 _ _ J.d,e1 _ _ J.u,J.ne];have ag:h≠dl:=xt J.i J.d (by intro z;cases z);have ao:h≠ul:=xt J.i J.u (by intro z;cases z);have em:Same (Mk [h,dl,ul] H) H1:=mk_same.trans e1;show#[dl,dn,aa.d,λo1=>#[ul,un,by rw[qS J.ne.symm];show aa.u,λo2=>?_]];have es:=qFn (X1:=.frz o1<|.lst dn) (X2:=.frz o2<|.lst un) em;have ai:upd (upd H1 dl (.frz o1<|.lst dn)) ul (.frz o2<|.lst un) h=some (.ins a.k_Hand dx<|hfs tz re dl ul):=by rw[qS ao,qS ag];show aa.i
 show#[_,rfl,h,_,dx,_,_,rfl,ai,T.cl_Hand,T.na_Hand_held,rfl,_,rfl,_,rfl,h,_,dx,_,_,rfl,ai,T.cl_Hand,T.na_Hand_reels,rfl,tz,dz,re,rl,ts,tie,r,rfl,hP.same es,#[n,ms,d,hm,hA.same es,hO.same es,hR],(λz=>by rw[er]at z;cases z),(λz=>by rw[er]at z;cases z),(λm z=>by rw[er]at z;cases z),λaq aj t' H2 e2 ak=>?_];obtain rfl:ts'=aq:=by rw[er]at aj;cases aj;rfl
 ext;let#[g1,g2,e3,an]:=qZ0 aa e2;symm;show#[g1,g2,?_];have ap:=an.tab ak;generalize upd (upd H2 ul<|.lst un) dl (.lst dn)=H3 at e3 ap⊢;clear ai es e2 g1 g2 an ak;have ac:=e1.trans e3;show#[_,O,h,_,dx,_,O,ac _ _ J.i,T.cl_Hand,T.na_Hand_held,show 4<1000 by decide,?_];have s4:SB h H3 (upd H3 h<|.ins a.k_Hand dx (kj "held" (.ref t')<|hfs tz re dl ul)):=z8;have k4:upd H3 h (.ins a.k_Hand dx (kj "held" (.ref t')<|hfs tz re dl ul)) h=some (.ins a.k_Hand dx<|hfs t' re dl ul):=by rw[qC];rfl
 generalize upd H3 h (.ins a.k_Hand dx (kj "held" (.ref t')<|hfs tz re dl ul))=H4 at s4 k4⊢;have ah:=s4 _ _ ag.symm<|ac _ _ J.d;have as:=s4 _ _ ao.symm<|ac _ _ J.u;show#[_,O,h,_,dx,_,_,O,k4,T.cl_Hand,T.na_Hand_done,O,.inl #[O,_,SqL.of ah],_,O,_,O,sL2,λq hq=>?_];have w5:=qE hq<|.tup [.ref dz,.ref y];show#[dl,dn,_,O,O,w5 _ _ ah,qf (),?_];have s6:SB dl (upd H4 q<|.tup [.ref dz,.ref y]) (upd (upd H4 q<|.tup [.ref dz,.ref y]) dl (.lst<|dn++[.ref q])):=z8;have k6:upd (upd H4 q<|.tup [.ref dz,.ref y]) dl (.lst<|dn++[.ref q]) dl=some (.lst<|dn++[.ref q]):=qC;have kq:=s6 _ _ (qW ah hq).symm qC;generalize upd (upd H4 q<|.tup [.ref dz,.ref y]) dl (.lst<|dn++[.ref q])=H6 at s6 k6 kq⊢;have ae:=s6 _ _ ag<|w5 _ _ k4;have ar:=s6 _ _ J.ne.symm<|w5 _ _ as;have ad:∀b u,b≠h->b≠dl->H3 b=some u->H6 b=some u:=λb u n1 n2 hb=>s6 _ _ n2 (w5 _ _<|s4 _ _ n1 hb);have af:Same (Mk [h,dl,ul] H3) (Mk [h,dl,ul] H6):=qCk λb u hn hb=>#[hn,by simp only[YU,ZE,or_false,not_or]at hn;show ad b u hn.1 hn.2.1 hb]
 have al:=ap.same af;show#[_,O,h,_,_,O,ae,O,h,dx,t',re,dl,ul,ts',tie,O,ae,al.same mk_same,c3,λt H9 e9 aw ay=>?_];have ny:y∉[h,dl,ul]:=λhm=>by
  simp only[YU,ZE,or_false]at hm;rcases hm with rfl|rfl|rfl
  . rw[J.i]at hy;cases hy
  . rw[J.d]at hy;cases hy
  . rw[J.u]at hy;cases hy
 have aA:LT H1 H3:=LT.of e3;ext;let#[vs,au,ax]:=av;symm;have am:DL (Mk [h,dl,ul] H6) y (qGr ts tie n l d):=by
  show#[vs,?_,ax.ts λb xs q=>?_]
  . show af _ _ (by rw[xE ny];show e3 _ _ au)
  . show af _ _ ?_
    have q3:=e3 _ _ q;have nb:b∉[h,dl,ul]:=λhm=>by
     simp only[YU,ZE,or_false]at hm;rcases hm with rfl|rfl|rfl
     . rw[aa.i]at q;cases q
     . rw[aa.d]at q;cases q
     . rw[aa.u]at q;cases q
    rw[xE nb];show q3
 show kk t t' q y H6 H9 (λb u n1 n2 hb=>ad b u n1 n2<|ac _ _ hb) #[ae,k6,ar,J.ne] kq al am e9 aw ay
inductive vJ(C N M S:Addr)(vs:LV)(H:Hp)(Q:VK)(E:XK):Prop
|mk (h dx tz re dl ul dz:Addr) (dn un:LV) (rl:Rls) (ts:LL) (tie:LN) (n:Nat) (ms:LI) (d:De) (r:Res) (l:Int) (_:vs=[.ref h,.ref dz]) (_:HdA H C h dx tz re dl ul dn un) (_:dn.length<=100) (_:TabD (Mk [h,dl,ul] H) tz re rl ts tie) (_:ts[n]?=some ms) (_:DeAt (Mk [h,dl,ul] H) dz n d) (_:DeOk (Mk [h,dl,ul] H) re ms d) (_:r=zI rl ts tie n ms d) (_:(r=.place->∀H',Same H H'->E (.ref N) none H')) (_:(r=.mixed->∀H',Same H H'->E (.ref M) none H')) (_:(∀m,r=.short m->∀(dx:Addr) (H':Hp),Same H H'->H' dx=some (.xd [("most",.int m)])->E (.ref S) (some dx) H')) (_:(∀ts',r=.good ts'->(∀t,d=.unm t->∃i:Nat,cbF ms t=some ((i:Int),((i+2:Nat):Int))/\ms[i+1]?=some (.mix l))/\(∀e,d=.chg e->0<=e.t/\e.t<=2 ^ 500)/\Bd ts' tie/\∀(t tz' q y ul':Addr) (B H':Hp),(∀b u,b≠h->b≠dl->H b=some u->B b=some u)->HdA B C h dx tz' re dl ul' (dn++[.ref q]) []->H ul'=none->B q=some (.tup [.ref dz,.ref y])->TabF (Mk [h,dl,ul'] B) (.ref tz') ts' tie->DL (Mk [h,dl,ul'] B) y (qGr ts tie n l d)->Same B H'->TabF H' (.ref t) ts' tie->FrT B H' t->Q (.ref t) H'))
def qNl:Fy P w mg base T.D97 13 (vJ a.k_Hand a.k_NoPlace a.k_Mixed a.k_Short):=by
 rcases oX T.D97.F,qHf with⟨h,dx,tz,re,dl,ul,dz,dn,un,rl,ts,tie,n,ms,d,r,l,rfl,hH,ao,hP,hm,hA,hO,hR,k0,k1,k4,k2⟩;exists #[qc 2 (qV1 0 T.cl_Hand T.D96 (qBn T) hr [1]),qFx 0 (qr qB) rfl,qL 2]
 show#[_,O,h,_,_,O,hH.i,O,_,O,h,dx,tz,re,dl,ul,dz,dn,un,rl,ts,tie,n,ms,d,r,l,O,hH,ao,hP,hm,hA,hO,hR,k0,k1,k4,λts' er=>?_];ext;let#[c1,c2,c3,kk]:=k2 ts' er;symm;show#[c1,c2,c3,λt ag q y B1 H1 fr ad hq hT hD eB ap hF=>?_];show#[sL0,λF aa=>?_];have ae:=eB _ _ ad.i;have w2:=qE aa<|.lst [];show#[_,O,h,_,dx,_,O,w2 _ _ ae,T.cl_Hand,T.na_Hand_undone,show 4<1000 by decide,?_];have J:=eB.free aa;have am:h≠dl:=xt hH.i hH.d (by intro z;cases z);have ai:F≠h:=λz=>by rw[z,ae]at aa;cases aa
 let#[o,ho]:∃o,o=HO.ins a.k_Hand dx (kj "undone" (.ref F)<|hfs ag re dl ul):=#[_,rfl];have k3:upd (upd B1 F<|.lst []) h o h=some (.ins a.k_Hand dx<|hfs ag re dl F):=by rw[qC,ho];rfl
 have ac:∀b u,b≠h->B1 b=some u->upd (upd B1 F<|.lst []) h o b=some u:=λb u n1 hb=>by rw[qS n1];show qE J _ _ _ hb
 have ku:upd (upd B1 F<|.lst []) h o F=some (.lst []):=by rw[qS ai];show qC
 have al:LT B1 (upd (upd B1 F<|.lst []) h o):=(LT.of<|qE J _).trans (qHb<|qE J _ _ _ ad.i);have af:LT H1 (upd (upd H1 F<|.lst []) h o):=(LT.of w2).trans (qHb<|w2 _ _ ae);have an:Same (upd (upd B1 F<|.lst []) h o) (upd (upd H1 F<|.lst []) h o):=λb u hb=>by
  by_cases n1:b=h
  . subst n1;rw[qC]at hb⊢;show hb
  . rw[qS n1]at hb⊢
    by_cases n2:b=F
    . subst n2;rw[qC]at hb⊢;show hb
    . rw[qS n2]at hb⊢;show eB _ _ hb
 have ah:Same (Mk [h,dl,ul] B1) (Mk [h,dl,F]<|upd (upd B1 F<|.lst []) h o):=qCk λb u hn hb=>by simp only[YU,ZE,or_false,not_or]at hn⊢;show#[#[hn.1,hn.2.1,qW hb J],ac b u hn.1 hb]
 have ak:FrT (upd (upd B1 F<|.lst []) h o) (upd (upd H1 F<|.lst []) h o) t:=(hF.dom λb xs n hb=>by rw[qS (xt hb ae (by intro z;cases z)),qS<|qW hb aa];show n).lt af
 have aj:H F=none:=by
  cases hx:H F with
  |none=>rfl
  |some u=>
   by_cases n2:F=dl
   . rw[n2,ad.d]at J;cases J
   . have:=fr _ u ai n2 hx;rw[J]at this;cases this
 rw[<-ho];show#[_,O,kk t ag q y F _ _ (λb u n1 n2 hb=>ac b u n1<|fr b u n1 n2 hb) #[k3,ac _ _ am.symm ad.d,ku,qW ad.d J] aj (al.t _ _ hq) (hT.same ah) (hD.same ah) an (af.tab ap) ak]
theorem IsRw.get{H:Hp}:∀{ds:List<|Nat×De} {vs:LV} {i:Nat} {x:V},IsRw H ds vs->vs[i]?=some x->∃(g:Addr) (d:Nat×De),x=.ref g/\ds[i]?=some d/\DeAt H g d.1 d.2
 |[],[],_,_,_,h=>by cases h
 |d::_,_::_,0,_,h,e=>by let#[g,rfl,F]:=h.1;cases e;show#[g,d,rfl,rfl,F]
 |_::_,_::_,i+1,_,h,e=>IsRw.get (i:=i) h.2 e
 |[],_::_,_,_,h,_=>h.elim
 |_::_,[],_,_,h,_=>h.elim
def GoN(A:Rg)(tie:LN)(L:Nat)(ts:LL)(row:List<|Nat×De)(ts0:LL):Prop:=Gone (rlE A) tie (AllG (GB A 434 98 840) L) (OkB A 840 450) ts row ts0
def zM(C O9:Addr):Sp:=λvs H Q E=>(∃(h dx tz re dl ul:Addr) (un:LV),vs=[.ref h]/\HdA H C h dx tz re dl ul [] un/\∀H',Same H H'->E (.ref O9) none H')\/
 ∃(h dx tz re dl ul q dz y:Addr) (dn un:LV) (A:Rg) (L:Nat) (ts ts0:LL) (tie:LN) (row:List<|Nat×De),vs=[.ref h]/\HdA H C h dx tz re dl ul (dn++[.ref q]) un/\un.length<=100/\dn.length<=100/\H q=some (.tup [.ref dz,.ref y])/\DL (Mk [h,dl,ul] H) y row/\TabF (Mk [h,dl,ul] H) (.ref tz) ts tie/\RE (Mk [h,dl,ul] H) re A/\GoN A tie L ts row ts0/\L<=3/\tie.length<=3/\(∀x∈tie,∃k:Nat,x=(k:Int)/\k<L)/\Bd ts0 tie/\
  ∀(t tz':Addr) (B H':Hp),(∀b u,b∉[h,dl,ul]->H b=some u->B b=some u)->HdA B C h dx tz' re dl ul dn (un++[.ref dz])->TabF (Mk [h,dl,ul] B) (.ref tz') ts0 tie->Same B H'->TabF H' (.ref t) ts0 tie->FrT B H' t->Q (.ref t) H'
def qIj:Fy P w mg base T.D98 12 (zM a.k_Hand a.k_NoOrder):=by
 show okX T.D98.F x6 (λvs H Q E h=>?_) (λcdv A aC s H vs Q E hr h=>?_)
 . rcases h with ⟨h,dx,tz,re,dl,ul,un,rfl,_⟩|⟨h,dx,tz,re,dl,ul,q,dz,y,dn,un,A,L,ts,aj,tie,ar,rfl,_⟩
   . rfl
   . rfl
 show#[_,(qD (qh (qM jP (qg jE rfl T.b_len rfl<|qA (x8 (pv 0) rfl) qB) qH<|qP _) (qF (xZ rfl rfl T.c_NoOrder T.x_NoOrder<|qA qQ qB)) qO)
  (qD (qc 1 x6.nd (jI qk (x8 (pv 0) rfl) (qA0 zX qH) (λ_ _=>rfl)))
  (qD (qc 2 x6.nd<|x8 (pv 0) rfl)
  (qD (zZ (qY6 rfl rfl rfl rfl) rfl (jh (qJ<|pv 1)) (jB (i:=3) x6.nd rfl<|Or.inl rfl) (qF<|qc 2 x6.nd (qC5<|qC5 (xA T.D69 (xf T) hr rfl<|qA (pv 2) (qA (pv 3)<|qA (x8 (pv 0) rfl) qB)))))
  (qD (qFx (pv 0) (pv 2) rfl)
  (qD (qt (qO6 XA F.slot_list_pop F.type_list_pop qV7<|x8 (pv 0) rfl))
  (qD (qt (vd XA XB XC jN (x8 (pv 0) rfl)<|qA (qJ<|pv 1) qB))
  (qF (qL<|qCc (pv 0) T.cl_Hand T.D100 (xc T) hr))))))))),?_]
 try dsimp only[jK,qi]
 rcases h with ⟨h,dx,tz,re,dl,ul,un,rfl,J,ke⟩|⟨h,dx,tz,re,dl,ul,q,dz,y,dn,un,A1,L,ts,aj,tie,ar,rfl,J,aL,aK,hq,aB,hT,ax,av,hL,ay,an,aE,kk⟩
 . show#[_,O,h,_,dx,_,_,O,J.i,T.cl_Hand,T.na_Hand_done,O,dl,[],O,.inl<|SqL.of J.d,O,true,O,ju #[#[],ke H<|Same.refl H]]
 have ah:h≠dl:=xt J.i J.d (by intro z;cases z);have al:h≠ul:=xt J.i J.u (by intro z;cases z);have n0:¬(V.int ((dn++[V.ref q]).length:Int)=V.int 0):=λz=>by have z:((dn++[V.ref q]).length:Int)=0:=V.int.inj z;rw[YN,Yy]at z;lia
 show#[_,O,h,_,dx,_,_,O,J.i,T.cl_Hand,T.na_Hand_done,O,dl,_,O,.inl<|SqL.of J.d,O,false,XF V.bl<|YW n0,jH ?_];show#[_,O,h,_,dx,_,_,O,J.i,T.cl_Hand,T.na_Hand_done,O,_,O,dl,_,_,_,O,O,SqL.of J.d,qOe dn _,?_];show#[_,O,h,_,dx,_,_,O,J.i,T.cl_Hand,T.na_Hand_held,O,?_];ext;let#[vs,aq,as]:=id aB;symm;show(ixO hq at1 #[y,O,#[_,SqL.of<|mk_same _ _ aq],xY (K:=K) (a:=y) (xs:=vs) (λi σ H'=> ∃(tb:Addr) (ac:LL) (o:Option V),σ=[some<|.ref h,some<|.ref q,some<|.ref tb,o]/\Same H H'/\TabF (Mk [h,dl,ul] H') (.ref tb) ac tie/\GoN A1 tie L ac (ar.drop i) aj) #[tz,ts,none,O,Same.refl _,hT,av] ?_ ?_ ?_])
 . rintro i σ H' hi ⟨tb,ac,o,rfl,e,_⟩
   show SqL.of (e _ _<|mk_same _ _ aq)
 . rintro i x σ H1 hx ⟨tb,ac,o,rfl,e1,ak,aa⟩
   ext;let#[g,nd,rfl,aI,aH]:=as.get hx;let#[n',d']:=nd;symm;delta GoN at aa;rw[jy aI]at aa;have ad:HdA H1 a.k_Hand h dx tz re dl ul (dn++[.ref q]) un:=#[e1 _ _ J.i,e1 _ _ J.d,e1 _ _ J.u,J.ne];have em:Same (Mk [h,dl,ul] H) (Mk [h,dl,ul] H1):=qCk λb u hn hb=>#[hn,e1 _ _ hb];cases aa with
   | @cons _ ts1 _ _ ms' _ _ g' o' hm' r' h'=>
    show#[dl,_,ad.d,λo1=>#[ul,un,by rw[qS J.ne.symm];show ad.u,λo2=>?_]];have es:=qFn (X1:=.frz o1 (.lst<|dn++[.ref q])) (X2:=.frz o2<|.lst un)<|mk_same (X:=[h,dl,ul]) (H:=H1);have aF:upd (upd H1 dl<|.frz o1 (.lst<|dn++[.ref q])) ul (.frz o2<|.lst un) h=some (.ins a.k_Hand dx<|hfs tz re dl ul):=by rw[qS al,qS ah];show ad.i
    have af:=(ax.same em).same es;show#[_,rfl,_,rfl,_,rfl,h,_,dx,_,_,rfl,aF,T.cl_Hand,T.na_Hand_reels,rfl,tb,g,re,rlE A1,ac,tie,.good ts1,rfl,qTj g' #[] #[] hL ay an (ak.same es) af,#[n',ms',d',hm',(aH.same em).same es,qZt o' (g'.2 ms'<|YF hm') #[] #[] af,r'.symm],(λz=>by cases z),(λz=>by cases z),(λm z=>by cases z),λaJ er t' H2 e2 aw=>?_];ext;cases er;let#[g1,g2,e3,az]:=qZ0 ad e2;symm;show#[g1,g2,t',ts1,_,O,e1.trans e3,az.tab aw,h']
 . rintro σ H1 ⟨tb,ac,o,rfl,e1,ak,aa⟩
   delta GoN at aa;rw[as.len,ZJ]at aa;cases aa;show#[_,O,_,O,h,_,dx,_,O,e1 _ _ J.i,T.cl_Hand,T.na_Hand_held,show 4<1000 by decide,?_];have s4:SB h H1 (upd H1 h<|.ins a.k_Hand dx (kj "held" (.ref tb)<|hfs tz re dl ul)):=z8;have k4:upd H1 h (.ins a.k_Hand dx (kj "held" (.ref tb)<|hfs tz re dl ul)) h=some (.ins a.k_Hand dx<|hfs tb re dl ul):=by rw[qC];rfl
   generalize upd H1 h (.ins a.k_Hand dx (kj "held" (.ref tb)<|hfs tz re dl ul))=H4 at s4 k4⊢;have ai:=s4 _ _ ah.symm<|e1 _ _ J.d;have aA:=s4 _ _ al.symm<|e1 _ _ J.u;have ao:=s4 _ _ (xt hq J.i (by intro z;cases z))<|e1 _ _ hq;show#[_,O,h,_,dx,_,_,O,k4,T.cl_Hand,T.na_Hand_done,O,.inl #[O,_,SqL.of ai],dl,_,.ref q,O,O,ai,#[],?_];have s5:SB dl H4 (upd H4 dl<|.lst (dn++[V.ref q]).dropLast):=z8;have k5:upd H4 dl (.lst (dn++[V.ref q]).dropLast) dl=some (.lst dn):=by rw[qC,List.dropLast_concat]
   generalize upd H4 dl (.lst (dn++[V.ref q]).dropLast)=H5 at s5 k5⊢;have au:=s5 _ _ ah k4;have am:=s5 _ _ J.ne.symm aA;show#[_,rfl,h,_,dx,_,_,rfl,au,T.cl_Hand,T.na_Hand_undone,rfl,.inl #[rfl,_,SqL.of am],z7 rfl (SqT.of (s5 _ _ (xt ao ai (by intro z;cases z)) ao)) at0 #[ul,un,_,rfl,rfl,am,qf (),?_]];have s6:SB ul H5 (upd H5 ul (.lst<|un++[.ref dz])):=z8;have k6:upd H5 ul (.lst<|un++[.ref dz]) ul=some (.lst<|un++[.ref dz]):=qC;generalize upd H5 ul (.lst<|un++[.ref dz])=H6 at s6 k6⊢;have ag:=s6 _ _ al au;have ae:∀b u,b∉[h,dl,ul]->H1 b=some u->H6 b=some u:=λb u hn hb=>by simp only[YU,ZE,or_false,not_or]at hn;show s6 _ _ hn.2.2 (s5 _ _ hn.2.1<|s4 _ _ hn.1 hb)
   have ap:=ak.same (qCk λb u hn hb=>#[hn,ae b u hn hb]);show#[_,O,h,_,_,O,ag,O,h,dx,tb,re,dl,ul,aj,tie,O,ag,ap.same mk_same,aE,λt H9 e9 aD aG=>?_];show kk t tb H6 H9 (λb u hn hb=>ae b u hn<|e1 _ _ hb) #[ag,s6 _ _ J.ne k5,k6,J.ne] ap e9 aD aG
def zO(C O9:Addr):Sp:=λvs H Q E=>(∃(h dx tz re dl ul:Addr) (dn:LV),vs=[.ref h]/\HdA H C h dx tz re dl ul dn []/\∀H',Same H H'->E (.ref O9) none H')\/
 ∃(h dx tz re dl ul dz:Addr) (dn un:LV) (rl:Rls) (ts ts':LL) (tie:LN) (n:Nat) (ms:LI) (d:De) (l:Int),vs=[.ref h]/\HdA H C h dx tz re dl ul dn (un++[.ref dz])/\dn.length<=100/\un.length<=100/\TabD (Mk [h,dl,ul] H) tz re rl ts tie/\ts[n]?=some ms/\DeAt (Mk [h,dl,ul] H) dz n d/\DeOk (Mk [h,dl,ul] H) re ms d/\zI rl ts tie n ms d=.good ts'/\
  (∀t,d=.unm t->∃i:Nat,cbF ms t=some ((i:Int),((i+2:Nat):Int))/\ms[i+1]?=some (.mix l))/\(∀e,d=.chg e->0<=e.t/\e.t<=2 ^ 500)/\Bd ts' tie/\
  ∀(t tz' q y:Addr) (B H':Hp),(∀b u,b∉[h,dl,ul]->H b=some u->B b=some u)->HdA B C h dx tz' re dl ul (dn++[.ref q]) un->B q=some (.tup [.ref dz,.ref y])->TabF (Mk [h,dl,ul] B) (.ref tz') ts' tie->DL (Mk [h,dl,ul] B) y (qGr ts tie n l d)->Same B H'->TabF H' (.ref t) ts' tie->FrT B H' t->Q (.ref t) H'
def qIe:Fy P w mg base T.D99 13 (zO a.k_Hand a.k_NoOrder):=by
 show okX T.D99.F qDs (λvs H Q E h=>?_) (λcdv A al s H vs Q E hr h=>?_)
 . rcases h with ⟨h,dx,tz,re,dl,ul,dn,rfl,_⟩|⟨h,dx,tz,re,dl,ul,dz,dn,un,rl,ts,ts',tie,n,ms,d,l,rfl,_⟩
   . rfl
   . rfl
 show#[_,(qD (qh (qM jP (qg jE rfl T.b_len rfl<|qA (x8 (pv 0) rfl) qB) qH<|qP _) (qF (xZ rfl rfl T.c_NoOrder T.x_NoOrder<|qA qQ qB)) qO)
  (qD (qc 1 qDs.nd (qV1 (pv 0) T.cl_Hand T.D96 (qBn T) hr (qA (jI qk (x8 (pv 0) rfl) (qA0 zX qH) (λ_ _=>rfl)) qB)))
  (qD (qt (qO6 XA F.slot_list_pop F.type_list_pop qV7<|x8 (pv 0) rfl))
  (qF (qL<|pv 1))))),?_]
 try dsimp only[jK,qi]
 rcases h with ⟨h,dx,tz,re,dl,ul,dn,rfl,hH,ke⟩|⟨h,dx,tz,re,dl,ul,dz,dn,un,rl,ts,ts',tie,n,ms,d,l,rfl,hH,ah,ap,hP,hm,hA,hO,hR,c1,c2,c3,kk⟩
 . show#[_,O,h,_,dx,_,_,O,hH.i,T.cl_Hand,T.na_Hand_undone,O,ul,[],O,.inl<|SqL.of hH.u,O,true,O,ju #[#[],ke H<|Same.refl H]]
 have ak:h≠ul:=xt hH.i hH.u (by intro z;cases z);have n0:¬(V.int ((un++[V.ref dz]).length:Int)=V.int 0):=λz=>by have z:((un++[V.ref dz]).length:Int)=0:=V.int.inj z;rw[YN,Yy]at z;lia
 show#[_,O,h,_,dx,_,_,O,hH.i,T.cl_Hand,T.na_Hand_undone,O,ul,_,O,.inl<|SqL.of hH.u,O,false,XF V.bl<|YW n0,jH ?_];show#[_,O,h,_,_,O,hH.i,O,_,O,h,_,dx,_,_,O,hH.i,T.cl_Hand,T.na_Hand_undone,O,_,O,ul,_,_,_,O,O,SqL.of hH.u,qOe un _,?_];show#[h,dx,tz,re,dl,ul,dz,dn,_,rl,ts,tie,n,ms,d,.good ts',l,rfl,hH,ah,hP,hm,hA,hO,hR.symm,(λz=>by cases z),(λz=>by cases z),(λm z=>by cases z),λao er=>?_];cases er;show#[c1,c2,c3,λt ai q y B1 H1 fr aa hq hT hD eB an hF=>?_];have ad:=eB _ _ aa.u;show#[_,O,h,_,dx,_,_,O,eB _ _ aa.i,T.cl_Hand,T.na_Hand_undone,O,.inl #[O,_,SqL.of ad],ul,_,.ref dz,O,O,ad,#[],?_];rw[List.dropLast_concat];have s2:SB ul B1 (upd B1 ul<|.lst un):=z8;have ac:SB ul H1 (upd H1 ul<|.lst un):=z8;have ae:Same (Mk [h,dl,ul] B1) (Mk [h,dl,ul] (upd B1 ul<|.lst un)):=qCk λb u hn J=>#[hn,s2 _ _ (λz=>hn (by rw[z];simp)) J];have aj:Same (upd B1 ul<|.lst un) (upd H1 ul<|.lst un):=λb u J=>by
  by_cases n1:b=ul
  . subst n1;rw[qC]at J⊢;show J
  . rw[qS n1]at J⊢;show eB _ _ J
 ext;let#[d1,l1,zs,ls,f1,f2,f3,f4,f5,f6,f7,f8,f9,ag,am]:=id hF;symm;have nz:∀{b:Addr},B1 b=none->b≠ul:=λJ z=>by rw[z,aa.u]at J;cases J
 have ft:=ac _ _ (xt f1 ad (by intro z;cases z)) f1;have af:TabF (upd H1 ul<|.lst un) (.ref t) ts' tie:=an.own hF (λb xs n q=>ac _ _ (nz n) q) λb xs q=>ac _ _ (xt q ad (by intro z;cases z)) q;have n2:∀{b:Addr},B1 b=none->upd B1 ul (.lst un) b=none:=λJ=>by rw[qS<|nz J];show J
 show#[_,rfl,kk t ai q y _ _ (λb u hn J=>s2 _ _ (λz=>hn (by rw[z];simp)) (fr b u (λz=>hn (by rw[z];simp)) (λz=>hn (by rw[z];simp)) J)) #[s2 _ _ ak aa.i,s2 _ _ hH.ne aa.d,qC,hH.ne] (s2 _ _ (xt hq aa.u (by intro z;cases z)) hq) (hT.same ae) (hD.same ae) aj af #[d1,l1,zs,ls,ft,ac _ _ (nz f4) f2,ac _ _ (nz f5) f3,n2 f4,n2 f5,f6,f7,f8,f9,ag,λz hz=>let #[a1,xs,a2,a3]:=am z hz;#[n2 a1,xs,ac _ _ (nz a1) a2,a3]]]
inductive qLt(C:Addr)(vs:LV)(H:Hp)(Q:VK)(_:XK):Prop
|mk (h dx tz re dl ul:Addr) (dn un gs:LV) (_:vs=[.ref h]) (_:HdA H C h dx tz re dl ul dn un) (_:dn.length=gs.length) (_:dn.length<=100) (_:(∀(i:Nat) (v g:V),dn[i]?=some v->gs[i]?=some g->∃q y,v=.ref q/\H q=some (.tup [g,y]))) (_:∀(l:Addr),H l=none->Q (.ref l) (upd H l (.lst gs)))
def qDp:Fm P w mg base T.D101 1 (qLt a.k_Hand):=by
 rcases oL T.D101.F,qLn with⟨h,dx,tz,re,dl,ul,dn,un,gs,rfl,hH,hl,ac,hg,kk⟩;exists #[qL (vz .nil .nil rfl (jh (x8 0 rfl)) (λ_ _ _ _=>(jI (qNp (K:=K) rfl) 0 qH)))]
 show#[_,O,h,_,dx,_,_,O,hH.i,T.cl_Hand,T.na_Hand_done,O,dl,O,#[_,SqL.of hH.d],kU (K:=K) (a:=dl) (xs:=dn) (λj F H'=>F=gs.take j/\H'=H) #[O,O] ?_ ?_ ?_]
 . rintro j F H' hj ⟨rfl,rfl⟩
   show#[SqL.of hH.d,qf (by rw[Yk];lia)]
 . rintro j x F H' hj hx ⟨rfl,rfl⟩
   ext;let#[g,J]:∃g,gs[j]?=some g:=#[_,YD ()];let#[q,y,rfl,hq]:=hg j x g hx J;symm;show(ixO hq at0 (Nxt.mk hj #[by rw[Yt,J];rfl,O]))
 rintro F H' ⟨rfl,rfl⟩ l aa;rw[hl,Yx];show kk l aa
inductive qIv(C:Addr)(vs:LV)(H:Hp)(Q:VK)(_:XK):Prop
|mk (h dx tz re dl ul:Addr) (dn un:LV) (_:vs=[.ref h]) (_:HdA H C h dx tz re dl ul dn un) (_:∀(l:Addr),H l=none->Q (.ref l) (upd H l (.lst un.reverse)))
def qB1:Fm P w mg base T.D102 1 (qIv a.k_Hand):=by
 rcases oL T.D102.F,qIp with⟨h,dx,tz,re,dl,ul,dn,un,rfl,F,J⟩;exists #[qL (qQd rfl rfl T.b_list rfl T.b_reversed (x8 0 rfl))]
 show#[_,O,h,_,dx,_,_,O,F.i,T.cl_Hand,T.na_Hand_undone,O,ul,un,O,F.u,J]
def WhR(N M S:Addr)(D:Addr)(bs:LV):Prop:=(D=N/\bs=[.bl true,.bl false,.bl false,.bl false])\/(D=M/\bs=[.bl false,.bl false,.bl true,.bl false])\/(D=S/\bs=[.bl false,.bl false,.bl false,.bl true])
inductive qIn(N M S:Addr)(vs:LV)(H:Hp)(Q:VK)(_:XK):Prop
|mk (ea D:Addr) (od:Option Addr) (bs:LV) (_:vs=[.ref ea]) (_:H ea=some (qE6 ea (.ref D,od))) (_:OwnD H od) (_:WhR N M S D bs) (_:∀(l:Addr) (H':Hp),Same H H'->H' l=some (.lst bs)->Q (.ref l) H')
def qAm(T:Tx K mg a):FnH P w K mg base 1 a.A84 a.B84 ["_law_e"] (qIn a.k_NoPlace a.k_Mixed a.k_Short):=by
 show okH T.D84.F qJl (λvs H Q E h=>?_) (λcdv A ad ac s H vs Q E hr h=>?_)
 . let#[J,D,od,bs,rfl,_]:=h
   rfl
 ext;let#[J,D,od,bs,rfl,hE,F,hW,kk]:=h;exists #[qL (qr [qg (zJ (K:=K) rfl) rfl T.b_isinstance rfl [0,jb (v:=.ref a.k_NoPlace) rfl T.c_NoPlace rfl],qg (zJ (K:=K) rfl) rfl T.b_isinstance rfl [0,jb (v:=.ref a.k_NoClip) rfl T.c_NoClip rfl],qg (zJ (K:=K) rfl) rfl T.b_isinstance rfl [0,jb (v:=.ref a.k_Mixed) rfl T.c_Mixed rfl],qg (zJ (K:=K) rfl) rfl T.b_isinstance rfl [0,jb (v:=.ref a.k_Short) rfl T.c_Short rfl]])]
 have aa:∀l,H l=none->Q (.ref l) (upd H l<|.lst bs):=λl hl=>kk l _ (qE hl _) qC;rcases hW with ⟨rfl,rfl⟩|⟨rfl,rfl⟩|⟨rfl,rfl⟩
 . show#[_,O,J,_,_,_,true,O,hE,F,T.e_NoPlace,.inr #[_,O,T.rPP],_,O,J,_,_,_,false,O,hE,F,T.e_NoPlace,.inr #[_,O,T.rPN],_,O,J,_,_,_,false,O,hE,F,T.e_NoPlace,.inr #[_,O,T.rPM],_,O,J,_,_,_,false,O,hE,F,T.e_NoPlace,.inr #[_,O,T.rPS],sL4,aa]
 . show#[_,O,J,_,_,_,false,O,hE,F,T.e_Mixed,.inr #[_,O,T.rMP],_,O,J,_,_,_,false,O,hE,F,T.e_Mixed,.inr #[_,O,T.rMN],_,O,J,_,_,_,true,O,hE,F,T.e_Mixed,.inr #[_,O,T.rMM],_,O,J,_,_,_,false,O,hE,F,T.e_Mixed,.inr #[_,O,T.rMS],sL4,aa]
 . show#[_,O,J,_,_,_,false,O,hE,F,T.e_Short,.inr #[_,O,T.rSP],_,O,J,_,_,_,false,O,hE,F,T.e_Short,.inr #[_,O,T.rSN],_,O,J,_,_,_,false,O,hE,F,T.e_Short,.inr #[_,O,T.rSM],_,O,J,_,_,_,true,O,hE,F,T.e_Short,.inr #[_,O,T.rSS],sL4,aa]
def jBm(Q:VK):VK:=λv H=> ∀(tt lw:Addr) (H':Hp),Same H H'->H' tt=some (.tup [v,.ref lw])->H' lw=some (.lst [])->Q (.ref tt) H'
def qW3(N M S:Addr)(Q:VK):XK:=λB od H=>OwnD H od/\∃D bs,B=.ref D/\WhR N M S D bs/\∀(tt lw:Addr) (H':Hp),Same H H'->H' tt=some (.tup [.non,.ref lw])->H' lw=some (.lst bs)->Q (.ref tt) H'
def OwnD.same(e:Same H H')(h:OwnD H od):OwnD H' od:=h.imp id λ#[dx,fs,J,F]=>#[dx,fs,J,e _ _ F]
def jAi{N M:Addr}(e:Same H H1)(q:∀v H',Q v H'->Q' v H')(x:∀B od H',E B od H'->E' B od H')(h:xO K N M S vs H Q E):xO K N M S vs H1 Q' E':=by let#[tz,dz,rd,rl,ts,tie,r,rfl,J,#[n,ms,d,a1,a2,a3,a4],k0,k1,k2,k3]:=h;show#[tz,dz,rd,rl,ts,tie,r,O,J.same e,#[n,ms,d,a1,a2.same e,a3.same e,a4],λz H' F=>x _ _ _ (k0 z H'<|e.trans F),λz H' F=>x _ _ _ (k1 z H'<|e.trans F),λm z dx H' F hx=>x _ _ _<|k2 m z dx H' (e.trans F) hx,λts' z t' H' F hT=>q _ _<|k3 ts' z t' H' (e.trans F) hT]
def jAc{C N M:Addr}(e:Same H H1)(q:∀v H',Q v H'->Q' v H')(x:∀B od H',E B od H'->E' B od H')(h:vJ C N M S vs H Q E):vJ C N M S vs H1 Q' E':=by let#[h,dx,tz,re,dl,ul,dz,dn,un,rl,ts,tie,n,ms,d,r,l,rfl,J,ae,hP,hm,hA,hO,hR,k0,k1,k4,k2]:=h;have m:Same (Mk [h,dl,ul] H) (Mk [h,dl,ul] H1):=qCk λb u hn hb=>#[hn,e _ _ hb];show#[h,dx,tz,re,dl,ul,dz,dn,un,rl,ts,tie,n,ms,d,r,l,O,#[e _ _ J.i,e _ _ J.d,e _ _ J.u,J.ne],ae,hP.same m,hm,hA.same m,hO.same m,hR,λz H' F=>x _ _ _ (k0 z H'<|e.trans F),λz H' F=>x _ _ _ (k1 z H'<|e.trans F),λm z dx H' F hx=>x _ _ _<|k4 m z dx H' (e.trans F) hx,λts' z=>?_];let#[c1,c2,c3,kk]:=k2 ts' z;show#[c1,c2,c3,λt aa q' y ad B H' fr ac h1 h2 h3 h4 h5 h6 h7=>q _ _ (kk t aa q' y ad B H' (λb u n1 n2 hb=>fr b u n1 n2<|e _ _ hb) ac (e.free h1) h2 h3 h4 h5 h6 h7)]
def Tx.which_cut(T:Tx K mg a){D:Addr}{bs:LV}(h:WhR a.k_NoPlace a.k_Mixed a.k_Short D bs):W.exmOne K (.ref D) (.ref a.k_CutError)=some true:=by
 rcases h with ⟨rfl,_⟩|⟨rfl,_⟩|⟨rfl,_⟩
 . show T.yPC
 . show T.yMC
 . show T.ySC
noncomputable def whB:Res->LV
 |.place=>[.bl true,.bl false,.bl false,.bl false]
 |.mixed=>[.bl false,.bl false,.bl true,.bl false]
 |.short _=>[.bl false,.bl false,.bl false,.bl true]
 |.good _=>[]
def qPe{N M:Addr}{r:Res}(k:(∀ts',r≠ .good ts')->∀(J F:Addr) (H':Hp),Same H H'->H' J=some (.tup [.non,.ref F])->H' F=some (.lst<|whB r)->Q (.ref J) H'):
 (r=.place->∀H',Same H H'->qW3 N M S Q (.ref N) none H')/\(r=.mixed->∀H',Same H H'->qW3 N M S Q (.ref M) none H')/\∀m,r=.short m->∀(dx:Addr) (H':Hp),Same H H'->H' dx=some (.xd [("most",.int m)])->qW3 N M S Q (.ref S) (some dx) H':=by
 show#[λz H' e=>?_,λz H' e=>?_,λm z dx H' e hx=>?_]
 . subst z
   show#[.inl rfl,N,_,rfl,.inl #[rfl,rfl],λJ F H2 e2 h1 h2=>k (λ_ z=>by cases z) J F H2 (e.trans e2) h1 h2]
 . subst z
   show#[.inl rfl,M,_,rfl,.inr<|.inl #[rfl,rfl],λJ F H2 e2 h1 h2=>k (λ_ z=>by cases z) J F H2 (e.trans e2) h1 h2]
 . subst z
   show#[.inr #[dx,_,rfl,hx],S,_,rfl,.inr<|.inr #[rfl,rfl],λJ F H2 e2 h1 h2=>k (λ_ z=>by cases z) J F H2 (e.trans e2) h1 h2]
inductive qJm(vs:LV)(H:Hp)(Q:VK)(_:XK):Prop
|mk (tz dz rd:Addr) (rl:Rls) (ts:LL) (tie:LN) (n:Nat) (ms:LI) (d:De) (r:Res) (_:vs=[.ref tz,.ref dz,.ref rd]) (_:TabD H tz rd rl ts tie) (_:ts[n]?=some ms) (_:DeAt H dz n d) (_:DeOk H rd ms d) (_:r=zI rl ts tie n ms d) (_:((∀ts',r≠ .good ts')->∀(tt lw:Addr) (H':Hp),Same H H'->H' tt=some (.tup [.non,.ref lw])->H' lw=some (.lst (whB r))->Q (.ref tt) H')) (_:∀ts',r=.good ts'->∀(tt lw td:Addr) (H':Hp),Same H H'->H' tt=some (.tup [.ref td,.ref lw])->H' lw=some (.lst [])->TabF H' (.ref td) ts' tie->Q (.ref tt) H')
def qH3:Fo P w base T.D85 11 qJm:=by
 rcases oL T.D85.F,xR with⟨tz,dz,rd,rl,ts,tie,n,ms,d,r,rfl,hP,hm,hA,hO,hR,k1,k2⟩;let#[c1,c2,c3]:=qPe (N:=a.k_NoPlace) (M:=a.k_Mixed) (S:=a.k_Short) k1;have h:xO K a.k_NoPlace a.k_Mixed a.k_Short [.ref tz,.ref dz,.ref rd] H (jBm Q) (qW3 a.k_NoPlace a.k_Mixed a.k_Short Q):=#[tz,dz,rd,rl,ts,tie,r,rfl,hP,#[n,ms,d,hm,hA,hO,hR],c1,c2,c3,λts' er t' H' e hT tt lw H2 e2 h1 h2=>k2 ts' er tt lw t' H2 (e.trans e2) h1 h2<|hT.same e2];let#[J,ad]:∃J:Value->Option Addr->L2.St->Hp->Prop,J=λB od σ H'=>(∃o,σ=[some<|.ref tz,some<|.ref dz,some<|.ref rd,o,none])/\qW3 a.k_NoPlace a.k_Mixed a.k_Short Q B od H':=#[_,rfl];exists #[qc 3 (qZ [xn,qr qB]),qNk (J) (.some (i:=0x04) rfl rfl) xR.nd rfl T.c_CutError (λ_=>#[qc 3 (qZ [qUw T.D69 (xf T) hr rfl [0,1,2],qr qB])]) (λ_ _=>#[qc 3 (qZ [xn,qR3 T.D84 (qAm T) hr rfl [4]])]),qL 3]
 subst ad;show#[sL0,λl0 h0=>#[sL2,λt0 ae=>?_]];have e1:=(qE h0<|.lst []).trans (qE ae<|.tup [.non,.ref l0]);generalize upd (upd H l0<|.lst []) t0 (.tup [.non,.ref l0])=H1 at e1⊢;show#[#[_,O,_,O,_,O,jAi e1 (λv H2 q=>#[sL0,λlw F=>#[sL2,λtt aa=>?_]]) (λB od H2 q=>#[#[_,O],q]) h],?_]
 . have w1:=qE F (.lst [])
   have w2:=qE aa<|.tup [v,.ref lw];show#[_,O,q tt lw _ (w1.trans w2) qC<|w2 _ _ qC]
 . rintro ea ⟨B1,B2⟩ σ' H' ⟨⟨o,rfl⟩,ac,D,bs,hB,hW,hk⟩ af ag
   dsimp only at hB ac;subst hB;have hy:=T.which_cut hW;have w1:=qE af<|qE6 ea (.ref D,B2);show#[hy,_,O,ea,D,B2,bs,O,qC,(OwnD.same w1 ac),hW,λlw H3 e3 F=>#[sL2,λtt aa=>?_]];have w4:=qE aa<|.tup [.non,.ref lw];show#[_,O,hk tt lw _ (w1.trans<|e3.trans w4) qC<|w4 _ _ F]
inductive qGm(C:Addr)(vs:LV)(H:Hp)(Q:VK)(_:XK):Prop
|mk (h dx tz re dl ul dz:Addr) (dn un:LV) (rl:Rls) (ts:LL) (tie:LN) (n:Nat) (ms:LI) (d:De) (r:Res) (l:Int) (_:vs=[.ref h,.ref dz]) (_:HdA H C h dx tz re dl ul dn un) (_:dn.length<=100) (_:TabD (Mk [h,dl,ul] H) tz re rl ts tie) (_:ts[n]?=some ms) (_:DeAt (Mk [h,dl,ul] H) dz n d) (_:DeOk (Mk [h,dl,ul] H) re ms d) (_:r=zI rl ts tie n ms d) (_:((∀ts',r≠ .good ts')->∀(tt lw:Addr) (H':Hp),Same H H'->H' tt=some (.tup [.non,.ref lw])->H' lw=some (.lst (whB r))->Q (.ref tt) H')) (_:(∀ts',r=.good ts'->(∀t,d=.unm t->∃i:Nat,cbF ms t=some ((i:Int),((i+2:Nat):Int))/\ms[i+1]?=some (.mix l))/\(∀e,d=.chg e->0<=e.t/\e.t<=2 ^ 500)/\Bd ts' tie/\∀(t tz' q y ul':Addr) (B H1:Hp),(∀b u,b≠h->b≠dl->H b=some u->B b=some u)->HdA B C h dx tz' re dl ul' (dn++[.ref q]) []->H ul'=none->B q=some (.tup [.ref dz,.ref y])->TabF (Mk [h,dl,ul'] B) (.ref tz') ts' tie->DL (Mk [h,dl,ul'] B) y (qGr ts tie n l d)->Same B H1->TabF H1 (.ref t) ts' tie->FrT B H1 t->∀(tt lw:Addr) (H':Hp),Same H1 H'->H' tt=some (.tup [.ref t,.ref lw])->H' lw=some (.lst [])->Q (.ref tt) H'))
def qGn:Fo P w base T.D86 14 (qGm a.k_Hand):=by
 rcases oL T.D86.F,xD with⟨ha,dx,tz,re,dl,ul,dz,dn,un,rl,ts,tie,n,ms,d,r,l,rfl,hH,af,hP,ad,hA,hO,hR,k1,k2⟩;have hh:=hH.i;let#[c1,c2,c3]:=qPe (N:=a.k_NoPlace) (M:=a.k_Mixed) (S:=a.k_Short) k1;have h:vJ a.k_Hand a.k_NoPlace a.k_Mixed a.k_Short [.ref ha,.ref dz] H (jBm Q) (qW3 a.k_NoPlace a.k_Mixed a.k_Short Q):=#[ha,dx,tz,re,dl,ul,dz,dn,un,rl,ts,tie,n,ms,d,r,l,rfl,hH,af,hP,ad,hA,hO,hR,c1,c2,c3,k2];let#[J,ae]:∃J:Value->Option Addr->L2.St->Hp->Prop,J=λB od σ H'=>(∃o,σ=[some<|.ref ha,some<|.ref dz,o,none])/\qW3 a.k_NoPlace a.k_Mixed a.k_Short Q B od H':=#[_,rfl];exists #[qc 2 (qZ [xn,qr qB]),qNk (J) (.some (i:=0x03) rfl rfl) xD.nd rfl T.c_CutError (λ_=>#[qc 2 (qZ [qWi 0 T.cl_Hand T.D97 (qNl T) hr [1],qr qB])]) (λ_ _=>#[qc 2 (qZ [xn,qR3 T.D84 (qAm T) hr rfl [3]])]),qL 2]
 subst ae;show#[sL0,λl0 h0=>#[sL2,λt0 ag=>?_]];have e1:=(qE h0<|.lst []).trans (qE ag<|.tup [.non,.ref l0]);generalize upd (upd H l0<|.lst []) t0 (.tup [.non,.ref l0])=H1 at e1⊢;show#[#[_,O,ha,_,_,O,e1 _ _ hh,O,_,O,jAc e1 (λv H2 q=>#[sL0,λlw F=>#[sL2,λtt aa=>?_]]) (λB od H2 q=>#[#[_,O],q]) h],?_]
 . have w1:=qE F (.lst [])
   have w2:=qE aa<|.tup [v,.ref lw];show#[_,O,q tt lw _ (w1.trans w2) qC<|w2 _ _ qC]
 . rintro ea ⟨B1,B2⟩ σ' H' ⟨⟨o,rfl⟩,ac,D,bs,hB,hW,hk⟩ ah ai
   dsimp only at hB ac;subst hB;have hy:=T.which_cut hW;have w1:=qE ah<|qE6 ea (.ref D,B2);show#[hy,_,O,ea,D,B2,bs,O,qC,(OwnD.same w1 ac),hW,λlw H3 e3 F=>#[sL2,λtt aa=>?_]];have w4:=qE aa<|.tup [.non,.ref lw];show#[_,O,hk tt lw _ (w1.trans<|e3.trans w4) qC<|w4 _ _ F]
def jBa(O9:Addr)(Q:VK):XK:=λB od H=>B=.ref O9/\od=none/\∀H',Same H H'->Q (.bl false) H'
inductive qGk(C O9:Addr)(vs:LV)(H:Hp)(Q:VK)(_:XK):Prop
|mk (h dx:Addr) (fs:List (Str×V)) (_:H h=some (.ins C dx fs)) (_:fs.lookup ("undo":Str)=none) (_:fs.lookup ("redo":Str)=none) (_:((vs=[.ref h,.str "undo"]/\zM C O9 [.ref h] H Q (jBa O9 Q))\/(vs=[.ref h,.str "redo"]/\zO C O9 [.ref h] H Q (jBa O9 Q))))
def qXw{C O9:Addr}(q:∀v H',Q v H'->Q' v H')(x:∀B od H',E B od H'->E' B od H')(h:zM C O9 vs H Q E):zM C O9 vs H Q' E':=by
 rcases h with ⟨h,dx,tz,re,dl,ul,un,rfl,hH,ke⟩|⟨h,dx,tz,re,dl,ul,q',dz,y,dn,un,A1,L,ts,ae,tie,ai,rfl,hH,ag,aj,hq,ah,hT,af,J,hL,ac,F,ad,kk⟩
 . show .inl #[h,dx,tz,re,dl,ul,un,O,hH,λH' e=>x _ _ _<|ke H' e]
 . show .inr #[h,dx,tz,re,dl,ul,q',dz,y,dn,un,A1,L,ts,ae,tie,ai,O,hH,ag,aj,hq,ah,hT,af,J,hL,ac,F,ad,λt aa B H' a b c d e f=>q _ _<|kk t aa B H' a b c d e f]
def qX1{C O9:Addr}(q:∀v H',Q v H'->Q' v H')(x:∀B od H',E B od H'->E' B od H')(h:zO C O9 vs H Q E):zO C O9 vs H Q' E':=by
 rcases h with ⟨h,dx,tz,re,dl,ul,dn,rfl,J,ke⟩|⟨h,dx,tz,re,dl,ul,dz,dn,un,rl,ts,ts',tie,n,ms,d,l,rfl,J,ac,aa,hP,hm,hA,hO,hR,c1,c2,c3,kk⟩
 . show .inl #[h,dx,tz,re,dl,ul,dn,O,J,λH' e=>x _ _ _<|ke H' e]
 . show .inr #[h,dx,tz,re,dl,ul,dz,dn,un,rl,ts,ts',tie,n,ms,d,l,O,J,ac,aa,hP,hm,hA,hO,hR,c1,c2,c3,λt F q' y B H' a b c d e f g i=>q _ _<|kk t F q' y B H' a b c d e f g i]
def qAe:Fo P w base T.D87 14 (qGk a.k_Hand a.k_NoOrder):=by
 show T.D87.F.ok jq (λvs H Q E h=>?_) (λcdv A aa s H vs Q E hr h=>?_)
 . obtain⟨h,dx,fs,_,_,_,⟨rfl,_⟩|⟨rfl,_⟩⟩:=h
   . rfl
   . rfl
 ext;let#[ha,dx,fs,hh,m1,m2,hc]:=h;let#[wd,ev]:∃wd:Str,vs=[.ref ha,.str wd]:=by
  rcases hc with ⟨e,_⟩|⟨e,_⟩
  . show#[_,e]
  . show#[_,e]
 subst ev;let#[F,ac]:∃F:Value->Option Addr->L2.St->Hp->Prop,F=λB od σ H'=>(∃o,σ=[some<|.ref ha,some<|.str wd,o,none])/\jBa a.k_NoOrder Q B od H':=#[_,rfl];exists #[qc 0x02 jq.nd xn,qNk (F) (.some (i:=0x03) rfl rfl) jq.nd rfl T.c_NoOrder (λ_=>#[qh (qM jP 1 qQ) #[qc 0x02 jq.nd (qO1 0 T.cl_Hand T.D98 (qIj T) hr)] #[qc 0x02 jq.nd (qO1 0 T.cl_Hand T.D99 (qIe T) hr)]]) (λ_ _=>#[qc 0x02 jq.nd (qg (qGo (K:=K) rfl) rfl T.b_isinstance rfl [3,qZ [jb (v:=.ref a.k_NoPlace) rfl T.c_NoPlace rfl,jb (v:=.ref a.k_Short) rfl T.c_Short rfl]])]),qL 2]
 subst ac;show#[?_,?_]
 . show#[_,O,O,_,O,jw (λc=>?_) (λc=>?_)]
   . have c:V.str wd=V.str "undo":=ZM c
     rcases hc with ⟨_,h⟩|⟨e,_⟩
     . show#[_,O,ha,_,_,O,hh,m1,?_]
       delta qYb;show qXw ?_ ?_ h
       . show λv H2 q=>#[_,O,q]
       . show λB od H2 q=>#[#[_,O],q]
     . cases c;cases e
   . rcases hc with ⟨e,_⟩|⟨_,h⟩
     . cases e;show YC (YX rfl) c
     . show#[_,O,ha,_,_,O,hh,m2,?_]
       delta qYb;show qX1 ?_ ?_ h
       . show λv H2 q=>#[_,O,q]
       . show λB od H2 q=>#[#[_,O],q]
 . rintro ea ⟨B1,B2⟩ σ' H' ⟨⟨o,rfl⟩,hB,J,hk⟩ ae af
   dsimp only at hB J;subst hB J;have w1:=qE ae<|qE6 ea (.ref a.k_NoOrder,none);show#[T.yOO,_,O,sL2,λtp ad=>?_];have w2:=qE ad<|.tup [.ref a.k_NoPlace,.ref a.k_Short];show#[ea,_,_,tp,_,_,O,w2 _ _ qC,.inl rfl,T.e_NoOrder,qC,T.rOP,T.rOS,_,O,hk _<|w1.trans w2]
structure Hist(A:Rg)(tie:LN)(L:Nat)(tss:List LL)(nds:List (Nat×De)):Prop where
 ok:A.Ok
 nz:A.nst "z"
 no:A.nst "other"
 l1:1<=L
 l3:L<=3
 tl:tie.length<=3
 nd:tie.Nodup
 tin:∀x∈tie,∃k:Nat,x=(k:Int)/\k<L
 len:tss.length=nds.length+1
 tb:∀(i:Nat) (ts:LL),tss[i]?=some ts->TB A (24+14*(i:Int)) (3*i) ts tie/\ts.length=L
 st:∀(i n:Nat) (d:De),nds[i]?=some (n,d)->∃ts ms ts',tss[i]?=some ts/\tss[i+1]?=some ts'/\ts[n]?=some ms/\DeN A 24 d/\zI (rlE A) ts tie n ms d=.good ts'
def qVa{d:Dk}{n:Int}:∀(ns:LN) (F:LL),(vC F d n ns).length=F.length:=λns F=>qC0 F d n ns
def qX2{F:LL}{d:De}(h:zI rl F tie n ms d=.good ts'):ts'.length=F.length:=by
 cases d with
 |hel t=>rw[zI]at h;split at h; · cases h
         split at h <;> cases h;rw[ZN]
 |mix t l=>rw[zI]at h;split at h; · cases h
           split at h
           . split at h
             . cases h
             . split at h <;> cases h
               rw[ZN]
           . cases h
 |unm t=>rw[zI]at h;split at h; · cases h
         split at h <;> cases h;rw[ZN]
 |rol w t b=>rw[zI]at h;split at h; · cases h
             split at h
             . cases h
             . split at h <;> cases h
               rw[ZN]
 |chg d=>rw[zI]at h;split at h
         . split at h <;> cases h
           show qVa _ _
         . cases h
def DeN.mono{d:De}(h:DeN A M d)(F:M<=M'):DeN A M' d:=by
 cases d with
 |hel t=>show#[h.1,by have:=h.2;lia]
 |mix t l=>show#[h.1,by have:=h.2.1;lia,h.2.2]
 |unm t=>show#[h.1,by have:=h.2;lia]
 |rol w t b=>show#[h.1,h.2.1,by have:=h.2.2.1;lia,h.2.2.2]
 |chg d=>cases d with
  |hel t=>show h.elim
  |cut t=>show#[h.1,by have:=h.2;lia]
  |_=>show#[h.1,by have:=h.2.1;lia,h.2.2]
def TB.allG{F:LL}(h:TB A M c F tie)(hL:F.length=L)(hM:M<=420)(hc:c<=84):AllG (GB A 420 84 420) L F:=#[hL,λx J=>#[(h.ms x J).gw.mono hM hc,λm hm _=>by have:=qKp (h.ms x J).nn m hm;have:=(h.ms x J).le;lia]]
def TB.bd{F:LL}(h:TB A M c F tie)(hc:c<=100):Bd F tie:=#[by have:=h.l3;lia,by have:=h.tl;lia,λms J=>by have:=(h.ms ms J).ct;lia]
def qYv{F:LL}(h:TB A M c F tie)(hL:F.length=L)(hM:M<=420)(hc:c<=84)(nd:tie.Nodup)(J:F[n]?=some ms){d:De}(hd:DeN A 24 d)(hr:zI (rlE A) F tie n ms d=.good ts'):
 ∃l:Int,(∀t,d=.unm t->∃i:Nat,cbF ms t=some ((i:Int),((i+2:Nat):Int))/\ms[i+1]?=some (.mix l))/\(∀e,d=.chg e->0<=e.t/\e.t<=2 ^ 500)/\GoN A tie L ts' (qGr F tie n l d) F:=by
 have hG:=h.allG hL hM hc;let#[l,h1,h2]:=qT0 (C':=840) hG (λms J=>(h.ms ms J).gd.fs) (λx hx=>by rw[<-hL];show h.tin x hx) nd J (hd.mono #[]) #[] rfl hr;show#[l,h1,λe he=>?_,h2];subst he;let#[a1,_,a3,_]:=DkN.lay hd;have e5:(100:Int)<=2 ^ 500:=#[]
 show#[a1,by generalize (2:Int) ^ 500=B at e5⊢;lia]
structure HdL(G:Hp)(tz re:Addr)(qs:List Addr)(A:Rg)(tie:LN)(L:Nat)(tss:List LL)(nds:List (Nat×De))(gs:List Addr)(k:Nat):Prop where
 ql:qs.length=k
 q:∀(i:Nat) (q:Addr),qs[i]?=some q->∃g y row ts ts',gs[i]?=some g/\G q=some (.tup [.ref g,.ref y])/\DL G y row/\tss[i]?=some ts/\tss[i+1]?=some ts'/\GoN A tie L ts' row ts
 le:k<=nds.length
 gl:gs.length=nds.length
 he:∃ts,tss[k]?=some ts/\TabF G (.ref tz) ts tie
 re:RE G re A
 dg:∀(i:Nat) (g:Addr) (n:Nat) (d:De),gs[i]?=some g->nds[i]?=some (n,d)->DeAt G g n d
theorem HdL.qs{G G':Hp}{qs:List Addr}{A:Rg}{tie:LN}{L:Nat}{tss:List LL}{gs:List Addr}(e:Same G G')(h:∀(i:Nat) (q:Addr),qs[i]?=some q->∃g y F J ts',gs[i]?=some g/\G q=some (.tup [.ref g,.ref y])/\DL G y F/\tss[i]?=some J/\tss[i+1]?=some ts'/\GoN A tie L ts' F J):
 ∀(i:Nat) (q:Addr),qs[i]?=some q->∃g y F J ts',gs[i]?=some g/\G' q=some (.tup [.ref g,.ref y])/\DL G' y F/\tss[i]?=some J/\tss[i+1]?=some ts'/\GoN A tie L ts' F J:=λi q hq=>let #[g,y,F,J,ts',h1,h2,h3,h4]:=h i q hq;#[g,y,F,J,ts',h1,e _ _ h2,h3.same e,h4]
theorem HdL.same{G G':Hp}{tz F:Addr}{J:List Addr}{A:Rg}{tie:LN}{L:Nat}{tss:List LL}{nds:List<|Nat×De}{gs:List Addr}{k:Nat}(e:Same G G')(h:HdL G tz F J A tie L tss nds gs k):HdL G' tz F J A tie L tss nds gs k:=
 #[h.ql,HdL.qs e h.q,h.le,h.gl,let #[ts,a,b]:=h.he;#[ts,a,b.same e],h.re.same e,λi g n d a b=>(h.dg i g n d a b).same e]
structure LwS(G:Hp)(st tl gl:Addr)(tbs gs:List Addr)(tie:LN)(tss:List LL)(k:Nat):Prop where
 s:G st=some (.tup [.ref tl,.ref gl,.int (k:Int)])
 t:G tl=some (.lst (tbs.map V.ref))
 g:G gl=some (.lst (gs.map V.ref))
 l:tbs.length=tss.length
 tb:∀(i:Nat) (b:Addr) (ts:LL),tbs[i]?=some b->tss[i]?=some ts->TabF G (.ref b) ts tie
theorem LwS.same{G G':Hp}{st tl gl:Addr}{tbs gs:List Addr}{tie:LN}{tss:List LL}{k:Nat}(e:Same G G')(h:LwS G st tl gl tbs gs tie tss k):LwS G' st tl gl tbs gs tie tss k:=#[e _ _ h.s,e _ _ h.t,e _ _ h.g,h.l,λi b F p q=>(h.tb i b F p q).same e]
structure StL(K:Fg)(H:Hp)(C h rr t0 st dx tz re dl ul tl gl:Addr)(sc:List (Addr×LV))(A:Rg)(tie:LN)(L m:Nat)(tss:List LL)(nds:List (Nat×De))(tbs gs qs:List Addr)(k:Nat):Prop where
 ha:HdA H C h dx tz re dl ul (qs.map V.ref) ((gs.drop k).reverse.map V.ref)
 hi:Hist A tie L tss nds
 hd:HdL (Mk [h,dl,ul] H) tz re qs A tie L tss nds gs k
 lw:LwS (Mk [h,dl,ul] H) st tl gl tbs gs tie tss k
 rr:RE (Mk [h,dl,ul] H) rr A
 ks:∀p∈sc,SqL K (Mk [h,dl,ul] H) p.1 p.2
 z0:tbs[0]?=some t0
 few:nds.length<=m
def qGl(e:Same H H'):Same (Mk X H) (Mk X H'):=qCk λb u J F=>#[J,e _ _ F]
theorem StL.same{H H':Hp}{C h rr t0 st dx tz F dl ul tl gl:Addr}{sc:List<|Addr×LV}{A:Rg}{tie:LN}{L m:Nat}{tss:List LL}{nds:List<|Nat×De}{tbs gs J:List Addr}{k:Nat}(e:Same H H')(s:StL K H C h rr t0 st dx tz F dl ul tl gl sc A tie L m tss nds tbs gs J k):StL K H' C h rr t0 st dx tz F dl ul tl gl sc A tie L m tss nds tbs gs J k:=
 #[#[e _ _ s.ha.i,e _ _ s.ha.d,e _ _ s.ha.u,s.ha.ne],s.hi,s.hd.same<|qGl e,s.lw.same<|qGl e,s.rr.same<|qGl e,λp hp=>(qGl e).seq<|s.ks p hp,s.z0,s.few]
inductive StH(K:Fg)(H:Hp)(C h rr t0 st:Addr)(sc:List (Addr×LV))(A:Rg)(tie:LN)(L m:Nat):Prop
 |mk (dx tz re dl ul tl gl:Addr) (tss:List LL) (nds:List (Nat×De)) (tbs gs qs:List Addr) (k:Nat) (s:StL K H C h rr t0 st dx tz re dl ul tl gl sc A tie L m tss nds tbs gs qs k)
def qDc{α:Type}{l:List α}{x y:α}(J:n<=l.length)(h:(l.take n++[x])[i]?=some y):(i<n/\l[i]?=some y)\/(i=n/\y=x):=by
 have F:(l.take n).length=n:=by rw[Yk];lia
 by_cases c:i<n
 . rw[ZC (),List.getElem?_take_of_lt c]at h
   show .inl #[c,h]
 . rw[Yz (),F]at h
   have:i-n=0:=by have:=(glt h);simp at this;lia
   rw[this]at h;show .inr #[(), ~~~h.symm]
def qDq{α:Type}{l:List α}{x y:α}(h:l[i]?=some y)(c:i<n):(l.take n++[x])[i]?=some y:=by have hi:=(glt h);rw[ZC (by rw[Yk];lia),List.getElem?_take_of_lt c];show h
def qOj{α:Type}{l:List α}{x:α}(J:n<=l.length):(l.take n++[x])[n]?=some x:=by
 have F:(l.take n).length=n:=by rw[Yk];lia
 rw[Yz (),F];simp
def qBl{α:Type}{l:List α}{x:α}(F:n<=l.length):(l.take n++[x]).length=n+1:=by rw[YN,Yk,Yy];lia
def Hist.push(h:Hist A tie L tss nds){k:Nat}(hk:k<=nds.length){ts:LL}(ht:tss[k]?=some ts)(hm:ts[n]?=some ms){d:De}(hd:DeN A 24 d)(hr:zI (rlE A) ts tie n ms d=.good ts'):Hist A tie L (tss.take (k+1)++[ts']) (nds.take k++[(n,d)]):=by
 have hl:=h.len;have J:k+1<=tss.length:=()
 show#[h.ok,h.nz,h.no,h.l1,h.l3,h.tl,h.nd,h.tin,by rw[qBl J,qBl hk],λi x F=>?_,λi n' d' F=>?_]
 . rcases qDc J F with ⟨_,F⟩|⟨rfl,rfl⟩
   . show h.tb i x F
   . let#[b1,b2]:=h.tb k ts ht
     have b3:=b1.res () hm (hd.mono ()) hr;show#[?_,(qX2 hr).trans b2];have e1:(24+14*(k:Int)+14)=24+14*((k+1:Nat):Int):=()
     rw[e1]at b3;show b3
 . rcases qDc hk F with ⟨c,F⟩|⟨rfl,e⟩
   . let#[a1,a2,a3,a4,a5,a6]:=h.st i n' d' F
     show#[a1,a2,a3,qDq a4 (),qDq a5 (),a6]
   . cases e
     show#[ts,ms,ts',qDq ht (),qOj J,hm,hd,hr]
def qX8(r:Res):D:=.tup [.leaf .non,.lst<|(whB r).map D.leaf]
def qW7(r:Res):eqD (qX8 r) (qX8 r)=true/\dep (qX8 r)<=60:=by cases r <;> (delta qX8;simp only[whB];show#[#[],#[]])
def qTf{tt J:Addr}{r:Res}(h1:H tt=some (.tup [.non,.ref J]))(h2:H J=some (.lst<|whB r)):Rep K H (qX8 r) (.ref tt):=by
 have aa:∀bs:LV,(∀v∈bs,kL v=true)->Reps K H (bs.map D.leaf) bs:=λbs=>by
  induction bs with
  |nil=>intro _;unfold List.map Reps;trivial
  |cons b bs ih=>intro h;unfold List.map Reps;show#[by unfold Rep;show#[rfl,h b #[]],ih λv F=>h v (by simp[F])]
 unfold qX8 Rep;show#[tt,_,O,SqT.of h1,?_];unfold Reps;show#[by unfold Rep;show#[O,O],?_];unfold Reps;show#[?_,by unfold Reps;trivial];unfold Rep;show#[J,_,O,SqL.of h2,aa _ λv F=>by cases r <;> simp only[whB,YU,ZE,or_false]at F <;> rcases F with rfl|rfl|rfl|rfl <;> rfl]
def qQ0(ts:LL)(tie:LN):D:=.tup [tabD ts tie,.lst []]
def qOk{J F td:Addr}{ts:LL}(h1:H J=some (.tup [.ref td,.ref F]))(h2:H F=some (.lst []))(h3:TabF H (.ref td) ts tie):Rep K H (qQ0 ts tie) (.ref J):=by unfold qQ0 Rep;show#[J,_,O,SqT.of h1,?_];unfold Reps;show#[h3.rep,?_];unfold Reps;show#[?_,by unfold Reps;trivial];unfold Rep;show#[F,_,O,SqL.of h2,by unfold Reps;trivial]
inductive qLb(K:Fg)(C:Addr)(vs:LV)(H:Hp)(Q:VK)(_:XK):Prop
|mk (h rr t0 st:Addr) (x y:Int) (sc:List (Addr×LV)) (A:Rg) (tie:LN) (L m:Nat) (_:vs=[.ref h,.ref st,.int x,.int y,.ref rr]) (_:StH K H C h rr t0 st sc A tie L m) (_:0<=x) (_:0<=y) (_:m<=27) (_:∀(st':Addr) (H':Hp),StH K H' C h rr t0 st' sc A tie L (m+1)->Q (.ref st') H')
def qL0:Fo P w base T.D89 15 (qLb K a.k_Hand):=by
 rcases oL T.D89.F,j3 with⟨h,rr,t0,st,x,y,sc,A1,tie,L,m,rfl,hS,x0,y0,hm,kk⟩;symm;have hu:=hr.units;show#[_,(qD (qDk (pv 1) (qMc rfl<|jr (jB (i:=5) j3.nd rfl<|Or.inl rfl) (jr (jB (i:=6) j3.nd rfl<|Or.inl rfl)<|jr (jB (i:=7) j3.nd rfl<|Or.inl rfl) qF7)))
  (qD (qc 8 j3.nd (qK T.D82 (qLz T) hr rfl (qA (pv 2) (qA (pv 3) (qA (qg jE rfl T.b_len rfl (qA (qJ (jI qk (pv 5) qH (λ_ _=>rfl))) qB)) qB)))))
  (qD (qc 9 j3.nd (qC5 (qC5 (qK T.D85 (qH3 T) hr rfl (qA (jI qk (pv 5) (pv 7) (λ_ _=>rfl)) (qA (pv 8)<|qA (pv 4) qB))))))
  (qD (qc 10 j3.nd<|qK T.D86 (qGn T) hr rfl (qA (pv 0)<|qA (pv 8) qB))
  (qD (qh (qM (qO5 hu) (pv 10) (pv 9)<|qP _) (qF<|qL xn) qO)
  (qD (qh (xm<|vX (qJ<|pv 9)) (qF (qL<|pv 1)) qO)
  (qD (qt (qK T.D88 (xj T) hr rfl<|qA (qJ<|pv 10) qB))
  (qF<|qL (qZ<|qA (qR vW (xP kD (pv 5) zT (zh<|qR qx (pv 7) qH)) (qr<|qA (qJ<|pv 9) qB)) (qA (qR vW (xP kD (pv 6) zT (zh<|pv 7)) (qr<|qA (pv 8) qB))<|qA (qR qx (pv 7) qH) qB)))))))))),?_]
 try dsimp only[jK,qi]
 ext;let#[dx,tz,re,dl,ul,tl,gl,tss,nds,tbs,gs,qs,k,S]:=hS;have hk:=S.hd.le;have bt:=S.few;have bv:=S.hi.len;have bA:=S.hd.gl;have bB:=S.lw.l;let#[ts,ai,bx]:=S.hd.he;let#[ak,aJ]:=S.hi.tb k ts ai;let#[bk,aH]:∃b,tbs[k]?=some b:=#[_,YD ()];let#[aP,aA]:∃x,tss[0]?=some x:=#[_,YD ()];symm;show#[_,O,st,_,O,SqT.of<|mk_same _ _ S.lw.s,O,_,_,O,_,_,O,_,_,O,O,?_];ext;let#[bz,bq,bC,bw,q0,g2,g3,g4,_]:=(S.lw.tb 0 t0 aP S.z0 aA).same mk_same;cases q0;symm;have bF:=g4.len;have bE:=(S.hi.tb 0 aP aA).2;have bD:=S.hi.l1;have aN:∀(i:Nat) (b:Addr),tbs[i]?=some b->atI (tbs.map V.ref) (i:Int)=some (.ref b):=λi b J=>jC (by rw[Yj,J];rfl);show#[_,O,_,O,_,O,tl,_,_,_,O,O,SqL.of<|mk_same _ _ S.lw.t,aN 0 t0 S.z0,ixT (SqT.of g2) at0 #[bq,_,O,.inl<|SqL.of g3,x,y,_,O,x0,y0,(),λdz n d H1 e1 hn hD a8=>?_]];have S1:=S.same e1;have hN:=a8 A1 S.hi.ok S.hi.nz S.hi.no;let#[ms,af]:∃ms,ts[n]?=some ms:=#[_,YD ()];have hG:=(ak.allG aJ () ()).2 ms<|YF af;have as:DeAt (Mk [h,dl,ul] H1) dz n d:=hD.ts λb xs J=>by
  rw[xE λaa=>?_]
  . show J
  . simp only[YU,ZE,or_false]at aa
    rcases aa with rfl|rfl|rfl
    . rw[S1.ha.i]at J;cases J
    . rw[S1.ha.d]at J;cases J
    . rw[S1.ha.u]at J;cases J
 show#[dl,_,S1.ha.d,λo1=>#[ul,_,by rw[qS S.ha.ne.symm];show S1.ha.u,λo2=>?_]];have es:=qFn (X1:=.frz o1 (.lst<|qs.map V.ref)) (X2:=.frz o2 (.lst<|(gs.drop k).reverse.map V.ref))<|mk_same (X:=[h,dl,ul]) (H:=H1);have aK:=S1.rr.same es;show#[_,O,_,O,tl,_,_,_,O,O,SqL.of<|es _ _ S1.lw.t,aN k bk aH,_,O,_,O,bk,dz,rr,rlE A1,ts,tie,n,ms,d,_,O,ak.tabD () () ((S1.lw.tb k bk ts aH ai).same es) aK,af,as.same es,qO7 (hN.mono (show (24:Int)<=420 by decide)) hG #[] #[] aK,O,λJ tt lw H2 e2 aE aC=>?_,λts' er tt lw td H2 e2 aE aC bh=>?_]
 . let#[g1,g2,e3,aj]:=qZ0 S1.ha e2
   show#[g1,g2,?_];have F:=mk_same _ _<|aj.t _ _ aE;have ae:=mk_same _ _<|aj.l _ _ aC;generalize upd (upd H2 ul (.lst<|(gs.drop k).reverse.map V.ref)) dl (.lst<|qs.map V.ref)=H3 at e3 F ae⊢;have S3:=S1.same e3;have ay:=qGl (X:=[h,dl,ul]) e3;ext;let#[ap,ad,aD]:=S3.hd.he;symm;obtain rfl:ts=ap:=by rw[ai]at ad;cases ad;rfl
   show#[_,O,_,O,h,dx,tz,re,dl,ul,dz,_,_,rlE A1,ts,tie,n,ms,d,_,0,O,S3.ha,by rw[YS,S.hd.ql];lia,ak.tabD () () aD S3.hd.re,af,as.same ay,qO7 (hN.mono (show (24:Int)<=420 by decide)) hG #[] #[] S3.hd.re,O,λ_ bl bi H4 e4 aU aQ=>?_,λts' er=>YC er<|J ts'];let#[b1,b2]:=qW7<|zI (rlE A1) ts tie n ms d;show#[_,O,_,O,_,_,qTf aU aQ,qTf (e4 _ _ F)<|e4 _ _ ae,O,b2,false,XF V.bl (by rw[b1];rfl),jH ?_];show(ixO (e4 _ _ F) at0 ?_);show#[true,XF V.bl<|YX rfl,ju #[_,O,kk st H4 ?_]];have S4:=S3.same e4;show#[dx,tz,re,dl,ul,tl,gl,tss,nds,tbs,gs,qs,k,S4.ha,S4.hi,S4.hd,S4.lw,S4.rr,S4.ks,S4.z0,()]
 . let#[g1,g2,e3,aj]:=qZ0 S1.ha e2
   show#[g1,g2,?_];have F:=aj.t _ _ aE;have ae:=aj.l _ _ aC;have am:=aj.tab bh;generalize upd (upd H2 ul (.lst<|(gs.drop k).reverse.map V.ref)) dl (.lst<|qs.map V.ref)=H3 at e3 F ae am⊢;have S3:=S1.same e3;have ay:=qGl (X:=[h,dl,ul]) e3;ext;let#[ap,ad,aD]:=S3.hd.he;symm;obtain rfl:ts=ap:=by rw[ai]at ad;cases ad;rfl
   ext;let#[l,c1,c2,a0]:=qYv ak aJ () () S.hi.nd af hN er;symm;have aO:=ak.res () af (hN.mono ()) er;show#[_,O,_,O,h,dx,tz,re,dl,ul,dz,_,_,rlE A1,ts,tie,n,ms,d,_,l,O,S3.ha,by rw[YS,S.hd.ql];lia,ak.tabD () () aD S3.hd.re,af,as.same ay,qO7 (hN.mono (show (24:Int)<=420 by decide)) hG #[] #[] S3.hd.re,O,λJ=>YC er<|J ts',λap aF=>?_];obtain rfl:ts'=ap:=by rw[er]at aF;cases aF;rfl
   show#[c1,c2,aO.bd (),λt aI q y ac B H4 fr hB bo hq bb bn eB br hF bl bi H5 e5 az aS=>?_];have ao:Same (Mk [h,dl,ul] H3) (Mk [h,dl,ac] B):=qCk λb u hn J=>by simp only[YU,ZE,or_false,not_or]at hn⊢;show#[#[hn.1,hn.2.1,qW J bo],fr b u hn.1 hn.2.1 J]
   have bu:=ao _ _ F;have aM:=am.same ao;have av:Same (Mk [h,dl,ul] H3) H5:=(ao.trans mk_same).trans<|eB.trans e5;let#[b1,b2]:=qB6 ts' tie;show#[_,O,_,O,qQ0 ts' tie,qQ0 ts' tie,qOk az aS<|br.same e5,qOk (av _ _ F) (av _ _ ae)<|am.same av,O,by delta qQ0;simp only[dep,wN];lia,false,XF V.bl (by delta qQ0;simp only[eqD,kO,b1];rfl),jH ?_];show(ixO (av _ _ F) at0 ?_);show#[false,XF V.bl (YW (by intro z;cases z)),jH ?_];show(ixO az at0 #[B,t,O,eB.trans e5,hF.same e5,λH6 e6 _=>?_]);have aB:Same (Mk [h,dl,ul] H3) (Mk [h,dl,ac] H6):=ao.trans<|qGl e6;have be:=mk_same _ _<|aB _ _ S3.lw.t;have aG:=mk_same _ _<|aB _ _ S3.lw.g;have aX:=mk_same _ _<|aB _ _ F;have ec:(k:Int)+1=((k+1:Nat):Int):=()
   have aV:k+1<=tbs.length:=()
   have ax:k<=gs.length:=()
   show#[_,O,_,O,_,_,O,O,_,O,tl,_,O,SqL.of be,λp1 bf=>?_];rw[ec,wp,<-List.map_take];have w1:=qE bf (.lst<|(tbs.take<|k+1).map V.ref);show(ixO (w1 _ _ aX) at0 #[sL1,λp2 bd=>?_]);have w2:=qE bd<|.lst [.ref td];show#[p1,p2,_,_,O,O,w2 _ _ qC,qC,by rw[YS,Yk];show Nat.le_of_lt (qf (by change _+1<=1000;lia)),λp3 aZ=>?_];have w3:=qE aZ (.lst<|(tbs.take<|k+1).map V.ref++[.ref td]);have k3:upd (upd (upd H6 p1 (.lst<|(tbs.take<|k+1).map V.ref)) p2<|.lst [.ref td]) p3 (.lst<|(tbs.take<|k+1).map V.ref++[.ref td]) p3=some (.lst<|(tbs.take (k+1)++[td]).map V.ref):=by rw[qC,Ys];rfl
   have al:=(w1.trans w2).trans w3;change _;generalize upd (upd (upd H6 p1 _) p2 _) p3 _=H7 at al k3⊢;have bg:=(w1.trans w2).free aZ;show#[_,O,_,O,_,O,gl,_,O,SqL.of<|al _ _ aG,λp4 a9=>?_];rw[wp,<-List.map_take];have w4:=qE a9 (.lst<|(gs.take k).map V.ref);show#[_,O,sL1,λp5 a7=>?_];have w5:=qE a7<|.lst [.ref dz];show#[p4,p5,_,_,O,O,w5 _ _ qC,qC,by rw[YS,Yk];show Nat.le_of_lt (qf (by change _+1<=1000;lia)),λp6 aY=>?_];have w6:=qE aY (.lst<|(gs.take k).map V.ref++[.ref dz]);have k6:upd (upd (upd H7 p4 (.lst<|(gs.take k).map V.ref)) p5<|.lst [.ref dz]) p6 (.lst<|(gs.take k).map V.ref++[.ref dz]) p6=some (.lst<|(gs.take k++[dz]).map V.ref):=by rw[qC,Ys];rfl
   have au:=(w4.trans w5).trans w6;change _;generalize upd (upd (upd H7 p4 _) p5 _) p6 _=H8 at au k6⊢;have bc:=al.free<|(w4.trans w5).free aY;show#[_,O,_,_,O,O,sL3,λaw aT=>?_];have w9:=qE aT<|.tup [.ref p3,.ref p6,.int<|(k:Int)+1];have aq:=(al.trans au).trans w9;have ba:=(al.trans au).free aT;have ah:HdA H6 a.k_Hand h dx aI re dl ac (qs.map V.ref++[.ref q]) []:=#[e6 _ _ hB.i,e6 _ _ hB.d,e6 _ _ hB.u,hB.ne];have nX:∀b,H6 b=none->b∉[h,dl,ac]:=λb J aa=>by
    simp only[YU,ZE,or_false]at aa;rcases aa with rfl|rfl|rfl
    . rw[ah.i]at J;cases J
    . rw[ah.d]at J;cases J
    . rw[ah.u]at J;cases J
   have k9:upd H8 aw (.tup [.ref p3,.ref p6,.int<|(k:Int)+1]) aw=some (.tup [.ref p3,.ref p6,.int ((k+1:Nat):Int)]):=by rw[qC,ec]
   have aL:=w9 _ _<|au _ _ k3;have aR:=w9 _ _ k6;show kk aw _ ?_;change _;generalize upd H8 aw _=H9 at aq k9 aL aR⊢;have m9:Same (Mk [h,dl,ac] B) (Mk [h,dl,ac] H9):=qGl<|e6.trans aq;have ag:=ao.trans m9;have bp:Mk [h,dl,ac] B q=some (.tup [.ref dz,.ref y]):=by
    rw[xE λaa=>?_]
    . show hq
    . simp only[YU,ZE,or_false]at aa
      rcases aa with rfl|rfl|rfl
      . rw[hB.i]at hq;cases hq
      . rw[hB.d]at hq;cases hq
      . rw[hB.u]at hq;cases hq
   have ar:k+1<=tss.length:=()
   have aW:=S.hd.ql;show#[dx,aI,re,dl,ac,p3,p6,tss.take (k+1)++[ts'],nds.take k++[(n,d)],tbs.take (k+1)++[td],gs.take k++[dz],qs++[q],k+1,?_,S.hi.push hk ai af hN er,#[by rw[YN,aW];rfl,λi q' an=>?_,by rw[qBl hk];show YI _,by rw[qBl ax,qBl hk],#[ts',qOj ar,bb.same m9],S3.hd.re.same ag,λi g n' d' h1 h2=>?_],#[by rw[xE<|nX _ ba];show k9,by rw[xE<|nX _ bg];show aL,by rw[xE<|nX _ bc];show aR,by rw[qBl aV,qBl ar],λi b x' h1 h2=>?_],S3.rr.same ag,λp hp=>ag.seq<|S3.ks p hp,qDq S.z0 (),by rw[qBl hk];lia]
   . have d0:(gs.take k++[dz]).drop (k+1)=[]:=List.drop_of_length_le (by rw[qBl ax];show YI _)
     rw[d0,Ys];show#[aq _ _ ah.i,aq _ _ ah.d,aq _ _ ah.u,hB.ne]
   . by_cases c:i<k
     . rw[ZC ()]at an
       ext;let#[g,y',bj,x1,x2,a1,a2,a3,a4,a5,a6]:=HdL.qs ag S3.hd.q i q' an;symm;show#[g,y',bj,x1,x2,qDq a1 c,a2,a3,qDq a4 (),qDq a5 (),a6]
     . have hi:=(glt an)
       rw[YN,Yy]at hi;obtain rfl:i=k:=()
       rw[Yz (),aW,Nat.sub_self]at an;obtain rfl:q=q':= ~~~an
       show#[dz,y,_,ts,ts',qOj ax,m9 _ _ bp,bn.same m9,qDq ai (),qOj ar,a0]
   . rcases qDc ax h1 with ⟨c,h1⟩|⟨rfl,rfl⟩
     . rcases qDc hk h2 with ⟨_,h2⟩|⟨c2,_⟩
       . show(S3.hd.dg i g n' d' h1 h2).same ag
       . lia
     . rcases qDc hk h2 with ⟨c,_⟩|⟨_,c2⟩
       . lia
       . cases c2
         show(as.same ay).same ag
   . rcases qDc aV h1 with ⟨c,h1⟩|⟨rfl,rfl⟩
     . rcases qDc ar h2 with ⟨_,h2⟩|⟨c2,_⟩
       . show(S3.lw.tb i b x' h1 h2).same ag
       . lia
     . rcases qDc ar h2 with ⟨c,_⟩|⟨_,rfl⟩
       . lia
       . show aM.same m9
inductive qJz(K:Fg)(C:Addr)(vs:LV)(H:Hp)(Q:VK)(_:XK):Prop
|mk (h rr t0 st dx tz re dl ul tl gl:Addr) (sc:List (Addr×LV)) (A:Rg) (tie:LN) (L m:Nat) (tss:List LL) (nds:List (Nat×De)) (tbs gs qs:List Addr) (k:Nat) (_:vs=[.ref h,.ref st]) (_:StL K H C h rr t0 st dx tz re dl ul tl gl sc A tie L m tss nds tbs gs qs k) (_:m<=28) (_:∀(st' tz':Addr) (qs':List Addr) (H':Hp),StL K H' C h rr t0 st' dx tz' re dl ul tl gl sc A tie L m tss nds tbs gs qs' (k-1)->Q (.ref st') H')
def qRw{k:Nat}{g:Addr}(h:gs[k]?=some g):((gs.drop k).reverse).map V.ref=((gs.drop<|k+1).reverse).map V.ref++[.ref g]:=by rw[jy h,List.reverse_cons,Ys];rfl
def StL.to{B:Hp}{C h st ae aa re:Addr}{m:Nat}{qs J:List Addr}{k k':Nat}(s:StL K H C h rr t0 st dx tz re dl ul tl gl sc A tie L m tss nds tbs gs qs k)
 (fr:∀b u,b∉[h,dl,ul]->H b=some u->B b=some u) (hB:HdA B C h dx aa re dl ul (J.map V.ref)<|(gs.drop k').reverse.map V.ref) (eB:Same B H') (ql:J.length=k') (hq:∀(i:Nat) (q:Addr),J[i]?=some q->∃g y af ts ts',gs[i]?=some g/\Mk [h,dl,ul] B q=some (.tup [.ref g,.ref y])/\DL (Mk [h,dl,ul] B) y af/\tss[i]?=some ts/\tss[i+1]?=some ts'/\GoN A tie L ts' af ts)
 (hk:k'<=nds.length) {ts:LL} (ag:tss[k']?=some ts) (hT:TabF (Mk [h,dl,ul] B) (.ref aa) ts tie) (F:H' ae=some (.tup [.ref tl,.ref gl,.int (k':Int)])):StL K H' C h rr t0 ae dx aa re dl ul tl gl sc A tie L m tss nds tbs gs J k':=by
 have m1:Same (Mk [h,dl,ul] H) (Mk [h,dl,ul] B):=qCk λb u hn hb=>#[hn,fr b u hn hb];have m2:=qGl (X:=[h,dl,ul]) eB;have m:=m1.trans m2;have ac:HdA H' C h dx aa re dl ul (J.map V.ref) ((gs.drop k').reverse.map V.ref):=#[eB _ _ hB.i,eB _ _ hB.d,eB _ _ hB.u,hB.ne];have l:=s.lw.same m;show#[ac,s.hi,#[ql,HdL.qs m2 hq,hk,s.hd.gl,#[ts,ag,hT.same m2],s.hd.re.same m,λi g n d a b=>(s.hd.dg i g n d a b).same m],#[?_,l.t,l.g,l.l,l.tb],s.rr.same m,λp hp=>m.seq<|s.ks p hp,s.z0,s.few];rw[xE λad=>?_]
 . show F
 . simp only[YU,ZE,or_false]at ad
   rcases ad with rfl|rfl|rfl
   . rw[ac.i]at F;cases F
   . rw[ac.d]at F;cases F
   . rw[ac.u]at F;cases F
def StL.q_old{B:Hp}{C h st re:Addr}{m:Nat}{qs:List Addr}{k:Nat}(s:StL K H C h rr t0 st dx tz re dl ul tl gl sc A tie L m tss nds tbs gs qs k)(fr:∀b u,b∉[h,dl,ul]->H b=some u->B b=some u):
 ∀(i:Nat) (q:Addr),qs[i]?=some q->∃g y F ts ts',gs[i]?=some g/\Mk [h,dl,ul] B q=some (.tup [.ref g,.ref y])/\DL (Mk [h,dl,ul] B) y F/\tss[i]?=some ts/\tss[i+1]?=some ts'/\GoN A tie L ts' F ts:=HdL.qs (qCk λb u J hb=>#[J,fr b u J hb]) s.hd.q
def qDn:Fo P w base T.D90 15 (qJz K a.k_Hand):=by
 rcases oL T.D90.F,zA with⟨h,rr,t0,st,dx,tz,re,dl,ul,tl,gl,sc,A1,tie,L,m,tss,nds,tbs,gs,qs,k,rfl,S,hm,kk⟩;symm;have hu:=hr.units;show#[_,(qD (qDk (pv 1) (qMc rfl<|jr (jB (i:=2) zA.nd rfl<|Or.inl rfl) (jr (jB (i:=3) zA.nd rfl<|Or.inl rfl)<|jr (jB (i:=4) zA.nd rfl<|Or.inl rfl) qF7)))
  (qD (qc 5 zA.nd<|qK T.D87 (qAe T) hr rfl (qA (pv 0)<|qA qQ qB))
  (qD (qh (qM jP (pv 4) qH<|qP _) (qF (qL (jI qk (qr (qA xn<|qA (pv 1) qB)) (jp qL8 rfl T.b_int rfl<|qA (jR qV5 (pv 5) vw<|qP _) qB) (λ_ _=>rfl)))) qO)
  (qD (qh (qM (qO5 hu) (pv 5) (jI qk (pv 2) (qR jU (pv 4) qH) (λ_ _=>rfl))<|qP _) (qF<|qL xn) qO)
  (qD (qt (qK T.D88 (xj T) hr rfl<|qA (pv 5) qB))
  (qF<|qL (qZ<|qA (pv 2) (qA (pv 3)<|qA (qR jU (pv 4) qH) qB)))))))),?_]
 try dsimp only[jK,qi]
 have hk:=S.hd.le;have au:=S.few;have av:=S.hi.len;have ax:=S.hd.gl;have ay:=S.lw.l;have ap:=S.hd.ql;have hs:=mk_same _ _ S.lw.s;show#[_,O,st,_,O,SqT.of hs,O,_,_,O,_,_,O,_,_,O,O,?_];by_cases k0:k=0
 . subst k0
   obtain rfl:qs=[]:=List.eq_nil_of_length_eq_zero ap;show#[_,O,h,_,_,S.ha.i,O,O,.inl #[O,.inl #[h,dx,tz,re,dl,ul,_,O,S.ha,λH1 e1=>#[O,O,λH2 e2=>?_]]]];have ak:=e1.trans e2;show#[_,O,O,true,XF V.bl<|YX rfl,ju ?_];show#[_,O,sL2,λp hp=>?_];have w3:=qE hp<|.lst [.non,.ref st];show#[_,O,_,_,O,O,.inr #[true,O,?_]];show#[p,[.non,.ref st],1,.ref st,O,O,SqL.of qC,O,?_];show kk st tz [] _ (S.same<|ak.trans w3)
 ext;let#[j,rfl]:∃j,k=j+1:=#[k-1,()];let#[q,hq]:∃q,qs[j]?=some q:=#[_,YD ()];have an:qs=qs.take j++[q]:=by have e1:=List.take_append_drop j qs;rw[jy hq,List.drop_of_length_le ()]at e1;show e1.symm
 let#[g,y,am,ts,ts',hg,aq,ao,J,ad,af]:=S.hd.q j q hq;let#[t2,aa,ah]:=S.hd.he;symm;obtain rfl:ts'=t2:=by rw[ad]at aa;cases aa;rfl
 ext;let#[as,aw]:=S.hi.tb j ts J;let#[bj,ac]:∃b,tbs[j]?=some b:=#[_,YD ()];symm;have hA:=S.ha;rw[an,Ys]at hA;show#[_,O,h,_,_,S.ha.i,O,O,.inl #[O,.inr #[h,dx,tz,re,dl,ul,q,g,y,_,_,A1,L,ts',ts,tie,am,O,hA,by rw[YS,List.length_reverse,ZV];lia,by rw[YS,Yk];lia,mk_same _ _ aq,ao,ah,S.hd.re,af,S.hi.l3,S.hi.tl,S.hi.tin,as.bd (),λt ai B H1 fr hB ae eB ar hF=>?_]]];have e1:Same (Mk [h,dl,ul] H) H1:=λb u hb=>eB _ _ (mk_same _ _ (qCk (Y:=[h,dl,ul]) (λb u hn hb=>#[hn,fr b u hn hb]) _ _ hb));have n0:¬(V.int ((j+1:Nat):Int)=V.int 0):=λz=>by have:=V.int.inj z;lia
 show#[_,O,O,false,XF V.bl<|YW n0,jH ?_];have ec:((j+1:Nat):Int)-1=(j:Int):=()
 have aj:atI (tbs.map V.ref) (((j+1:Nat):Int)-1)=some (.ref bj):=by rw[ec];show jC (by rw[Yj,ac];rfl)
 let#[b1,b2]:=qB6 ts tie;show#[_,O,_,O,_,O,_,_,O,O,tl,_,_,_,O,O,SqL.of<|e1 _ _ S.lw.t,aj,tabD ts tie,tabD ts tie,ar.rep,((S.lw.tb j bj ts ac J).same e1).rep,O,(),false,XF V.bl (by rw[b1];rfl),jH ?_];show#[_,O,B,t,O,eB,hF,λH2 e2 _=>?_];show#[_,O,_,O,_,O,_,_,O,O,sL3,λag al=>?_];have w3:=qE al<|.tup [.ref tl,.ref gl,.int<|((j+1:Nat):Int)-1];have us:=qRw hg;show kk ag ai (qs.take j) _ (S.to fr (by rw[Nat.add_sub_cancel,us];show hB) (e2.trans w3) (by rw[Yk];lia) (λi q' F=>?_) () J ae (by rw[qC,ec];rfl));have hi:i<j:=by have:=(glt F);rw[Yk]at this;lia
 rw[List.getElem?_take_of_lt hi]at F;show S.q_old fr i q' F
inductive qHy(K:Fg)(C:Addr)(vs:LV)(H:Hp)(Q:VK)(_:XK):Prop
|mk (h rr t0 st dx tz re dl ul tl gl:Addr) (sc:List (Addr×LV)) (A:Rg) (tie:LN) (L m:Nat) (tss:List LL) (nds:List (Nat×De)) (tbs gs qs:List Addr) (k:Nat) (_:vs=[.ref h,.ref st]) (_:StL K H C h rr t0 st dx tz re dl ul tl gl sc A tie L m tss nds tbs gs qs k) (_:m<=28) (_:∀(st' tz':Addr) (qs':List Addr) (k':Nat) (H':Hp),(k<nds.length->k'=k+1)->StL K H' C h rr t0 st' dx tz' re dl ul tl gl sc A tie L m tss nds tbs gs qs' k'->Q (.ref st') H')
def qBi:Fo P w base T.D91 15 (qHy K a.k_Hand):=by
 rcases oL T.D91.F,xM with⟨h,rr,t0,st,dx,tz,re,dl,ul,tl,gl,sc,A1,tie,L,m,tss,nds,tbs,gs,qs,k,rfl,S,hm,kk⟩;symm;have hu:=hr.units;show#[_,(qD (qDk (pv 1) (qMc rfl<|jr (jB (i:=2) xM.nd rfl<|Or.inl rfl) (jr (jB (i:=3) xM.nd rfl<|Or.inl rfl)<|jr (jB (i:=4) xM.nd rfl<|Or.inl rfl) qF7)))
  (qD (qc 5 xM.nd<|qK T.D87 (qAe T) hr rfl (qA (pv 0)<|qA qQ qB))
  (qD (qh (qM jP (pv 4) (qg jE rfl T.b_len rfl<|qA (pv 3) qB)<|qP _) (qF (qL (jI qk (qr (qA xn<|qA (pv 1) qB)) (jp qL8 rfl T.b_int rfl<|qA (jR qV5 (pv 5) vw<|qP _) qB) (λ_ _=>rfl)))) qO)
  (qD (qh (qM (qO5 hu) (pv 5) (jI qk (pv 2) (qR qx (pv 4) qH) (λ_ _=>rfl))<|qP _) (qF<|qL xn) qO)
  (qD (qt (qK T.D88 (xj T) hr rfl<|qA (pv 5) qB))
  (qF<|qL (qZ<|qA (pv 2) (qA (pv 3)<|qA (qR qx (pv 4) qH) qB)))))))),?_]
 try dsimp only[jK,qi]
 have hk:=S.hd.le;have az:=S.few;have aA:=S.hi.len;have au:=S.hd.gl;have aB:=S.lw.l;have ak:=S.hd.ql;have hs:=mk_same _ _ S.lw.s;have ax:(gs.map V.ref).length=gs.length:=YS _;show#[_,O,st,_,O,SqT.of hs,O,_,_,O,_,_,O,_,_,O,O,?_];by_cases k0:k=nds.length
 . have hA:=S.ha
   have d0:gs.drop k=[]:=List.drop_of_length_le ();rw[d0]at hA;show#[_,O,h,_,_,S.ha.i,O,O,.inr #[O,.inl #[h,dx,tz,re,dl,ul,_,O,hA,λH1 e1=>#[O,O,λH2 e2=>?_]]]];have ag:=e1.trans e2;show#[_,O,_,O,gl,_,O,.inl<|SqL.of (ag _ _<|mk_same _ _ S.lw.g),O,true,XF V.bl (YX (by rw[ax,au,k0])),ju ?_];show#[_,O,sL2,λp hp=>?_];have w3:=qE hp<|.lst [.non,.ref st];show#[_,O,_,_,O,O,.inr #[true,O,?_]];show#[p,[.non,.ref st],1,.ref st,O,O,SqL.of qC,O,?_];show kk st tz qs k _ (λz=>()) (S.same<|ag.trans w3)
 ext;let#[g,hg]:∃g,gs[k]?=some g:=#[_,YD ()];let#[#[n,d],al]:∃x,nds[k]?=some x:=#[_,YD ()];let#[ts,ms,ts',aa,F,ac,hN,er]:=S.hi.st k n d al;let#[t2,ai,aq]:=S.hd.he;symm;obtain rfl:ts=t2:=by rw[aa]at ai;cases ai;rfl
 ext;let#[ad,ae]:=S.hi.tb k ts aa;let#[ah,_]:=S.hi.tb (k+1) ts' F;let#[bj,aj]:∃b,tbs[k+1]?=some b:=#[_,YD ()];let#[l,c1,c2,an]:=qYv ad ae () () S.hi.nd ac hN er;symm;have hG:=(ad.allG ae () ()).2 ms<|YF ac;have hA:=S.ha;rw[qRw hg]at hA;show#[_,O,h,_,_,S.ha.i,O,O,.inr #[O,.inr #[h,dx,tz,re,dl,ul,g,_,_,rlE A1,ts,ts',tie,n,ms,d,l,O,hA,by rw[YS];lia,by rw[YS,List.length_reverse,ZV];lia,ad.tabD () () aq S.hd.re,ac,S.hd.dg k g n d hg al,qO7 (hN.mono (show (24:Int)<=420 by decide)) hG #[] #[] S.hd.re,er,c1,c2,ah.bd (),λt ar q y B H1 fr hB hq am aw eB ao hF=>?_]]];have e1:Same (Mk [h,dl,ul] H) H1:=λb u hb=>eB _ _ (mk_same _ _ (qCk (Y:=[h,dl,ul]) (λb u hn hb=>#[hn,fr b u hn hb]) _ _ hb));have n0:¬(V.int (k:Int)=V.int ((gs.map V.ref).length:Int)):=λz=>by have:=V.int.inj z;lia
 show#[_,O,_,O,gl,_,O,.inl (SqL.of<|e1 _ _ S.lw.g),O,false,XF V.bl<|YW n0,jH ?_];have ec:(k:Int)+1=((k+1:Nat):Int):=()
 have as:atI (tbs.map V.ref) ((k:Int)+1)=some (.ref bj):=by rw[ec];show jC (by rw[Yj,aj];rfl)
 let#[b1,b2]:=qB6 ts' tie;show#[_,O,_,O,_,O,_,_,O,O,tl,_,_,_,O,O,SqL.of<|e1 _ _ S.lw.t,as,tabD ts' tie,tabD ts' tie,ao.rep,((S.lw.tb (k+1) bj ts' aj F).same e1).rep,O,(),false,XF V.bl (by rw[b1];rfl),jH ?_];show#[_,O,B,t,O,eB,hF,λH2 e2 _=>?_];show#[_,O,_,O,_,O,_,_,O,O,sL3,λap av=>?_];have w3:=qE av<|.tup [.ref tl,.ref gl,.int<|(k:Int)+1];have ay:Mk [h,dl,ul] B q=some (.tup [.ref g,.ref y]):=by
  rw[xE λaf=>?_]
  . show hq
  . simp only[YU,ZE,or_false]at af
    rcases af with rfl|rfl|rfl
    . rw[hB.i]at hq;cases hq
    . rw[hB.d]at hq;cases hq
    . rw[hB.u]at hq;cases hq
 show kk ap ar (qs++[q]) (k+1) _ (λ_=>rfl) (S.to fr (by rw[Ys];show hB) (e2.trans w3) (by rw[YN,ak];rfl) (λi q' J=>?_) () F am (by rw[qC,ec]));by_cases c:i<k
 . rw[ZC ()]at J
   show S.q_old fr i q' J
 . have hi:=(glt J)
   rw[YN,Yy]at hi;obtain rfl:i=k:=()
   rw[Yz (),ak,Nat.sub_self]at J;obtain rfl:q=q':= ~~~J
   show#[g,y,_,ts,ts',hg,ay,aw,aa,F,an]
theorem StL.h{H:Hp}{C h rr t0 st dx tz F dl ul tl gl:Addr}{sc:List<|Addr×LV}{A:Rg}{tie:LN}{L m m':Nat}{tss:List LL}{nds:List<|Nat×De}{tbs gs J:List Addr}{k:Nat}(s:StL K H C h rr t0 st dx tz F dl ul tl gl sc A tie L m tss nds tbs gs J k)(hm:m<=m'):StH K H C h rr t0 st sc A tie L m':=#[dx,tz,F,dl,ul,tl,gl,tss,nds,tbs,gs,J,k,s.ha,s.hi,s.hd,s.lw,s.rr,s.ks,s.z0,ZD s.few hm]
inductive qMf(K:Fg)(C:Addr)(vs:LV)(H:Hp)(Q:VK)(_:XK):Prop
|mk (h rr t0 st:Addr) (g:Int) (sc:List (Addr×LV)) (A:Rg) (tie:LN) (L m:Nat) (_:vs=[.ref h,.ref st,.int g,.ref rr]) (_:StH K H C h rr t0 st sc A tie L m) (_:m<=26) (_:∀(st':Addr) (H':Hp),StH K H' C h rr t0 st' sc A tie L (m+2)->Q (.ref st') H')
def qJ6:Fo P w base T.D92 16 (qMf K a.k_Hand):=by
 rcases oL T.D92.F,xJ with⟨h,rr,t0,st,g,sc,A1,tie,L,m,rfl,hS,hm,kk⟩;exists #[qc 4 (qK T.D78 qIg [2,qH]),zZ PassesOwn.never rfl (qE0 rfl T.b_range [qR qx qH (qR jF 2 qH)]) (jB (i:=0x05) xJ.nd rfl (Or.inl rfl)) #[qh (PW.pt (zy (xm (qBa 1)) (xW (qM jP (qR jF (qR jA 2 qH) qH) qH)))) #[qc 1 (qK T.D90 qDn [0,1])] #[qh (PW.pt (zy (xm (qBa 1)) (xW (qM jP (qR jF (qR jA 2 qH) qH) qH)))) #[qc 1 (qK T.D91 qBi [0,1])] #[qh (PW.pt (zy (xm (qBa 1)) (xW (qM zV 5 qH)))) #[qc 1 (qK T.D89 qL0 [0,1,jI qk 4 (qR qx qH (qR jd qH 5)),jI qk 4 (qR qx qH (qR jd qH 5)),3])] qO]]],qL 1]
 have f3:=fm g (show (0:Int)<3 by decide);show#[_,O,g,6,O,#[],#[],λxz xs J ak aj=>?_];have w1:=qE J (.lst<|xs.map V.int);have kx:upd H xz (.lst<|xs.map V.int) xz=some (.lst<|xs.map V.int):=qC;change _;generalize upd H xz _=H1 at w1 kx⊢;have S1:StH K H1 a.k_Hand h rr t0 st ((xz,xs.map V.int)::sc) A1 tie L m:=by
  let#[dx,tz,re,dl,ul,tl,gl,tss,nds,tbs,gs,qs,k,S]:=hS;have S1:=S.same w1;show#[dx,tz,re,dl,ul,tl,gl,tss,nds,tbs,gs,qs,k,S1.ha,S1.hi,S1.hd,S1.lw,S1.rr,λp hp=>?_,S1.z0,S1.few];rcases YU.mp hp with rfl|hp
  . show SqL.of ?_
    rw[xE λad=>?_]
    . show kx
    . simp only[YU,ZE,or_false]at ad
      rcases ad with z|z|z
      . rw[z,S.ha.i]at J;cases J
      . rw[z,S.ha.d]at J;cases J
      . rw[z,S.ha.u]at J;cases J
  . show S1.ks p hp
 have f6:=fm (g.fdiv 3) (show (0:Int)<6 by decide);have hn:(((1+g.fmod 3).toNat:Nat):Int)=1+g.fmod 3:=()
 show#[_,O,_,_,O,O,nz,_,_,O,O,_,O,(),(),qF8 (n:=(1+g.fmod 3).toNat) (λj σ H'=> ∃(F:Addr) (o:Option V),σ=[some<|.ref h,some<|.ref F,some<|.int g,some<|.ref rr,some<|.ref xz,o]/\StH K H' a.k_Hand h rr t0 F ((xz,xs.map V.int)::sc) A1 tie L (m+min j 2)) #[st,none,O,S1] ?_ ?_]
 . rintro j σ H2 hj ⟨F,o,rfl,ac⟩
   have ae:∀F:Addr,V.bl (!decide (V.ref F=V.non))=V.bl true:=λF=>XF V.bl (by rw[YW (by intro z;cases z)];rfl);ext;let#[dx,tz,re,dl,ul,tl,gl,tss,nds,tbs,gs,qs,k,S2]:=id ac;symm;show#[_,O,true,ae F,ju #[_,O,_,_,O,O,cdB #[] #[],_,_,O,O,nz,O,_,O,jw (λ_=>?_) (λ_=>?_)]]
   . show#[_,O,_,O,h,rr,t0,F,dx,tz,re,dl,ul,tl,gl,_,A1,tie,L,_,tss,nds,tbs,gs,qs,k,O,S2,(),λaa ah ai H' S'=>#[aa,_,O,S'.h ()]]
   show#[_,O,true,ae F,ju #[_,O,_,_,O,O,cdB #[] #[],_,_,O,O,nz,O,_,O,jw (λ_=>?_) (λ_=>?_)]]
   . show#[_,O,_,O,h,rr,t0,F,dx,tz,re,dl,ul,tl,gl,_,A1,tie,L,_,tss,nds,tbs,gs,qs,k,O,S2,(),λaa ah ai k' H' _ S'=>#[aa,_,O,S'.h ()]]
   show#[_,O,true,ae F,ju #[_,O,_,_,O,O,_,O,jw (λc=>?_) (λ_=>#[F,_,O,S2.h ()])]];have c:0+(j:Int)<2:=ZM c;have al:=S2.ks (xz,xs.map V.int) #[];have ag:SqL K H2 xz (xs.map V.int):=mk_same.seq al;have af:∀i:Int,0<=i->i<6->∃k:Int,atI (xs.map V.int) i=some (.int k)/\0<=k:=λi i0 i1=>by let#[v,hv,ad]:=qAk (xs:=xs.map V.int) (i:=i) i0 (by rw[YS,ak];show i1);let#[k,hk,rfl]:=List.mem_map.mp ad;show#[k,hv,(aj k hk).1]
   ext;let#[x,hx,x0]:=af (2+2*(0+(j:Int))) () ();let#[y,hy,y0]:=af (3+2*(0+(j:Int))) () ();symm;show#[_,O,_,O,_,O,_,O,_,_,O,O,cmL #[] #[],_,_,O,O,xz,_,_,_,O,O,ag,hx,_,O,_,O,_,_,O,O,cmL #[] #[],_,_,O,O,xz,_,_,_,O,O,ag,hy,_,O,h,rr,t0,F,x,y,_,A1,tie,L,_,O,ac,x0,y0,(),λaa H' S'=>#[aa,_,O,?_]];have e:m+min j 2+1=m+min (j+1) 2:=()
   rw[e]at S';show S'
 . rintro σ H2 ⟨F,o,rfl,ac⟩
   ext;let#[dx,tz,re,dl,ul,tl,gl,tss,nds,tbs,gs,qs,k,S2]:=ac;symm;have hf:=S2.few;show#[_,O,kk F H2 #[dx,tz,re,dl,ul,tl,gl,tss,nds,tbs,gs,qs,k,S2.ha,S2.hi,S2.hd,S2.lw,S2.rr,λp hp=>S2.ks p (by simp[hp]),S2.z0,()]]
theorem DeAt.rep{H:Hp}{dz:Addr}{n:Nat}{d:De}(h:DeAt H dz n d):∃J,Rep K H J (.ref dz)/\dep J<=4/\eqD J J=true:=by
 have F:∀{xs:LV},H dz=some (.tup xs)->xs.all kL=true->kO (xs.map D.leaf) (xs.map D.leaf)=true->wN (xs.map D.leaf)<=2->∃J,Rep K H J (.ref dz)/\dep J<=4/\eqD J J=true:=λ{xs} h1 h2 h3 h4=>#[.tup<|xs.map D.leaf,wk h1 h2,by unfold dep;lia,by unfold eqD;show h3];have aa:∀{w:Str} {t:Int} {m:Im} {v:V},H dz=some (.tup [.str w,.int (n:Int),.int t,v])->IsI H m v->∃J,Rep K H J (.ref dz)/\dep J<=4/\eqD J J=true:=λ{w t m v} h1 h2=>by
  have e1:=qOi m;have e2:=qZk m;show#[.tup [.leaf<|.str w,.leaf<|.int (n:Int),.leaf<|.int t,m.d],?_,?_,?_]
  . simp only[Rep,Reps]
    show#[dz,_,O,SqT.of h1,#[O,O],#[O,O],#[O,O],h2.rep,trivial]
  . simp only[dep,wN];lia
  . simp only[eqD,kO,e1,eqV];simp
 cases d with
 |hel t=>show F h rfl (by simp[kO,eqD,eqV]) (by simp[wN,dep])
 |mix t l=>show F h rfl (by simp[kO,eqD,eqV]) (by simp[wN,dep])
 |unm t=>show F h rfl (by simp[kO,eqD,eqV]) (by simp[wN,dep])
 |rol w t b=>show F h.2 rfl (by simp[kO,eqD,eqV]) (by simp[wN,dep])
 |chg d=>
  let#[h,_]:=h;cases d with
  |lin t m=>let#[v,h1,h2]:=h;show aa h1 h2
  |lov t m=>let#[v,h1,h2]:=h;show aa h1 h2
  |_=>show F h rfl (by simp[kO,eqD,eqV]) (by simp[wN,dep])
def qK1(h:∀g∈gs,∃n d,DeAt H g n d):∃F,(∀l,H l=some (.lst<|gs.map V.ref)->Rep K H (.lst F) (.ref l))/\dep (.lst F)<=60/\eqD (.lst F) (.lst F)=true:=by
 have aa:∃F,Reps K H F (gs.map V.ref)/\wN F<=4/\kO F F=true:=by
  induction gs with
  |nil=>show#[[],by unfold List.map Reps;trivial,#[],rfl]
  |cons g gs ih=>
   let#[F,a1,a2,J]:=ih λx hx=>h x (by simp[hx]);let#[n,d,hd]:=h g #[];let#[D0,b1,b2,b3]:=hd.rep (K:=K);show#[D0::F,by unfold List.map Reps;show#[b1,a1],by unfold wN;lia,by unfold kO;rw[b3,J];rfl]
 let#[F,a1,a2,J]:=aa;show#[F,λl hl=>by unfold Rep;show#[l,_,O,SqL.of hl,a1],by unfold dep;lia,by unfold eqD;show J]
inductive qJr(K:Fg)(C:Addr)(vs:LV)(H:Hp)(Q:VK)(_:XK):Prop
|mk (h rr t0 st dx tz re dl ul tl gl:Addr) (sc:List (Addr×LV)) (A:Rg) (tie:LN) (L m:Nat) (tss:List LL) (nds:List (Nat×De)) (tbs gs qs:List Addr) (k:Nat) (_:vs=[.ref h,.ref st]) (_:StL K H C h rr t0 st dx tz re dl ul tl gl sc A tie L m tss nds tbs gs qs k) (_:m<=28) (_:∀H',Same H H'->Q (.bl true) H')
def vU:Fo P w base T.D93 15 (qJr K a.k_Hand):=by
 rcases oL T.D93.F,zL with⟨h,rr,t0,st,dx,tz,re,dl,ul,tl,gl,sc,A1,tie,L,m,tss,nds,tbs,gs,qs,k,rfl,S,hm,kk⟩;symm;have hu:=hr.units;show#[_,(qD (qDk (pv 1) (qMc rfl<|jr (jB (i:=2) zL.nd rfl<|Or.inl rfl) (jr (jB (i:=3) zL.nd rfl<|Or.inl rfl)<|jr (jB (i:=4) zL.nd rfl<|Or.inl rfl) qF7)))
  (qF (qL (zf (jR (qTg hu) (qCc (pv 0) T.cl_Hand T.D100 (xc T) hr) (jI qk (pv 2) (pv 4) (λ_ _=>rfl))<|qP _) (zf (jR (qTg hu) (qCc (pv 0) T.cl_Hand T.D101 (qDp T) hr) (xP kD (pv 3) zT (zh<|pv 4))<|qP _)<|vY (jR (qTg hu) (qCc (pv 0) T.cl_Hand T.D102 (qB1 T) hr) (xP kD (pv 3) (zh<|pv 4) zT)<|qP _)))))),?_]
 try dsimp only[jK,qi]
 have hk:=S.hd.le;have ap:=S.few;have aq:=S.hi.len;have au:=S.hd.gl;have av:=S.lw.l;have ax:=S.hd.ql;show#[_,O,st,_,O,SqT.of<|mk_same _ _ S.lw.s,O,_,_,O,_,_,O,_,_,O,O,?_];ext;let#[ts,aa,ai]:=S.hd.he;let#[ao,as]:=S.hi.tb k ts aa;let#[bk,ac]:∃b,tbs[k]?=some b:=#[_,YD ()];have aj:atI (tbs.map V.ref) (k:Int)=some (.ref bk):=jC (by rw[Yj,ac];rfl);let#[b1,b2]:=qB6 ts tie;symm;show#[_,O,h,_,_,O,S.ha.i,O,h,dx,tz,re,dl,ul,ts,tie,O,S.ha.i,ai.same mk_same,ao.bd (),λt H1 e1 ag _=>?_];have F:=S.same e1;show#[_,O,_,O,tl,_,_,_,O,O,SqL.of<|mk_same _ _ F.lw.t,aj,tabD ts tie,tabD ts tie,ag.rep,((F.lw.tb k bk ts ac aa).same mk_same).rep,O,(),true,XF V.bl b1,ju ?_];have ae:∀(G:Hp),Same H1 G->∀l:List Addr,(∀g∈l,g∈gs)->∀g∈l,∃n d,DeAt G g n d:=λG e l hl g hg=>by let#[i,hi]:=List.getElem?_of_mem<|hl g hg;have ar:=(glt hi);let#[#[n,d],an]:∃x,nds[i]?=some x:=#[_,YD ()];show#[n,d,((F.hd.dg i g n d hi an).same mk_same).same e]
 show#[_,O,h,_,_,O,F.ha.i,O,h,dx,tz,re,dl,ul,_,_,(gs.take k).map V.ref,O,F.ha,by rw[YS,YS,Yk];lia,by rw[YS];lia,λi v g h1 h2=>?_,λl hl=>?_]
 . rw[Yj]at h1 h2
   ext;let#[q,hq,rfl]:=Option.map_eq_some_iff.mp h1;let#[g',af,rfl]:=Option.map_eq_some_iff.mp h2;let#[g2,y,aw,x1,x2,a1,a2,_]:=F.hd.q i q hq;have am:i<k:=by have:=(glt hq);lia
   rw[List.getElem?_take_of_lt am,a1]at af;cases af;symm;show#[q,.ref y,O,mk_same _ _ a2]
 have w2:=qE hl (.lst<|(gs.take k).map V.ref);show#[_,O,_,O,_,O,gl,_,O,SqL.of (w2 _ _<|mk_same _ _ F.lw.g),λl2 ak=>?_];rw[wp,<-List.map_take];have w3:=qE ak (.lst<|(gs.take k).map V.ref);ext;let#[Ds,c1,c2,c3]:=qK1 (K:=K) (ae _ (w2.trans w3) (gs.take k) λg hg=>List.mem_of_mem_take hg);symm;show#[_,_,c1 l<|w3 _ _ qC,c1 l2 qC,O,c2,true,XF V.bl c3,ju ?_];have S3:=F.same<|w2.trans w3;have J:=w2.trans w3;change _;generalize upd (upd H1 l _) l2 _=H3 at S3 J⊢;show#[_,O,h,_,_,O,S3.ha.i,O,h,dx,tz,re,dl,ul,_,_,O,S3.ha,λl4 ah=>?_];rw[<-List.map_reverse,List.reverse_reverse];have w4:=qE ah (.lst<|(gs.drop k).map V.ref);show#[_,O,_,O,_,O,gl,_,O,SqL.of (w4 _ _<|mk_same _ _ S3.lw.g),λl5 al=>?_];rw[qEg,<-List.map_drop];have w5:=qE al (.lst<|(gs.drop k).map V.ref);ext;let#[Ds,c1,c2,c3]:=qK1 (K:=K) (ae _ (J.trans<|w4.trans w5) (gs.drop k) λg hg=>List.mem_of_mem_drop hg);symm;have ad:=kk _<|e1.trans (J.trans<|w4.trans w5);show#[_,_,c1 l4<|w5 _ _ qC,c1 l5 qC,O,c2,?_];have ee:V.bl (if false=true then !eqD (.lst Ds) (.lst Ds)else eqD (.lst Ds) (.lst Ds))=V.bl true:=XF V.bl c3;rw[<-ee]at ad;show ad
def TB.empty(h1:1<=L)(J:L<=3)(ht:tie.length<=3)(hi:∀x∈tie,∃k:Nat,x=(k:Int)/\k<L):TB A 24 0 (List.replicate L []) tie:=by show#[by rw[List.length_replicate];show#[h1,J],λms F=>?_,ht,λx hx=>by rw[List.length_replicate];show hi x hx];let#[_,rfl]:=List.mem_replicate.mp F;show#[λm F=>(by cases F),#[rfl,trivial,trivial],#[],YI 0]
def jAx{Y:List Addr}{H4 H6 G:Hp}{C x F:Addr}{ts:LL}{kvs:List<|Key×V}(aa:Same H2 H4)(hY:∀b∈Y,H2 b=none/\∃u,H4 b=some u)(sb:SB x H4 H6)(nw:∀b∈[F,dl,ul,x],H4 b=none)(hA:HdA H6 C x dx tz F dl ul [] [])(hT:TabF (Mk (x::dl::ul::Y) H6) (.ref tz) ts tie)(J:H6 F=some (.dK kvs))(fr:∀b u,b∉Y->H6 b=some u->G b=some u):
 HdA G C x dx tz F dl ul [] []/\Same H2 (Mk [x,dl,ul] G)/\TabF (Mk [x,dl,ul] G) (.ref tz) ts tie/\Mk [x,dl,ul] G F=some (.dK kvs):=by
 have nY:∀b∈[F,dl,ul,x],b∉Y:=λb hb hm=>by let#[_,u,hu]:=hY b hm;rw[nw b hb]at hu;cases hu
 have up:∀b u,b∉x::dl::ul::Y->H6 b=some u->b∉[x,dl,ul]/\G b=some u:=λb u hn hb=>by simp only[YU,not_or]at hn;show#[by simp[hn.1,hn.2.1,hn.2.2.1],fr b u hn.2.2.2 hb]
 show#[#[fr _ _ (nY x #[]) hA.i,fr _ _ (nY dl #[]) hA.d,fr _ _ (nY ul #[]) hA.u,hA.ne],λb u hb=>?_,hT.same<|qCk up,?_]
 . have h4:=aa _ _ hb
   have n:∀c∈[F,dl,ul,x],b≠c:=λc hc z=>by rw[z,nw c hc]at h4;cases h4
   have nb:b∉Y:=λhm=>by rw[(hY b hm).1]at hb;cases hb
   let#[q1,q2]:=up b u (by simp[n x,n dl,n ul,nb])<|sb _ _ (n x #[]) h4;rw[xE q1];show q2
 . have n1:F≠x:=xt J hA.i (by intro z;cases z)
   have n2:F≠dl:=xt J hA.d (by intro z;cases z);have n3:F≠ul:=xt J hA.u (by intro z;cases z);let#[q1,q2]:=up F _ (by simp[n1,n2,n3,nY F]) J;rw[xE q1];show q2
def sq5{a b c d e u:L2.TS}{D:qPt}(h:∀R,R=u->qG6 a (qG6 b<|qG6 c (qG6 d<|qG6 e R)) D σ H):qG6 a (qG6 b<|qG6 c (qG6 d<|qG6 e u)) D σ H:=h u rfl
def sq4{a b c d u:L2.TS}{D:qPt}(h:∀R,R=u->qG6 a (qG6 b (qG6 c<|qG6 d R)) D σ H):qG6 a (qG6 b (qG6 c<|qG6 d u)) D σ H:=h u rfl
def qY5:Fo P w base T.D94 17 (qUp K):=by
 rcases oL T.D94.F,wL with⟨zs,ns,rfl,hS,az,kk⟩;symm;have hu:=hr.units;show#[_,(qD (qc 1 wL.nd (qK T.D79 (qI6 T) hr rfl<|qA (qR jF (qK T.D77 (vt T) hr rfl (qA (pv 0)<|qA qH qB))<|qR qWf qH qH) qB))
  (qD (qc 2 wL.nd (qK T.D83 (qHv T) hr rfl<|qA (qK T.D77 (vt T) hr rfl (qA (pv 0)<|qA qH qB)) qB))
  (qD (qc 3 wL.nd (qZ (qA (vz [] [] rfl (jh (qJ<|pv 2)) (λ_ _ _ _=>(jp (ka (K:=K) rfl) rfl T.b_list rfl<|qA (pv 0) qB)))<|qA (jp xI rfl T.b_list rfl<|qA (qJ<|pv 2) qB) qB)))
  (qD (qc 4 wL.nd (jp qP6 rfl T.b_dict rfl<|qA (pv 1) qB))
  (qD (qc 5 wL.nd<|jAo T.mk_Hand (qD7 T) hr rfl T.c_Hand T.D95.b (qA (pv 3)<|qA (pv 4) qB))
  (qD (qt (qO6 F.plainAttrs_dict F.slot_dict_clear F.type_dict_clear qR2<|pv 4))
  (qD (qt (qK T.D88 (xj T) hr rfl<|qA (pv 3) qB))
  (qD (qt<|qO6 XA F.slot_list_clear F.type_list_clear qUz (qJ<|pv 3))
  (qD (qc 6 wL.nd (qZ<|qA (qr<|qA (pv 2) qB) (qA (qr qB)<|qA qH qB)))
  (qD (zZ PassesOwn.never rfl (qSu rfl T.b_range (qA qH<|qA (qg (zm rfl) rfl T.b_min rfl (qA qH<|qA (qg jE rfl T.b_len rfl<|qA (pv 0) qB) qB)) qB)) (jB (i:=7) wL.nd rfl<|Or.inl rfl) (qD (qc 6 wL.nd (qK T.D92 (qJ6 T) hr rfl (qA (pv 5) (qA (pv 6) (qA (qR qx (jI qk (pv 0) (pv 7) (λ_ _=>rfl)) (qR jd qH<|pv 7))<|qA (pv 1) qB)))))
  (qF<|qh (PW.pt<|xK (xm (vX<|pv 6)) (jf<|jg (jQ<|qK T.D93 (vU T) hr rfl (qA (pv 5)<|qA (pv 6) qB)))) (qF<|qL vw) qO)))
  (qD (qt (qK T.D88 (xj T) hr rfl<|qA (qCc (pv 5) T.cl_Hand T.D100 (xc T) hr) qB))
  (qD (qt (vd XA XB XC jN (qCc (pv 5) T.cl_Hand T.D101 (qDp T) hr)<|qA (qZ<|qA qQ (qA qH<|qA qH qB)) qB))
  (qD (qt (vd XA XB XC jN (qCc (pv 5) T.cl_Hand T.D102 (qB1 T) hr)<|qA (qZ<|qA qQ (qA qH<|qA qH qB)) qB))
  (qD (qHp PassesOwn.never (PW.pt (zy (xm (qBa<|pv 6))<|xW (qM qFd (qJ<|pv 6) qH<|qP _)))<|qF (qc 6 wL.nd<|qK T.D90 (qDn T) hr rfl (qA (pv 5)<|qA (pv 6) qB)))
  (qD (qh (PW.pt (xK (xm (vX<|pv 6))<|xK (qM (qO5 hu) (qCc (pv 5) T.cl_Hand T.D100 (xc T) hr) (pv 2)<|qP _) (jf<|jg (jQ<|qK T.D93 (vU T) hr rfl (qA (pv 5)<|qA (pv 6) qB))))) (qF<|qL vw) qO)
  (qD (qHp PassesOwn.never (PW.pt (zy (xm (qBa<|pv 6))<|xW (qM zV (qJ<|pv 6) (qg jE rfl T.b_len rfl<|qA (qJ<|pv 6) qB)<|qP _)))<|qF (qc 6 wL.nd<|qK T.D91 (qBi T) hr rfl (qA (pv 5)<|qA (pv 6) qB)))
  (qF (qL<|zf (qWd (qBa<|pv 6)) (vY<|qK T.D93 (vU T) hr rfl (qA (pv 5)<|qA (pv 6) qB)))))))))))))))))))),?_]
 try dsimp only[jK,qi]
 show sq5 λR hR=>?_;show#[_,O,zs,ns,0,O,hS,az,#[],λc0=>#[_,_,O,O,cpw (n:=6) #[],_,_,O,O,#[],_,O,λrr x y z H1 e1 _ a7 aP=>?_]];let#[A1,an]:∃A1:Rg,A1=#[x,y,z,λn=>n="z"\/n="other"]:=#[_,rfl];have aT:RE H1 rr A1:=by subst an;show#[.of a7,aP _]
 have hz:A1.nst "z":=by subst an;show .inl rfl
 have ho:A1.nst "other":=by subst an;show .inr rfl
 clear a7 aP an;show#[_,O,zs,ns,1,O,e1.seq hS,az,#[],λc1=>#[_,O,λt0 L tie H2 l1 l3 tl nd aQ e2 aN=>?_]];have as:=aT.same e2;have bl:SqL K H2 zs (ns.map V.int):=(e1.trans e2).seq hS;clear aT;have aK:=aN;ext;let#[tt,a8,ti,zz,q0,g2,g3,g4,g5]:=aN;cases q0;symm;have aJ:=g4.len;rw[List.length_replicate]at aJ;show(ixO g2 at0 #[a8,rfl,#[_,SqL.of g3],kU (K:=K) (a:=a8) (xs:=zz) (λj ak J=>Same H2 J/\TrsAt J (List.replicate j []) ak/\∃ws:List Addr,ak=ws.map V.ref/\∀z∈ws,H2 z=none/\∃xs,J z=some (.lst xs)/\xs.length<=200) #[Same.refl _,trivial,[],rfl,(λz hz=>by cases hz)] ?_ ?_ ?_])
 . rintro j ak J hj ⟨e,ht,_⟩
   show#[SqL.of<|e _ _ g3,qf (by rw[ht.len,List.length_replicate];lia)]
 . rintro j v ak J hj hv ⟨e,ht,ws,rfl,hw⟩
   ext;let#[bd,z,aY,rfl,us,bi,aL]:=g4.get hv;symm;obtain rfl:bd=[]:=(List.mem_replicate.mp<|YF aY).2;show#[_,O,z,us,O,.inl (SqL.of<|e _ _ bi),λl hl=>Nxt.mk hj ?_];have w3:=qE hl<|.lst us;rw[List.replicate_succ'];show#[e.trans w3,qJq (ht.same w3) #[us,qC,aL.ts (qd<|e.trans w3)],ws++[l],by rw[Ys];rfl,λy hy=>?_];rcases YO.mp hy with hy|hy
   . let#[q1,xs,q2,q3]:=hw y hy
     show#[q1,xs,w3 _ _ q2,q3]
   . rw[YY]at hy
     subst hy;show#[e.free hl,us,qC,by rw[aL.cnt];decide]
 rintro ak J ⟨e3,ht,ws,rfl,hw⟩ d hd;rw[aJ]at ht;have bq:ws.length<=3:=by have:=ht.len;rw[YS,List.length_replicate]at this;lia
 have w3:=qE hd (.lst<|ws.map V.ref);have e4:=e3.trans w3;show(ixO (e4 _ _ g2) at1 #[ti,_,O,.inl (SqL.of<|e4 _ _ g5),λl hl=>#[sL2,λth aO=>?_]]);have w5:=qE hl (.lst<|tie.map V.int);have w6:=qE aO<|.tup [.ref d,.ref l];have ag:=w5.trans w6;have ar:=e4.trans ag;have f6:d≠l:=qW (qC (H:=J) (a:=d) (o:=.lst<|ws.map V.ref)) hl;have f7:d∉ws:=λq=>by let#[_,xs,q2,_]:=hw d q;rw[hd]at q2;cases q2
 have f8:l∉ws:=λq=>by let#[_,xs,q2,_]:=hw l q;have:=w3 _ _ q2;rw[hl]at this;cases this
 have f4:H2 d=none:=e3.free hd;have f5:H2 l=none:=e4.free hl;have f1:=qC (H:=upd (upd J d (.lst<|ws.map V.ref)) l (.lst<|tie.map V.int)) (a:=th) (o:=.tup [.ref d,.ref l]);have f2:=ag _ _<|qC (H:=J) (a:=d) (o:=.lst<|ws.map V.ref);have f3:=w6 _ _<|qC (H:=upd J d (.lst<|ws.map V.ref)) (a:=l) (o:=.lst<|tie.map V.int);have au:∀z∈ws,H2 z=none/\∃xs,upd (upd (upd J d (.lst<|ws.map V.ref)) l (.lst<|tie.map V.int)) th (.tup [.ref d,.ref l]) z=some (.lst xs)/\xs.length<=200:=λz hz=>let #[q1,xs,q2,q3]:=hw z hz;#[q1,xs,ag _ _<|w3 _ _ q2,q3]
 have ad:TabF _ (.ref th) (List.replicate L []) tie:=#[th,d,l,_,rfl,f1,f2,ht.same<|w3.trans ag,f3];change _;generalize upd (upd (upd J d _) l _) th _=H3 at ar f1 f2 f3 au ad⊢;clear hw e3 ht w3 e4 w5 w6 ag hd hl aO;show#[_,O,rr,_,O,qMr ar as.1,λgv aH=>?_];have w7:=qE aH<|.dK [(Sum.inr "a",.int A1.a),(Sum.inr "b",.int A1.b),(Sum.inr "long",.int A1.l)];have al:upd H3 gv (.dK [(Sum.inr "a",.int A1.a),(Sum.inr "b",.int A1.b),(Sum.inr "long",.int A1.l)]) gv=some (.dK [(Sum.inr "a",.int A1.a),(Sum.inr "b",.int A1.b),(Sum.inr "long",.int A1.l)]):=qC;change _;generalize upd H3 gv _=H4 at w7 al⊢;show#[_,O,_,O,λh dx hx bf bb=>?_];have w8:Same H4 (upd (upd H4 dx<|.own h) h<|.ins a.k_Hand dx []):=(qE bf _).trans (qE (by rw[qS bb.symm];show hx) _);have k8:upd (upd H4 dx<|.own h) h (.ins a.k_Hand dx []) h=some (.ins a.k_Hand dx []):=qC;generalize upd (upd H4 dx<|.own h) h (.ins a.k_Hand dx [])=H5 at w8 k8⊢;show#[h,dx,th,gv,_,tie,_,O,k8,(ad.same w7).same w8,#[by rw[List.length_replicate];lia,(),λms hm=>by rw[(List.mem_replicate.mp hm).2];decide],w8 _ _ al,λtz re dl ul H6 sb hA ao aM hn=>#[O,?_]];change R _ _ _;subst hR;show sq4 λR hR=>?_;have hY:∀b∈gv::d::l::ws,H2 b=none/\((∃xs,H4 b=some (.lst xs))\/∃kvs,H4 b=some (.dK kvs)):=λb hb=>by
  simp only[YU]at hb;rcases hb with rfl|rfl|rfl|hb
  . show#[ar.free aH,.inr #[_,al]]
  . show#[f4,.inl #[_,w7 _ _ f2]]
  . show#[f5,.inl #[_,w7 _ _ f3]]
  . let#[q1,xs,q2,_]:=au b hb
    show#[q1,.inl #[_,w7 _ _ q2]]
 have ao:=ao (gv::d::l::ws) λb hb=>(hY b hb).2.imp (λ#[xs,q]=>#[xs,w8 _ _ q]) λ#[xs,q]=>#[xs,w8 _ _ q];have hY:∀b∈gv::d::l::ws,H2 b=none/\∃u,H4 b=some u:=λb hb=>#[(hY b hb).1,(hY b hb).2.elim (λ#[_,q]=>#[_,q]) λ#[_,q]=>#[_,q]];have nw:∀b∈[re,dl,ul,h],H4 b=none:=λb hb=>by
  rcases (YO (s:=[re,dl,ul]) (t:=[h])).mp hb with q|q
  . show w8.free (hn b q)
  . rw[YY.mp q];show hx
 have av:SB h H4 H6:=λb u n hb=>sb _ _ n<|w8 _ _ hb;have ae:Same H3 (upd H6 gv<|.dK []):=λb u hb=>by rw[qS<|qW hb aH];show av _ _ (qW (w7 _ _ hb) hx) (w7 _ _ hb)
 have aG:=av _ _ (qW al hx) al;show#[_,O,.inr (.inr<|.inl #[O,.inl #[_,aG]]),gv,_,O,O,aG,?_];have aw:∀b∈d::l::ws,Mk (d::l::ws) (upd H6 gv<|.dK []) b=none:=λb hb=>YB hb;have aV:th∉d::l::ws:=λhm=>by
  simp only[YU]at hm;rcases hm with q|q|q
  . rw[<-q,f1]at f2;cases f2
  . rw[<-q,f1]at f3;cases f3
  . let#[_,xs,q2,_]:=au th q;rw[f1]at q2;cases q2
 show#[_,rfl,Mk (d::l::ws) (upd H6 gv<|.dK []),th,rfl,mk_same,#[d,l,ws,_,ae _ _ f1,ae _ _ f2,ae _ _ f3,aw d #[],aw l #[],f6,f7,f8,(),by rw[YS];lia,λz hz=>let #[_,xs,q2,q3]:=au z hz;#[aw z (by simp[hz]),xs,ae _ _ q2,q3]],λH8 e8 #[d',l',ls,p1,p2]=>?_];have p3:=e8 th _ (by rw[xE aV];show ae _ _ f1);rw[p3]at p1;cases p1;show(ixO p3 at1 #[.inl #[O,_,SqL.of p2],l,_,O,O,p2,?_]);have fr:∀b u,b∉gv::d::l::ws->H6 b=some u->upd H8 l (.lst []) b=some u:=λb u hn hb=>by simp only[YU,not_or]at hn;rw[qS hn.2.2.1];show e8 _ _ (by rw[xE (by simp[hn.2.1,hn.2.2.1,hn.2.2.2]),qS hn.1];show hb)
 generalize upd H8 l (.lst [])=H9 at fr⊢;ext;let#[aa,u9,a6,ay]:=jAx (ar.trans w7) hY av nw hA ao aM fr;symm;show#[_,O,sL1,λaf aS=>#[sL0,λgl aC=>#[sL3,λst aZ=>?_]]];have w9:=qE aS<|.lst [.ref t0];have ap:=qE aC<|.lst [];have aq:=qE aZ<|.tup [.ref af,.ref gl,.int 0];have aj:=w9.trans<|ap.trans aq;have n9:∀b,H9 b=none->b∉[h,dl,ul]:=λb hb hm=>by
  simp only[YU,ZE,or_false]at hm;rcases hm with rfl|rfl|rfl
  . rw[aa.i]at hb;cases hb
  . rw[aa.d]at hb;cases hb
  . rw[aa.u]at hb;cases hb
 have S:StL K (upd (upd (upd H9 af<|.lst [.ref t0]) gl<|.lst []) st<|.tup [.ref af,.ref gl,.int 0]) a.k_Hand h rr t0 st dx tz re dl ul af gl [(zs,ns.map V.int)] A1 tie L 0 [List.replicate L []] [] [t0] [] [] 0:=by
  have m:=qGl (X:=[h,dl,ul]) aj;have aI:=u9.trans m;show#[#[aj _ _ aa.i,aj _ _ aa.d,aj _ _ aa.u,aa.ne],#[as.2,hz,ho,l1,l3,tl,nd,aQ,O,λi ts q=>?_,λi n d q=>?_],#[O,λi q h=>?_,YI _,O,#[_,O,a6.same m],#[.of<|m _ _ ay,as.2],λi g n d h=>?_],#[?_,?_,?_,O,λi b ts h1 h2=>?_],as.same aI,λp hp=>?_,O,YI _]
  . cases i with
    |zero=>cases q;show#[TB.empty l1 l3 tl aQ,List.length_replicate]
    |succ i=>cases q
  . cases q
  . cases h
  . cases h
  . rw[xE<|n9 st (w9.free<|ap.free aZ)];show qC
  . rw[xE<|n9 af aS];show(ap.trans aq) _ _ qC
  . rw[xE (n9 gl<|w9.free aC)];show aq _ _ qC
  . cases i with
    |zero=>cases h1;cases h2;show aK.same aI
    |succ i=>cases h1
  . obtain rfl:=YY.mp hp
    show aI.seq bl
 have aA:SqL K _ zs (ns.map V.int):=mk_same.seq<|S.ks (zs,ns.map V.int) #[];change _;generalize upd (upd (upd H9 af _) gl _) st _=H10 at S aA⊢;clear w9 ap aq aj n9 aa u9 a6 ay ao hY nw av ae aG fr aw;change R _ _ _;subst hR;show sq4 λR hR=>?_;have aD:∀ai:Addr,V.bl (!decide (V.ref ai=V.non))=V.bl true:=λai=>XF V.bl (by rw[YW (by intro z;cases z)];rfl);have a0:∀ai:Addr,V.bl (decide<|V.ref ai=V.non)=V.bl false:=λai=>XF V.bl (YW (by intro z;cases z));have a4:(ns.map V.int).length=ns.length:=YS _;have aU:(if ((ns.map V.int).length:Int)<16 then ((ns.map V.int).length:Int)else 16)<=16/\(if ((ns.map V.int).length:Int)<16 then ((ns.map V.int).length:Int)else 16)<=ns.length:=by rw[a4];split <;> lia
 let#[m,hm]:∃m,(if ((ns.map V.int).length:Int)<16 then ((ns.map V.int).length:Int)else 16)=m:=#[_,rfl];rw[hm]at aU;show#[_,O,zs,_,O,.inl aA,16,_,O,2,m,by rw[<-hm],#[#[],#[],?_,()],qF8 (lo:=2) (n:=(m-2).toNat) (λi σ H'=> ∃(o:Option V) (st:Addr),σ=[some<|.ref zs,some<|.ref rr,some<|.ref t0,some<|.ref th,some<|.ref gv,some<|.ref h,some<|.ref st,o]/\StH K H' a.k_Hand h rr t0 st [(zs,ns.map V.int)] A1 tie L (2*i)) #[none,st,O,S.h<|YI _] ?_ ?_]
 . rw[<-hm]
   split <;> lia
 . rintro i σ H6 hi ⟨o,st,rfl,am⟩
   have bc:i<14/\2+(i:Int)<ns.length:=()
   ext;let#[v,be,aX]:=qAk (xs:=ns.map V.int) (i:=2+(i:Int)) () (by rw[a4];show bc.2);let#[k,_,rfl]:=List.mem_map.mp aX;symm;have sq:SqL K H6 zs (ns.map V.int):=by let#[dx,tz,re,dl,ul,tl,gl,tss,nds,tbs,gs,qs,k,S]:=am;show mk_same.seq (S.ks (zs,ns.map V.int) #[])
   show#[_,O,_,O,_,O,_,O,zs,_,_,_,O,O,sq,be,_,O,_,_,O,O,cmL #[] #[],_,_,O,O,_,O,h,rr,t0,st,_,_,A1,tie,L,_,O,am,(),λac H7 bk=>?_];ext;let#[dx,tz,re,dl,ul,tl,gl,tss,nds,tbs,gs,qs,k,S7]:=bk;symm;show#[_,O,false,a0 ac,jH #[_,O,_,O,h,rr,t0,ac,dx,tz,re,dl,ul,tl,gl,_,A1,tie,L,_,tss,nds,tbs,gs,qs,k,O,S7,(),λH8 e8=>#[true,O,jH #[_,ac,O,(S7.same e8).h ()]]]]
 rintro σ H6 ⟨o,st,rfl,am⟩;have br:(m-2).toNat<=14:=()
 ext;let#[dx,tz,re,dl,ul,tl,gl,tss,nds,tbs,gs,qs,k,S]:=am;have hk:=S.hd.le;have bp:=S.few;have aC:=S.hd.gl;have bu:=S.hd.ql;let#[ts,ah,ad]:=S.hd.he;let#[ax,bg]:=S.hi.tb k ts ah;symm;show#[_,O,h,_,_,O,S.ha.i,O,h,dx,tz,re,dl,ul,ts,tie,O,S.ha.i,ad.same mk_same,ax.bd (),λt H7 e7 _ aW=>#[H6,t,O,e7,aW,λH8 e8 _=>?_]];have S8:=S.same e8;show#[_,O,h,_,_,O,S8.ha.i,O,h,dx,tz,re,dl,ul,_,_,(gs.take k).map V.ref,O,S8.ha,by rw[YS,YS,Yk];lia,by rw[YS];lia,λi v g h1 h2=>?_,λl1 bh=>#[.inl #[O,_,SqL.of qC],sL3,λtp a3=>?_]]
 . rw[Yj]at h1 h2
   ext;let#[q,hq,rfl]:=Option.map_eq_some_iff.mp h1;let#[g',a9,rfl]:=Option.map_eq_some_iff.mp h2;let#[g2,y,bt,x1,x2,a1,a2,_]:=S8.hd.q i q hq;have bo:i<k:=by have:=(glt hq);lia
   rw[List.getElem?_take_of_lt bo,a1]at a9;cases a9;symm;show#[q,.ref y,O,mk_same _ _ a2]
 have aE:∀{G:Hp} {l t:Addr} {o o' o2:HO},G l=none->upd G l o t=none->Same G (upd (upd (upd G l o) t o2) l o'):=λ{G l t o o' o2} hl ht b u hb=>by rw[qS<|qW hb hl];show(qE hl o).trans (qE ht o2) _ _ hb
 show#[l1,_,_,O,O,(qE a3 _) _ _ qC,qf (by rw[YS,Yk];lia),?_];have S9:=S8.same<|aE bh a3 (o':=.lst<|(gs.take k).map V.ref++[.ref tp]) (o2:=.tup [.str "cut",.int 0,.int 0]);change _;generalize upd (upd (upd H8 l1 _) tp _) l1 _=H9 at S9⊢;show#[_,O,h,_,_,O,S9.ha.i,O,h,dx,tz,re,dl,ul,_,_,O,S9.ha,λl2 bj=>#[.inl #[O,_,SqL.of qC],sL3,λtq aR=>?_]];show#[l2,_,_,O,O,(qE aR _) _ _ qC,qf (by rw[List.length_reverse,YS,List.length_reverse,ZV];lia),?_];have a5:=S9.same<|aE bj aR (o':=.lst<|((gs.drop k).reverse.map V.ref).reverse++[.ref tq]) (o2:=.tup [.str "cut",.int 0,.int 0]);change _;generalize upd (upd (upd H9 l2 _) tq _) l2 _=H10 at a5⊢;clear S S8 S9 aE e7 aW e8 ad ax ah;change R _ _ _;subst hR;show#[λm' σ H'=> ∃(st tz:Addr) (qs:List Addr),σ=[some<|.ref zs,some<|.ref rr,some<|.ref t0,some<|.ref th,some<|.ref gv,some<|.ref h,some<|.ref st,o]/\StL K H' a.k_Hand h rr t0 st dx tz re dl ul tl gl [(zs,ns.map V.int)] A1 tie L (2*(m-2).toNat) tss nds tbs gs qs m',#[k,st,tz,qs,O,a5],?_];rintro k σ H7 ⟨st,tz,qs,rfl,S7⟩;show#[_,O,true,aD st,ju (ixO (mk_same _ _ S7.lw.s) rfl #[_,_,O,O,_,O,jw (λc=>?_) (λc=>?_)])]
 . have c:(0:Int)<(k:Int):=ZM c
   show#[λσ' H'=> ∃(st tz:Addr) (qs:List Addr),σ'=[some<|.ref zs,some<|.ref rr,some<|.ref t0,some<|.ref th,some<|.ref gv,some<|.ref h,some<|.ref st,o]/\StL K H' a.k_Hand h rr t0 st dx tz re dl ul tl gl [(zs,ns.map V.int)] A1 tie L (2*(m-2).toNat) tss nds tbs gs qs (k-1),λσ' H' q=>#[k-1,(),q],_,O,_,O,h,rr,t0,st,dx,tz,re,dl,ul,tl,gl,_,A1,tie,L,_,tss,nds,tbs,gs,qs,k,O,S7,(),λac aB aF H8 S8=>#[ac,aB,aF,O,S8]]
 have c:¬(0:Int)<(k:Int):=of_decide_eq_false<|Bool.eq_false_iff.mpr c;obtain rfl:k=0:=()
 ext;let#[ts,ah,ad]:=S7.hd.he;let#[ax,bg]:=S7.hi.tb 0 ts ah;let#[b1,b2]:=qB6 ts tie;symm;show#[_,O,false,a0 st,jH #[_,O,h,_,_,O,S7.ha.i,O,h,dx,tz,re,dl,ul,ts,tie,O,S7.ha.i,ad.same mk_same,ax.bd (),λt H8 e8 ba _=>?_]];have S8:=S7.same e8;show#[_,O,tabD ts tie,tabD ts tie,ba.rep,((S8.lw.tb 0 t0 ts S8.z0 ah).same mk_same).rep,O,(),false,XF V.bl (by rw[b1];rfl),jH #[_,O,_,O,h,rr,t0,st,dx,tz,re,dl,ul,tl,gl,_,A1,tie,L,_,tss,nds,tbs,gs,qs,0,O,S8,(),λH9 e9=>#[true,O,jH ?_]]];have S9:=S8.same e9;clear S7 S8;show#[λm' σ H'=> ∃(st tz:Addr) (qs:List Addr) (k:Nat),σ=[some<|.ref zs,some<|.ref rr,some<|.ref t0,some<|.ref th,some<|.ref gv,some<|.ref h,some<|.ref st,o]/\StL K H' a.k_Hand h rr t0 st dx tz re dl ul tl gl [(zs,ns.map V.int)] A1 tie L (2*(m-2).toNat) tss nds tbs gs qs k/\m'=nds.length-k,#[_,st,tz,qs,0,O,S9,O],?_];rintro _ σ H7 ⟨st,tz,qs,k,rfl,S7,rfl⟩;show#[_,O,true,aD st,ju (ixO (mk_same _ _ S7.lw.s) rfl (ixO (mk_same _ _ S7.lw.s) rfl #[gl,_,O,.inl (SqL.of<|mk_same _ _ S7.lw.g),_,_,O,O,_,O,jw (λc=>?_) (λc=>?_)]))]
 . have c:(k:Int)<((gs.map V.ref).length:Int):=ZM c
   rw[YS]at c;show#[λσ' H'=> ∃(st tz:Addr) (qs:List Addr),σ'=[some<|.ref zs,some<|.ref rr,some<|.ref t0,some<|.ref th,some<|.ref gv,some<|.ref h,some<|.ref st,o]/\StL K H' a.k_Hand h rr t0 st dx tz re dl ul tl gl [(zs,ns.map V.int)] A1 tie L (2*(m-2).toNat) tss nds tbs gs qs (k+1),λσ' H' #[st,tz,qs,q1,q2]=>#[nds.length-(k+1),(),st,tz,qs,k+1,q1,q2,rfl],_,rfl,_,rfl,h,rr,t0,st,dx,tz,re,dl,ul,tl,gl,_,A1,tie,L,_,tss,nds,tbs,gs,qs,k,rfl,S7,(),λac aB aF k' H8 bn S8=>#[ac,aB,aF,rfl,by rw[bn ()]at S8;show S8]]
 show#[_,O,true,aD st,ju #[_,O,_,O,h,rr,t0,st,dx,tz,re,dl,ul,tl,gl,_,A1,tie,L,_,tss,nds,tbs,gs,qs,k,O,S7,(),λH' _=>kk _]]
end
structure DF(K:Fg)(x:Str)(st:Stmt)(f:Addr)(fd:FD):Prop where
 n:W.nsIn K mainGlobals x=some (some (.ref f))
 F:Fun K x x st f fd
def df_mk{K:Fg}{x:Str}{oc:Value}{an:Option Addr}{J:Array<|Option Value}{kV F pm ct:Value}(n:W.nsIn K mainGlobals x=some (some<|.ref f))(l:K.lookup f=some #[oc,od,.func<|W.fnOf x x (zl st) (j9 st) (qG st) .none kV F pm an cdv ct,J])(c:W.codeIn K cdv x=true)(k:W.keepIn K (.ref f)=true):DF K x st f (W.fnOf x x (zl st) (j9 st) (qG st) .none kV F pm an cdv ct):=#[n,qTe l c k]
structure DM(K:Fg)(C:Addr)(m q:Str)(st:Stmt)(f:Addr)(fd:FD):Prop where
 F:Fun K m q st f fd
 t:qZs K C m f
def dm_mk{K:Fg}{C:Addr}{m q:Str}{oc:Value}{an:Option Addr}{J:Array<|Option Value}{kV F pm ct:Value}(n:W.findIn K (.ref C) m=some (some<|.ref f))(i:W.isFn K (.ref f)=true)(l:K.lookup f=some #[oc,od,.func<|W.fnOf m q (zl st) (j9 st) (qG st) .none kV F pm an cdv ct,J])(c:W.codeIn K cdv q=true)(k:W.keepIn K (.ref f)=true):DM K C m q st f (W.fnOf m q (zl st) (j9 st) (qG st) .none kV F pm an cdv ct):=#[qTe l c k,n,i,k]
structure CM(K:Fg)(C:Addr):Prop where
 c:Cls K C
 m:W.makesIn K C=true
 k:W.keepIn K (.ref C)=true
def cm_mk{K:Fg}{C:Addr}(a:W.plainGet K C Str.empty=true)(b:W.hasDictIn K C=true)(c:W.plainOver K C=true)(d:W.findIn K (.ref C) "__setattr__"=some (some<|.builtin "object.__setattr__"))(e:W.makesIn K C=true)(f:W.keepIn K (.ref C)=true):CM K C:=#[#[a,b,c,d],e,f]
def GL(K:Fg)(x:Str)(v:Option Value):Prop:=W.nsIn K mainGlobals x=some v
def gl_mk{K:Fg}{x:Str}{v:Option Value}(h:W.nsIn K mainGlobals x=some v):GL K x v:=h
def Cur:LS->(LW->Prop)->Prop
 |[],F=>F []
 |_::ps,F=> ∀a,Cur ps λus=>F (a::us)
theorem Cur.all:∀{ps:LS} {F:LW->Prop},Cur ps F->∀J:LW,J.length=ps.length->F J
 |[],_,h,[],_=>h
 |_::_,_,h,a::_,e=>Cur.all (h a) _<|Nat.succ.inj e
def dG{K:Fg}{x:Str}{h:Heap}{mg:SV}(X:K.In h)(G:h.Ns mainGlobals mg)(d:DF K x st f fd)
 (b:∀(kV F pm:Value) (an:Option Addr) (cdv ct:Value),Cur ps λJ=>bindArgs (W.fnOf x x (zl st) (j9 st) (qG st) .none kV F pm an cdv ct) #[J,[]]=pure (ps.zip J):=by (repeat intro _);show rfl):L3.Def K mg x st ps f fd:=#[d.F,d.F.binds λk c p n v t=>(b k c p n v t).all,W.mg_of X G d.n]
def dM{K:Fg}{C:Addr}{x q:Str}(d:DM K C x q st f fd)
 (b:∀(kV F pm:Value) (an:Option Addr) (cdv ct:Value),Cur ps λJ=>bindArgs (W.fnOf x q (zl st) (j9 st) (qG st) .none kV F pm an cdv ct) #[J,[]]=pure (ps.zip J):=by (repeat intro _);show rfl):L3.MD K C x q st ps f fd:=#[d.F,d.F.binds λk c p n v t=>(b k c p n v t).all,d.t]
def all_mk{l:W.OpenLaw}{w:World}{K:Fg}{h:Heap}{mg:SV}{fa f0 f1 f2 f3 f4 f5 f6 f7 f8 f9 f10 f11 f12 f13 f14 f15 f16 f17 f18 f19 f20 f21 f22 f23 f24 f25 f26 f27 f28 f29 f30 f31 f32 f33 f34 f35 f36 f37 f38 f39 f40 f41 f42 f43 f44 f45 f46 f47 f48 f49 f50 f51 f52 f53 f54 f55 f56 f57 f58 f59 f60 f61 f62 f63 f64 f65 f66 f67 f68 f69 f70 f71 f72 f73 f74 f75 f76 f77 f78 f79 f80 f81 f82 f83 f84 f85 f86 f87 f88 f89 f90 f91 f92 f93 f94 f95 f96 f97 f98 f99 f100 f101 f102 C0 C1 C2 C3 C4 C5 C6 C7 nNOUGHT nROLLS nLAYS nPUSHES nCHANGES fmShort:Addr}{g0 g1 g2 g3 g4 g5 g6 g7 g8 g9 g10 g11 g12 g13 g14 g15 g16 g17 g18 g19 g20 g21 g22 g23 g24 g25 g26 g27 g28 g29 g30 g31 g32 g33 g34 g35 g36 g37 g38 g39 g40 g41 g42 g43 g44 g45 g46 g47 g48 g49 g50 g51 g52 g53 g54 g55 g56 g57 g58 g59 g60 g61 g62 g63 g64 g65 g66 g67 g68 g69 g70 g71 g72 g73 g74 g75 g76 g77 g78 g79 g80 g81 g82 g83 g84 g85 g86 g87 g88 g89 g90 g91 g92 g93 g94 g95 g96 g97 g98 g99 g100 g101 g102:FD}(X:K.In h)(G:h.Ns mainGlobals mg)(hfa:mg "law"=some (.ref fa))
 {odNOUGHT odROLLS odLAYS odPUSHES odCHANGES odmShort anmShort:Option Addr} {slNOUGHT slROLLS slLAYS slPUSHES slCHANGES slmShort:Array (Option Value)} {ocmShort kVmShort dcmShort pmmShort cdmShort ctmShort:Value} {tLETTERS tLONGEST_NAME tMOST_ROOM tNOUGHT_0 tNOUGHT_1 tMOST_BY tROLLS_0 tROLLS_1 tROLLS_2 tLAYS_0 tLAYS_1 tPUSHES_0 tPUSHES_1 tPUSHES_2 tCHANGES_0 tCHANGES_1 tCHANGES_2 tCHANGES_3 tCHANGES_4 tCHANGES_5:Tok} {nnNOUGHT nnROLLS nnLAYS nnPUSHES nnCHANGES:Nat}
 (h0:DF K "is_whole" qCj f0 g0)
 (h1:DF K "common_divisor" zD f1 g1)
 (h2:DF K "is_fraction" vE f2 g2)
 (h3:DF K "fraction" qC7 f3 g3)
 (h4:DF K "sum_of" qIt f4 g4)
 (h5:DF K "less_by" qFr f5 g5)
 (h6:DF K "times_of" qCx f6 g6)
 (h7:DF K "quotient" qC6 f7 g7)
 (h8:DF K "is_before" qA6 f8 g8)
 (h9:DF K "floor_of" qDa f9 g9)
 (h10:DF K "is_name" qE1 f10 g10)
 (h11:DF K "has_clip_form" zg f11 g11)
 (h12:DF K "place_at" qCr f12 g12)
 (h13:DF K "picture_at" wK f13 g13)
 (h14:DF K "is_there" qC8 f14 g14)
 (h15:DF K "check_clip" ve f15 g15)
 (h16:DF K "clip_part" qA9 f16 g16)
 (h17:DF K "goes_on" qEx f17 g17)
 (h18:DF K "moments_there" zW f18 g18)
 (h19:DF K "head_room" qA3 f19 g19)
 (h20:DF K "tail_room" qAv f20 g20)
 (h21:DF K "is_length" qAo f21 g21)
 (h22:DF K "has_nest_form" zd f22 g22)
 (h23:DF K "moments_of" wB f23 g23)
 (h24:DF K "one_form" qCz f24 g24)
 (h25:DF K "length_of" qAt f25 g25)
 (h26:DF K "item_at" qE8 f26 g26)
 (h27:DF K "kind_at" qEy f27 g27)
 (h28:DF K "place_ahead" kf f28 g28)
 (h29:DF K "place_behind" kN f29 g29)
 (h30:DF K "neighbours_at" zj f30 g30)
 (h31:DF K "clips_at_border" xq f31 g31)
 (h32:DF K "lies_within" ki f32 g32)
 (h33:DF K "item_part" qBb f33 g33)
 (h34:DF K "part_of_track" zU f34 g34)
 (h35:DF K "part_ahead" wI f35 g35)
 (h36:DF K "part_behind" vA f36 g36)
 (h37:DF K "mix_spans" qAs f37 g37)
 (h38:DF K "taken_at_begin" zH f38 g38)
 (h39:DF K "taken_at_end" kG f39 g39)
 (h40:DF K "most_mix" qCq f40 g40)
 (h41:DF K "check_place" vL f41 g41)
 (h42:DF K "check_by" qC3 f42 g42)
 (h43:DF K "clip_there" wa f43 g43)
 (h44:DF K "clip_and_sides" zC f44 g44)
 (h45:DF K "places_named" kJ f45 g45)
 (h46:DF K "has_mix" qE4 f46 g46)
 (h47:DF K "check_short" vR f47 g47)
 (h48:DF K "most_slip" qAp f48 g48)
 (h49:DF K "most_roll" qAu f49 g49)
 (h50:DF K "slipped" qF4 f50 g50)
 (h51:DF K "with_rolled_ends" xT f51 g51)
 (h52:DF K "table_with" vh f52 g52)
 (h53:DF K "rolled" qJd f53 g53)
 (h54:DF K "stretch_of" v9 f54 g54)
 (h55:DF K "laid_by" qF5 f55 g55)
 (h56:DF K "laid_on_tied" kI f56 g56)
 (h57:DF K "tracks_changed" zE f57 g57)
 (h58:DF K "check_numbers" ze f58 g58)
 (h59:DF K "touches_mix" vI f59 g59)
 (h60:DF K "check_mixes" vO f60 g60)
 (h61:DF K "check_change" kA f61 g61)
 (h62:DF K "nest_goes_on" kF f62 g62)
 (h63:DF K "can_heal" qC1 f63 g63)
 (h64:DF K "healed" qJc f64 g64)
 (h65:DF K "mixed" qM3 f65 g65)
 (h66:DF K "unmixed" qEu f66 g66)
 (h67:DF K "relaid" qH4 f67 g67)
 (h68:DF K "changed" qFo f68 g68)
 (h69:DF K "deed_done" qA4 f69 g69)
 (h70:DF K "heals" qNd f70 g70)
 (h71:DF K "laid_again" wP f71 g71)
 (h72:DF K "back_of_mix" vD f72 g72)
 (h73:DF K "back_of_room" kH f73 g73)
 (h74:DF K "back_of_stretch" xo f74 g74)
 (h75:DF K "back_of" qFv f75 g75)
 (h76:DF K "copy_of" qGg f76 g76)
 (h77:DF K "_law_cell_at" kK f77 g77)
 (h78:DF K "_law_drawn" vq f78 g78)
 (h79:DF K "_law_reels" wb f79 g79)
 (h80:DF K "_law_clip" qBe f80 g80)
 (h81:DF K "_law_item" qAy f81 g81)
 (h82:DF K "_law_deed" qAx f82 g82)
 (h83:DF K "_law_table" wJ f83 g83)
 (h84:DF K "_law_which" vf f84 g84)
 (h85:DF K "_law_tried" wD f85 g85)
 (h86:DF K "_law_handed" vQ f86 g86)
 (h87:DF K "_law_turned" vG f87 g87)
 (h88:DF K "_law_spoil" wM f88 g88)
 (h89:DF K "_law_done" qAz f89 g89)
 (h90:DF K "_law_back" qBc f90 g90)
 (h91:DF K "_law_again" wE f91 g91)
 (h92:DF K "_law_step" qA2 f92 g92)
 (h93:DF K "_law_right" wT f93 g93)
 (h94:DF K "law" qXi f94 g94)
 (h95:DM K C7 "__init__" "Hand.__init__" zo f95 g95)
 (h96:DM K C7 "keep" "Hand.keep" qAw f96 g96)
 (h97:DM K C7 "do" "Hand.do" qGa f97 g97)
 (h98:DM K C7 "undo" "Hand.undo" qA7 f98 g98)
 (h99:DM K C7 "redo" "Hand.redo" qBf f99 g99)
 (h100:DM K C7 "table" "Hand.table" wF f100 g100)
 (h101:DM K C7 "past" "Hand.past" qAq f101 g101)
 (h102:DM K C7 "ahead" "Hand.ahead" vo f102 g102)
 (xg0:GL K "CutError" (some (.ref C0)))
 (xg1:GL K "NoNumber" (some (.ref C1)))
 (xg2:GL K "NoClip" (some (.ref C2)))
 (xg3:GL K "NoPlace" (some (.ref C3)))
 (xg4:GL K "Mixed" (some (.ref C4)))
 (xg5:GL K "NoOrder" (some (.ref C5)))
 (xg6:GL K "Short" (some (.ref C6)))
 (xg7:GL K "Hand" (some (.ref C7)))
 (cmHand:CM K C7) (naHand_held:W.findIn K (.ref C7) "held"=some none) (naHand_reels:W.findIn K (.ref C7) "reels"=some none) (naHand_done:W.findIn K (.ref C7) "done"=some none) (naHand_undone:W.findIn K (.ref C7) "undone"=some none)
 (yPC:W.exmOne K (.ref C3) (.ref C0)=some true)
 (yMC:W.exmOne K (.ref C4) (.ref C0)=some true)
 (ySC:W.exmOne K (.ref C6) (.ref C0)=some true)
 (yOO:W.exmOne K (.ref C5) (.ref C5)=some true)
 (rPP:W.kitOne K (.ref C3) (.ref C3)=some true)
 (rPN:W.kitOne K (.ref C3) (.ref C2)=some false)
 (rPM:W.kitOne K (.ref C3) (.ref C4)=some false)
 (rPS:W.kitOne K (.ref C3) (.ref C6)=some false)
 (rMP:W.kitOne K (.ref C4) (.ref C3)=some false)
 (rMN:W.kitOne K (.ref C4) (.ref C2)=some false)
 (rMM:W.kitOne K (.ref C4) (.ref C4)=some true)
 (rMS:W.kitOne K (.ref C4) (.ref C6)=some false)
 (rSP:W.kitOne K (.ref C6) (.ref C3)=some false)
 (rSN:W.kitOne K (.ref C6) (.ref C2)=some false)
 (rSM:W.kitOne K (.ref C6) (.ref C4)=some false)
 (rSS:W.kitOne K (.ref C6) (.ref C6)=some true)
 (rOP:W.kitOne K (.ref C5) (.ref C3)=some false)
 (rOS:W.kitOne K (.ref C5) (.ref C6)=some false)
 (e_NoPlace:L3.ExcK K C3)
 (e_Mixed:L3.ExcK K C4)
 (e_Short:L3.ExcK K C6)
 (e_NoOrder:L3.ExcK K C5)
 (x_NoOrder:L3.OwnX K C5)
 (x_NoPlace:L3.OwnX K C3)
 (x_Mixed:L3.OwnX K C4)
 (xz0:GL K "isinstance" none)
 (xz1:GL K "int" none)
 (xz2:GL K "bool" none)
 (xz3:GL K "abs" none)
 (xz4:GL K "tuple" none)
 (xz5:GL K "len" none)
 (xz6:GL K "all" none)
 (xz7:GL K "str" none)
 (xz8:GL K "min" none)
 (xz9:GL K "sum" none)
 (xz10:GL K "enumerate" none)
 (xz11:GL K "max" none)
 (xz12:GL K "list" none)
 (xz13:GL K "any" none)
 (xz14:GL K "range" none)
 (xz15:GL K "dict" none)
 (xz16:GL K "reversed" none)
 (xcLETTERS:GL K "LETTERS" (some (.str "abcdefghijklmnopqrstuvwxyz" tLETTERS)))
 (xcLONGEST_NAME:GL K "LONGEST_NAME" (some (.int 8 tLONGEST_NAME)))
 (xcMOST_ROOM:GL K "MOST_ROOM" (some (.int 1000000 tMOST_ROOM)))
 (xcNOUGHT:GL K "NOUGHT" (some (.ref nNOUGHT))) (xlNOUGHT:K.lookup nNOUGHT=some ⟨.type "tuple",odNOUGHT,.seq %[.int 0 tNOUGHT_0,.int 1 tNOUGHT_1|0] nnNOUGHT,slNOUGHT⟩)
 (xcMOST_BY:GL K "MOST_BY" (some (.int 1000000 tMOST_BY)))
 (xcROLLS:GL K "ROLLS" (some (.ref nROLLS))) (xlROLLS:K.lookup nROLLS=some ⟨.type "tuple",odROLLS,.seq %[.str "roll" tROLLS_0,.str "slip" tROLLS_1,.str "slide" tROLLS_2|0] nnROLLS,slROLLS⟩)
 (xcLAYS:GL K "LAYS" (some (.ref nLAYS))) (xlLAYS:K.lookup nLAYS=some ⟨.type "tuple",odLAYS,.seq %[.str "lay_in" tLAYS_0,.str "lay_over" tLAYS_1|0] nnLAYS,slLAYS⟩)
 (xcPUSHES:GL K "PUSHES" (some (.ref nPUSHES))) (xlPUSHES:K.lookup nPUSHES=some ⟨.type "tuple",odPUSHES,.seq %[.str "lay_in" tPUSHES_0,.str "open" tPUSHES_1,.str "close" tPUSHES_2|0] nnPUSHES,slPUSHES⟩)
 (xcCHANGES:GL K "CHANGES" (some (.ref nCHANGES))) (xlCHANGES:K.lookup nCHANGES=some ⟨.type "tuple",odCHANGES,.seq %[.str "cut" tCHANGES_0,.str "lay_in" tCHANGES_1,.str "open" tCHANGES_2,.str "close" tCHANGES_3,.str "lift" tCHANGES_4,.str "lay_over" tCHANGES_5|0] nnCHANGES,slCHANGES⟩)
 (iaShort:W.findIn K (.ref C6) "__init__"=some (some (.ref fmShort))) (ilShort:K.lookup fmShort=some ⟨ocmShort,odmShort,.func (W.fnOf "__init__" "Short.__init__" (zl wl) (j9 wl) (qG wl) .none kVmShort dcmShort pmmShort anmShort cdmShort ctmShort),slmShort⟩) (icShort:W.codeIn K cdmShort "Short.__init__"=true) (ikShort:W.keepIn K (.ref fmShort)=true) (ifShort:W.isFn K (.ref fmShort)=true)
 (ivShort:L3.exOver K C6 C0=true) (ihShort:W.hasDictIn K C6=true) (isShort:W.findIn K (.ref C6) "__setattr__"=some (some (.builtin "object.__setattr__"))) (ixShort:L3.excInitIn K C6 fmShort=true) (itShort:W.takerIn K C6 "most"=some none)
 :∃fd:FD,(∀(s:Shared) (v:Value),BindsTo s fd ⟨[v],[]⟩ [("_law_script",v)])/\∀base:Heap,K.In base->base.Ns mainGlobals mg->FnOk l.prog w K mg base CX0 17 fa fd ["_law_script"] (qUp K):=by
 have e:=hfa.symm.trans (W.mg_of X G h94.n);obtain rfl:f94=fa:=by cases e;rfl
 obtain⟨_,_,_,_,_,_,_,_,_,rfl,_,_⟩:=h94.F.ex;have FmShort:=qTe (st:=wl) ilShort icShort ikShort;have bmShort:=FmShort.binds (ps:=["self","most"]) λ_ _ _ _ _ _=>Cur.all (by (repeat intro _);exact rfl);have T:Tx K mg ⟨f0,_,f1,_,f2,_,f3,_,f4,_,f5,_,f6,_,f7,_,f8,_,f9,_,f10,_,f11,_,f12,_,f13,_,f14,_,f15,_,f16,_,f17,_,f18,_,f19,_,f20,_,f21,_,f22,_,f23,_,f24,_,f25,_,f26,_,f27,_,f28,_,f29,_,f30,_,f31,_,f32,_,f33,_,f34,_,f35,_,f36,_,f37,_,f38,_,f39,_,f40,_,f41,_,f42,_,f43,_,f44,_,f45,_,f46,_,f47,_,f48,_,f49,_,f50,_,f51,_,f52,_,f53,_,f54,_,f55,_,f56,_,f57,_,f58,_,f59,_,f60,_,f61,_,f62,_,f63,_,f64,_,f65,_,f66,_,f67,_,f68,_,f69,_,f70,_,f71,_,f72,_,f73,_,f74,_,f75,_,f76,_,f77,_,f78,_,f79,_,f80,_,f81,_,f82,_,f83,_,f84,_,f85,_,f86,_,f87,_,f88,_,f89,_,f90,_,f91,_,f92,_,f93,_,f94,_,f95,_,f96,_,f97,_,f98,_,f99,_,f100,_,f101,_,f102,_,C0,C1,C2,C3,C4,C5,C6,C7,tLETTERS,tLONGEST_NAME,tMOST_ROOM,nNOUGHT,tMOST_BY,nROLLS,nLAYS,nPUSHES,nCHANGES,fmShort,_⟩:=⟨dG X G h0,dG X G h1,dG X G h2,dG X G h3,dG X G h4,dG X G h5,dG X G h6,dG X G h7,dG X G h8,dG X G h9,dG X G h10,dG X G h11,dG X G h12,dG X G h13,dG X G h14,dG X G h15,dG X G h16,dG X G h17,dG X G h18,dG X G h19,dG X G h20,dG X G h21,dG X G h22,dG X G h23,dG X G h24,dG X G h25,dG X G h26,dG X G h27,dG X G h28,dG X G h29,dG X G h30,dG X G h31,dG X G h32,dG X G h33,dG X G h34,dG X G h35,dG X G h36,dG X G h37,dG X G h38,dG X G h39,dG X G h40,dG X G h41,dG X G h42,dG X G h43,dG X G h44,dG X G h45,dG X G h46,dG X G h47,dG X G h48,dG X G h49,dG X G h50,dG X G h51,dG X G h52,dG X G h53,dG X G h54,dG X G h55,dG X G h56,dG X G h57,dG X G h58,dG X G h59,dG X G h60,dG X G h61,dG X G h62,dG X G h63,dG X G h64,dG X G h65,dG X G h66,dG X G h67,dG X G h68,dG X G h69,dG X G h70,dG X G h71,dG X G h72,dG X G h73,dG X G h74,dG X G h75,dG X G h76,dG X G h77,dG X G h78,dG X G h79,dG X G h80,dG X G h81,dG X G h82,dG X G h83,dG X G h84,dG X G h85,dG X G h86,dG X G h87,dG X G h88,dG X G h89,dG X G h90,dG X G h91,dG X G h92,dG X G h93,dG X G h94,dM h95,dM h96,dM h97,dM h98,dM h99,dM h100,dM h101,dM h102,W.mg_of X G xg0,W.mg_of X G xg1,W.mg_of X G xg2,W.mg_of X G xg3,W.mg_of X G xg4,W.mg_of X G xg5,W.mg_of X G xg6,W.mg_of X G xg7,cmHand.c,⟨cmHand.m,h95.t.at_,h95.t.fn,cmHand.k⟩,naHand_held,naHand_reels,naHand_done,naHand_undone,W.mg_none_of X G xz0,W.mg_none_of X G xz1,W.mg_none_of X G xz2,W.mg_none_of X G xz3,W.mg_none_of X G xz4,W.mg_none_of X G xz5,W.mg_none_of X G xz6,W.mg_none_of X G xz7,W.mg_none_of X G xz8,W.mg_none_of X G xz9,W.mg_none_of X G xz10,W.mg_none_of X G xz11,W.mg_none_of X G xz12,W.mg_none_of X G xz13,W.mg_none_of X G xz14,W.mg_none_of X G xz15,W.mg_none_of X G xz16,W.mg_of X G xcLETTERS,W.mg_of X G xcLONGEST_NAME,W.mg_of X G xcMOST_ROOM,W.mg_of X G xcNOUGHT,λH=>.inr ⟨_,_,_,xlNOUGHT,rfl,rfl,by show 2<=sizeLine;decide,.cons ⟨_,rfl⟩ (.cons ⟨_,rfl⟩ (.nil))⟩,W.mg_of X G xcMOST_BY,W.mg_of X G xcROLLS,λH=>.inr ⟨_,_,_,xlROLLS,rfl,rfl,by show 3<=sizeLine;decide,.cons ⟨_,rfl⟩ (.cons ⟨_,rfl⟩ (.cons ⟨_,rfl⟩ (.nil)))⟩,W.mg_of X G xcLAYS,λH=>.inr ⟨_,_,_,xlLAYS,rfl,rfl,by show 2<=sizeLine;decide,.cons ⟨_,rfl⟩ (.cons ⟨_,rfl⟩ (.nil))⟩,W.mg_of X G xcPUSHES,λH=>.inr ⟨_,_,_,xlPUSHES,rfl,rfl,by show 3<=sizeLine;decide,.cons ⟨_,rfl⟩ (.cons ⟨_,rfl⟩ (.cons ⟨_,rfl⟩ (.nil)))⟩,W.mg_of X G xcCHANGES,λH=>.inr ⟨_,_,_,xlCHANGES,rfl,rfl,by show 6<=sizeLine;decide,.cons ⟨_,rfl⟩ (.cons ⟨_,rfl⟩ (.cons ⟨_,rfl⟩ (.cons ⟨_,rfl⟩ (.cons ⟨_,rfl⟩ (.cons ⟨_,rfl⟩ (.nil))))))⟩,yPC,yMC,ySC,yOO,rPP,rPN,rPM,rPS,rMP,rMN,rMM,rMS,rSP,rSN,rSM,rSS,rOP,rOS,e_NoPlace,e_Mixed,e_Short,e_NoOrder,x_NoOrder,x_NoPlace,x_Mixed,FmShort,bmShort,⟨ivShort,ihShort,isShort,ixShort,ifShort⟩,itShort⟩;exact⟨_,λs v=>.of_eq rfl,λbase _ _=>qY5 T⟩
def walk{l:W.OpenLaw}{q:Program}{J:LS}{XP:(SV)->Heap->Prop}{YP:World->Heap->Prop}{d:DefRec}{K:Params->Fg}(hn:l.most=some 63)(aa:d.params.defaults=[])
 (hY:∀(w:World) (h:Heap),YP w h->(K w.params).In h)
 (F:∀(w:World) (mg:SV) (fa:Addr) (h:Heap),(K w.params).In h->h.Ns mainGlobals mg->mg d.name=some (.ref fa)->
   ∃fd:FD,(∀(s:Shared) (u:Value),BindsTo s fd ⟨[u],[]⟩ [("_law_script",u)])/\∀base:Heap,(K w.params).In base->base.Ns mainGlobals mg->FnOk l.prog w (K w.params) mg base CX0 17 fa fd ["_law_script"] (qUp (K w.params))):
 W.WalkO q J XP YP l.row.toRowW d [] (λf vs=>PySem.call f vs):=
 L2.walk_of (n:=63) (k:=17) (x:="_law_script") (CX:=λ_=>CX0) (sp:=λw=>qUp (K w.params)) hn (by decide) aa ⟨rfl,by decide,by decide⟩ hY F (λ_ _ a ns hl _ hS=>⟨a,ns,rfl,hS,hl,λ_=>rfl⟩) λ_ _ _ _ _ z=>z
end Lw
end
set_option genInjectivity false in
set_option genSizeOf false in
structure PySem.W.Fast:Prop where
 (tw2220047791193973858 tw10736494834691752130 tw891658381643810339 tw7225410627275788420 tw11600896104285403652 tw4292236518924473637 tw624006822444316517 tw12941659141364897062 tw5499638534788484678 tw2996954928275520393 tw17416337237522358315 tw10677632196547524555 tw10470083083415146124 tw17206345761168019372 tw6585430688531762093 tw660987255673359119 tw13477504062807566127 tw10683681083544316272 tw1220659716377451984 tw9687995237341448913 tw8530853150721090353 tw17497137683354608946 tw6806765744459933523 tw10793115424396233364 tw17647201062061267796 tw9421034081526745686 tw4091233851992066934 tw1502782033214837654 tw16465884584437886491 tw4729607641403020764 tw2167043001403484382 tw3387065003495347422 tw6910844349631766751 tw9218550935435548447 tw1537007897215165224 tw7766554714466148437 tw5975746887566480951 tw7053677299945714815 tw3691861319490725591 tw17659481528513928705 tw14877148457346330542 tw9577501150940559570 tw13443708793796132798 tw11970358546280142867 tw9538702886020477505 tw1411691531791621186 tw15104932547466374524 tw6125886366843391436 tw12326535445037265075 tw5082138750732105171 tw3386729987610311018 tw8161306977348302239 tw18164196370896628127 tw4720047811746486106 tw8617665107776350202 tw9144863542394962001 tw15127110284214262014 tw12285269658020072501 tw16359939234665830591 tw6503973585482833922 tw8451405491741149598 tw1232735791788004385 tw16201537611541855841 tw446753104622952382 tw133053582390640487 tw7377657820208146235 tw12280478618202446209 tw10093027300279479654 tw2137170189827625943 tw5548593589137804767 tw13666767281978204527 tw16033386146946656526 tw8323113379146788691 tw4216374494868503683 tw5248905756668493897 tw2452592642003788812 tw16293346968634368858 tw204457896618558521 tw2369741947647931064 tw1466052880886361285 tw14098074555482089739 tw5667902218191222314 tw3767987159593266163 tw6378797276846050675 tw15815590932331985744 tw14681584444749200225 tw13370443306645604039 tw2859608580165641906 tw12703398804371308443 tw15767628218582504884 tw8124938331395406168 tw7455882504944693628 tw16420704958577435795 tw2011482539695350083 tw7615684271542920450 tw15294543331973473938 tw13696795372418487036 tw5056455622476093295 tw4529223485229901173 tw2357406274520936084 tw15271006019651510284 tw541264424867257961 tw12401231363714939967 tw541187670808261861 tw16880471907079724545 tw6909949421711116040 tw18040886725661691930 tw4363714457886035573 tw7135644001455657075 tw11450005690565932077 tw12438910774913789086 tw12561360183981052156 tw950973820719346460 tw3142506526806086648 tw4723602981063942310 tw10298018680569994896 tw7424295224928137718 tw11022072173921190511 tw14994734776686344081 tw18003745382995522380 tw15012672329280696001 tw8468808579211317738 tw15172848704782994301 tw10527200070983286509 tw17031341836768886643 tw7790215058566559357 tw15395385390580288963 tw6197861976954172195 tw15279124075718722142 tw17938834700959984201 tw13921357335412677566 tw17386160333486588013 tw11588168286588990910 tw4007262762665237421 tw8664999716374303380 tw13611119449440111242 tw17884711634763915256 tw10979370449021693961 tw4116954581650261354 tw13380463101183316974 tw10211776712711736069 tw5639129997342602097 tw3959674010563059058 tw16537069874155598359 tw11125826100513395863 tw14241929052649099982 tw3208627462219886039 tw218288254264733784 tw5312065437081550002 tw2422403585971865971 tw2070168704687883006 tw13699544292918658147 tw4478459478280422101 tw8081632675448980570 tw10794149812354919481 tw14658608962769696061 tw989560129291868915 tw17778280912285100985 tw3765145735386129554 tw12823492123259015291 tw9135655440877668991 tw3929437038958195259 tw10925556226355542221 tw12601324481405762480 tw16107685527743111349 tw7242293789265803909 tw18378700251881672593 tw7723092841188707477 tw8834107472367119661 tw16464888887417039793 tw11870282239296578846 tw4734549122039521208 tw13742999582248003877 tw18151152173282631109 tw14076331303803575735 tw13316070329093363880 tw7763296606575180460 tw2213283184227483908 tw4967967484405492566 tw4367284340924936626 tw1310124222728277919 tw10297147553877518732 tw8870486199100674028 tw10847308220409149692 tw16472998847354256645 tw8767173498465566270 tw9693044143443868639 tw5610334276535643121 tw13420735886242766090 tw11681996010728919673 tw14700584318946812499 tw12778645161778829973 tw2133959862712682500 tw5688000491853353726 tw2633920461464738420 tw14051974251141980440 tw7006827460401855419 tw3875400405079677117 tw4913775479781915364 tw16994124598190565979 tw8937618103273138871 tw6578269906599643929 tw2776367331423754881 tw13279913335523112073 tw7955310063873262316 tw11308498662553291088 tw443641312564111165 tw1567337197201266675 tw5183543558974550368 tw5323513706964920216 tw7619863960244678641 tw10245913677469348571 tw9151626806726397940 tw10435539127565108169 tw4250260490558136584 tw14500572607930698580 tw10900573370191015267 tw2068094625585298374 tw6832399394352635493 tw4351485517059513134 tw14931415250131188944 tw18380777775309749296 tw2777268470094969179 tw12736693247561122993 tw13187671779894845482 tw6367911496074438507 tw5992810119286291829 tw13140055151493607307 tw18236972790249424835 tw7580009198894823005 tw18382323723139970089 tw2114674163130003554 tw16702108619655677662 tw18226065879128155071 tw15993732523672914355 tw9945433864823664249 tw5417895355772473894 tw6990919934392746128 tw498159345320847994 tw3920422283018181669 tw126520148518710126 tw9327006534300492998 tw16133724103681671517 tw13741822360157452144 tw2896097096529723954 tw3958863500145529817 tw3126544582584524154 tw8650997424691508862 tw17457248971296022773 tw17023409161045195388 tw5951992881958153693 tw12263324571076569989 tw14405981238448478356 tw9697413437952539864 tw2348373225666989429 tw6490337811999231775 tw9353768846812171880 tw8795037618220205723 tw7119119397079693988 tw16507171896904202039 tw5236714102444326527 tw18146437695818015711 tw3959433778032558788 tw9309576689385931578 tw4570267316836333198 tw8172504185850363460 tw3339881312617948764 tw6988090439000142249 tw15406694342992599029 tw5619765479798291781 tw2969307559350851382 tw15622244270119708279 tw975898160960485352 tw245449852896722949 tw6309804938788806841 tw5983500787361464760 tw6450199694742592636 tw12139208472074461808 tw16908097875785889131 tw3545212262635338006 tw15354048074987338092 tw18166553500521501257 tw9606600191888259985 tw8376048890269572833 tw18374033867035240481 tw6916265648857883019 tw5647923999344273740 tw4946445135152280850 tw9262527708377747146 tw11681969540550279960 tw3557008360588255420 tw10988174260858927644 tw5024996182957878528 tw1208270830751099371 tw5536467512412972046 tw11445008702136209024 tw12024390657978013582 tw9641382392698342954 tw2689649575322757493 tw10478127893252124976 tw11587065084192812772 tw6643211921340620331 tw8095982902648876216 tw1218425712546573112 tw12249511705209317848 tw10615062707459837292 tw6104066252712140054 tw5840057433419865233 tw12996258858175186784 tw11096972264172242401 tw11169402202414842197 tw18367801295619734891 tw13846419133485162403 tw6951578970253616219 tw15777518963079604713 tw8013034061573351760 tw17865875432536363672 tw6444079016653527813 tw10808813711777844807 tw7579119524171819022 tw6523951896301781261 tw2167370260553217660 tw3984594202675463086 tw17118303939021112776 tw17025821306475298322 tw11666055497837817823 tw2894000348337048238 tw12332152906874505966 tw1293831265349243231 tw13759478939823083922 tw14144551964085246554 tw18298366896008310296 tw17749233083886444284 tw11220477647508212778 tw10941781949159371303 tw744322504504619933 tw526631523954545779 tw8530834472450804497 tw5585778671247230097 tw16831731239202909359 tw10932877969923887839 tw12064107716084159721 tw17563699710318914551 tw693654661903877968 tw1891870743576591435 tw13110094678422613748 tw4209968747983551856 tw71911921484446832 tw13649497507894097846 tw388031163742292044 tw16268679629281903862 tw7778263954694447034 tw4252169963332527406 tw2712423789485278835 tw14810740770106207206 tw761761972238225038 tw4346401815749645068 tw12299988909293365191 tw17647953893801704195 tw2626259655831003221 tw942629784146065254 tw17417687716032705576 tw9920745996001389525 tw8089178288525989476 tw8371804873974039340 tw147777934482445203 tw4609908624481813097 tw11241872771335985936 tw15422623771275846238 tw15186681647127914537 tw3805564298799557851 tw14000895075103285113 tw16681551339783805960 tw5720773677650214976 tw9794997188186007031 tw18217434457287121582 tw1645730900941430453 tw5117961422503222360 tw12104113664701606165 tw4324941781654319213 tw2715168665986925469 tw2293532237104957106 tw17913358198051730400 tw8457479413864077257 tw16752634448364129943 tw2166387263336197871 tw10987148016849422023 tw16398937362257615201 tw16077260213401761520 tw2592220117648023851 tw15048115376050921003 tw15780679089583654311 tw4887940937068766341 tw15455064936451970714 tw4474145603531336556 tw9327897358668767347 tw5260894582594564509 tw6541960668322454787 tw14171679075868724371 tw1227175159670502899 tw15274807039089955716 tw15001923273282182259 tw8559260864542655344 tw1407404018383461896 tw12521780371842453339 tw5847782174286951350 tw15732261852773321663 tw145017207752995205 tw17564193937547061679 tw12545790517966288281 tw4035814886852145363 tw8335756094464411545 tw1370764376114906016 tw10059225258706420983 tw15312203983529804097 tw16537770386937445756 tw13835809173865204310 tw4065500235145595401 tw7964607056593368954 tw7474096082529960867 tw5441756960715139855 tw8349809972267330117 tw15531816619676548782 tw1583449278458746475 tw5769825235678175248 tw9726116723867307120 tw18198772443302288628 tw3950594759069753747 tw4660772772489943142 tw17136828303648871192 tw6718598722526464334 tw13960300725708378276 tw4357553920671033328 tw5721046111745210481 tw763357466975886271 tw740288148277277883 tw8493258557235895422 tw16983870128094392059 tw8667751472132660066 tw8298847587381194142 tw10467440484051855513 tw14135041223011816904 tw7383186689949076832 tw4102744657139963762 tw6396722972234481456 tw12574109721408366790 tw8786921366100215403 tw6400834919837650355 tw3915496859037971547 tw9851864404859744493 tw17505669372345591465 tw13296416890578232034 tw8871682022704250658 tw789473869225214014 tw7385384507839801323 tw1174508911823824114 tw5003941009013450055 tw13258330287025439819 tw17800729101068512196 tw4601184613843950266 tw16141134348371192299 tw6455043766852652260 tw16833558165002610516 tw7782912956904903955 tw9216121560206005676:True)
open PySem PySem.W PyProof.Rows
set_option maxRecDepth 100000 in
set_option maxHeartbeats 0 in
theorem PySem.Challenge.cw_reelcut_k55_hand_there_and_back_holds : PySem.Challenge.rw_reelcut_k55_hand_there_and_back.Holds := by
 w_on;o_law;k_head;(case hw=>w_witness2)
 k_fill
 refine Lw.walk (l:=PySem.Challenge.rw_reelcut_k55_hand_there_and_back) rfl rfl (λw h Y=>PySem.W.kIn_of Y) ?F
 case F=>
  intro w mg fa h KX G hmg
  refine' Lw.all_mk KX G hmg (Lw.df_mk ?a0 ?l0 ?c0 ?k0) (Lw.df_mk ?a1 ?l1 ?c1 ?k1) (Lw.df_mk ?a2 ?l2 ?c2 ?k2) (Lw.df_mk ?a3 ?l3 ?c3 ?k3) (Lw.df_mk ?a4 ?l4 ?c4 ?k4) (Lw.df_mk ?a5 ?l5 ?c5 ?k5) (Lw.df_mk ?a6 ?l6 ?c6 ?k6) (Lw.df_mk ?a7 ?l7 ?c7 ?k7) (Lw.df_mk ?a8 ?l8 ?c8 ?k8) (Lw.df_mk ?a9 ?l9 ?c9 ?k9) (Lw.df_mk ?a10 ?l10 ?c10 ?k10) (Lw.df_mk ?a11 ?l11 ?c11 ?k11) (Lw.df_mk ?a12 ?l12 ?c12 ?k12) (Lw.df_mk ?a13 ?l13 ?c13 ?k13) (Lw.df_mk ?a14 ?l14 ?c14 ?k14) (Lw.df_mk ?a15 ?l15 ?c15 ?k15) (Lw.df_mk ?a16 ?l16 ?c16 ?k16) (Lw.df_mk ?a17 ?l17 ?c17 ?k17) (Lw.df_mk ?a18 ?l18 ?c18 ?k18) (Lw.df_mk ?a19 ?l19 ?c19 ?k19) (Lw.df_mk ?a20 ?l20 ?c20 ?k20) (Lw.df_mk ?a21 ?l21 ?c21 ?k21) (Lw.df_mk ?a22 ?l22 ?c22 ?k22) (Lw.df_mk ?a23 ?l23 ?c23 ?k23) (Lw.df_mk ?a24 ?l24 ?c24 ?k24) (Lw.df_mk ?a25 ?l25 ?c25 ?k25) (Lw.df_mk ?a26 ?l26 ?c26 ?k26) (Lw.df_mk ?a27 ?l27 ?c27 ?k27) (Lw.df_mk ?a28 ?l28 ?c28 ?k28) (Lw.df_mk ?a29 ?l29 ?c29 ?k29) (Lw.df_mk ?a30 ?l30 ?c30 ?k30) (Lw.df_mk ?a31 ?l31 ?c31 ?k31) (Lw.df_mk ?a32 ?l32 ?c32 ?k32) (Lw.df_mk ?a33 ?l33 ?c33 ?k33) (Lw.df_mk ?a34 ?l34 ?c34 ?k34) (Lw.df_mk ?a35 ?l35 ?c35 ?k35) (Lw.df_mk ?a36 ?l36 ?c36 ?k36) (Lw.df_mk ?a37 ?l37 ?c37 ?k37) (Lw.df_mk ?a38 ?l38 ?c38 ?k38) (Lw.df_mk ?a39 ?l39 ?c39 ?k39) (Lw.df_mk ?a40 ?l40 ?c40 ?k40) (Lw.df_mk ?a41 ?l41 ?c41 ?k41) (Lw.df_mk ?a42 ?l42 ?c42 ?k42) (Lw.df_mk ?a43 ?l43 ?c43 ?k43) (Lw.df_mk ?a44 ?l44 ?c44 ?k44) (Lw.df_mk ?a45 ?l45 ?c45 ?k45) (Lw.df_mk ?a46 ?l46 ?c46 ?k46) (Lw.df_mk ?a47 ?l47 ?c47 ?k47) (Lw.df_mk ?a48 ?l48 ?c48 ?k48) (Lw.df_mk ?a49 ?l49 ?c49 ?k49) (Lw.df_mk ?a50 ?l50 ?c50 ?k50) (Lw.df_mk ?a51 ?l51 ?c51 ?k51) (Lw.df_mk ?a52 ?l52 ?c52 ?k52) (Lw.df_mk ?a53 ?l53 ?c53 ?k53) (Lw.df_mk ?a54 ?l54 ?c54 ?k54) (Lw.df_mk ?a55 ?l55 ?c55 ?k55) (Lw.df_mk ?a56 ?l56 ?c56 ?k56) (Lw.df_mk ?a57 ?l57 ?c57 ?k57) (Lw.df_mk ?a58 ?l58 ?c58 ?k58) (Lw.df_mk ?a59 ?l59 ?c59 ?k59) (Lw.df_mk ?a60 ?l60 ?c60 ?k60) (Lw.df_mk ?a61 ?l61 ?c61 ?k61) (Lw.df_mk ?a62 ?l62 ?c62 ?k62) (Lw.df_mk ?a63 ?l63 ?c63 ?k63) (Lw.df_mk ?a64 ?l64 ?c64 ?k64) (Lw.df_mk ?a65 ?l65 ?c65 ?k65) (Lw.df_mk ?a66 ?l66 ?c66 ?k66) (Lw.df_mk ?a67 ?l67 ?c67 ?k67) (Lw.df_mk ?a68 ?l68 ?c68 ?k68) (Lw.df_mk ?a69 ?l69 ?c69 ?k69) (Lw.df_mk ?a70 ?l70 ?c70 ?k70) (Lw.df_mk ?a71 ?l71 ?c71 ?k71) (Lw.df_mk ?a72 ?l72 ?c72 ?k72) (Lw.df_mk ?a73 ?l73 ?c73 ?k73) (Lw.df_mk ?a74 ?l74 ?c74 ?k74) (Lw.df_mk ?a75 ?l75 ?c75 ?k75) (Lw.df_mk ?a76 ?l76 ?c76 ?k76) (Lw.df_mk ?a77 ?l77 ?c77 ?k77) (Lw.df_mk ?a78 ?l78 ?c78 ?k78) (Lw.df_mk ?a79 ?l79 ?c79 ?k79) (Lw.df_mk ?a80 ?l80 ?c80 ?k80) (Lw.df_mk ?a81 ?l81 ?c81 ?k81) (Lw.df_mk ?a82 ?l82 ?c82 ?k82) (Lw.df_mk ?a83 ?l83 ?c83 ?k83) (Lw.df_mk ?a84 ?l84 ?c84 ?k84) (Lw.df_mk ?a85 ?l85 ?c85 ?k85) (Lw.df_mk ?a86 ?l86 ?c86 ?k86) (Lw.df_mk ?a87 ?l87 ?c87 ?k87) (Lw.df_mk ?a88 ?l88 ?c88 ?k88) (Lw.df_mk ?a89 ?l89 ?c89 ?k89) (Lw.df_mk ?a90 ?l90 ?c90 ?k90) (Lw.df_mk ?a91 ?l91 ?c91 ?k91) (Lw.df_mk ?a92 ?l92 ?c92 ?k92) (Lw.df_mk ?a93 ?l93 ?c93 ?k93) (Lw.df_mk ?a94 ?l94 ?c94 ?k94) (Lw.dm_mk ?a95 ?i95 ?l95 ?c95 ?k95) (Lw.dm_mk ?a96 ?i96 ?l96 ?c96 ?k96) (Lw.dm_mk ?a97 ?i97 ?l97 ?c97 ?k97) (Lw.dm_mk ?a98 ?i98 ?l98 ?c98 ?k98) (Lw.dm_mk ?a99 ?i99 ?l99 ?c99 ?k99) (Lw.dm_mk ?a100 ?i100 ?l100 ?c100 ?k100) (Lw.dm_mk ?a101 ?i101 ?l101 ?c101 ?k101) (Lw.dm_mk ?a102 ?i102 ?l102 ?c102 ?k102) (Lw.gl_mk ?xg0) (Lw.gl_mk ?xg1) (Lw.gl_mk ?xg2) (Lw.gl_mk ?xg3) (Lw.gl_mk ?xg4) (Lw.gl_mk ?xg5) (Lw.gl_mk ?xg6) (Lw.gl_mk ?xg7) (Lw.cm_mk ?qHand_0 ?qHand_1 ?qHand_2 ?qHand_3 ?qHand_4 ?qHand_5) ?naHand_held ?naHand_reels ?naHand_done ?naHand_undone ?yPC ?yMC ?ySC ?yOO ?rPP ?rPN ?rPM ?rPS ?rMP ?rMN ?rMM ?rMS ?rSP ?rSN ?rSM ?rSS ?rOP ?rOS ?e_NoPlace ?e_Mixed ?e_Short ?e_NoOrder ?x_NoOrder ?x_NoPlace ?x_Mixed (Lw.gl_mk ?xz0) (Lw.gl_mk ?xz1) (Lw.gl_mk ?xz2) (Lw.gl_mk ?xz3) (Lw.gl_mk ?xz4) (Lw.gl_mk ?xz5) (Lw.gl_mk ?xz6) (Lw.gl_mk ?xz7) (Lw.gl_mk ?xz8) (Lw.gl_mk ?xz9) (Lw.gl_mk ?xz10) (Lw.gl_mk ?xz11) (Lw.gl_mk ?xz12) (Lw.gl_mk ?xz13) (Lw.gl_mk ?xz14) (Lw.gl_mk ?xz15) (Lw.gl_mk ?xz16) (Lw.gl_mk ?xcLETTERS) (Lw.gl_mk ?xcLONGEST_NAME) (Lw.gl_mk ?xcMOST_ROOM) (Lw.gl_mk ?xcNOUGHT) ?xlNOUGHT (Lw.gl_mk ?xcMOST_BY) (Lw.gl_mk ?xcROLLS) ?xlROLLS (Lw.gl_mk ?xcLAYS) ?xlLAYS (Lw.gl_mk ?xcPUSHES) ?xlPUSHES (Lw.gl_mk ?xcCHANGES) ?xlCHANGES ?iaShort ?ilShort ?icShort ?ikShort ?ifShort ?ivShort ?ihShort ?isShort ?ixShort ?itShort
  (case xg0|xg1|xg2|xg3|xg4|xg5|xg6|xg7|a0|l0|c0|k0|a1|l1|c1|k1|a2|l2|c2|k2|a3|l3|c3|k3|a4|l4|c4|k4|a5|l5|c5|k5|a6|l6|c6|k6|a7|l7|c7|k7|a8|l8|c8|k8|a9|l9|c9|k9|a10|l10|c10|k10|a11|l11|c11|k11|a12|l12|c12|k12|a13|l13|c13|k13|a14|l14|c14|k14|a15|l15|c15|k15|a16|l16|c16|k16|a17|l17|c17|k17|a18|l18|c18|k18|a19|l19|c19|k19|a20|l20|c20|k20|a21|l21|c21|k21|a22|l22|c22|k22|a23|l23|c23|k23|a24|l24|c24|k24|a25|l25|c25|k25|a26|l26|c26|k26|a27|l27|c27|k27|a28|l28|c28|k28|a29|l29|c29|k29|a30|l30|c30|k30|a31|l31|c31|k31|a32|l32|c32|k32|a33|l33|c33|k33|a34|l34|c34|k34|a35|l35|c35|k35|a36|l36|c36|k36|a37|l37|c37|k37|a38|l38|c38|k38|a39|l39|c39|k39|a40|l40|c40|k40|a41|l41|c41|k41|a42|l42|c42|k42|a43|l43|c43|k43|a44|l44|c44|k44|a45|l45|c45|k45|a46|l46|c46|k46|a47|l47|c47|k47|a48|l48|c48|k48|a49|l49|c49|k49|a50|l50|c50|k50|a51|l51|c51|k51|a52|l52|c52|k52|a53|l53|c53|k53|a54|l54|c54|k54|a55|l55|c55|k55|a56|l56|c56|k56|a57|l57|c57|k57|a58|l58|c58|k58|a59|l59|c59|k59|a60|l60|c60|k60|a61|l61|c61|k61|a62|l62|c62|k62|a63|l63|c63|k63|a64|l64|c64|k64|a65|l65|c65|k65|a66|l66|c66|k66|a67|l67|c67|k67|a68|l68|c68|k68|a69|l69|c69|k69|a70|l70|c70|k70|a71|l71|c71|k71|a72|l72|c72|k72|a73|l73|c73|k73|a74|l74|c74|k74|a75|l75|c75|k75|a76|l76|c76|k76|a77|l77|c77|k77|a78|l78|c78|k78|a79|l79|c79|k79|a80|l80|c80|k80|a81|l81|c81|k81|a82|l82|c82|k82|a83|l83|c83|k83|a84|l84|c84|k84|a85|l85|c85|k85|a86|l86|c86|k86|a87|l87|c87|k87|a88|l88|c88|k88|a89|l89|c89|k89|a90|l90|c90|k90|a91|l91|c91|k91|a92|l92|c92|k92|a93|l93|c93|k93|a94|l94|c94|k94|a95|i95|l95|c95|k95|a96|i96|l96|c96|k96|a97|i97|l97|c97|k97|a98|i98|l98|c98|k98|a99|i99|l99|c99|k99|a100|i100|l100|c100|k100|a101|i101|l101|c101|k101|a102|i102|l102|c102|k102|qHand_0|qHand_1|qHand_2|qHand_3|qHand_4|qHand_5|naHand_held|naHand_reels|naHand_done|naHand_undone=>k_is)
  (case yPC=>kernel_rfl)
  (case yMC=>kernel_rfl)
  (case ySC=>kernel_rfl)
  (case yOO=>kernel_rfl)
  (case rPP=>kernel_rfl)
  (case rPN=>kernel_rfl)
  (case rPM=>kernel_rfl)
  (case rPS=>kernel_rfl)
  (case rMP=>kernel_rfl)
  (case rMN=>kernel_rfl)
  (case rMM=>kernel_rfl)
  (case rMS=>kernel_rfl)
  (case rSP=>kernel_rfl)
  (case rSN=>kernel_rfl)
  (case rSM=>kernel_rfl)
  (case rSS=>kernel_rfl)
  (case rOP=>kernel_rfl)
  (case rOS=>kernel_rfl)
  (case e_NoPlace=>exact⟨by k_is,by k_is,by k_is,by k_is,by k_is,by k_is,by k_is⟩)
  (case e_Mixed=>exact⟨by k_is,by k_is,by k_is,by k_is,by k_is,by k_is,by k_is⟩)
  (case e_Short=>exact⟨by k_is,by k_is,by k_is,by k_is,by k_is,by k_is,by k_is⟩)
  (case e_NoOrder=>exact⟨by k_is,by k_is,by k_is,by k_is,by k_is,by k_is,by k_is⟩)
  (case x_NoOrder=>(unfold L3.OwnX;kernel_rfl))
  (case x_NoPlace=>(unfold L3.OwnX;kernel_rfl))
  (case x_Mixed=>(unfold L3.OwnX;kernel_rfl))
  (case xz0|xz1|xz2|xz3|xz4|xz5|xz6|xz7|xz8|xz9|xz10|xz11|xz12|xz13|xz14|xz15|xz16|xcLETTERS|xcLONGEST_NAME|xcMOST_ROOM|xcNOUGHT|xlNOUGHT|xcMOST_BY|xcROLLS|xlROLLS|xcLAYS|xlLAYS|xcPUSHES|xlPUSHES|xcCHANGES|xlCHANGES|iaShort|ilShort|icShort|ikShort|ifShort=>k_is)
  (case ivShort=>(unfold L3.exOver;kernel_rfl))
  (case ihShort|isShort=>k_is)
  (case ixShort=>(unfold L3.excInitIn;kernel_rfl))
  (case itShort=>k_is)

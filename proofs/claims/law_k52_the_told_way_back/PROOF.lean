import PyProof.Rows.All
import Wide.All
import OpenK.AllK
import Wide.FinOn
import Lean
import PyProof.EqAt
import PyProof.EqKinds
import PyProof.TupleCall
import PySem.Challenge.RW_reelcut_k52_the_told_way_back
set_option Elab.async false
set_option linter.all false
set_option maxRecDepth 100000
namespace L2
open PySem PySem.Spec PyProof.Rows
abbrev Key := Sum Int Str
def qGw : Key → Value → Bool
  | .inl k, v => Value.isInt k v
  | .inr x, v => Value.isStrOf x v
def qPh (w : World) : Key → Int
  | .inl k => hashInt k
  | .inr x => hashStr w x
theorem jY : ∀ {k : Key} {v : Value}, qGw k v = true → (∃ i t, k = Sum.inl i ∧ v = Value.int i t) ∨ (∃ x t, k = Sum.inr x ∧ v = Value.str x t)
  | .inl i, v, h => by
    obtain ⟨t, e⟩ := Value.isInt_shape (k := i) (v := v) h
    exact .inl ⟨i, t, rfl, e⟩
  | .inr x, v, h => by
    obtain ⟨t, e⟩ := Value.isStrOf_shape (x := x) (v := v) h
    exact .inr ⟨x, t, rfl, e⟩
theorem qI3 (i : Int) (t : Tok) : qGw (.inl i) (.int i t) = true := by simp [qGw, Value.isInt]
theorem qH3 (x : Str) (t : Tok) : qGw (.inr x) (.str x t) = true := by simp [qGw, Value.isStrOf]
theorem qMw (a b : Int) : decide ((Sum.inl a : Key) = Sum.inl b) = (a == b) := by
  by_cases e : a = b
  · subst e; simp
  · have h : ¬ (Sum.inl a : Key) = Sum.inl b := fun q => e (Sum.inl.inj q)
    rw [decide_eq_false h]
    exact (beq_eq_false_iff_ne.mpr e).symm
theorem qMr (a b : Str) : decide ((Sum.inr a : Key) = Sum.inr b) = decide (a = b) := by
  by_cases e : a = b
  · subst e; simp
  · have h : ¬ (Sum.inr a : Key) = Sum.inr b := fun q => e (Sum.inr.inj q)
    rw [decide_eq_false h, decide_eq_false e]
theorem qNm (a : Int) (b : Str) : decide ((Sum.inl a : Key) = Sum.inr b) = false := decide_eq_false (fun q => nomatch q)
theorem qMn (a : Str) (b : Int) : decide ((Sum.inr a : Key) = Sum.inl b) = false := decide_eq_false (fun q => nomatch q)
def xQ (prog : Program) (w : World) : PySem.KeyKind prog w Key where
  is := qGw
  hash := qPh w
  inj := fun v a b ha hb => by
    rcases jY ha with ⟨i, t, rfl, rfl⟩ | ⟨x, t, rfl, rfl⟩
    · rcases jY hb with ⟨j, u, rfl, e⟩ | ⟨y, u, rfl, e⟩
      · injection e with e1 _; rw [e1]
      · exact nomatch e
    · rcases jY hb with ⟨j, u, rfl, e⟩ | ⟨y, u, rfl, e⟩
      · exact nomatch e
      · injection e with e1 _; rw [e1]
  byValue := fun k v h => by
    rcases jY h with ⟨i, t, rfl, rfl⟩ | ⟨x, t, rfl, rfl⟩ <;> rfl
  pyHash := fun hv h => by
    rcases jY hv with ⟨i, t, rfl, rfl⟩ | ⟨x, t, rfl, rfl⟩
    · exact wpAny_pyHash_int h
    · exact wpAny_pyHash_str h
  eqBool := fun hu hv h => by
    rcases jY hu with ⟨i, t, rfl, rfl⟩ | ⟨x, t, rfl, rfl⟩
    · rcases jY hv with ⟨j, u, rfl, rfl⟩ | ⟨y, u, rfl, rfl⟩
      · rw [qMw] at h; exact wpAny_eqBool_int h
      · rw [qNm] at h; exact SeqAt.EqAt.int_str i t y u _ _ _ _ h
    · rcases jY hv with ⟨j, u, rfl, rfl⟩ | ⟨y, u, rfl, rfl⟩
      · rw [qMn] at h; exact SeqAt.EqAt.str_int x t j u _ _ _ _ h
      · rw [qMr] at h; exact wpAny_eqBool_str h
  «strs» := fun k x t v h => by
    rcases jY h with ⟨i, u, rfl, e⟩ | ⟨y, u, rfl, e⟩
    · exact nomatch e
    · injection e with e1 _
      subst e1
      cases v <;> rfl
theorem qFo (prog : Program) (w : World) (i : Int) (t : Tok) : (xQ prog w).is (.inl i) (.int i t) = true := qI3 i t
theorem qEx (prog : Program) (w : World) (x : Str) (t : Tok) : (xQ prog w).is (.inr x) (.str x t) = true := qH3 x t
end L2
namespace L2
open PySem PySem.Spec PyProof.Rows
inductive V where
  | non | bl (b : Bool) | int (i : Int) | str (x : Str) | byt (b : Array UInt8) | flt (b : UInt64) | ref (a : Addr) | ty (n : String)
  deriving DecidableEq
def RelV : V → Value → Prop
  | .non, u => u = Value.none
  | .bl b, u => u = Value.bool b
  | .int i, u => ∃ t, u = Value.int i t
  | .str x, u => ∃ t, u = Value.str x t
  | .byt b, u => ∃ t, u = Value.bytes b t
  | .flt b, u => ∃ t, u = Value.float b t
  | .ref a, u => u = Value.ref a
  | .ty n, u => u = Value.type n
abbrev Vals : List V → List Value → Prop := Paired RelV
theorem Vals.length {xs : List V} {us : List Value} (r : Vals xs us) : xs.length = us.length := Paired.length r
theorem Vals.get : ∀ {xs : List V} {us : List Value} {i : Nat} {x : V}, Vals xs us → xs[i]? = some x → ∃ u, us[i]? = some u ∧ RelV x u
  | _, _, _, _, .nil, e => by simp at e
  | _, _, 0, _, .cons r _, e => by simp at e; subst e; exact ⟨_, rfl, r⟩
  | _, _, i + 1, x, .cons _ t, e => by
    obtain ⟨u, h1, h2⟩ := Vals.get (i := i) (x := x) t (by simpa using e)
    exact ⟨u, by simpa using h1, h2⟩
theorem Vals.set {x : V} {u : Value} (r : RelV x u) : ∀ {xs : List V} {us : List Value} (i : Nat), Vals xs us → Vals (xs.set i x) (us.set i u)
  | _, _, _, .nil => .nil
  | _, _, 0, .cons _ t => .cons r t
  | _, _, i + 1, .cons q t => .cons q (Vals.set r i t)
theorem Vals.append : ∀ {xs ys : List V} {us ws : List Value}, Vals xs us → Vals ys ws → Vals (xs ++ ys) (us ++ ws)
  | _, _, _, _, .nil, s => s
  | _, _, _, _, .cons r t, s => .cons r (Vals.append t s)
theorem Vals.take : ∀ {xs : List V} {us : List Value} (n : Nat), Vals xs us → Vals (xs.take n) (us.take n)
  | _, _, 0, _ => .nil
  | _, _, _ + 1, .nil => .nil
  | _, _, n + 1, .cons r t => .cons r (Vals.take n t)
theorem Vals.drop : ∀ {xs : List V} {us : List Value} (n : Nat), Vals xs us → Vals (xs.drop n) (us.drop n)
  | _, _, 0, r => r
  | _, _, _ + 1, .nil => .nil
  | _, _, n + 1, .cons _ t => Vals.drop n t
def RelO : Option V → Option Value → Prop
  | some v, some u => RelV v u
  | none, none => True
  | _, _ => False
def KV {κ : Type} : List (κ × V) → List (κ × Value) → Prop := Paired fun (p : κ × V) (q : κ × Value) => p.1 = q.1 ∧ RelV p.2 q.2
def kV : Key → V
  | .inl i => .int i
  | .inr x => .str x
inductive HO where
  | lst (xs : List V)
  | tup (xs : List V)
  | dK (kvs : List (Key × V)) | dT (kvs : List (List Key × V))
  | set (S : Int → Bool) (n : Nat)
  | ins (C dx : Addr) (fs : List (Str × V))
  | own (x : Addr)
  | xd (fs : List (Str × V))
  | met (f x : Addr)
  | rng (lo hi : Int)
  | frz (o : Obj) (u : HO)
  | tbl (ps : Array Value)
  | ext (φ : Heap → Prop)
abbrev Hp := Addr → Option HO
def upd (H : Hp) (a : Addr) (o : HO) : Hp := fun b => if b = a then some o else H b
theorem qE {H : Hp} {a : Addr} {o : HO} : upd H a o a = some o := by unfold upd; rw [if_pos rfl]
theorem qi {H : Hp} {a b : Addr} {o : HO} (h : b ≠ a) : upd H a o b = H b := by unfold upd; rw [if_neg h]
theorem qFj {H : Hp} {a : Addr} {o u : HO} : upd (upd H a o) a u = upd H a u := by
  funext b; unfold upd; split <;> rfl
theorem qM4 {H : Hp} {a b : Addr} {o u : HO} (h : H a = some o) (h' : H b = some u) (d : o ≠ u) : a ≠ b := by
  intro e; subst e; rw [h] at h'; exact d (Option.some.inj h')
theorem ql {H : Hp} {a b : Addr} {o : HO} (h : H a = some o) (h' : H b = none) : a ≠ b := by
  intro e; subst e; rw [h] at h'; cases h'
section
variable (P : Program) (w : World)
def ObjOk (H : Hp) (h : Heap) (a : Addr) : HO → Prop
  | .lst xs => xs.length ≤ sizeLine ∧ ∃ (its : List Value) (n : Nat), Vals xs its ∧ h.get? a = some { cls := .type "list", data := .seq its.toArray n }
  | .tup xs => xs.length ≤ sizeLine ∧ ∃ its : List Value, Vals xs its ∧ IsTup h a its.toArray
  | .dK kvs => kvs.length ≤ sizeLine ∧ (a == sysModules) = false ∧ ∃ vs, KV kvs vs ∧ h.DictOf (xQ P w) a vs
  | .dT kvs => kvs.length ≤ sizeLine ∧ (a == sysModules) = false ∧ ∃ xs : List (List Key × Addr × Value),
      Paired (fun (p : List Key × V) (q : List Key × Addr × Value) => p.1 = q.1 ∧ H q.2.1 = some (.tup (p.1.map kV)) ∧ RelV p.2 q.2.2) kvs xs ∧
      ∃ o es ep, h.get? a = some o ∧ o.ExactDict ∧ o.data = .dict es ep ∧ es.toList = xs.map (entryOfKey (tupleKind (xQ P w))) ∧ (xs.map (·.1)).Nodup
  | .set S n => h.SetOf (intKind P w) a S n
  | .ins C dx fs => H dx = some (.own a) ∧ fs.length ≤ 1000 ∧ dx ≠ a ∧ h.get? a = some (PySem.W.instObj C dx) ∧
      ∃ mA, h.Ns1 dx mA ∧ (∀ f, RelO (fs.lookup f) (mA f)) ∧ PySem.Within mA (fs.map (·.1))
  | .own _ => ∃ o, h.get? a = some o
  | .xd fs => ∃ mA, h.Ns1 a mA ∧ ∀ f, RelO (fs.lookup f) (mA f)
  | .rng lo hi => ∃ t u v, h.get? a = some { cls := .type "range", data := .fields #[.int lo t, .int hi u, .int 1 v] }
  | .frz o u => h.get? a = some o ∧ ObjOk H h a u
  | .tbl ps => h.get? a = some { cls := .none, data := .fields ps }
  | .met f x => h.get? a = some (PySem.W.methodObj (.ref f) (.ref x))
  | .ext φ => φ h ∧ (∃ o, h.get? a = some o) ∧ ∀ h1 h2 : Heap, φ h1 → (∀ o, h1.get? a = some o → h2.get? a = some o) → φ h2
def HOk (H : Hp) (h : Heap) : Prop := ∀ a o, H a = some o → ObjOk P w H h a o
end
section
variable {P : Program} {w : World} {H H' : Hp} {h h' : Heap} {a : Addr} {o : HO}
theorem ObjOk.lt (x : ObjOk P w H h a o) : a < h.objs.size := by
  cases o with
  | lst xs => obtain ⟨_, _, _, _, e⟩ := x; exact Heap.lt_size e
  | tup xs => obtain ⟨_, _, _, p⟩ := x; exact p.lt
  | dK kvs => obtain ⟨_, _, _, _, o, _, _, e, _⟩ := x; exact Heap.lt_size e
  | dT kvs => obtain ⟨_, _, _, _, o, _, _, e, _⟩ := x; exact Heap.lt_size e
  | set S n => obtain ⟨o, _, _, _, e, _⟩ := x; exact Heap.lt_size e
  | ins C dx fs => obtain ⟨_, _, _, e, _⟩ := x; exact Heap.lt_size e
  | own y => obtain ⟨_, e⟩ := x; exact Heap.lt_size e
  | xd fs => obtain ⟨_, ⟨_, _, _, e, _⟩, _⟩ := x; exact Heap.lt_size e
  | rng lo hi => obtain ⟨_, _, _, e⟩ := x; exact Heap.lt_size e
  | frz ob u => obtain ⟨e, _⟩ := x; exact Heap.lt_size e
  | tbl ps => exact Heap.lt_size (show h.get? a = some _ from x)
  | met f y => exact Heap.lt_size (show h.get? a = some _ from x)
  | ext φ => obtain ⟨_, ⟨_, e⟩, _⟩ := x; exact Heap.lt_size e
theorem Paired.mapP {α β : Type} {F G : α → β → Prop} : ∀ {l₁ : List α} {l₂ : List β}, Paired F l₁ l₂ → (∀ a b, F a b → G a b) → Paired G l₁ l₂
  | _, _, .nil, _ => .nil
  | _, _, .cons r t, f => .cons (f _ _ r) (Paired.mapP t f)
theorem ObjOk.stay (x : ObjOk P w H h a o) (k : ∀ b u, (b = a ∨ H b = some (.own a)) → h.get? b = some u → h'.get? b = some u)
    (ho : ∀ b, H b = some (.own a) → H' b = some (.own a)) (ht : ∀ b xs, H b = some (.tup xs) → H' b = some (.tup xs)) : ObjOk P w H' h' a o := by
  induction o with
  | lst xs => obtain ⟨z, its, n, r, e⟩ := x; exact ⟨z, its, n, r, k _ _ (.inl rfl) e⟩
  | tup xs => obtain ⟨z, its, r, ob, e, c⟩ := x; exact ⟨z, its, r, ob, k _ _ (.inl rfl) e, c⟩
  | dK kvs => obtain ⟨z, y, vs, r, ob, es, ep, e, c⟩ := x; exact ⟨z, y, vs, r, ob, es, ep, k _ _ (.inl rfl) e, c⟩
  | dT kvs =>
    obtain ⟨z, y, xs, r, ob, es, ep, e, c⟩ := x
    exact ⟨z, y, xs, Paired.mapP r fun p q z => ⟨z.1, ht _ _ z.2.1, z.2.2⟩, ob, es, ep, k _ _ (.inl rfl) e, c⟩
  | set S n => obtain ⟨ob, es, ep, t, e, c⟩ := x; exact ⟨ob, es, ep, t, k _ _ (.inl rfl) e, c⟩
  | ins C dx fs =>
    obtain ⟨d, z, ne, e, mA, ⟨od, es, ep, e2, c⟩, r⟩ := x
    exact ⟨ho _ d, z, ne, k _ _ (.inl rfl) e, mA, ⟨od, es, ep, k _ _ (.inr d) e2, c⟩, r⟩
  | own y => obtain ⟨ob, e⟩ := x; exact ⟨ob, k _ _ (.inl rfl) e⟩
  | xd fs => obtain ⟨mA, ⟨od, es, ep, e, c⟩, r⟩ := x; exact ⟨mA, ⟨od, es, ep, k _ _ (.inl rfl) e, c⟩, r⟩
  | rng lo hi => obtain ⟨t, u, v, e⟩ := x; exact ⟨t, u, v, k _ _ (.inl rfl) e⟩
  | frz ob u ih => obtain ⟨e, q⟩ := x; exact ⟨k _ _ (.inl rfl) e, ih q⟩
  | tbl ps =>
    have e : h.get? a = some { cls := .none, data := .fields ps } := x
    show h'.get? a = some { cls := .none, data := .fields ps }
    exact k a _ (.inl rfl) e
  | met f y =>
    have e : h.get? a = some (PySem.W.methodObj (.ref f) (.ref y)) := x
    show h'.get? a = some (PySem.W.methodObj (.ref f) (.ref y))
    exact k a _ (.inl rfl) e
  | ext φ => obtain ⟨p, ⟨o, e⟩, st⟩ := x; exact ⟨st _ _ p fun o q => k _ _ (.inl rfl) q, ⟨o, k _ _ (.inl rfl) e⟩, st⟩
theorem HOk.lt (x : HOk P w H h) (e : H a = some o) : a < h.objs.size := (x a o e).lt
theorem HOk.fresh (x : HOk P w H h) (e : h.objs.size ≤ a) : H a = none := by
  cases q : H a with
  | none => rfl
  | some u => exact absurd (Nat.lt_of_lt_of_le (x.lt q) e) (Nat.lt_irrefl _)
theorem HOk.kept (x : HOk P w H h) (k : ∀ b u, h.get? b = some u → h'.get? b = some u) : HOk P w H h' := fun a o e =>
  (x a o e).stay (fun b u _ q => k b u q) (fun _ q => q) fun _ _ q => q
theorem HOk.laid (x : HOk P w H h) (k : ∀ b u, h.get? b = some u → h'.get? b = some u) (hp : h.objs.size ≤ a) (new : ObjOk P w (upd H a o) h' a o) : HOk P w (upd H a o) h' := fun b u e => by
  have hn := x.fresh hp
  by_cases hb : b = a
  · subst hb; rw [qE] at e; cases e; exact new
  · rw [qi hb] at e
    exact (x b u e).stay (fun c v _ q => k c v q) (fun c q => by rw [qi (ql q hn)]; exact q) fun c xs q => by rw [qi (ql q hn)]; exact q
end
def Rd (H : Hp) (a : Addr) (u : HO) : Prop := H a = some u ∨ ∃ o, H a = some (.frz o u)
theorem Rd.of {H : Hp} {a : Addr} {u : HO} (h : H a = some u) : Rd H a u := .inl h
theorem Rd.ok {P : Program} {w : World} {H : Hp} {h : Heap} {a : Addr} {u : HO} (r : Rd H a u) (x : HOk P w H h) : ObjOk P w H h a u := by
  rcases r with r | ⟨o, r⟩
  · exact x a u r
  · obtain ⟨_, q⟩ := x a _ r
    exact q
def Mut : Option HO → Prop
  | some (.lst _) => True
  | some (.dK _) => True
  | some (.dT _) => True
  | some (.set _ _) => True
  | some (.ins _ _ _) => True
  | some (.ext _) => True
  | _ => False
section
variable {P : Program} {w : World} {H : Hp} {h h' : Heap} {x e : Addr} {o' : HO}
theorem HOk.write (ok : HOk P w H h) (mu : Mut (H x)) (he : e = x ∨ H e = some (.own x)) (k : ∀ b u, b ≠ e → h.get? b = some u → h'.get? b = some u) (heo : ∃ u, h'.get? e = some u)
    (new : ObjOk P w (upd H x o') h' x o') : HOk P w (upd H x o') h' := fun b u q => by
  have nown : ∀ c y, H c = some (.own y) → c ≠ x := fun c y r z => by subst z; rw [r] at mu; exact mu
  have ntup : ∀ c xs, H c = some (.tup xs) → c ≠ x := fun c xs r z => by subst z; rw [r] at mu; exact mu
  by_cases hb : b = x
  · subst hb; rw [qE] at q; cases q; exact new
  · rw [qi hb] at q
    by_cases hbe : b = e
    · have q' : H b = some (.own x) := by
        rcases he with z | z
        · exact absurd (hbe.trans z) hb
        · rw [hbe]; exact z
      rw [q] at q'; cases q'
      obtain ⟨v, hv⟩ := heo
      exact ⟨v, by rw [hbe]; exact hv⟩
    · refine (ok b u q).stay (fun c v hc r => k c v ?_ r) (fun c r => by rw [qi (nown c b r)]; exact r) fun c xs r => by rw [qi (ntup c xs r)]; exact r
      rcases hc with rfl | hc
      · exact hbe
      · rintro rfl
        rcases he with z | z
        · exact nown c b hc z
        · rw [hc] at z; cases z; exact hb rfl
end
structure Un (fs ex : List Addr) (H H' : Hp) (h h' : Heap) : Prop where
  keep : ∀ b o, h.get? b = some o → H b = none → b ∉ fs → b ∉ ex → h'.get? b = some o
  slot : ∀ b o, h.get? b = some o → H b = none → b ∈ fs → b ∉ ex → ∃ sl, h'.get? b = some { o with slots := sl }
  free : ∀ b o, h.get? b = some o → H b = none → b ∉ ex → H' b = none
  there : ∀ b o, h.get? b = some o → b ∉ ex → ∃ o', h'.get? b = some o'
  tups : ∀ b xs, H b = some (.tup xs) → H' b = some (.tup xs)
  frzs : ∀ b o u, H b = some (.frz o u) → H' b = some (.frz o u)
  tbls : ∀ b ps, H b = some (.tbl ps) → ∃ more, H' b = some (.tbl (ps ++ more))
section
variable {fs fs' ex ex' : List Addr} {H H1 H2 : Hp} {h h1 h2 h' : Heap} {a x e : Addr} {o : HO}
theorem Un.any (u : Un fs ex H H1 h h1) {b : Addr} {ob : Obj} (q : h.get? b = some ob) (n : H b = none) (hx : b ∉ ex) : ∃ sl, h1.get? b = some { ob with slots := sl } := by
  by_cases hb : b ∈ fs
  · exact u.slot b ob q n hb hx
  · exact ⟨ob.slots, u.keep b ob q n hb hx⟩
theorem Un.trans (a : Un fs ex H H1 h h1) (b : Un fs ex H1 H2 h1 h2) : Un fs ex H H2 h h2 where
  keep := fun c ob q n hc hx => b.keep c ob (a.keep c ob q n hc hx) (a.free c ob q n hx) hc hx
  slot := fun c ob q n hc hx => by
    obtain ⟨sl, e1⟩ := a.slot c ob q n hc hx
    obtain ⟨sl', e2⟩ := b.slot c _ e1 (a.free c ob q n hx) hc hx
    exact ⟨sl', e2⟩
  free := fun c ob q n hx => by
    obtain ⟨o', e1⟩ := a.there c ob q hx
    exact b.free c o' e1 (a.free c ob q n hx) hx
  there := fun c ob q hx => by
    obtain ⟨o', e1⟩ := a.there c ob q hx
    exact b.there c o' e1 hx
  tups := fun c xs q => b.tups c xs (a.tups c xs q)
  frzs := fun c ob xs q => b.frzs c ob xs (a.frzs c ob xs q)
  tbls := fun c ps q => by
    obtain ⟨m1, e1⟩ := a.tbls c ps q
    obtain ⟨m2, e2⟩ := b.tbls c _ e1
    exact ⟨m1 ++ m2, by rw [e2, Array.append_assoc]⟩
theorem Un.kept (k : ∀ b u, h.get? b = some u → h'.get? b = some u) : Un fs ex H H h h' :=
  ⟨fun b ob q _ _ _ => k b ob q, fun b ob q _ _ _ => ⟨ob.slots, k b ob q⟩, fun _ _ _ n _ => n, fun b ob q _ => ⟨ob, k b ob q⟩, fun _ _ q => q, fun _ _ _ q => q, fun _ ps q => ⟨#[], by rw [q]; simp⟩⟩
theorem Un.refl : Un fs ex H H h h := Un.kept fun _ _ q => q
theorem Un.laid (k : ∀ b u, h.get? b = some u → h'.get? b = some u) (hp : h.objs.size ≤ a) (hn : H a = none) : Un fs ex H (upd H a o) h h' where
  keep := fun b u q _ _ _ => k b u q
  slot := fun b u q _ _ _ => ⟨u.slots, k b u q⟩
  free := fun b u q n _ => by rw [qi (Nat.ne_of_lt (Nat.lt_of_lt_of_le (Heap.lt_size q) hp))]; exact n
  there := fun b u q _ => ⟨u, k b u q⟩
  tups := fun b xs q => by rw [qi (ql q hn)]; exact q
  frzs := fun b u xs q => by rw [qi (ql q hn)]; exact q
  tbls := fun b ps q => ⟨#[], by rw [qi (ql q hn), q]; simp⟩
theorem Un.write (mu : Mut (H x)) (he : e = x ∨ H e = some (.own x)) (k : ∀ b u, b ≠ e → h.get? b = some u → h'.get? b = some u) (heo : ∃ u, h'.get? e = some u) : Un fs ex H (upd H x o) h h' := by
  have hx : ∀ b, H b = none → b ≠ x := fun b n z => by subst z; rw [n] at mu; exact mu
  have hb : ∀ b, H b = none → b ≠ e := fun b n z => by
    subst z
    rcases he with r | r
    · exact hx b n r
    · rw [n] at r; cases r
  have hm : ∀ b u, H b = some u → ¬ Mut (some u) → b ≠ x := fun b u q nm z => by subst z; rw [q] at mu; exact nm mu
  refine ⟨fun b u q n _ _ => k b u (hb b n) q, fun b u q n _ _ => ⟨u.slots, k b u (hb b n) q⟩, fun b u q n _ => by rw [qi (hx b n)]; exact n, fun b u q _ => ?_,
    fun b xs q => by rw [qi (hm b _ q fun z => z)]; exact q, fun b u xs q => by rw [qi (hm b _ q fun z => z)]; exact q, fun b ps q => ⟨#[], by rw [qi (hm b _ q fun z => z), q]; simp⟩⟩
  by_cases hbe : b = e
  · subst hbe; exact heo
  · exact ⟨u, k b u hbe q⟩
theorem Un.mono (u : Un fs ex H H1 h h1) (hs : ∀ b ∈ fs, b ∈ fs') (hx : ∀ b ∈ ex, b ∈ ex') : Un fs' ex' H H1 h h1 :=
  ⟨fun b ob q n hb he => u.keep b ob q n (fun z => hb (hs b z)) fun z => he (hx b z), fun _ _ q n _ he => u.any q n fun z => he (hx _ z), fun b ob q n he => u.free b ob q n fun z => he (hx b z), fun b ob q he => u.there b ob q fun z => he (hx b z), u.tups, u.frzs, u.tbls⟩
end
def trk (h : Heap) (H : Hp) : List Addr := (List.range h.objs.size).filter fun a => (H a).isSome
def qKh (h : Heap) (H : Hp) : Heap := PySem.W.hideAll h (trk h H)
theorem qIs (h : Heap) (H : Hp) : (qKh h H).objs.size = h.objs.size := PySem.W.hideAll_size _ _
theorem qJ1 {h : Heap} {H : Hp} {b : Addr} {o : Obj} (e : h.get? b = some o) (n : H b = none) : (qKh h H).get? b = some o :=
  PySem.W.hideAll_get _ e fun hm => by
    have q : (H b).isSome = true := (List.mem_filter.mp hm).2
    rw [n] at q; simp at q
theorem qMf {h : Heap} {H : Hp} {b : Addr} {o : Obj} (e : (qKh h H).get? b = some o) : h.get? b = some o ∧ H b = none := by
  have e' : h.get? b = some o := PySem.W.of_hideAll (trk h H) e
  refine ⟨e', ?_⟩
  cases q : H b with
  | none => rfl
  | some x =>
    have hm : b ∈ trk h H := List.mem_filter.mpr ⟨List.mem_range.mpr (Heap.lt_size e'), by simp [q]⟩
    have z : (qKh h H).get? b = none := PySem.W.hideAll_none (trk h H) hm
    rw [z] at e; cases e
def qLt (g h : Heap) (L : Addr) : List (Addr × Obj) := (List.range h.objs.size).filterMap fun a => if a = L ∨ (g.get? a).isSome = true then none else (h.get? a).map fun o => (a, o)
def rest (g h : Heap) (L d : Addr) : List (Addr × Obj) := (qLt g h L).filter fun p => decide (p.1 ≠ d)
end L2
namespace L2
open PySem PySem.Spec PyProof.Rows
structure Mod (K : PySem.W.Frag) (mg : Str → Option Value) (base : Heap) : Prop where
  kin : K.In base
  glob : base.Ns mainGlobals mg
  blt : ∃ mb, base.Ns builtinsNs mb ∧ ∀ x : Str, x ≠ "__name__" → mb x = bootBuiltins x
  nolimit : base.NoLimit
structure Cx where
  prog : Program
  w : World
  K : PySem.W.Frag
  mg : Str → Option Value
  base : Heap
  A : Around
  N : List Str
  s₀ : Shared
  H₀ : Hp
  env : Env
  outer : List Env
  stack : List Env
  ex : List Addr
  fn : Str → Bool
  calm : Bool
  pn : List (Addr × Obj)
  xe : Value → Shared → Prop
def frs (l : List Env) : List Addr := l.filterMap (·.frame)
abbrev Cx.fs (X : Cx) : List Addr := frs X.outer
def Vis (sc : Scope) (x : Str) : Prop := sc.names.lookup x = some .local ∨ sc.names.lookup x = some .cell ∨ sc.names.lookup x = some .free
def Loc (sc : Scope) (x : Str) : Prop := sc.names.lookup x = some .local ∨ sc.names.lookup x = some .cell
def qPv (env : Env) (h : Heap) (m : Str → Option Value) (x : Str) (u : Value) : Prop :=
  (env.kindOf x = some .local ∧ m x = some u) ∨ ((env.kindOf x = some .cell ∨ env.kindOf x = some .free) ∧ ∃ c, env.cells.lookup x = some c ∧ h.IsCell c (some u))
structure Cx.Ok (X : Cx) : Prop where
  mod : Mod X.K X.mg X.base
  kind : X.env.scope.kind = .function
  glob : X.env.globals = mainGlobals
  blt : X.env.builtins = builtinsNs
  above : X.s₀.heap.objs.size ≤ X.env.locals
  inj : ∀ x y c, X.env.cells.lookup x = some c → X.env.cells.lookup y = some c → x = y
  has : ∀ x, (X.env.kindOf x = some .cell ∨ X.env.kindOf x = some .free) → ∃ c, X.env.cells.lookup x = some c
  cab : ∀ x c, X.fn x = true → X.env.cells.lookup x = some c → X.s₀.heap.objs.size ≤ c
  hd : X.calm = true → X.A.handled = none
  frames : X.A.frames = some X.stack
  stk : X.stack = X.outer ∨ (X.stack = X.env :: X.outer ∧ X.env.frame = some X.env.locals)
  exf : ∀ b ∈ X.ex, b ≠ X.env.locals ∧ ∀ x c, X.env.cells.lookup x = some c → c ≠ b
  bs : ∀ b o, X.base.get? b = some o → X.s₀.heap.get? b = some o ∧ X.H₀ b = none
  bsz : X.base.objs.size ≤ X.s₀.heap.objs.size
  noex : ∀ b o, X.base.get? b = some o → b ∉ X.ex
  exfs : ∀ b ∈ X.ex, b ∉ X.fs
  funs : X.s₀.heap.FunFrames X.base X.outer
  frf : ∀ b ∈ X.fs, X.H₀ b = none
structure Inv (X : Cx) (pins : List (Addr × Obj)) (σ : List (Option V)) (H : Hp) (s : Shared) : Prop where
  ok : X.Ok
  os : s.os = X.s₀.os
  bare : AllBare s.gens
  base : Un X.fs X.ex X.H₀ H X.s₀.heap s.heap
  loc : ∃ m, s.heap.Ns X.env.locals m ∧ ∀ (i : Nat) (x : Str) (v : V), X.N[i]? = some x → σ[i]? = some (some v) → Vis X.env.scope x → ∃ u, RelV v u ∧ qPv X.env s.heap m x u
  cell : ∀ x c, X.env.cells.lookup x = some c → ∃ v, s.heap.IsCell c v
  free : H X.env.locals = none
  freeC : ∀ x c, X.env.cells.lookup x = some c → H c = none
  pin : ∀ p ∈ X.pn ++ pins, s.heap.get? p.1 = some p.2 ∧ H p.1 = none ∧ p.1 ≠ X.env.locals ∧ p.1 ∉ X.fs ∧ ∀ v, p.2.data ≠ .cell v
  hok : HOk X.prog X.w H s.heap
  len : σ.length = X.N.length
section
variable {X : Cx} {pins : List (Addr × Obj)} {σ : List (Option V)} {H H' : Hp} {s : Shared} {h' : Heap}
theorem Cx.Ok.nofr (ok : X.Ok) {b : Addr} {o : Obj} (e : X.base.get? b = some o) : b ∉ X.fs := fun hb => by
  have := (ok.funs.mem hb).1
  rw [e] at this; cases this
theorem Inv.bs (I : Inv X pins σ H s) : ∀ b o, X.base.get? b = some o → s.heap.get? b = some o ∧ H b = none := fun b o e =>
  ⟨I.base.keep b o (I.ok.bs b o e).1 (I.ok.bs b o e).2 (I.ok.nofr e) (I.ok.noex b o e), I.base.free b o (I.ok.bs b o e).1 (I.ok.bs b o e).2 (I.ok.noex b o e)⟩
theorem Inv.bk (I : Inv X pins σ H s) : ∀ b o, X.base.get? b = some o → s.heap.get? b = some o := fun b o e => (I.bs b o e).1
theorem Inv.mod (I : Inv X pins σ H s) : Mod X.K X.mg X.base := I.ok.mod
theorem Inv.kIn (I : Inv X pins σ H s) : X.K.In s.heap := I.ok.mod.kin.keeps I.bk
theorem Inv.nolimit (I : Inv X pins σ H s) : s.heap.NoLimit := I.ok.mod.nolimit.keeps I.bk
theorem Inv.fr (I : Inv X pins σ H s) : ∃ m, Fr X.base X.env.locals s.heap m :=
  let ⟨m, hn, _⟩ := I.loc
  ⟨m, hn, I.bk, Nat.le_trans I.ok.bsz I.ok.above⟩
theorem Inv.lt (I : Inv X pins σ H s) : X.env.locals < s.heap.objs.size := let ⟨_, hn, _⟩ := I.loc; hn.lt
theorem Inv.sz (I : Inv X pins σ H s) : X.s₀.heap.objs.size ≤ s.heap.objs.size := Nat.le_trans I.ok.above (Nat.le_of_lt I.lt)
theorem Inv.nofs (I : Inv X pins σ H s) {a : Addr} (h : s.heap.objs.size ≤ a) : a ∉ X.fs := fun hb => by
  obtain ⟨_, o, ho, _⟩ := I.ok.funs.mem hb
  exact absurd (Nat.lt_of_lt_of_le (Heap.lt_size ho) (Nat.le_trans I.sz h)) (Nat.lt_irrefl _)
theorem Inv.cne (I : Inv X pins σ H s) : ∀ x c, X.env.cells.lookup x = some c → c ≠ X.env.locals := fun x c e z => by
  obtain ⟨v, o, ho, hd⟩ := I.cell x c e
  obtain ⟨m, ⟨o', es, ep, ho', hd', _⟩, _⟩ := I.loc
  rw [z, ho'] at ho; cases ho; rw [hd'] at hd; cases hd
theorem Inv.funs (I : Inv X pins σ H s) : s.heap.FunFrames X.base X.outer := by
  have all : ∀ (l : List Env), (∀ b ∈ frs l, b ∈ X.fs) → X.s₀.heap.FunFrames X.base l → s.heap.FunFrames X.base l := by
    intro l
    induction l with
    | nil => intro _ _; trivial
    | cons env r ih =>
      intro hs hl
      obtain ⟨hk, ⟨L, o, hf, hn, ho, hd⟩, hr⟩ := hl
      have hL : L ∈ X.fs := hs L (by unfold frs; rw [List.filterMap_cons, hf]; exact List.mem_cons_self)
      obtain ⟨sl, e⟩ := I.base.slot L o ho (I.ok.frf L hL) hL fun z => I.ok.exfs L z hL
      exact ⟨hk, ⟨L, _, hf, hn, e, hd⟩, ih (fun b hb => hs b (by unfold frs; rw [List.filterMap_cons, hf]; exact List.mem_cons_of_mem _ hb)) hr⟩
  exact all X.outer (fun _ hb => hb) I.ok.funs
theorem Inv.stack (I : Inv X pins σ H s) : s.heap.FunFrames X.base X.stack := by
  rcases I.ok.stk with e | ⟨e, hf⟩
  · rw [e]; exact I.funs
  · rw [e]
    obtain ⟨m, hn, _⟩ := I.loc
    refine .cons (by rw [I.ok.kind]; decide) hf hn ?_ I.funs
    exact Heap.get?_none_of_le (Nat.le_trans I.ok.bsz I.ok.above)
theorem Inv.stkSub (I : Inv X pins σ H s) : ∀ b ∈ frs X.stack, b ∈ X.env.locals :: X.fs := fun b hb => by
  rcases I.ok.stk with e | ⟨e, hf⟩
  · rw [e] at hb; exact List.mem_cons_of_mem _ hb
  · rw [e] at hb
    unfold frs at hb
    rw [List.filterMap_cons, hf] at hb
    exact hb
theorem Inv.stkFree (I : Inv X pins σ H s) : ∀ b ∈ frs X.stack, H b = none := fun b hb => by
  rcases List.mem_cons.mp (I.stkSub b hb) with e | hb
  · rw [e]; exact I.free
  · obtain ⟨_, o, ho, _⟩ := I.ok.funs.mem hb
    exact I.base.free b o ho (I.ok.frf b hb) fun z => I.ok.exfs b z hb
theorem Inv.step {g' : Array GenState} {t' : Nat} {d' : Drawn} {ch : List Addr} (I : Inv X pins σ H s)
    (hch : ∀ b ∈ ch, (b ∈ X.ex ∨ X.s₀.heap.objs.size ≤ b) ∧ b ≠ X.env.locals ∧ (∀ x c, X.env.cells.lookup x = some c → c ≠ b) ∧ ∀ p ∈ X.pn ++ pins, p.1 ≠ b)
    (keep : ∀ b o, b ≠ X.env.locals → b ∉ X.fs → b ∉ ch → s.heap.get? b = some o → H b = none → h'.get? b = some o)
    (slot : ∀ b o, b ≠ X.env.locals → b ∈ X.fs → b ∉ ch → s.heap.get? b = some o → H b = none → ∃ sl, h'.get? b = some { o with slots := sl }) (free : ∀ b o, b ∉ ch → s.heap.get? b = some o → H b = none → H' b = none)
    (there : ∀ b o, b ∉ ch → s.heap.get? b = some o → ∃ o', h'.get? b = some o')
    (tups : ∀ b xs, H b = some (.tup xs) → H' b = some (.tup xs)) (frzs : ∀ b o u, H b = some (.frz o u) → H' b = some (.frz o u)) (tbls : ∀ b ps, H b = some (.tbl ps) → ∃ more, H' b = some (.tbl (ps ++ more)))
    (ns : ∀ m, s.heap.Ns X.env.locals m → h'.Ns X.env.locals m) (hok : HOk X.prog X.w H' h') (hg : AllBare g') :
    Inv X pins σ H' { s with heap := h', gens := g', drawn := d', toks := t' } := by
  have neL : ∀ b o, X.s₀.heap.get? b = some o → b ≠ X.env.locals := fun b o e => Nat.ne_of_lt (Nat.lt_of_lt_of_le (Heap.lt_size e) I.ok.above)
  have neC : ∀ b o, X.s₀.heap.get? b = some o → b ∉ X.ex → b ∉ ch := fun b o e hx hb => by
    rcases (hch b hb).1 with z | z
    · exact hx z
    · exact absurd (Nat.lt_of_lt_of_le (Heap.lt_size e) z) (Nat.lt_irrefl _)
  have cellK : ∀ x c, X.env.cells.lookup x = some c → ∀ v, s.heap.IsCell c v → h'.IsCell c v := fun x c e v ⟨o, ho, hd⟩ => by
    have nch : c ∉ ch := fun z => (hch c z).2.2.1 x c e rfl
    by_cases hc : c ∈ X.fs
    · obtain ⟨sl, q⟩ := slot c o (I.cne x c e) hc nch ho (I.freeC x c e)
      exact ⟨_, q, hd⟩
    · exact ⟨o, keep c o (I.cne x c e) hc nch ho (I.freeC x c e), hd⟩
  refine ⟨I.ok, I.os, hg, ⟨fun b o e n hb hx => ?_, fun b o e n hb hx => ?_, fun b o e n hx => ?_, fun b o e hx => ?_, fun b xs e => tups b xs (I.base.tups b xs e), fun b o xs e => frzs b o xs (I.base.frzs b o xs e), fun b ps e => ?_⟩, ?_, fun x c e => ?_, ?_, fun x c e => ?_, fun p hp => ?_, hok, I.len⟩
  · exact keep b o (neL b o e) hb (neC b o e hx) (I.base.keep b o e n hb hx) (I.base.free b o e n hx)
  · obtain ⟨sl, e1⟩ := I.base.slot b o e n hb hx
    obtain ⟨sl', e2⟩ := slot b _ (neL b o e) hb (neC b o e hx) e1 (I.base.free b o e n hx)
    exact ⟨sl', e2⟩
  · obtain ⟨o', e1⟩ := I.base.there b o e hx
    exact free b o' (neC b o e hx) e1 (I.base.free b o e n hx)
  · obtain ⟨o', e1⟩ := I.base.there b o e hx
    exact there b o' (neC b o e hx) e1
  · obtain ⟨m1, e1⟩ := I.base.tbls b ps e
    obtain ⟨m2, e2⟩ := tbls b _ e1
    exact ⟨m1 ++ m2, by rw [e2, Array.append_assoc]⟩
  · obtain ⟨m, hn, hl⟩ := I.loc
    refine ⟨m, ns m hn, fun i x v e1 e2 e3 => ?_⟩
    obtain ⟨u, r, l⟩ := hl i x v e1 e2 e3
    refine ⟨u, r, ?_⟩
    rcases l with l | ⟨k, c, e, z⟩
    · exact .inl l
    · exact .inr ⟨k, c, e, cellK x c e _ z⟩
  · obtain ⟨v, z⟩ := I.cell x c e
    exact ⟨v, cellK x c e v z⟩
  · obtain ⟨m, ⟨o, _, _, ho, _⟩, _⟩ := I.loc
    exact free _ o (fun z => (hch _ z).2.1 rfl) ho I.free
  · obtain ⟨v, o, ho, hd⟩ := I.cell x c e
    exact free c o (fun z => (hch c z).2.2.1 x c e rfl) ho (I.freeC x c e)
  · obtain ⟨e, n, ne, nf, d⟩ := I.pin p hp
    have nch : p.1 ∉ ch := fun z => (hch p.1 z).2.2.2 p hp rfl
    exact ⟨keep p.1 p.2 ne nf nch e n, free p.1 p.2 nch e n, ne, nf, d⟩
theorem Inv.un {t' : Nat} (I : Inv X pins σ H s) (u : Un X.fs [] H H' s.heap h') (hok : HOk X.prog X.w H' h') : Inv X pins σ H' { s with heap := h', toks := t' } := by
  obtain ⟨m, ⟨o, es, ep, ho, r⟩, _⟩ := id I.loc
  obtain ⟨sl, hL⟩ := u.any ho I.free (by simp)
  exact I.step (g' := s.gens) (d' := s.drawn) (ch := []) (fun _ z => nomatch z) (fun b o _ hb _ e n => u.keep b o e n hb (by simp)) (fun b o _ hb _ e n => u.slot b o e n hb (by simp)) (fun b o _ e n => u.free b o e n (by simp)) (fun b o _ e => u.there b o e (by simp)) u.tups u.frzs u.tbls (fun m' hm => by
    obtain ⟨o', es', ep', ho', r'⟩ := hm
    rw [ho] at ho'; cases ho'
    exact ⟨_, es', ep', hL, r'⟩) hok I.bare
theorem Inv.call {g' : Array GenState} {t' : Nat} {d' : Drawn} {ch : List Addr} (I : Inv X pins σ H s) (u : Un (frs X.stack) ch H H' s.heap h') (hok : HOk X.prog X.w H' h') (hg : AllBare g')
    (hch : ∀ b ∈ ch, (b ∈ X.ex ∨ X.s₀.heap.objs.size ≤ b) ∧ b ≠ X.env.locals ∧ (∀ x c, X.env.cells.lookup x = some c → c ≠ b) ∧ ∀ p ∈ X.pn ++ pins, p.1 ≠ b) :
    Inv X pins σ H' { s with heap := h', gens := g', drawn := d', toks := t' } := by
  obtain ⟨m, ⟨o, es, ep, ho, r⟩, _⟩ := id I.loc
  obtain ⟨sl, hL⟩ := u.any ho I.free fun z => (hch _ z).2.1 rfl
  exact I.step (ch := ch) hch (fun b o hL hb hc e n => u.keep b o e n (fun z => (List.mem_cons.mp (I.stkSub b z)).elim hL hb) hc) (fun b o _ _ hc e n => u.any e n hc) (fun b o hc e n => u.free b o e n hc) (fun b o hc e => u.there b o e hc) u.tups u.frzs u.tbls (fun m' hm => by
    obtain ⟨o', es', ep', ho', r'⟩ := hm
    rw [ho] at ho'; cases ho'
    exact ⟨_, es', ep', hL, r'⟩) hok hg
theorem Inv.turned {t' : Nat} {it : Addr} (I : Inv X pins σ H s) (k : ∀ b o, b ≠ it → s.heap.get? b = some o → h'.get? b = some o) (hn : H it = none) (hL : it ≠ X.env.locals)
    (h1 : it ∈ X.ex ∨ X.s₀.heap.objs.size ≤ it) (h2 : ∀ x c, X.env.cells.lookup x = some c → c ≠ it) (h3 : ∀ p ∈ X.pn ++ pins, p.1 ≠ it) : Inv X pins σ H { s with heap := h', toks := t' } := by
  have nit : ∀ b u, H b = some u → b ≠ it := fun b u e z => by rw [z, hn] at e; cases e
  refine I.step (g' := s.gens) (d' := s.drawn) (ch := [it]) (fun b hb => ?_) (fun b o _ _ hc e _ => k b o (fun z => hc (by simp [z])) e) (fun b o _ _ hc e _ => ⟨o.slots, k b o (fun z => hc (by simp [z])) e⟩) (fun _ _ _ _ n => n)
    (fun b o hc e => ⟨o, k b o (fun z => hc (by simp [z])) e⟩) (fun _ _ e => e) (fun _ _ _ e => e) (fun b ps e => ⟨#[], by rw [e]; simp⟩) (fun m hm => ?_) (fun b u e => ?_) I.bare
  · have e : b = it := by simpa using hb
    subst e
    exact ⟨h1, hL, h2, h3⟩
  · obtain ⟨o, es, ep, ho, r⟩ := hm
    exact ⟨o, es, ep, k _ o (Ne.symm hL) ho, r⟩
  · refine (I.hok b u e).stay (fun c v hc q => k c v ?_ q) (fun _ q => q) fun _ _ q => q
    rcases hc with z | z
    · rw [z]; exact nit b u e
    · exact nit c _ z
theorem Inv.tok (I : Inv X pins σ H s) (t : Nat) : Inv X pins σ H { s with toks := t } := I.un (h' := s.heap) (t' := t) Un.refl I.hok
theorem Inv.kept {t' : Nat} (I : Inv X pins σ H s) (k : ∀ b u, s.heap.get? b = some u → h'.get? b = some u) : Inv X pins σ H { s with heap := h', toks := t' } := I.un (Un.kept k) (I.hok.kept k)
theorem Inv.laid {a : Addr} {o : HO} {t' : Nat} (I : Inv X pins σ H s) (k : ∀ b u, s.heap.get? b = some u → h'.get? b = some u) (hp : s.heap.objs.size ≤ a) (new : ObjOk X.prog X.w (upd H a o) h' a o) :
    Inv X pins σ (upd H a o) { s with heap := h', toks := t' } := I.un (Un.laid k hp (I.hok.fresh hp)) (I.hok.laid k hp new)
theorem Inv.write {x e : Addr} {o : HO} {t' : Nat} (I : Inv X pins σ H s) (mu : Mut (H x)) (he : e = x ∨ H e = some (.own x)) (k : ∀ b u, b ≠ e → s.heap.get? b = some u → h'.get? b = some u) (heo : ∃ u, h'.get? e = some u)
    (new : ObjOk X.prog X.w (upd H x o) h' x o) : Inv X pins σ (upd H x o) { s with heap := h', toks := t' } := I.un (Un.write mu he k heo) (I.hok.write mu he k heo new)
theorem Inv.weak {σ' : List (Option V)} (I : Inv X pins σ H s) (hl : σ'.length = σ.length) (w : ∀ (i : Nat) v, σ'[i]? = some (some v) → σ[i]? = some (some v)) : Inv X pins σ' H s :=
  ⟨I.ok, I.os, I.bare, I.base, let ⟨m, hn, hl'⟩ := I.loc; ⟨m, hn, fun i x v e1 e2 e3 => hl' i x v e1 (w i v e2) e3⟩, I.cell, I.free, I.freeC, I.pin, I.hok, hl.trans I.len⟩
theorem Inv.pins_of {pins' : List (Addr × Obj)} (I : Inv X pins σ H s) (h : ∀ p ∈ pins', s.heap.get? p.1 = some p.2 ∧ H p.1 = none ∧ p.1 ≠ X.env.locals ∧ p.1 ∉ X.fs ∧ ∀ v, p.2.data ≠ .cell v) : Inv X pins' σ H s :=
  ⟨I.ok, I.os, I.bare, I.base, I.loc, I.cell, I.free, I.freeC, fun p hp => (List.mem_append.mp hp).elim (fun z => I.pin p (List.mem_append_left _ z)) (h p), I.hok, I.len⟩
theorem qFz {N : List Str} (hN : N.Nodup) {i j : Nat} {x : Str} (a : N[i]? = some x) (b : N[j]? = some x) : i = j := by
  obtain ⟨h1, e1⟩ := List.getElem?_eq_some_iff.mp a
  obtain ⟨h2, e2⟩ := List.getElem?_eq_some_iff.mp b
  exact (List.getElem_inj hN).mp (e1.trans e2.symm)
theorem qAl {M : Model} {A : Around} {E : Value → Shared → Prop} {i : Nat} {x : Str} {v : V} {u : Value} {Q : Unit → Shared → Prop} (I : Inv X pins σ H s) (hN : X.N.Nodup) (hi : X.N[i]? = some x) (hx : Loc X.env.scope x) (r : RelV v u)
    (h : ∀ s', Inv X pins (σ.set i (some v)) H s' → (∃ a, Heap.SameBut a s.heap s'.heap ∧ (a = X.env.locals ∨ X.env.cells.lookup x = some a)) → Q () s') (hf : X.fn x = true ∨ X.env.scope.names.lookup x = some .local := by first | exact .inl rfl | exact .inr rfl | assumption) : wpAny M A (storeName X.env x u) Q E s := by
  obtain ⟨m, hn, hl⟩ := id I.loc
  have hcls : (X.env.scope.kind == .class || (X.env.scope.kind == .module && X.env.locals != X.env.globals)) = false := by rw [I.ok.kind]; rfl
  have hiσ : i < σ.length := by rw [I.len]; exact (List.getElem?_eq_some_iff.mp hi).1
  have cne := I.cne
  have tracked : ∀ {a : Addr} {h' : Heap}, (∃ o, s.heap.get? a = some o ∧ H a = none) → Heap.SameBut a s.heap h' → HOk X.prog X.w H h' := fun {a h'} ha hs b ob e => by
    obtain ⟨_, _, hfree⟩ := ha
    refine (I.hok b ob e).stay (fun c w' hc q => (hs.2 c ?_).trans q) (fun _ q => q) fun _ _ q => q
    rintro rfl
    rcases hc with rfl | hc
    · rw [hfree] at e; cases e
    · rw [hfree] at hc; cases hc
  rcases hx with hk | hk
  · refine wpAny_storeName_local hk hn (fun h' hn' hs => ?_) hcls
    obtain ⟨oL, _, _, hoL, _⟩ := id hn
    refine h _ ⟨I.ok, I.os, I.bare, ⟨fun b o e n hb hx => ?_, fun b o e n hb hx => ?_, I.base.free, fun b o e hx => ?_, I.base.tups, I.base.frzs, I.base.tbls⟩, ⟨_, hn', fun j y v' e1 e2 e3 => ?_⟩, fun y c e => ?_, I.free, I.freeC, fun p hp => ?_, tracked ⟨oL, hoL, I.free⟩ hs, by simpa using I.len⟩ ⟨_, hs, .inl rfl⟩
    · exact (hs.2 b (Nat.ne_of_lt (Nat.lt_of_lt_of_le (Heap.lt_size e) I.ok.above))).trans (I.base.keep b o e n hb hx)
    · obtain ⟨sl, e1⟩ := I.base.slot b o e n hb hx
      exact ⟨sl, (hs.2 b (Nat.ne_of_lt (Nat.lt_of_lt_of_le (Heap.lt_size e) I.ok.above))).trans e1⟩
    · obtain ⟨o', e1⟩ := I.base.there b o e hx
      exact ⟨o', (hs.2 b (Nat.ne_of_lt (Nat.lt_of_lt_of_le (Heap.lt_size e) I.ok.above))).trans e1⟩
    · by_cases hj : j = i
      · subst hj
        rw [hi] at e1; cases e1
        rw [List.getElem?_set_self hiσ] at e2
        cases e2
        exact ⟨u, r, .inl ⟨hk, by simp⟩⟩
      · rw [List.getElem?_set_ne (Ne.symm hj)] at e2
        obtain ⟨u', r', q⟩ := hl j y v' e1 e2 e3
        refine ⟨u', r', ?_⟩
        rcases q with ⟨k, e⟩ | ⟨k, c, e, z⟩
        · refine .inl ⟨k, ?_⟩
          have : y ≠ x := fun e => hj (qFz hN e1 (e ▸ hi))
          simp [this, e]
        · exact .inr ⟨k, c, e, z.sameBut hs (cne y c e)⟩
    · obtain ⟨w', z⟩ := I.cell y c e
      exact ⟨w', z.sameBut hs (cne y c e)⟩
    · obtain ⟨e, n, ne, nf, d⟩ := I.pin p hp
      exact ⟨(hs.2 p.1 ne).trans e, n, ne, nf, d⟩
  · have hfn : X.fn x = true := by
      rcases hf with z | z
      · exact z
      · rw [z] at hk; cases hk
    obtain ⟨c, hc⟩ := I.ok.has x (.inl hk)
    obtain ⟨w', z⟩ := I.cell x c hc
    refine wpAny_storeName_cell I.ok.kind hk hc z (fun h' hc' hs => ?_)
    obtain ⟨oc, hoc, hocd⟩ := id z
    refine h { s with heap := h' } ⟨I.ok, I.os, I.bare, ⟨fun b o e n hb hx => ?_, fun b o e n hb hx => ?_, I.base.free, fun b o e hx => ?_, I.base.tups, I.base.frzs, I.base.tbls⟩, ⟨m, hn.sameBut hs (Ne.symm (cne x c hc)), fun j y v' e1 e2 e3 => ?_⟩, fun y c' e => ?_, I.free, I.freeC, fun p hp => ?_, tracked ⟨oc, hoc, I.freeC x c hc⟩ hs, by simpa using I.len⟩ ⟨c, hs, .inr hc⟩
    · exact (hs.2 b (Nat.ne_of_lt (Nat.lt_of_lt_of_le (Heap.lt_size e) (I.ok.cab x c hfn hc)))).trans (I.base.keep b o e n hb hx)
    · obtain ⟨sl, e1⟩ := I.base.slot b o e n hb hx
      exact ⟨sl, (hs.2 b (Nat.ne_of_lt (Nat.lt_of_lt_of_le (Heap.lt_size e) (I.ok.cab x c hfn hc)))).trans e1⟩
    · obtain ⟨o', e1⟩ := I.base.there b o e hx
      exact ⟨o', (hs.2 b (Nat.ne_of_lt (Nat.lt_of_lt_of_le (Heap.lt_size e) (I.ok.cab x c hfn hc)))).trans e1⟩
    · by_cases hj : j = i
      · subst hj
        rw [hi] at e1; cases e1
        rw [List.getElem?_set_self hiσ] at e2
        cases e2
        exact ⟨u, r, .inr ⟨.inl hk, c, hc, hc'⟩⟩
      · rw [List.getElem?_set_ne (Ne.symm hj)] at e2
        obtain ⟨u', r', q⟩ := hl j y v' e1 e2 e3
        refine ⟨u', r', ?_⟩
        rcases q with q | ⟨k, c', e, z'⟩
        · exact .inl q
        · refine .inr ⟨k, c', e, z'.sameBut hs ?_⟩
          rintro rfl
          exact hj (qFz hN e1 (I.ok.inj _ _ _ e hc ▸ hi))
    · by_cases hcc : c' = c
      · subst hcc; exact ⟨_, hc'⟩
      · obtain ⟨w2, z2⟩ := I.cell y c' e
        exact ⟨w2, z2.sameBut hs hcc⟩
    · obtain ⟨e, n, ne, nf, d⟩ := I.pin p hp
      refine ⟨(hs.2 p.1 ?_).trans e, n, ne, nf, d⟩
      intro q
      rw [q, hoc] at e
      have q' : oc = p.2 := Option.some.inj e
      exact d w' (by rw [← q']; exact hocd)
theorem ki {M : Model} {A : Around} {E : Value → Shared → Prop} {i : Nat} {x : Str} {v : V} {u : Value} {Q : Unit → Shared → Prop} (I : Inv X pins σ H s) (hN : X.N.Nodup) (hi : X.N[i]? = some x) (hx : Loc X.env.scope x) (r : RelV v u)
    (h : ∀ s', Inv X pins (σ.set i (some v)) H s' → Q () s') (hf : X.fn x = true ∨ X.env.scope.names.lookup x = some .local := by first | exact .inl rfl | exact .inr rfl | assumption) : wpAny M A (storeName X.env x u) Q E s :=
  qAl I hN hi hx r (fun s' I' _ => h s' I') hf
theorem Inv.call' {s' : Shared} {ch : List Addr} (I : Inv X pins σ H s) (ho : s'.os = s.os) (u : Un (frs X.stack) ch H H' s.heap s'.heap) (hok : HOk X.prog X.w H' s'.heap) (hg : AllBare s'.gens)
    (hch : ∀ b ∈ ch, (b ∈ X.ex ∨ X.s₀.heap.objs.size ≤ b) ∧ b ≠ X.env.locals ∧ (∀ x c, X.env.cells.lookup x = some c → c ≠ b) ∧ ∀ p ∈ X.pn ++ pins, p.1 ≠ b) : Inv X pins σ H' s' := by
  obtain ⟨h', g', d', t', o'⟩ := s'
  have e : o' = s.os := ho
  subst e
  exact I.call (g' := g') (t' := t') (d' := d') u hok hg hch
end
abbrev XK := Value → Option Addr → Hp → Prop
abbrev St := List (Option V)
abbrev VK := V → Hp → Prop
abbrev TE := St → Hp → VK → Prop
abbrev TT := St → Hp → (Bool → Hp → Prop) → Prop
abbrev TA := St → Hp → (List V → Hp → Prop) → Prop
structure qJo where
  nx : St → Hp → Prop
  rt : VK
  bk : St → Hp → Prop := fun _ _ => False
  ct : St → Hp → Prop := fun _ _ => False
abbrev TS := qJo → St → Hp → Prop
def EP (X : Cx) (pins : List (Addr × Obj)) (σ : St) (Q : VK) (u : Value) (s' : Shared) : Prop := ∃ v H', Inv X pins σ H' s' ∧ RelV v u ∧ Q v H'
def TP (X : Cx) (pins : List (Addr × Obj)) (σ : St) (Q : Bool → Hp → Prop) (b : Bool) (s' : Shared) : Prop := ∃ H', Inv X pins σ H' s' ∧ Q b H'
def AP (X : Cx) (pins : List (Addr × Obj)) (σ : St) (Q : List V → Hp → Prop) (us : List Value) (s' : Shared) : Prop := ∃ vs H', Inv X pins σ H' s' ∧ Vals vs us ∧ Q vs H'
def SP (X : Cx) (pins : List (Addr × Obj)) (D : qJo) (f : Flow) (s' : Shared) : Prop :=
  match f with
  | .next => ∃ σ' H', Inv X pins σ' H' s' ∧ D.nx σ' H'
  | .brk => ∃ σ' H', Inv X pins σ' H' s' ∧ D.bk σ' H'
  | .cont => ∃ σ' H', Inv X pins σ' H' s' ∧ D.ct σ' H'
  | .ret u => ∃ v σ' H', Inv X pins σ' H' s' ∧ RelV v u ∧ D.rt v H'
def PE (X : Cx) (e : Expr) (t : TE) : Prop :=
  ∀ (pins : List (Addr × Obj)) (s : Shared) (σ : St) (H : Hp) (Q : VK), Inv X pins σ H s → t σ H Q → wpAny (model X.prog X.w) X.A (eval e X.env) (EP X pins σ Q) X.xe s
def PT (X : Cx) (e : Expr) (t : TT) : Prop :=
  ∀ (pins : List (Addr × Obj)) (s : Shared) (σ : St) (H : Hp) (Q : Bool → Hp → Prop), Inv X pins σ H s → t σ H Q → wpAny (model X.prog X.w) X.A (isTrue e X.env (eval e X.env)) (TP X pins σ Q) X.xe s
def PW (X : Cx) (e : Expr) (t : TT) : Prop :=
  ∀ (whole : Sem Value) (pins : List (Addr × Obj)) (s : Shared) (σ : St) (H : Hp) (Q : Bool → Hp → Prop), Inv X pins σ H s → t σ H Q → wpAny (model X.prog X.w) X.A (isTrue e X.env whole) (TP X pins σ Q) X.xe s
theorem PW.pt {X : Cx} {e : Expr} {t : TT} (h : PW X e t) : PT X e t := h _
def PA (X : Cx) (es : List Expr) (t : TA) : Prop :=
  ∀ (pos : Pos) (pins : List (Addr × Obj)) (s : Shared) (σ : St) (H : Hp) (Q : List V → Hp → Prop), Inv X pins σ H s → t σ H Q → wpAny (model X.prog X.w) X.A (spliced (backTo pos (starEach es X.env))) (AP X pins σ Q) X.xe s
def PS (X : Cx) (st : Stmt) (t : TS) : Prop :=
  ∀ (pins : List (Addr × Obj)) (s : Shared) (σ : St) (H : Hp) (D : qJo), Inv X pins σ H s → t D σ H → wpAny (model X.prog X.w) X.A (exec st X.env) (SP X pins D) X.xe s
def PSs (X : Cx) (st : List Stmt) (t : TS) : Prop :=
  ∀ (pins : List (Addr × Obj)) (s : Shared) (σ : St) (H : Hp) (D : qJo), Inv X pins σ H s → t D σ H → wpAny (model X.prog X.w) X.A (execs st X.env) (SP X pins D) X.xe s
theorem thn {α : Type} {t : Sem α} {Q Q' : α → Shared → Prop} {M : Model} {A : Around} {E : Value → Shared → Prop} {s : Shared} (h : wpAny M A t Q E s) (hQ : ∀ a s, Q a s → Q' a s) : wpAny M A t Q' E s := wpAny_mono h hQ fun _ _ x => x
end L2
namespace L2
open PySem PySem.Spec PyProof.Rows
section
variable {X : Cx}
def qNs (i : Nat) : TE := fun σ H Q => ∃ v, σ[i]? = some (some v) ∧ Q v H
def tC (v : V) : TE := fun _ H Q => Q v H
theorem qNk {i : Nat} {x : Str} {pos : Pos} (hN : X.N[i]? = some x) (hv : Vis X.env.scope x) (hd : (x == ("__debug__" : Str)) = false := by decide) (hcd : (x == ("__classdict__" : Str)) = false := by decide) : PE X (.Name x pos) (qNs i) := by
  intro pins s σ H Q I h
  obtain ⟨v, e, h⟩ := h
  obtain ⟨m, hn, hl⟩ := I.loc
  obtain ⟨u, r, l⟩ := hl i x v hN e hv
  have fin : EP X pins σ Q u s := ⟨v, H, I, r, h⟩
  rcases l with ⟨hk, hm⟩ | ⟨hk, c, hc, hcell⟩
  · exact wpAny_Name (wpAny_loadName_local I.ok.kind hk hn hm fin) hd
  · rcases hk with hk | hk
    · exact wpAny_Name (wpAny_loadName_cell I.ok.kind hk hc hcell fin) hd
    · exact wpAny_Name (wpAny_loadName_free I.ok.kind hk hc hcell fin hcd) hd
theorem qB {i j pos} : PE X (.Constant (.int i) j pos) (tC (.int i)) := fun _ _ _ H _ I h => wpAny_Constant_int ⟨.int i, H, I.tok _, ⟨_, rfl⟩, h⟩
theorem zh {b j pos} : PE X (.Constant (.bool b) j pos) (tC (.bl b)) := fun _ _ _ H _ I h => Constant_bool ⟨.bl b, H, I, rfl, h⟩
theorem vy {j pos} : PE X (.Constant .none j pos) (tC .non) := fun _ _ _ H _ I h => Constant_none ⟨.non, H, I, rfl, h⟩
theorem qM {x j pos} : PE X (.Constant (.str x) j pos) (tC (.str x)) := fun _ _ _ H _ I h => Calls.Constant_str ⟨.str x, H, I.tok _, ⟨_, rfl⟩, h⟩
def Gl (X : Cx) (x : Str) : Prop := X.env.kindOf x = some .globalImplicit
theorem qBw {E : Value → Shared → Prop} {pins : List (Addr × Obj)} {s : Shared} {σ : St} {H : Hp} {x : Str} {u : Value} {pos : Pos} {Q : Value → Shared → Prop} (I : Inv X pins σ H s) (hg : Gl X x) (hm : X.mg x = some u) (h : Q u s)
    (hd : (x == ("__debug__" : Str)) = false := by decide) : wpAny (model X.prog X.w) X.A (eval (.Name x pos) X.env) Q E s :=
  Calls.Name_function_global I.ok.kind hg (Calls.loadGlobal_global (by rw [I.ok.glob]; exact I.mod.glob.keeps I.bk) hm h) hd
theorem qEl {E : Value → Shared → Prop} {pins : List (Addr × Obj)} {s : Shared} {σ : St} {H : Hp} {x : Str} {u : Value} {pos : Pos} {Q : Value → Shared → Prop} (I : Inv X pins σ H s) (hg : Gl X x) (hm : X.mg x = none) (hv : bootBuiltins x = some u) (h : Q u s)
    (hn : x ≠ "__name__" := by decide) (hd : (x == ("__debug__" : Str)) = false := by decide) : wpAny (model X.prog X.w) X.A (eval (.Name x pos) X.env) Q E s := by
  obtain ⟨mb, h1, h2⟩ := I.mod.blt
  exact Calls.Name_function_global I.ok.kind hg (Calls.loadGlobal_builtin (by rw [I.ok.glob]; exact I.mod.glob.keeps I.bk) hm (by rw [I.ok.blt]; exact h1.keeps I.bk) ((h2 x hn).trans hv) h) hd
theorem xO {x : Str} {v : V} {u : Value} {pos : Pos} (hg : Gl X x) (hm : X.mg x = some u) (r : RelV v u) (hd : (x == ("__debug__" : Str)) = false := by decide) : PE X (.Name x pos) (tC v) :=
  fun _ _ _ H _ I h => qBw I hg hm ⟨v, H, I, r, h⟩ hd
theorem qLq {x : Str} {v : V} {u : Value} {pos : Pos} (hg : Gl X x) (hm : X.mg x = none) (hv : bootBuiltins x = some u) (r : RelV v u) (hn : x ≠ "__name__" := by decide) (hd : (x == ("__debug__" : Str)) = false := by decide) : PE X (.Name x pos) (tC v) :=
  fun _ _ _ H _ I h => qEl I hg hm hv ⟨v, H, I, r, h⟩ hn hd
variable {a b : Expr} {ta tb : TE} {pos : Pos}
def PC (X : Cx) (op : CmpOp) (a b : Expr) (t : TE) : Prop :=
  ∀ (pins : List (Addr × Obj)) (s : Shared) (σ : St) (H : Hp) (Q : VK), Inv X pins σ H s → t σ H Q →
    wpAny (model X.prog X.w) X.A (eval a X.env) (fun v s₁ => wpAny (model X.prog X.w) X.A (eval b X.env) (fun u s₂ => wpAny (model X.prog X.w) X.A (compareOp op v u) (EP X pins σ Q) X.xe s₂) X.xe s₁) X.xe s
theorem qF0 (b : Expr) {op : CmpOp} (h : op ≠ .In) (h2 : op ≠ .NotIn) : behindInMarks op b = false := by
  have e1 : (op == CmpOp.In) = false := by cases op <;> first | rfl | exact absurd rfl h
  have e2 : (op == CmpOp.NotIn) = false := by cases op <;> first | rfl | exact absurd rfl h2
  cases b <;> simp [behindInMarks, e1, e2]
def qPi (ta : TE) : TE := fun σ H Q => ta σ H fun x H1 => Q (.bl (decide (x = .non))) H1
def qOi (ta : TE) : TE := fun σ H Q => ta σ H fun x H1 => Q (.bl (!decide (x = .non))) H1
theorem RelV.none_iff {x : V} {v : Value} (r : RelV x v) : (v == Value.none) = decide (x = .non) := by
  cases x with
  | non => cases r; rfl
  | bl _ => cases r; rfl
  | int _ => obtain ⟨t, rfl⟩ := r; rfl
  | str _ => obtain ⟨t, rfl⟩ := r; rfl
  | byt _ => obtain ⟨t, rfl⟩ := r; rfl
  | flt _ => obtain ⟨t, rfl⟩ := r; rfl
  | ref _ => cases r; rfl
  | ty _ => cases r; rfl
theorem vR {j pos'} (ha : PE X a ta) : PC X .Is a (.Constant .none j pos') (qPi ta) := by
  intro pins s σ H Q I h
  refine thn (ha pins s σ H _ I h) fun v s1 ⟨x, H1, I1, r1, q1⟩ => ?_
  exact Constant_none (is_none_gen ⟨.bl _, H1, I1, by rw [r1.none_iff]; rfl, q1⟩)
theorem qL2 {j pos'} (ha : PE X a ta) : PC X .IsNot a (.Constant .none j pos') (qOi ta) := by
  intro pins s σ H Q I h
  refine thn (ha pins s σ H _ I h) fun v s1 ⟨x, H1, I1, r1, q1⟩ => ?_
  exact Constant_none (isnot_none_gen ⟨.bl _, H1, I1, by rw [r1.none_iff]; rfl, q1⟩)
def tB (t : TE) : TT := fun σ H Q => t σ H fun x H1 => ∃ c, x = .bl c ∧ Q c H1
theorem qMx {op : CmpOp} {t : TE} (h : PC X op a b t) (h1 : behindInMarks op b = false := by first | exact qF0 _ (by decide) (by decide) | rfl) : PE X (.Compare a [op] [b] pos) t := fun pins s σ H Q I hw => wpAny_Compare1 (h pins s σ H Q I hw) h1
theorem vD {op : CmpOp} {t : TE} (h : PC X op a b t) (h1 : behindInMarks op b = false := by first | exact qF0 _ (by decide) (by decide) | rfl) : PT X (.Compare a [op] [b] pos) (tB t) := by
  intro pins s σ H Q I hw
  refine wpAny_isTrue_Compare1 (thn (h pins s σ H _ I hw) fun v s1 h1 => thn h1 fun u s2 h2 => thn h2 fun c s3 ⟨x, H1, I1, r1, q1⟩ => ?_) h1
  obtain ⟨d, rfl, q⟩ := q1
  cases r1
  exact wpAny_truthy_bool ⟨H1, I1, q⟩
theorem q9 {e : Expr} {t : TE} (h : PE X e t) (he : ∀ whole, isTrue e X.env whole = (do let v ← whole; standAt e.pos; holding [v] (truthy v)) := by intro _; rfl) : PT X e (tB t) := by
  intro pins s σ H Q I hw
  refine isTrue_plain (thn (h pins s σ H _ I hw) fun v s1 ⟨x, H1, I1, r1, q1⟩ => ?_) (he _)
  obtain ⟨d, rfl, q⟩ := q1
  cases r1
  exact wpAny_truthy_bool ⟨H1, I1, q⟩
variable {tA tB' : TT} {rest : List Expr}
def qPf (t u : TT) : TT := fun σ H Q => t σ H fun c H1 => if c = true then u σ H1 Q else Q false H1
def tOr (t u : TT) : TT := fun σ H Q => t σ H fun c H1 => if c = true then Q true H1 else u σ H1 Q
def qP2 (t : TT) : TT := fun σ H Q => t σ H fun c H1 => Q (!c) H1
theorem xw (ha : PT X a tA) : PW X (.BoolOp .And [a] pos) tA := by
  intro wh pins s σ H Q I h
  refine isTrue_and (thn (ha pins s σ H Q I h) fun c s1 e => ?_)
  cases c with
  | true => exact isTrue_and_nil e
  | false => exact e
theorem jR (ha : PT X a tA) : PW X (.BoolOp .Or [a] pos) tA := by
  intro wh pins s σ H Q I h
  refine isTrue_or (thn (ha pins s σ H Q I h) fun c s1 e => ?_)
  cases c with
  | false => exact isTrue_or_nil e
  | true => exact e
theorem zW (ha : PT X a tA) (hb : PW X (.BoolOp .And (b :: rest) pos) tB') : PW X (.BoolOp .And (a :: b :: rest) pos) (qPf tA tB') := by
  intro wh pins s σ H Q I h
  refine isTrue_and (thn (ha pins s σ H _ I h) fun c s1 ⟨H1, I1, q1⟩ => ?_)
  cases c with
  | true => exact hb wh pins s1 σ H1 Q I1 q1
  | false => exact ⟨H1, I1, q1⟩
theorem xM (ha : PT X a tA) (hb : PW X (.BoolOp .Or (b :: rest) pos) tB') : PW X (.BoolOp .Or (a :: b :: rest) pos) (tOr tA tB') := by
  intro wh pins s σ H Q I h
  refine isTrue_or (thn (ha pins s σ H _ I h) fun c s1 ⟨H1, I1, q1⟩ => ?_)
  cases c with
  | true => exact ⟨H1, I1, q1⟩
  | false => exact hb wh pins s1 σ H1 Q I1 q1
theorem jZ (ha : PT X a tA) : PT X (.UnaryOp .Not a pos) (qP2 tA) := by
  intro pins s σ H Q I h
  exact isTrue_not (ha pins s σ H (fun c H1 => Q (!c) H1) I h)
def qNy (ta tb : TE) : TE := fun σ H Q => ta σ H fun x H1 => ∃ c, x = .bl c ∧ if c = true then tb σ H1 Q else Q (.bl false) H1
def qPk (ta tb : TE) : TE := fun σ H Q => ta σ H fun x H1 => ∃ c, x = .bl c ∧ if c = true then Q (.bl true) H1 else tb σ H1 Q
def qOm (ta : TE) : TE := fun σ H Q => ta σ H fun x H1 => ∃ c, x = .bl c ∧ Q (.bl (!c)) H1
theorem wA {op} {t : TE} (h : PE X a t) : PE X (.BoolOp op [a] pos) t := fun pins s σ H Q I hw => BoolOp_one (h pins s σ H Q I hw)
theorem vL (ha : PE X a ta) (hb : PE X (.BoolOp .And (b :: rest) pos) tb) : PE X (.BoolOp .And (a :: b :: rest) pos) (qNy ta tb) := by
  intro pins s σ H Q I h
  refine BoolOp_and (thn (ha pins s σ H _ I h) fun v s1 ⟨x, H1, I1, r1, q1⟩ => ?_)
  obtain ⟨c, rfl, q1⟩ := q1
  cases r1
  refine wpAny_truthy_bool ?_
  cases c with
  | true => exact hb pins s1 σ H1 Q I1 q1
  | false => exact ⟨.bl false, H1, I1, rfl, q1⟩
theorem qOy (ha : PE X a ta) (hb : PE X (.BoolOp .Or (b :: rest) pos) tb) : PE X (.BoolOp .Or (a :: b :: rest) pos) (qPk ta tb) := by
  intro pins s σ H Q I h
  refine BoolOp_or (thn (ha pins s σ H _ I h) fun v s1 ⟨x, H1, I1, r1, q1⟩ => ?_)
  obtain ⟨c, rfl, q1⟩ := q1
  cases r1
  refine wpAny_truthy_bool ?_
  cases c with
  | false => exact hb pins s1 σ H1 Q I1 q1
  | true => exact ⟨.bl true, H1, I1, rfl, q1⟩
theorem qM1 (ha : PE X a ta) : PE X (.UnaryOp .Not a pos) (qOm ta) := by
  intro pins s σ H Q I h
  refine UnaryOp_ (thn (ha pins s σ H _ I h) fun v s1 ⟨x, H1, I1, r1, q1⟩ => ?_)
  obtain ⟨c, rfl, q1⟩ := q1
  cases r1
  exact not_of (wpAny_truthy_bool ⟨.bl (!c), H1, I1, rfl, q1⟩)
def tIf (t : TT) (ta tb : TE) : TE := fun σ H Q => t σ H fun c H1 => if c = true then ta σ H1 Q else tb σ H1 Q
theorem zY {c : Expr} (hc : PT X c tA) (ha : PE X a ta) (hb : PE X b tb) : PE X (.IfExp c a b pos) (tIf tA ta tb) := by
  intro pins s σ H Q I h
  refine wpAny_IfExp (thn (hc pins s σ H _ I h) fun d s1 ⟨H1, I1, q1⟩ => ?_)
  cases d with
  | true => exact ha pins s1 σ H1 Q I1 q1
  | false => exact hb pins s1 σ H1 Q I1 q1
end
end L2
namespace L2
open PySem PySem.Spec PyProof.Rows
def SqL (K : PySem.W.Frag) (H : Hp) (a : Addr) (xs : List V) : Prop :=
  Rd H a (.lst xs) ∨
    ∃ (o : Obj) (its : Array Value) (n : Nat), K.lookup a = some o ∧ o.cls = .type "list" ∧ o.dict = none ∧ o.data = .seq its n ∧ its.size ≤ sizeLine ∧ Vals xs its.toList
def SqT (K : PySem.W.Frag) (H : Hp) (a : Addr) (xs : List V) : Prop :=
  Rd H a (.tup xs) ∨
    ∃ (o : Obj) (its : Array Value) (n : Nat), K.lookup a = some o ∧ o.cls = .type "tuple" ∧ o.data = .seq its n ∧ its.size ≤ sizeLine ∧ Vals xs its.toList
def qPu : Value → Option V
  | .none => some .non
  | .bool b => some (.bl b)
  | .int i _ => some (.int i)
  | .str x _ => some (.str x)
  | .bytes b _ => some (.byt b)
  | .float b _ => some (.flt b)
  | .ref a => some (.ref a)
  | .type n => some (.ty n)
  | _ => none
theorem RelV.abs {x : V} {u : Value} (r : RelV x u) : qPu u = some x := by
  cases x with
  | non => cases r; rfl
  | bl _ => cases r; rfl
  | int _ => obtain ⟨t, rfl⟩ := r; rfl
  | str _ => obtain ⟨t, rfl⟩ := r; rfl
  | byt _ => obtain ⟨t, rfl⟩ := r; rfl
  | flt _ => obtain ⟨t, rfl⟩ := r; rfl
  | ref _ => cases r; rfl
  | ty _ => cases r; rfl
theorem RelV.inj {x y : V} {u : Value} (r : RelV x u) (q : RelV y u) : x = y := Option.some.inj (r.abs.symm.trans q.abs)
theorem Vals.inj : ∀ {xs ys : List V} {us : List Value}, Vals xs us → Vals ys us → xs = ys
  | _, _, _, .nil, .nil => rfl
  | _, _, _, .cons r t, .cons r' t' => by rw [r.inj r', Vals.inj t t']
section
variable {X : Cx} {pins : List (Addr × Obj)} {σ : St} {H : Hp} {s : Shared} {a : Addr} {xs ys : List V}
theorem SqL.of {K : PySem.W.Frag} (h : H a = some (.lst xs)) : SqL K H a xs := .inl (.inl h)
theorem SqT.of {K : PySem.W.Frag} (h : H a = some (.tup xs)) : SqT K H a xs := .inl (.inl h)
theorem Inv.list (I : Inv X pins σ H s) (h : SqL X.K H a xs) : ∃ its : List Value, Vals xs its ∧ PlainL s.heap a its.toArray ∧ xs.length ≤ sizeLine := by
  rcases h with h | ⟨o, its, n, hk, hc, hd, hs, hz, r⟩
  · obtain ⟨z, its, n, r, e⟩ := h.ok I.hok
    exact ⟨its, r, ⟨_, n, e, rfl, rfl, rfl⟩, z⟩
  · refine ⟨its.toList, r, ⟨o, n, I.kIn a o hk, hc, hd, by simpa using hs⟩, ?_⟩
    have e := r.length
    simp only [Array.length_toList] at e
    omega
theorem Inv.tuple (I : Inv X pins σ H s) (h : SqT X.K H a xs) : ∃ its : List Value, Vals xs its ∧ IsTup s.heap a its.toArray ∧ xs.length ≤ sizeLine := by
  rcases h with h | ⟨o, its, n, hk, hc, hs, hz, r⟩
  · obtain ⟨z, its, r, p⟩ := h.ok I.hok
    exact ⟨its, r, p, z⟩
  · refine ⟨its.toList, r, ⟨o, I.kIn a o hk, hc, n, by simpa using hs⟩, ?_⟩
    have e := r.length
    simp only [Array.length_toList] at e
    omega
theorem Inv.list_inj (I : Inv X pins σ H s) (h : SqL X.K H a xs) (h' : SqL X.K H a ys) : xs = ys := by
  obtain ⟨its, r, ⟨o, n, e, _, _, d⟩, _⟩ := I.list h
  obtain ⟨its', r', ⟨o', n', e', _, _, d'⟩, _⟩ := I.list h'
  rw [e] at e'; cases e'
  rw [d] at d'
  injection d' with d1 _
  have : its = its' := by simpa using congrArg Array.toList d1
  subst this
  exact r.inj r'
theorem Inv.tuple_inj (I : Inv X pins σ H s) (h : SqT X.K H a xs) (h' : SqT X.K H a ys) : xs = ys := by
  obtain ⟨its, r, ⟨o, e, _, n, d⟩, _⟩ := I.tuple h
  obtain ⟨its', r', ⟨o', e', _, n', d'⟩, _⟩ := I.tuple h'
  rw [e] at e'; cases e'
  rw [d] at d'
  injection d' with d1 _
  have : its = its' := by simpa using congrArg Array.toList d1
  subst this
  exact r.inj r'
end
abbrev Cx.wish (X : Cx) (E : Value → Shared → Prop) : Cx := { X with xe := E }
abbrev Cx.nox (X : Cx) : Cx := X.wish fun _ _ => False
theorem Cx.Ok.wish {X : Cx} (ok : X.Ok) (E : Value → Shared → Prop) : (X.wish E).Ok :=
  ⟨ok.mod, ok.kind, ok.glob, ok.blt, ok.above, ok.inj, ok.has, ok.cab, ok.hd, ok.frames, ok.stk, ok.exf, ok.bs, ok.bsz, ok.noex, ok.exfs, ok.funs, ok.frf⟩
theorem Cx.Ok.unwish {X : Cx} {E : Value → Shared → Prop} (ok : (X.wish E).Ok) : X.Ok :=
  ⟨ok.mod, ok.kind, ok.glob, ok.blt, ok.above, ok.inj, ok.has, ok.cab, ok.hd, ok.frames, ok.stk, ok.exf, ok.bs, ok.bsz, ok.noex, ok.exfs, ok.funs, ok.frf⟩
section
variable {X : Cx} {pins : List (Addr × Obj)} {σ : St} {H : Hp} {s : Shared} {E : Value → Shared → Prop}
theorem Inv.wish (I : Inv X pins σ H s) (E : Value → Shared → Prop) : Inv (X.wish E) pins σ H s := ⟨I.ok.wish E, I.os, I.bare, I.base, I.loc, I.cell, I.free, I.freeC, I.pin, I.hok, I.len⟩
theorem Inv.unwish (I : Inv (X.wish E) pins σ H s) : Inv X pins σ H s := ⟨I.ok.unwish, I.os, I.bare, I.base, I.loc, I.cell, I.free, I.freeC, I.pin, I.hok, I.len⟩
theorem SP.unwish {D : qJo} {f : Flow} {s' : Shared} (h : SP (X.wish E) pins D f s') : SP X pins D f s' := by
  cases f with
  | next => obtain ⟨σ', H', I, q⟩ := h; exact ⟨σ', H', I.unwish, q⟩
  | brk => obtain ⟨σ', H', I, q⟩ := h; exact ⟨σ', H', I.unwish, q⟩
  | cont => obtain ⟨σ', H', I, q⟩ := h; exact ⟨σ', H', I.unwish, q⟩
  | ret u => obtain ⟨v, σ', H', I, r, q⟩ := h; exact ⟨v, σ', H', I.unwish, r, q⟩
theorem PE.nox {e : Expr} {t : TE} (h : PE X.nox e t) : PE X e t := fun pins s σ H Q I hw =>
  wpAny_mono (h pins s σ H Q (I.wish _) hw) (fun _ _ ⟨v, H', I', r, q⟩ => ⟨v, H', I'.unwish, r, q⟩) fun _ _ z => False.elim z
theorem PT.nox {e : Expr} {t : TT} (h : PT X.nox e t) : PT X e t := fun pins s σ H Q I hw =>
  wpAny_mono (h pins s σ H Q (I.wish _) hw) (fun _ _ ⟨H', I', q⟩ => ⟨H', I'.unwish, q⟩) fun _ _ z => False.elim z
theorem PSs.nox {st : List Stmt} {t : TS} (h : PSs X.nox st t) : PSs X st t := fun pins s σ H D I hw =>
  wpAny_mono (h pins s σ H D (I.wish _) hw) (fun _ _ q => q.unwish) fun _ _ z => False.elim z
end
section
variable {X : Cx} {st : Stmt} {rest : List Stmt} {t u : TS} {e : Expr} {te : TE} {pos : Pos}
def qOb : TS := fun D σ H => D.nx σ H
def qPb (t u : TS) : TS := fun D σ H => t { D with nx := u D } σ H
theorem qO : PSs X [] qOb := fun _ _ σ H _ I h => wpAny_execs_nil ⟨σ, H, I, h⟩
theorem qD (h1 : PS X st t) (h2 : PSs X rest u) : PSs X (st :: rest) (qPb t u) := by
  intro pins s σ H D I h
  refine wpAny_execs_cons (thn (h1 pins s σ H { D with nx := u D } I h) fun f s1 q => ?_)
  cases f with
  | next =>
    obtain ⟨σ', H', I', q⟩ := q
    exact h2 pins s1 σ' H' D I' q
  | ret v => exact q
  | brk => exact q
  | cont => exact q
theorem qI (h1 : PS X st t) : PSs X [st] t := by
  intro pins s σ H D I h
  refine wpAny_execs_cons (thn (h1 pins s σ H D I h) fun f s1 q => ?_)
  cases f with
  | next => exact wpAny_execs_nil q
  | ret v => exact q
  | brk => exact q
  | cont => exact q
theorem Inv.quiet {pins : List (Addr × Obj)} {σ : St} {H : Hp} {s : Shared} (I : Inv X pins σ H s) : interactive X.env = false := by simp [interactive, I.ok.kind]
def qN3 (te : TE) : TS := fun D σ H => te σ H fun _ H1 => D.nx σ H1
theorem qx (he : PE X e te) (hs : swapsWith e none pos.line X.env = pure false := by rfl) : PS X (.Expr e pos) (qN3 te) := by
  intro pins s σ H D I h
  exact wpAny_Expr_any (thn (he pins s σ H _ I h) fun v s1 ⟨x, H1, I1, r1, q1⟩ => ⟨σ, H1, I1, q1⟩) I.quiet hs
def qP1 (te : TE) : TS := fun D σ H => te σ H D.rt
theorem qN (he : PE X e te) : PS X (.Return (some e) pos) (qP1 te) := by
  intro pins s σ H D I h
  exact wpAny_Return_some (thn (he pins s σ H _ I h) fun v s1 ⟨x, H1, I1, r1, q1⟩ => ⟨x, σ, H1, I1, r1, q1⟩)
def qPz (c : TT) (t u : TS) : TS := fun D σ H => c σ H fun b H1 => if b = true then t D σ H1 else u D σ H1
theorem qc {c : Expr} {a b : List Stmt} {tc : TT} (hc : PT X c tc) (ha : PSs X a t) (hb : PSs X b u) : PS X (.If c a b pos) (qPz tc t u) := by
  intro pins s σ H D I h
  refine wpAny_If (thn (hc pins s σ H _ I h) fun d s1 ⟨H1, I1, q1⟩ => ?_)
  cases d with
  | true => exact ha pins s1 σ H1 D I1 q1
  | false => exact hb pins s1 σ H1 D I1 q1
def qM5 : TS := fun _ _ _ => False
theorem qp {sts : List Stmt} : PSs X sts qM5 := fun _ _ _ _ _ _ h => h.elim
end
abbrev TG := V → St → Hp → (St → Hp → Prop) → Prop
abbrev TGs := List V → St → Hp → (St → Hp → Prop) → Prop
def PG (X : Cx) (target : Expr) (t : TG) : Prop :=
  ∀ (pins : List (Addr × Obj)) (s : Shared) (σ : St) (H : Hp) (v : V) (u : Value) (Q : St → Hp → Prop), Inv X pins σ H s → RelV v u → t v σ H Q →
    wpAny (model X.prog X.w) X.A (assign target X.env u) (fun _ s' => ∃ σ' H', Inv X pins σ' H' s' ∧ Q σ' H') X.xe s
def PGs (X : Cx) (ts : List Expr) (t : TGs) : Prop :=
  ∀ (pins : List (Addr × Obj)) (s : Shared) (σ : St) (H : Hp) (vs : List V) (us : List Value) (Q : St → Hp → Prop), Inv X pins σ H s → Vals vs us → t vs σ H Q →
    wpAny (model X.prog X.w) X.A (assignInOrder ((assignEach ts X.env).map (·.2)) us) (fun _ s' => ∃ σ' H', Inv X pins σ' H' s' ∧ Q σ' H') X.xe s
abbrev qOc := V → V → V → Hp → (Hp → Prop) → Prop
def qO7 (X : Cx) (t : qOc) : Prop :=
  ∀ (pins : List (Addr × Obj)) (s : Shared) (σ : St) (H : Hp) (o i v : V) (ov iv u : Value) (Q : Hp → Prop), Inv X pins σ H s → RelV o ov → RelV i iv → RelV v u → t o i v H Q →
    wpAny (model X.prog X.w) X.A (setItem ov iv u) (fun _ s' => ∃ H', Inv X pins σ H' s' ∧ Q H') X.xe s
section
variable {X : Cx} {pos : Pos}
def qJ9 (i : Nat) : TG := fun v σ H Q => Q (σ.set i (some v)) H
theorem jL {i : Nat} {x : Str} (hN : X.N.Nodup) (hi : X.N[i]? = some x) (hx : Loc X.env.scope x) (hf : X.fn x = true ∨ X.env.scope.names.lookup x = some .local := by first | exact .inl rfl | exact .inr rfl | assumption) : PG X (.Name x pos) (qJ9 i) := by
  intro pins s σ H v u Q I r h
  exact wpAny_assign_Name (ki I hN hi hx r (fun s' I' => ⟨_, H, I', h⟩) hf)
def qPo : TGs := fun vs σ H Q => vs = [] ∧ Q σ H
def qOf (t : TG) (u : TGs) : TGs := fun vs σ H Q => ∃ v r, vs = v :: r ∧ t v σ H fun σ' H' => u r σ' H' Q
theorem qId : PGs X [] qPo := by
  intro pins s σ H vs us Q I r h
  obtain ⟨e, h⟩ := h
  subst e
  cases r
  exact assignInOrder_nil ⟨σ, H, I, h⟩
theorem vI {e : Expr} {es : List Expr} {t : TG} {u : TGs} (h1 : PG X e t) (h2 : PGs X es u)
    (hs : (assignEach (e :: es) X.env).map (·.2) = assign e X.env :: (assignEach es X.env).map (·.2) := by rfl) : PGs X (e :: es) (qOf t u) := by
  intro pins s σ H vs us Q I r h
  obtain ⟨v, vr, e1, h⟩ := h
  subst e1
  cases r with
  | cons r rr =>
    rw [hs]
    refine assignInOrder_cons (thn (h1 pins s σ H _ _ _ I r h) fun _ s1 ⟨σ1, H1, I1, q1⟩ => ?_)
    exact h2 pins s1 σ1 H1 _ _ Q I1 rr q1
def qP4 (K : PySem.W.Frag) (n : Nat) (t : TGs) : TG := fun v σ H Q => ∃ a xs, v = .ref a ∧ SqT K H a xs ∧ xs.length = n ∧ t xs σ H Q
theorem qKv {es : List Expr} {k : Nat} {t : TGs} {n : Nat} (hc : X.calm = true) (h : PGs X es t)
    (hn : (assignEach es X.env).length = n := by rfl) (hst : (assignEach es X.env).findIdx? (·.1) = none := by rfl) : PG X (.Tuple es k pos) (qP4 X.K n t) := by
  intro pins s σ H v u Q I r hw
  obtain ⟨a, xs, e1, hq, hl, hw⟩ := hw
  subst e1
  cases r
  obtain ⟨its, rv, ht, hz⟩ := I.tuple hq
  refine assign_Tuple_tuple (I.ok.hd hc) ht (by simp [hn, ← hl, rv.length]) hst fun h' hx => ?_
  have I1 : Inv X pins σ H { s with heap := h' } := I.kept (t' := s.toks) fun b o e => hx b o (Nat.ne_of_lt (Heap.lt_size e)) e
  exact h pins _ σ H xs _ Q I1 (by simpa using rv) hw
def qPm (to ti : TE) (t : qOc) : TG := fun v σ H Q => to σ H fun o H1 => ti σ H1 fun i H2 => t o i v H2 fun H3 => Q σ H3
theorem qEf {o i : Expr} {to ti : TE} {t : qOc} (ho : PE X o to) (hi : PE X i ti) (hs : qO7 X t)
    (ha : ∀ v, assign (.Subscript o i pos) X.env v = (do
      let ov ← holding [v] (eval o X.env)
      let iv ← holding [v, ov] (eval i X.env)
      standAt pos
      holding [v, ov, iv] (setItem ov iv v)
      release [v, ov, iv] []) := by intro _; rfl) : PG X (.Subscript o i pos) (qPm to ti t) := by
  intro pins s σ H v u Q I r h
  rw [ha]
  refine wpAny_bind (wpAny_holding (thn (ho pins s σ H _ I h) fun ov s1 ⟨x, H1, I1, r1, q1⟩ => ?_))
  refine wpAny_bind (wpAny_holding (thn (hi pins s1 σ H1 _ I1 q1) fun iv s2 ⟨y, H2, I2, r2, q2⟩ => ?_))
  refine wpAny_bind (wpAny_standAt (wpAny_bind (wpAny_holding (thn (hs pins s2 σ H2 x y v ov iv u _ I2 r1 r2 r q2) fun _ s3 ⟨H3, I3, q3⟩ => ?_))))
  exact wpAny_release ⟨σ, H3, I3, q3⟩
def qNv (te : TE) (g : TG) : TS := fun D σ H => te σ H fun x H1 => g x σ H1 D.nx
theorem qBi {tg e : Expr} {te : TE} {g : TG} (he : PE X e te) (hg : PG X tg g) (hs : swapsWithSole [tg] e pos.line X.env = pure false := by rfl) (hw : swappedStores [tg] e X.env = pure none := by rfl)
    (h1 : (assignEach [tg] X.env).map (·.2) = [assign tg X.env] := by rfl) : PS X (.Assign [tg] e pos) (qNv te g) := by
  intro pins s σ H D I h
  refine wpAny_Assign_stores (thn (he pins s σ H _ I h) fun v s1 ⟨x, H1, I1, r1, q1⟩ => ?_) hs hw
  rw [h1]
  exact thn (hg pins s1 σ H1 x v _ I1 r1 q1) fun _ s2 q => q
theorem qU {i : Nat} {x : Str} {e : Expr} {te : TE} {pos' : Pos} (hN : X.N.Nodup) (hi : X.N[i]? = some x) (hx : Loc X.env.scope x) (he : PE X e te) (hs : swapsWith e (some (.Name x pos')) pos.line X.env = pure false := by rfl) (hf : X.fn x = true ∨ X.env.scope.names.lookup x = some .local := by first | exact .inl rfl | exact .inr rfl | assumption) :
    PS X (.Assign [.Name x pos'] e pos) (qNv te (qJ9 i)) := by
  intro pins s σ H D I h
  refine wpAny_Assign_Name (thn (he pins s σ H _ I h) fun v s1 ⟨y, H1, I1, r1, q1⟩ => ?_) hs
  exact ki I1 hN hi hx r1 (fun s2 I2 => ⟨_, H1, I2, q1⟩) hf
def qPl (i j : Nat) (ta : TA) : TS := fun D σ H => ta σ H fun vs H1 => ∃ v w, vs = [v, w] ∧ D.nx ((σ.set i (some v)).set j (some w)) H1
theorem qNo {i j : Nat} {x y : Str} {a b : Expr} {ta : TA} {px py pt : Pos} {kt k2 pt2} (hc : X.calm = true) (hN : X.N.Nodup) (hi : X.N[i]? = some x) (hj : X.N[j]? = some y) (hij : i ≠ j)
    (hx : X.env.scope.names.lookup x = some .local) (hy : X.env.scope.names.lookup y = some .local) (ha : PA X [a, b] ta)
    (hw : swappedStores [.Tuple [.Name x px, .Name y py] kt pt] (.Tuple [a, b] k2 pt2) X.env = pure (some [x, y]))
    (hs : swapsWithSole [.Tuple [.Name x px, .Name y py] kt pt] (.Tuple [a, b] k2 pt2) pos.line X.env = pure false := by rfl) :
    PS X (.Assign [.Tuple [.Name x px, .Name y py] kt pt] (.Tuple [a, b] k2 pt2) pos) (qPl i j ta) := by
  intro pins s σ H D I h
  rw [exec_Assign_arm]
  refine wpAny_bind (wpAny_standAt ?_)
  rw [hs]
  refine wpAny_bind (wpAny_pure ?_)
  rw [if_neg (by decide)]
  refine wpAny_bind (Tuple_ (thn (ha _ pins s σ H _ I h) fun us s1 ⟨vs, H1, I1, r1, q1⟩ => ?_))
  obtain ⟨v, w, e1, q1⟩ := q1
  subst e1
  obtain ⟨u1, u2, rfl, rv, rw'⟩ : ∃ u1 u2, us = [u1, u2] ∧ RelV v u1 ∧ RelV w u2 := by
    cases r1 with
    | cons p q =>
      cases q with
      | cons p' q' =>
        cases q'
        exact ⟨_, _, rfl, p, p'⟩
  refine wpAny_newObj_type ?_ (by show 2 ≤ sizeLine; decide)
  have I2 : Inv X pins σ H1 { s1 with heap := s1.heap.push { cls := .type "tuple", data := .seq [u1, u2].toArray } } := I1.kept (t' := s1.toks) fun b o e => Heap.get?_push_of_some _ e
  rw [hw]
  refine wpAny_bind (wpAny_pure ?_)
  show wpAny (model X.prog X.w) X.A (do rule "assign.swapped-stores"; let items ← unpackItems (.ref s1.heap.objs.size) 2 none; assignInOrder [fun v => bindName X.env y v, fun v => bindName X.env x v] items.reverse; pure Flow.next) _ _ _
  refine wpAny_bind (wpAny_rule (wpAny_bind (unpackItems_tuple (items := #[u1, u2]) (I.ok.hd hc) (IsTup.new s1.heap _) fun h' hx' => ?_)))
  have I3 := I2.kept (h' := h') (t' := s1.toks) fun b o e => hx' b o (Nat.ne_of_lt (Heap.lt_size e)) e
  show wpAny _ _ (assignInOrder [fun v => bindName X.env y v, fun v => bindName X.env x v] [u2, u1] >>= fun _ => pure Flow.next) _ _ _
  refine wpAny_bind (assignInOrder_cons (wpAny_bindName (ki I3 hN hj (.inl hy) rw' (fun s2 I4 => ?_) (.inr hy))))
  refine assignInOrder_cons (wpAny_bindName (ki I4 hN hi (.inl hx) rv (fun s3 I5 => assignInOrder_nil (wpAny_pure ?_)) (.inr hx)))
  rw [List.set_comm _ _ (Ne.symm hij)] at I5
  exact ⟨_, H1, I5, q1⟩
end
section
variable {X : Cx} {pos : Pos}
def qKx (c : TT) (tb : TS) : TS := fun D σ H => ∃ W : Nat → St → Hp → Prop, (∃ m, W m σ H) ∧ ∀ m σ H, W m σ H →
  c σ H fun b H1 => if b = true then ∃ N : St → Hp → Prop, (∀ σ' H', N σ' H' → ∃ m', m' < m ∧ W m' σ' H') ∧ tb { D with nx := N, ct := N, bk := D.nx } σ H1 else D.nx σ H1
theorem qGi {c : Expr} {body : List Stmt} {tc : TT} {tb : TS} (hp : PassesOwn (model X.prog X.w) X.A X.env X.xe) (hc : PT X c tc) (hb : PSs X body tb) : PS X (.While c body [] pos) (qKx tc tb) := by
  intro pins s σ H D I h
  obtain ⟨W, ⟨m0, w0⟩, turn⟩ := h
  refine wpAny_While (codeAny_whileLoop (fun n s' => ∃ σ' H', Inv X pins σ' H' s' ∧ W n σ' H') ?_ m0 ⟨σ, H, I, w0⟩)
  rintro n s1 ⟨σ1, H1, I1, w1⟩
  refine wpAny_passesOwn hp (thn (hc pins s1 σ1 H1 _ I1 (turn n σ1 H1 w1)) fun b s2 ⟨H2, I2, q2⟩ => ?_)
  cases b with
  | true =>
    obtain ⟨N, hN, q2⟩ := q2
    rw [if_pos rfl]
    refine wpAny_passesOwn hp (thn (hb pins s2 σ1 H2 _ I2 q2) fun f s3 q3 => ?_)
    cases f with
    | next =>
      obtain ⟨σ3, H3, I3, n3⟩ := q3
      obtain ⟨m', hm, w3⟩ := hN σ3 H3 n3
      exact ⟨m', hm, σ3, H3, I3, w3⟩
    | cont =>
      obtain ⟨σ3, H3, I3, n3⟩ := q3
      obtain ⟨m', hm, w3⟩ := hN σ3 H3 n3
      exact ⟨m', hm, σ3, H3, I3, w3⟩
    | brk => exact q3
    | ret v => exact q3
  | false =>
    rw [if_neg Bool.false_ne_true]
    exact wpAny_execs_nil ⟨σ1, H2, I2, q2⟩
end
structure It where
  go : Nat → Hp → Prop
  yld : Nat → Hp → V → Hp → Prop
  stop : Nat → Hp → Prop
def qJk (X : Cx) (pins : List (Addr × Obj)) (H : Hp) (b : Addr) : Prop :=
  H b = none ∧ b ≠ X.env.locals ∧ b ∉ X.fs ∧ (b ∈ X.ex ∨ X.s₀.heap.objs.size ≤ b) ∧ (∀ x c, X.env.cells.lookup x = some c → c ≠ b) ∧ ∀ p ∈ X.pn ++ pins, p.1 ≠ b
theorem Inv.fpOk {X : Cx} {pins : List (Addr × Obj)} {σ : St} {H H' : Hp} {s : Shared} {b : Addr} (I : Inv X pins σ H s) (hb : s.heap.objs.size ≤ b) (hn : H' b = none) : qJk X pins H' b := by
  refine ⟨hn, Nat.ne_of_gt (Nat.lt_of_lt_of_le I.lt hb), I.nofs hb, .inr (Nat.le_trans I.sz hb), fun x c e z => ?_, fun p hp z => ?_⟩
  · obtain ⟨v, q⟩ := I.cell x c e
    exact absurd (Nat.lt_of_lt_of_le q.lt (by rw [z]; exact hb)) (Nat.lt_irrefl _)
  · exact absurd (Nat.lt_of_lt_of_le (Heap.lt_size (I.pin p hp).1) (by rw [z]; exact hb)) (Nat.lt_irrefl _)
structure qMk (P : Program) (w : World) (K : PySem.W.Frag) (tg : Expr) (J : It) (fp : List Addr) (it : Addr) (tn : Nat → Heap → Prop) : Prop where
  mem : it ∈ fp
  obj : ∀ i h, tn i h → ∀ b ∈ fp, ∃ o, h.get? b = some o ∧ ∀ v, o.data ≠ .cell v
  keep : ∀ i h h', tn i h → (∀ b ∈ fp, ∀ o, h.get? b = some o → h'.get? b = some o) → tn i h'
  item : ∀ (X : Cx), X.prog = P → X.w = w → X.K = K → X.calm = true → ∀ (i : Nat) (pins : List (Addr × Obj)) (s : Shared) (σ : St) (H : Hp) (E : Value → Shared → Prop), Inv X pins σ H s → (∀ b ∈ fp, qJk X pins H b) → tn i s.heap → J.go i H →
    wpAny (model P w) X.A (pyNext (.ref it)) (fun r s1 => ∃ u, r = some u ∧
      wpAny (model P w) X.A (letOwnedTupleGo tg (.ref it) u) (fun _ s2 => ∃ x H', Inv X pins σ H' s2 ∧ RelV x u ∧ J.yld i H x H' ∧ tn (i + 1) s2.heap ∧ ∀ b ∈ fp, H' b = none) E s1) E s
  done : ∀ (X : Cx), X.prog = P → X.w = w → X.K = K → X.calm = true → ∀ (i : Nat) (pins : List (Addr × Obj)) (s : Shared) (σ : St) (H : Hp) (E : Value → Shared → Prop), Inv X pins σ H s → (∀ b ∈ fp, qJk X pins H b) → tn i s.heap → J.stop i H →
    wpAny (model P w) X.A (pyNext (.ref it)) (fun r s1 => r = none ∧ Inv X pins σ H s1) E s
  self : ∀ (A : Around) (i : Nat) (s : Shared) (Q : Value → Shared → Prop) (E : Value → Shared → Prop), tn i s.heap → Q (.ref it) s → wpAny (model P w) A (pyIter (.ref it)) Q E s
abbrev TI := St → Hp → (It → Hp → Prop) → Prop
def PIE (X : Cx) (pins : List (Addr × Obj)) (σ : St) (tg : Expr) (R : It → Hp → Prop) (itv : Value) (s2 : Shared) : Prop :=
  ∃ (it : Addr) (fp : List Addr) (tn : Nat → Heap → Prop) (J : It) (H' : Hp), itv = .ref it ∧ Inv X pins σ H' s2 ∧ qMk X.prog X.w X.K tg J fp it tn ∧ tn 0 s2.heap ∧ (∀ b ∈ fp, qJk X pins H' b) ∧ R J H'
def PI (X : Cx) (tg iter : Expr) (wi : TI) : Prop :=
  ∀ (pins : List (Addr × Obj)) (s : Shared) (σ : St) (H : Hp) (R : It → Hp → Prop), Inv X pins σ H s → wi σ H R →
    wpAny (model X.prog X.w) X.A (eval iter X.env) (fun v s1 => wpAny (model X.prog X.w) X.A (pyIter v) (PIE X pins σ tg R) X.xe s1) X.xe s
theorem qJv {M : Model} {A : Around} {E : Value → Shared → Prop} {s : Shared} {tg : Expr} {it : Addr} {u : Value} {o : Obj} {n : String} {vs : Array Value} {Q : Unit → Shared → Prop} (ho : s.heap.get? it = some o) (hc : o.cls = .type n) (hd : o.data = .fields vs)
    (hn : ["enumerate", "zip", "dict_itemiterator", "dict_reverseitemiterator", "odict_iterator", "itertools.zip_longest", "itertools.pairwise"].contains n = false) (hQ : Q () s) : wpAny M A (letOwnedTupleGo tg (.ref it) u) Q E s := by
  unfold letOwnedTupleGo
  cases tg <;> first
    | exact wpAny_pure hQ
    | (cases u <;> first
        | exact wpAny_pure hQ
        | (refine wpAny_bind (wpAny_load ho ?_)
           rw [hc, hd]
           show wpAny M A (if (["enumerate", "zip", "dict_itemiterator", "dict_reverseitemiterator", "odict_iterator", "itertools.zip_longest", "itertools.pairwise"].contains n && vs[0]? == some (rawInt _)) = true then _ else _) Q E s
           rw [if_neg (by intro h; rw [hn, Bool.false_and] at h; cases h)]
           exact wpAny_pure hQ))
def Itl (K : PySem.W.Frag) (a : Addr) : It :=
  ⟨fun i H => ∃ xs x, SqL K H a xs ∧ xs[i]? = some x, fun i H x H' => H' = H ∧ ∀ xs, SqL K H a xs → xs[i]? = some x, fun i H => ∃ xs, SqL K H a xs ∧ xs.length ≤ i⟩
def Itt (K : PySem.W.Frag) (a : Addr) : It :=
  ⟨fun i H => ∃ xs x, SqT K H a xs ∧ xs[i]? = some x, fun i H x H' => H' = H ∧ ∀ xs, SqT K H a xs → xs[i]? = some x, fun i H => ∃ xs, SqT K H a xs ∧ xs.length ≤ i⟩
def Itr (lo : Int) (n : Nat) : It := ⟨fun i _ => i < n, fun i H x H' => H' = H ∧ x = .int (lo + i), fun i _ => n ≤ i⟩
theorem qIl {P : Program} {w : World} {K : PySem.W.Frag} {tg : Expr} (a it : Addr) : qMk P w K tg (Itl K a) [it] it (fun i h => h.IsListIter it a i) where
  mem := by simp
  obj := fun i h st b hb => by
    have e : b = it := by simpa using hb
    subst e
    obtain ⟨o, e, c, d⟩ := st
    exact ⟨o, e, fun v z => by rw [d] at z; cases z⟩
  keep := fun i h h' st k => st.at fun o e => k it (by simp) o e
  item := by
    intro X hP hw hK hc i pins s σ H E I hf st hg
    subst hP hw hK
    obtain ⟨xs, x, hq, hx⟩ := hg
    obtain ⟨its, rv, p, hz⟩ := I.list hq
    obtain ⟨u, hu, ru⟩ := rv.get hx
    obtain ⟨f0, f1, f2, f3, f4, f5⟩ := hf it (by simp)
    refine wpAny_pyNext_list_item st p.isList (x := u) (by simpa using hu) fun h' st' sb => ?_
    have I1 : Inv X pins σ H { s with heap := h' } := I.turned (t' := s.toks) (fun b o hb e => (sb.2 b hb).trans e) f0 f1 f3 f4 f5
    obtain ⟨o, e, c, d⟩ := id st'
    exact ⟨u, rfl, qJv (s := { s with heap := h' }) e c d (by decide) ⟨x, H, I1, ru, ⟨rfl, fun ys hy => by rw [I.list_inj hy hq]; exact hx⟩, st', fun b hb => (hf b hb).1⟩⟩
  done := by
    intro X hP hw hK hc i pins s σ H E I hf st hg
    subst hP hw hK
    obtain ⟨xs, hq, hx⟩ := hg
    obtain ⟨its, rv, p, hz⟩ := I.list hq
    obtain ⟨f0, f1, f2, f3, f4, f5⟩ := hf it (by simp)
    have hl := rv.length
    exact wpAny_pyNext_list_end (I.ok.hd hc) st p.isList (by simp; omega) fun h' eb => ⟨rfl, I.turned (t' := s.toks) (fun b o hb e => eb b o hb e) f0 f1 f3 f4 f5⟩
  self := fun _ _ _ _ _ st h => wpAny_pyIter_listiter st h
theorem qHj {P : Program} {w : World} {K : PySem.W.Frag} {tg : Expr} (a it : Addr) : qMk P w K tg (Itt K a) [it] it (fun i h => h.IsTupleIter it a i) where
  mem := by simp
  obj := fun i h st b hb => by
    have e : b = it := by simpa using hb
    subst e
    obtain ⟨o, e, c, d⟩ := st
    exact ⟨o, e, fun v z => by rw [d] at z; cases z⟩
  keep := fun i h h' st k => st.at fun o e => k it (by simp) o e
  item := by
    intro X hP hw hK hc i pins s σ H E I hf st hg
    subst hP hw hK
    obtain ⟨xs, x, hq, hx⟩ := hg
    obtain ⟨its, rv, p, hz⟩ := I.tuple hq
    obtain ⟨u, hu, ru⟩ := rv.get hx
    obtain ⟨f0, f1, f2, f3, f4, f5⟩ := hf it (by simp)
    refine wpAny_pyNext_tuple_item st (show s.heap.IsTuple a its.toArray from p) (x := u) (by simpa using hu) fun h' st' sb => ?_
    have I1 : Inv X pins σ H { s with heap := h' } := I.turned (t' := s.toks) (fun b o hb e => (sb.2 b hb).trans e) f0 f1 f3 f4 f5
    obtain ⟨o, e, c, d⟩ := id st'
    exact ⟨u, rfl, qJv (s := { s with heap := h' }) e c d (by decide) ⟨x, H, I1, ru, ⟨rfl, fun ys hy => by rw [I.tuple_inj hy hq]; exact hx⟩, st', fun b hb => (hf b hb).1⟩⟩
  done := by
    intro X hP hw hK hc i pins s σ H E I hf st hg
    subst hP hw hK
    obtain ⟨xs, hq, hx⟩ := hg
    obtain ⟨its, rv, p, hz⟩ := I.tuple hq
    obtain ⟨f0, f1, f2, f3, f4, f5⟩ := hf it (by simp)
    have hl := rv.length
    exact wpAny_pyNext_tuple_end (I.ok.hd hc) st (show s.heap.IsTuple a its.toArray from p) (by simp; omega) fun h' eb => ⟨rfl, I.turned (t' := s.toks) (fun b o hb e => eb b o hb e) f0 f1 f3 f4 f5⟩
  self := fun _ _ _ _ _ st h => wpAny_pyIter_tupleiter st h
theorem qG7 {P : Program} {w : World} {K : PySem.W.Frag} {tg : Expr} (it : Addr) (lo : Int) (n : Nat) : qMk P w K tg (Itr lo n) [it] it (fun i h => IsRangeIter h it (lo + (i : Nat) * 1) ((n : Int) - (i : Nat)) 1) where
  mem := by simp
  obj := fun i h st b hb => by
    have e : b = it := by simpa using hb
    subst e
    exact ⟨_, st, fun v z => by
      have z' : Data.fields _ = Data.cell v := z
      cases z'⟩
  keep := fun i h h' st k => k it (by simp) _ st
  item := by
    intro X hP hw hK hc i pins s σ H E I hf st hg
    subst hP hw hK
    obtain ⟨f0, f1, f2, f3, f4, f5⟩ := hf it (by simp)
    have W := Walks.range (prog := X.prog) (w := X.w) (I.ok.hd hc) it lo 1 n
    refine W.item i s _ _ hg st fun v h' tk hv st' kk => ?_
    obtain ⟨t, rfl⟩ := hv
    have I1 : Inv X pins σ H { s with heap := h', toks := tk } := I.turned (fun b o hb e => kk b o (by simpa using hb) e) f0 f1 f3 f4 f5
    refine ⟨_, rfl, qJv (s := { s with heap := h', toks := tk }) (n := "range_iterator") st' rfl rfl (by decide) ⟨.int (lo + i), H, I1, ⟨t, ?_⟩, ⟨rfl, rfl⟩, st', fun b hb => (hf b hb).1⟩⟩
    rw [Int.mul_one]
  done := by
    intro X hP hw hK hc i pins s σ H E I hf st hg
    subst hP hw hK
    obtain ⟨f0, f1, f2, f3, f4, f5⟩ := hf it (by simp)
    exact wpAny_pyNext_range_end (I.ok.hd hc) st (by have : n ≤ i := hg; omega) fun h' eb => ⟨rfl, I.turned (t' := s.toks) (fun b o hb e => eb b o hb e) f0 f1 f3 f4 f5⟩
  self := fun _ _ _ _ _ st h => wpAny_pyIter_rangeiter st h
end L2
namespace L2
open PySem PySem.Spec PyProof.Rows
section
variable {X : Cx} {tg : Expr}
def qOu (K : PySem.W.Frag) (tl : TE) : TI := fun σ H R => tl σ H fun x H1 => ∃ a, x = .ref a ∧ (∃ xs, SqL K H1 a xs) ∧ R (Itl K a) H1
def qPj (K : PySem.W.Frag) (tl : TE) : TI := fun σ H R => tl σ H fun x H1 => ∃ a, x = .ref a ∧ (∃ xs, SqT K H1 a xs) ∧ R (Itt K a) H1
theorem jC {l : Expr} {tl : TE} (hl : PE X l tl) : PI X tg l (qOu X.K tl) := by
  intro pins s σ H R I h
  refine thn (hl pins s σ H _ I h) fun v s1 ⟨x, H1, I1, r1, q1⟩ => ?_
  obtain ⟨a, e, ⟨xs, hq⟩, q⟩ := q1
  subst e
  cases r1
  obtain ⟨its, rv, p, hz⟩ := I1.list hq
  refine wpAny_pyIter_list p.isList ?_
  refine ⟨s1.heap.objs.size, [s1.heap.objs.size], _, _, H1, rfl, I1.kept (t' := s1.toks) fun b o e => Heap.get?_push_of_some _ e, qIl a _, ⟨_, Heap.get?_push_size _ rfl, rfl, rfl⟩, fun b hb => ?_, q⟩
  have e : b = s1.heap.objs.size := by simpa using hb
  subst e
  exact I1.fpOk (Nat.le_refl _) (I1.hok.fresh (Nat.le_refl _))
theorem qK6 {l : Expr} {tl : TE} (hl : PE X l tl) : PI X tg l (qPj X.K tl) := by
  intro pins s σ H R I h
  refine thn (hl pins s σ H _ I h) fun v s1 ⟨x, H1, I1, r1, q1⟩ => ?_
  obtain ⟨a, e, ⟨xs, hq⟩, q⟩ := q1
  subst e
  cases r1
  obtain ⟨its, rv, p, hz⟩ := I1.tuple hq
  refine wpAny_pyIter_tuple (show s1.heap.IsTuple a its.toArray from p) ?_
  refine ⟨s1.heap.objs.size, [s1.heap.objs.size], _, _, H1, rfl, I1.kept (t' := s1.toks) fun b o e => Heap.get?_push_of_some _ e, qHj a _, ⟨_, Heap.get?_push_size _ rfl, rfl, rfl⟩, fun b hb => ?_, q⟩
  have e : b = s1.heap.objs.size := by simpa using hb
  subst e
  exact I1.fpOk (Nat.le_refl _) (I1.hok.fresh (Nat.le_refl _))
theorem qKf {pins : List (Addr × Obj)} {σ : St} {H : Hp} {s : Shared} {R : It → Hp → Prop} {E : Value → Shared → Prop} {lo hi : Int} {t u v : Tok} {tk : Nat} (I : Inv X pins σ H s) (h1 : -(2 ^ 62) ≤ lo) (h2 : lo < 2 ^ 62) (h3 : -(2 ^ 62) ≤ hi) (h4 : hi < 2 ^ 62)
    (q : R (Itr lo (hi - lo).toNat) H) : wpAny (model X.prog X.w) X.A (pyIter (.ref s.heap.objs.size)) (PIE X pins σ tg R) E { s with heap := s.heap.push { cls := .type "range", data := .fields #[.int lo t, .int hi u, .int 1 v] }, toks := tk } := by
  refine wpAny_pyIter_range (IsRange.new ..) (small_one h1 h2 h3 h4) ?_
  have I1 : Inv X pins σ H { s with heap := s.heap.push { cls := .type "range", data := .fields #[.int lo t, .int hi u, .int 1 v] }, toks := tk } := I.kept fun b o e => Heap.get?_push_of_some _ e
  refine ⟨(s.heap.push { cls := .type "range", data := .fields #[.int lo t, .int hi u, .int 1 v] }).objs.size, [(s.heap.push { cls := .type "range", data := .fields #[.int lo t, .int hi u, .int 1 v] }).objs.size], _, _, H, rfl,
    I1.kept (t' := tk) fun b o e => Heap.get?_push_of_some _ e, qG7 _ lo (hi - lo).toNat, ?_, fun b hb => ?_, q⟩
  · have e1 : lo + ((0 : Nat) : Int) * 1 = lo := by simp
    have e2 : (((hi - lo).toNat : Nat) : Int) - ((0 : Nat) : Int) = Builtin.Range.rangeSize lo hi 1 := by rw [rangeSize_one]; split <;> omega
    show IsRangeIter _ _ (lo + ((0 : Nat) : Int) * 1) ((((hi - lo).toNat : Nat) : Int) - ((0 : Nat) : Int)) 1
    rw [e1, e2]
    exact Heap.get?_push_size _ rfl
  · have e : b = (s.heap.push { cls := .type "range", data := .fields #[.int lo t, .int hi u, .int 1 v] }).objs.size := by simpa using hb
    subst e
    exact I1.fpOk (Nat.le_refl _) (I1.hok.fresh (Nat.le_refl _))
def qOo (ta : TA) : TI := fun σ H R => ta σ H fun vs H1 => ∃ j : Int, vs = [.int j] ∧ -(2 ^ 62) ≤ j ∧ j < 2 ^ 62 ∧ R (Itr 0 j.toNat) H1
theorem qAm {a : Expr} {ta : TA} {p pos : Pos} (hg : Gl X "range") (hm : X.mg "range" = none) (ha : PA X [a] ta) (hs : starEach [a] X.env = [(false, eval a X.env)] := by rfl) : PI X tg (.Call (.Name "range" p) [a] [] pos) (qOo ta) := by
  intro pins s σ H R I h
  refine Call_ (qEl I hg hm boot_range (PyProof.Rows.callWith_type1 (thn (ha pos pins s σ H _ I h) fun us s1 ⟨vs, H1, I1, r1, q1⟩ => ?_) hs rfl))
  obtain ⟨j, e, q1, q2, q⟩ := q1
  subst e
  cases r1 with
  | cons r rr =>
    cases rr
    obtain ⟨t, rfl⟩ := r
    exact call_range_1 (qKf I1 (by omega) (by omega) q1 q2 (by simpa using q))
def qP3 (wi : TI) (g : TG) (tb : TS) : TS := fun D σ H => wi σ H fun J H1 => ∃ W : Nat → Nat → St → Hp → Prop, (∃ m, W 0 m σ H1) ∧ ∀ i m σ H, W i m σ H →
  (J.stop i H ∧ D.nx σ H) ∨ (J.go i H ∧ ∃ N : St → Hp → Prop, (∀ σ' H', N σ' H' → ∃ m', m' < m ∧ W (i + 1) m' σ' H') ∧ ∀ x H', J.yld i H x H' → g x σ H' fun σ2 H2 => tb { D with nx := N, ct := N, bk := D.nx } σ2 H2)
def qDv (fp : List Addr) (h : Heap) : List (Addr × Obj) := fp.filterMap fun b => (h.get? b).map fun o => (b, o)
theorem kZ {fp : List Addr} {h : Heap} {b : Addr} {o : Obj} (hb : b ∈ fp) (e : h.get? b = some o) : (b, o) ∈ qDv fp h := List.mem_filterMap.mpr ⟨b, hb, by rw [e]; rfl⟩
theorem qIw {fp : List Addr} {h : Heap} {p : Addr × Obj} (hp : p ∈ qDv fp h) : p.1 ∈ fp ∧ h.get? p.1 = some p.2 := by
  obtain ⟨b, hb, e⟩ := List.mem_filterMap.mp hp
  cases q : h.get? b with
  | none => rw [q] at e; cases e
  | some o =>
    rw [q] at e
    have e' : (b, o) = p := Option.some.inj e
    subst e'
    exact ⟨hb, q⟩
theorem Inv.pinned {pins : List (Addr × Obj)} {σ : St} {H : Hp} {s : Shared} {fp : List Addr} (I : Inv X pins σ H s) (hf : ∀ b ∈ fp, qJk X pins H b) (ho : ∀ b ∈ fp, ∃ o, s.heap.get? b = some o ∧ ∀ v, o.data ≠ .cell v) : Inv X (pins ++ qDv fp s.heap) σ H s :=
  I.pins_of fun p hp => (List.mem_append.mp hp).elim (fun z => I.pin p (List.mem_append_right _ z)) fun z => by
    obtain ⟨hb, e⟩ := qIw z
    obtain ⟨f0, f1, f2, _⟩ := hf p.1 hb
    obtain ⟨o, e', d⟩ := ho p.1 hb
    rw [e] at e'; cases e'
    exact ⟨e, f0, f1, f2, d⟩
theorem Inv.unpinned {pins pl : List (Addr × Obj)} {σ : St} {H : Hp} {s : Shared} (I : Inv X (pins ++ pl) σ H s) : Inv X pins σ H s := I.pins_of fun p hp => I.pin p (List.mem_append_right _ (List.mem_append_left _ hp))
theorem xp {iter : Expr} {body : List Stmt} {wi : TI} {g : TG} {tb : TS} {pos : Pos} (hp : PassesOwn (model X.prog X.w) X.A X.env X.xe) (hc : X.calm = true) (hi : PI X tg iter wi) (hg : PG X tg g) (hb : PSs X body tb)
    (hs : ∀ x, foldedSetIterable iter X.env x = pure x := by intro _; rfl) : PS X (.For tg iter body [] pos) (qP3 wi g tb) := by
  intro pins s σ H D I h
  refine wpAny_For (thn (hi pins s σ H _ I h) fun v s1 h1 => thn h1 fun itv s2 h2 => ?_) hs
  obtain ⟨it, fp, tn, J, H2, e, I2, T, st2, f2, W, ⟨m0, w0⟩, turn⟩ := h2
  subst e
  have stat : ∀ {H' : Hp}, (∀ b ∈ fp, H' b = none) → ∀ b ∈ fp, qJk X pins H' b := fun hn b hb => ⟨hn b hb, (f2 b hb).2⟩
  refine codeAny_forLoop_any (fun n s' => ∃ i σ' H', Inv X pins σ' H' s' ∧ tn i s'.heap ∧ (∀ b ∈ fp, H' b = none) ∧ W i n σ' H') ?_ m0 ⟨0, σ, H2, I2, st2, fun b hb => (f2 b hb).1, w0⟩
  rintro n s3 ⟨i, σ3, H3, I3, st3, fr3, w3⟩
  rcases turn i n σ3 H3 w3 with ⟨stop, qn⟩ | ⟨go, N, hN, step⟩
  · refine wpAny_passesOwn hp (thn (T.done X rfl rfl rfl hc i pins s3 σ3 H3 X.xe I3 (stat fr3) st3 stop) fun r s4 ⟨hr, I4⟩ => ?_)
    subst hr
    exact wpAny_execs_nil ⟨σ3, H3, I4, qn⟩
  · refine wpAny_passesOwn hp (thn (T.item X rfl rfl rfl hc i pins s3 σ3 H3 X.xe I3 (stat fr3) st3 go) fun r s4 ⟨u, hr, h4⟩ => ?_)
    subst hr
    refine wpAny_passesOwn hp (thn h4 fun _ s5 ⟨x, H5, I5, r5, y5, st5, fr5⟩ => ?_)
    have I5' := I5.pinned (stat fr5) (T.obj _ _ st5)
    refine wpAny_passesOwn hp (thn (hg _ s5 σ3 H5 x u _ I5' r5 (step x H5 y5)) fun _ s6 ⟨σ6, H6, I6, q6⟩ => ?_)
    refine wpAny_passesOwn hp (thn (hb _ s6 σ6 H6 _ I6 q6) fun f s7 q7 => ?_)
    have again : ∀ {σ7 : St} {H7 : Hp}, Inv X (pins ++ qDv fp s5.heap) σ7 H7 s7 → N σ7 H7 → ∃ m, m < n ∧ ∃ i σ' H', Inv X pins σ' H' s7 ∧ tn i s7.heap ∧ (∀ b ∈ fp, H' b = none) ∧ W i m σ' H' := fun {σ7 H7} I7 n7 => by
      obtain ⟨m', hm, w7⟩ := hN σ7 H7 n7
      refine ⟨m', hm, i + 1, σ7, H7, I7.unpinned, T.keep _ _ _ st5 fun b hb o e => (I7.pin (b, o) (List.mem_append_right _ (List.mem_append_right _ (kZ hb e)))).1, fun b hb => ?_, w7⟩
      obtain ⟨o, e, d⟩ := T.obj _ _ st5 b hb
      exact (I7.pin (b, o) (List.mem_append_right _ (List.mem_append_right _ (kZ hb e)))).2.1
    cases f with
    | next => obtain ⟨σ7, H7, I7, n7⟩ := q7; exact again I7 n7
    | cont => obtain ⟨σ7, H7, I7, n7⟩ := q7; exact again I7 n7
    | brk => obtain ⟨σ7, H7, I7, q7⟩ := q7; exact ⟨σ7, H7, I7.unpinned, q7⟩
    | ret v => obtain ⟨x7, σ7, H7, I7, r7, q7⟩ := q7; exact ⟨x7, σ7, H7, I7.unpinned, r7, q7⟩
end
theorem jk {K : PySem.W.Frag} {a : Addr} {xs : List V} {g : TG} {tb : TS} {D : qJo} {σ : St} {H : Hp} (Pv : Nat → St → Hp → Prop) (h0 : Pv 0 σ H) (hl : ∀ i σ H, i ≤ xs.length → Pv i σ H → SqL K H a xs)
    (hs : ∀ i x σ H, xs[i]? = some x → Pv i σ H → g x σ H fun σ2 H2 => tb { D with nx := Pv (i + 1), ct := Pv (i + 1), bk := D.nx } σ2 H2) (hd : ∀ σ H, Pv xs.length σ H → D.nx σ H) :
    ∃ W : Nat → Nat → St → Hp → Prop, (∃ m, W 0 m σ H) ∧ ∀ i m σ H, W i m σ H →
      ((Itl K a).stop i H ∧ D.nx σ H) ∨ ((Itl K a).go i H ∧ ∃ N : St → Hp → Prop, (∀ σ' H', N σ' H' → ∃ m', m' < m ∧ W (i + 1) m' σ' H') ∧ ∀ x H', (Itl K a).yld i H x H' → g x σ H' fun σ2 H2 => tb { D with nx := N, ct := N, bk := D.nx } σ2 H2) := by
  refine ⟨fun i m σ H => m = xs.length - i ∧ i ≤ xs.length ∧ Pv i σ H, ⟨xs.length, by simp, Nat.zero_le _, h0⟩, ?_⟩
  rintro i m σ H ⟨rfl, hi, p⟩
  have q := hl i σ H hi p
  by_cases hlt : i < xs.length
  · refine .inr ⟨⟨xs, xs[i], q, by simp [hlt]⟩, Pv (i + 1), fun σ' H' p' => ⟨xs.length - (i + 1), by omega, rfl, hlt, p'⟩, fun x H' y => ?_⟩
    obtain ⟨e, y⟩ := y
    subst e
    exact hs i x σ _ (y xs q) p
  · have e : i = xs.length := by omega
    subst e
    exact .inl ⟨⟨xs, q, Nat.le_refl _⟩, hd σ H p⟩
theorem qDi {lo : Int} {n : Nat} {g : TG} {tb : TS} {D : qJo} {σ : St} {H : Hp} (Pv : Nat → St → Hp → Prop) (h0 : Pv 0 σ H)
    (hs : ∀ i σ H, i < n → Pv i σ H → g (.int (lo + i)) σ H fun σ2 H2 => tb { D with nx := Pv (i + 1), ct := Pv (i + 1), bk := D.nx } σ2 H2) (hd : ∀ σ H, Pv n σ H → D.nx σ H) :
    ∃ W : Nat → Nat → St → Hp → Prop, (∃ m, W 0 m σ H) ∧ ∀ i m σ H, W i m σ H →
      ((Itr lo n).stop i H ∧ D.nx σ H) ∨ ((Itr lo n).go i H ∧ ∃ N : St → Hp → Prop, (∀ σ' H', N σ' H' → ∃ m', m' < m ∧ W (i + 1) m' σ' H') ∧ ∀ x H', (Itr lo n).yld i H x H' → g x σ H' fun σ2 H2 => tb { D with nx := N, ct := N, bk := D.nx } σ2 H2) := by
  refine ⟨fun i m σ H => m = n - i ∧ i ≤ n ∧ Pv i σ H, ⟨n, by simp, Nat.zero_le _, h0⟩, ?_⟩
  rintro i m σ H ⟨rfl, hi, p⟩
  by_cases hlt : i < n
  · refine .inr ⟨hlt, Pv (i + 1), fun σ' H' p' => ⟨n - (i + 1), by omega, rfl, hlt, p'⟩, fun x H' y => ?_⟩
    obtain ⟨e, y⟩ := y
    subst e y
    exact hs i σ _ hlt p
  · have e : i = n := by omega
    subst e
    exact .inl ⟨Nat.le_refl _, hd σ H p⟩
theorem qF7 {c : TT} {tb : TS} {D : qJo} {σ : St} {H : Hp} (Pv : St → Hp → Prop) (μ : St → Hp → Nat) (h0 : Pv σ H)
    (hs : ∀ σ H, Pv σ H → c σ H fun b H1 => if b = true then tb { D with nx := fun σ' H' => Pv σ' H' ∧ μ σ' H' < μ σ H, ct := fun σ' H' => Pv σ' H' ∧ μ σ' H' < μ σ H, bk := D.nx } σ H1 else D.nx σ H1)
    (mono : ∀ σ H Q Q', (∀ b H1, Q b H1 → Q' b H1) → c σ H Q → c σ H Q') : qKx c tb D σ H := by
  refine ⟨fun m σ H => m = μ σ H ∧ Pv σ H, ⟨_, rfl, h0⟩, ?_⟩
  rintro m σ H ⟨rfl, p⟩
  refine mono σ H _ _ (fun b H1 q => ?_) (hs σ H p)
  cases b with
  | true => exact ⟨_, fun σ' H' ⟨p', l⟩ => ⟨_, l, rfl, p'⟩, q⟩
  | false => exact q
end L2
namespace L2
open PySem PySem.Spec PyProof.Rows
abbrev R2 := V → V → Hp → VK → Prop
def OpR (X : Cx) (f : Value → Value → Sem Value) (r : R2) : Prop :=
  ∀ (pins : List (Addr × Obj)) (s : Shared) (σ : St) (H : Hp) (x y : V) (v u : Value) (Q : VK), Inv X pins σ H s → RelV x v → RelV y u → r x y H Q →
    wpAny (model X.prog X.w) X.A (f v u) (EP X pins σ Q) X.xe s
def UnR (X : Cx) (f : Value → Sem Value) (r : V → Hp → VK → Prop) : Prop :=
  ∀ (pins : List (Addr × Obj)) (s : Shared) (σ : St) (H : Hp) (x : V) (v : Value) (Q : VK), Inv X pins σ H s → RelV x v → r x H Q →
    wpAny (model X.prog X.w) X.A (f v) (EP X pins σ Q) X.xe s
def CallR (X : Cx) (f : Value) (r : List V → Hp → VK → Prop) : Prop :=
  ∀ (pins : List (Addr × Obj)) (s : Shared) (σ : St) (H : Hp) (xs : List V) (us : List Value) (Q : VK), Inv X pins σ H s → Vals xs us → r xs H Q →
    wpAny (model X.prog X.w) X.A (call f us) (EP X pins σ Q) X.xe s
def tOp (r : R2) (ta tb : TE) : TE := fun σ H Q => ta σ H fun x H1 => tb σ H1 fun y H2 => r x y H2 Q
def tUn (r : V → Hp → VK → Prop) (ta : TE) : TE := fun σ H Q => ta σ H fun x H1 => r x H1 Q
def rI (C : Int → Int → Prop) (g : Int → Int → V) : R2 := fun x y H Q => ∃ i j, x = .int i ∧ y = .int j ∧ C i j ∧ Q (g i j) H
def rI0 (g : Int → Int → V) : R2 := fun x y H Q => ∃ i j, x = .int i ∧ y = .int j ∧ Q (g i j) H
def rU (g : Int → V) : V → Hp → VK → Prop := fun x H Q => ∃ i, x = .int i ∧ Q (g i) H
section
variable {X : Cx} {a b c : Expr} {ta tb tc : TE} {pos : Pos}
theorem qOd (ha : PE X a ta) (hb : PE X b tb) {pins : List (Addr × Obj)} {s : Shared} {σ : St} {H : Hp} {R : V → V → Hp → Prop} (I : Inv X pins σ H s)
    (h : ta σ H fun x H1 => tb σ H1 fun y H2 => R x y H2) {Q : Value → Shared → Prop} {f : Value → Value → Sem Value}
    (hf : ∀ v u s2 x y H2, Inv X pins σ H2 s2 → RelV x v → RelV y u → R x y H2 → wpAny (model X.prog X.w) X.A (f v u) Q X.xe s2) :
    wpAny (model X.prog X.w) X.A (eval a X.env) (fun v s₁ => wpAny (model X.prog X.w) X.A (eval b X.env) (fun u s₂ => wpAny (model X.prog X.w) X.A (f v u) Q X.xe s₂) X.xe s₁) X.xe s := by
  refine thn (ha pins s σ H _ I h) fun v s1 ⟨x, H1, I1, r1, q1⟩ => ?_
  refine thn (hb pins s1 σ H1 _ I1 q1) fun u s2 ⟨y, H2, I2, r2, q2⟩ => ?_
  exact hf v u s2 x y H2 I2 r1 r2 q2
theorem qW {op : Operator} {r : R2} (ho : OpR X (binaryOp op) r) (ha : PE X a ta) (hb : PE X b tb) : PE X (.BinOp a op b pos) (tOp r ta tb) := by
  intro pins s σ H Q I h
  exact wpAny_BinOp (qOd ha hb I h fun v u s2 x y H2 I2 rx ry q => ho pins s2 σ H2 x y v u Q I2 rx ry q)
theorem zM {op : UnaryOp} {r : V → Hp → VK → Prop} (ho : UnR X (unaryOp op) r) (ha : PE X a ta) : PE X (.UnaryOp op a pos) (tUn r ta) := by
  intro pins s σ H Q I h
  exact UnaryOp_ (thn (ha pins s σ H _ I h) fun v s1 ⟨x, H1, I1, r1, q1⟩ => ho pins s1 σ H1 x v Q I1 r1 q1)
theorem opI {f : Value → Value → Sem Value} {C : Int → Int → Prop} {g : Int → Int → Int}
    (rule : ∀ (i j : Int) (t u : Tok) (s : Shared) (Q : Value → Shared → Prop) (E : Value → Shared → Prop), C i j → Q (.int (g i j) s.toks) { s with toks := s.toks + 1 } → wpAny (model X.prog X.w) X.A (f (.int i t) (.int j u)) Q E s) :
    OpR X f (rI C fun i j => .int (g i j)) := by
  intro pins s σ H x y v u Q I rx ry h
  obtain ⟨i, j, rfl, rfl, hc, q⟩ := h
  obtain ⟨t, rfl⟩ := rx
  obtain ⟨t', rfl⟩ := ry
  exact rule i j t t' s _ _ hc ⟨.int (g i j), H, I.tok _, ⟨_, rfl⟩, q⟩
theorem qPa {f : Value → Value → Sem Value} {g : Int → Int → Int}
    (rule : ∀ (i j : Int) (t u : Tok) (s : Shared) (Q : Value → Shared → Prop) (E : Value → Shared → Prop), Q (.int (g i j) s.toks) { s with toks := s.toks + 1 } → wpAny (model X.prog X.w) X.A (f (.int i t) (.int j u)) Q E s) :
    OpR X f (rI0 fun i j => .int (g i j)) := by
  intro pins s σ H x y v u Q I rx ry h
  obtain ⟨i, j, rfl, rfl, q⟩ := h
  obtain ⟨t, rfl⟩ := rx
  obtain ⟨t', rfl⟩ := ry
  exact rule i j t t' s _ _ ⟨.int (g i j), H, I.tok _, ⟨_, rfl⟩, q⟩
theorem qNu {f : Value → Value → Sem Value} {g : Int → Int → Bool}
    (rule : ∀ (i j : Int) (t u : Tok) (s : Shared) (Q : Value → Shared → Prop) (E : Value → Shared → Prop), Q (.bool (g i j)) s → wpAny (model X.prog X.w) X.A (f (.int i t) (.int j u)) Q E s) :
    OpR X f (rI0 fun i j => .bl (g i j)) := by
  intro pins s σ H x y v u Q I rx ry h
  obtain ⟨i, j, rfl, rfl, q⟩ := h
  obtain ⟨t, rfl⟩ := rx
  obtain ⟨t', rfl⟩ := ry
  exact rule i j t t' s _ _ ⟨.bl (g i j), H, I, rfl, q⟩
def qO2 (i j : Int) : Prop := 0 ≤ j ∧ j ≤ 1000000 ∧ i.natAbs < 2 ^ 64
def CMul (i j : Int) : Prop := (-(2 ^ 64) < i ∧ i < 2 ^ 64) ∨ (-(2 ^ 64) < j ∧ j < 2 ^ 64)
theorem CMul.ok {i j : Int} (h : CMul i j) : IntMulOk i j := by
  rcases h with ⟨h1, h2⟩ | ⟨h1, h2⟩
  · exact .of_left (intBits_le_64 h1 h2)
  · exact .of_right (intBits_le_64 h1 h2)
theorem qj : OpR X (binaryOp .Add) (rI0 fun i j => .int (i + j)) := qPa fun _ _ _ _ _ _ _ q => add_int q
theorem jM : OpR X (binaryOp .Sub) (rI0 fun i j => .int (i - j)) := qPa fun _ _ _ _ _ _ _ q => sub_int q
theorem jX : OpR X (binaryOp .Mod) (rI (fun _ j => j ≠ 0) fun i j => .int (i.fmod j)) := opI fun _ _ _ _ _ _ _ hc q => mod_int' hc q
theorem qMz : OpR X (binaryOp .Pow) (rI qO2 fun i j => .int (i ^ j.toNat)) := opI fun _ _ _ _ _ _ _ hc q => pow_int_small hc.1 hc.2.1 hc.2.2 q
theorem unI {f : Value → Sem Value} {g : Int → Int}
    (rule : ∀ (i : Int) (t : Tok) (s : Shared) (Q : Value → Shared → Prop) (E : Value → Shared → Prop), Q (.int (g i) s.toks) { s with toks := s.toks + 1 } → wpAny (model X.prog X.w) X.A (f (.int i t)) Q E s) :
    UnR X f (rU fun i => .int (g i)) := by
  intro pins s σ H x v Q I rx h
  obtain ⟨i, rfl, q⟩ := h
  obtain ⟨t, rfl⟩ := rx
  exact rule i t s _ _ ⟨.int (g i), H, I.tok _, ⟨_, rfl⟩, q⟩
theorem jn : UnR X (unaryOp .USub) (rU fun i => .int (-i)) := unI fun _ _ _ _ _ q => neg_int q
end
def qO4 : V → V → Bool
  | .non, .non => true | .non, .int _ => true | .int _, .non => true | .non, .bl _ => true | .bl _, .non => true | .non, .str _ => true | .str _, .non => true
  | .int _, .int _ => true | .bl _, .bl _ => true | .str _, .str _ => true | .byt _, .byt _ => true
  | .int _, .str _ => true | .str _, .int _ => true | .bl _, .str _ => true | .str _, .bl _ => true
  | _, _ => false
def rEq : R2 := fun x y H Q => qO4 x y = true ∧ Q (.bl (decide (x = y))) H
def rNe : R2 := fun x y H Q => qO4 x y = true ∧ Q (.bl (!decide (x = y))) H
theorem qJg {i j : Int} : decide (V.int i = V.int j) = (i == j) := by
  rw [Bool.eq_iff_iff]
  simp
theorem qK3 {i j : Bool} : decide (V.bl i = V.bl j) = (i == j) := by
  rw [Bool.eq_iff_iff]
  simp
theorem qH1 {i j : Str} : decide (V.str i = V.str j) = (i == j) := by
  rw [Bool.eq_iff_iff]
  simp
theorem qI0 {i j : Array UInt8} : decide (V.byt i = V.byt j) = (i.toList == j.toList) := by
  rw [Bool.eq_iff_iff]
  cases i
  cases j
  simp
section
variable {X : Cx} {a b c : Expr} {ta tb tc : TE} {pos : Pos}
theorem jB {pins : List (Addr × Obj)} {σ : St} {H : Hp} {s : Shared} {Q : VK} {k k' : Bool} (I : Inv X pins σ H s) (q : Q (.bl k) H) (e : k = k') : EP X pins σ Q (.bool k') s := by
  subst e
  exact ⟨.bl k, H, I, rfl, q⟩
theorem jD : OpR X (compareOp .Eq) rEq := by
  intro pins s σ H x y v u Q I rx ry h
  obtain ⟨hs, q⟩ := h
  cases x with
  | non =>
    cases rx
    cases y with
    | non => cases ry; exact PySem.EqNone.eq_none_none (jB I q (by simp))
    | bl j => cases ry; exact PySem.EqNone.eq_none_bool (jB I q (by simp))
    | int j => obtain ⟨t', rfl⟩ := ry; exact PySem.EqNone.eq_none_int (jB I q (by simp))
    | str j => obtain ⟨t', rfl⟩ := ry; exact PySem.EqNone.eq_none_str (jB I q (by simp))
    | _ => exact absurd (show false = true from hs) Bool.false_ne_true
  | bl i =>
    cases rx
    cases y with
    | non => cases ry; exact PySem.EqNone.eq_bool_none (jB I q (by simp))
    | bl j => cases ry; exact eq_bool (jB I q qK3)
    | str j => obtain ⟨t', rfl⟩ := ry; exact PySem.EqMixed.eq_bool_str (jB I q (by simp))
    | _ => exact absurd (show false = true from hs) Bool.false_ne_true
  | int i =>
    obtain ⟨t, rfl⟩ := rx
    cases y with
    | non => cases ry; exact PySem.EqNone.eq_int_none (jB I q (by simp))
    | int j => obtain ⟨t', rfl⟩ := ry; exact eq_int (jB I q qJg)
    | str j => obtain ⟨t', rfl⟩ := ry; exact PySem.EqMixed.eq_int_str (jB I q (by simp))
    | _ => exact absurd (show false = true from hs) Bool.false_ne_true
  | str i =>
    obtain ⟨t, rfl⟩ := rx
    cases y with
    | non => cases ry; exact PySem.EqNone.eq_str_none (jB I q (by simp))
    | bl j => cases ry; exact PySem.EqMixed.eq_str_bool (jB I q (by simp))
    | int j => obtain ⟨t', rfl⟩ := ry; exact PySem.EqMixed.eq_str_int (jB I q (by simp))
    | str j => obtain ⟨t', rfl⟩ := ry; exact eq_str (jB I q qH1)
    | _ => exact absurd (show false = true from hs) Bool.false_ne_true
  | byt i =>
    obtain ⟨t, rfl⟩ := rx
    cases y with
    | byt j => obtain ⟨t', rfl⟩ := ry; exact PySem.W.eq_bytes (jB I q qI0)
    | _ => exact absurd (show false = true from hs) Bool.false_ne_true
  | _ => cases y <;> exact absurd (show false = true from hs) Bool.false_ne_true
theorem zT : OpR X (compareOp .NotEq) rNe := by
  intro pins s σ H x y v u Q I rx ry h
  obtain ⟨hs, q⟩ := h
  cases x with
  | non =>
    cases rx
    cases y with
    | non => cases ry; exact PySem.EqNone.ne_none_none (jB I q (by simp))
    | bl j => cases ry; exact PySem.EqNone.ne_none_bool (jB I q (by simp))
    | int j => obtain ⟨t', rfl⟩ := ry; exact PySem.EqNone.ne_none_int (jB I q (by simp))
    | str j => obtain ⟨t', rfl⟩ := ry; exact PySem.EqNone.ne_none_str (jB I q (by simp))
    | _ => exact absurd (show false = true from hs) Bool.false_ne_true
  | bl i =>
    cases rx
    cases y with
    | non => cases ry; exact PySem.EqNone.ne_bool_none (jB I q (by simp))
    | bl j => cases ry; exact ne_bool (jB I q (congrArg not qK3))
    | str j => obtain ⟨t', rfl⟩ := ry; exact PySem.EqMixed.ne_bool_str (jB I q (by simp))
    | _ => exact absurd (show false = true from hs) Bool.false_ne_true
  | int i =>
    obtain ⟨t, rfl⟩ := rx
    cases y with
    | non => cases ry; exact PySem.EqNone.ne_int_none (jB I q (by simp))
    | int j => obtain ⟨t', rfl⟩ := ry; exact ne_int (jB I q (congrArg not qJg))
    | str j => obtain ⟨t', rfl⟩ := ry; exact PySem.EqMixed.ne_int_str (jB I q (by simp))
    | _ => exact absurd (show false = true from hs) Bool.false_ne_true
  | str i =>
    obtain ⟨t, rfl⟩ := rx
    cases y with
    | non => cases ry; exact PySem.EqNone.ne_str_none (jB I q (by simp))
    | bl j => cases ry; exact PySem.EqMixed.ne_str_bool (jB I q (by simp))
    | int j => obtain ⟨t', rfl⟩ := ry; exact PySem.EqMixed.ne_str_int (jB I q (by simp))
    | str j => obtain ⟨t', rfl⟩ := ry; exact ne_str (jB I q (congrArg not qH1))
    | _ => exact absurd (show false = true from hs) Bool.false_ne_true
  | byt i =>
    obtain ⟨t, rfl⟩ := rx
    cases y with
    | byt j => obtain ⟨t', rfl⟩ := ry; exact PySem.W.ne_bytes (jB I q (congrArg not qI0))
    | _ => exact absurd (show false = true from hs) Bool.false_ne_true
  | _ => cases y <;> exact absurd (show false = true from hs) Bool.false_ne_true
theorem z9 : OpR X (compareOp .Lt) (rI0 fun i j => .bl (decide (i < j))) := qNu fun _ _ _ _ _ _ _ q => lt_int q
theorem qKn : OpR X (compareOp .LtE) (rI0 fun i j => .bl (decide (i ≤ j))) := qNu fun _ _ _ _ _ _ _ q => le_int q
theorem qA5 : OpR X (compareOp .Gt) (rI0 fun i j => .bl (decide (j < i))) := qNu fun _ _ _ _ _ _ _ q => gt_int q
theorem qD1 : OpR X (compareOp .GtE) (rI0 fun i j => .bl (decide (j ≤ i))) := qNu fun _ _ _ _ _ _ _ q => ge_int q
theorem OpR.or {f : Value → Value → Sem Value} {r r' : R2} (h : OpR X f r) (h' : OpR X f r') : OpR X f (fun x y H Q => r x y H Q ∨ r' x y H Q) := by
  intro pins s σ H x y v u Q I rx ry q
  rcases q with q | q
  · exact h pins s σ H x y v u Q I rx ry q
  · exact h' pins s σ H x y v u Q I rx ry q
theorem qS (b : Expr) {op : CmpOp} (h : op ≠ .In := by decide) (h2 : op ≠ .NotIn := by decide) : behindInMarks op b = false := by
  have e1 : (op == CmpOp.In) = false := by cases op <;> first | rfl | exact absurd rfl h
  have e2 : (op == CmpOp.NotIn) = false := by cases op <;> first | rfl | exact absurd rfl h2
  cases b <;> simp [behindInMarks, e1, e2]
theorem j1 {op : CmpOp} {r : R2} (ho : OpR X (compareOp op) r) (ha : PE X a ta) (hb : PE X b tb) (hm : behindInMarks op b = false) : PE X (.Compare a [op] [b] pos) (tOp r ta tb) := by
  intro pins s σ H Q I h
  exact wpAny_Compare1 (qOd ha hb I h fun v u s2 x y H2 I2 rx ry q => ho pins s2 σ H2 x y v u Q I2 rx ry q) hm
def qOr (t : TE) : TT := fun σ H Q => t σ H fun x H' => ∃ k, x = .bl k ∧ Q k H'
theorem qL {op : CmpOp} {r : R2} (ho : OpR X (compareOp op) r) (ha : PE X a ta) (hb : PE X b tb) (hm : behindInMarks op b = false) : PT X (.Compare a [op] [b] pos) (qOr (tOp r ta tb)) := by
  intro pins s σ H Q I h
  refine wpAny_isTrue_Compare1 (thn (ha pins s σ H _ I h) fun v s1 ⟨x, H1, I1, r1, q1⟩ => thn (hb pins s1 σ H1 _ I1 q1) fun u s2 ⟨y, H2, I2, r2, q2⟩ =>
    thn (ho pins s2 σ H2 x y v u _ I2 r1 r2 q2) fun c s3 ⟨z, H3, I3, r3, k, e, q3⟩ => ?_) hm
  subst e
  cases r3
  exact wpAny_truthy_bool ⟨H3, I3, q3⟩
theorem qDf : (sizeLine : Nat) < 2 ^ 63 := by rw [sizeLine_eq]; decide
theorem qFq {x : V} {us : List Value} (r : Vals [x] us) : ∃ u, us = [u] ∧ RelV x u := by
  cases r with
  | cons r1 r2 => cases r2; exact ⟨_, rfl, r1⟩
theorem qMb {x y : V} {us : List Value} (r : Vals [x, y] us) : ∃ u w', us = [u, w'] ∧ RelV x u ∧ RelV y w' := by
  cases r with
  | cons r1 r2 =>
    cases r2 with
    | cons r3 r4 => cases r4; exact ⟨_, _, rfl, r1, r3⟩
theorem wR : CallR X (.builtin "abs") (fun xs H Q => ∃ i, xs = [.int i] ∧ Q (.int (if i < 0 then -i else i)) H) := by
  intro pins s σ H xs us Q I r h
  obtain ⟨i, rfl, q⟩ := h
  obtain ⟨u, rfl, t, rfl⟩ := qFq r
  exact call_abs_int fun u tk => ⟨.int (if i < 0 then -i else i), H, I.tok _, ⟨_, rfl⟩, q⟩
theorem kQ (hc : X.calm = true) : CallR X (.builtin "max") (fun xs H Q => ∃ i j, xs = [.int i, .int j] ∧ Q (.int (if j > i then j else i)) H) := by
  intro pins s σ H xs us Q I r h
  obtain ⟨i, j, rfl, q⟩ := h
  obtain ⟨u, w', rfl, ⟨t, rfl⟩, ⟨t', rfl⟩⟩ := qMb r
  refine max_two_ints (I.ok.hd hc) fun h' tk k => ⟨_, H, I.kept k, ?_, q⟩
  by_cases hj : j > i
  · rw [if_pos hj, if_pos hj]; exact ⟨_, rfl⟩
  · rw [if_neg hj, if_neg hj]; exact ⟨_, rfl⟩
theorem zN (hc : X.calm = true) : CallR X (.builtin "min") (fun xs H Q => ∃ i j, xs = [.int i, .int j] ∧ Q (.int (if j < i then j else i)) H) := by
  intro pins s σ H xs us Q I r h
  obtain ⟨i, j, rfl, q⟩ := h
  obtain ⟨u, w', rfl, ⟨t, rfl⟩, ⟨t', rfl⟩⟩ := qMb r
  refine min_two_ints (I.ok.hd hc) fun h' tk k => ⟨_, H, I.kept k, ?_, q⟩
  by_cases hj : j < i
  · rw [if_pos hj, if_pos hj]; exact ⟨_, rfl⟩
  · rw [if_neg hj, if_neg hj]; exact ⟨_, rfl⟩
end
end L2
namespace L2
open PySem PySem.Spec PyProof.Rows
structure ObjM (h : Heap) (x dx C : Addr) (mA : Str → Option Value) : Prop where
  obj : h.get? x = some (PySem.W.instObj C dx)
  ns : h.Ns1 dx mA
  ne : dx ≠ x
theorem qIo {h : Heap} {dx : Addr} {mA : Str → Option Value} (n : h.Ns1 dx mA) : ∃ od, h.get? dx = some od ∧ ∀ name, PySem.W.lookIn name od = some (mA name) := by
  obtain ⟨o, es, ep, ho, hd, hk, _, hm⟩ := n
  refine ⟨o, ho, fun name => ?_⟩
  have e := hm name
  unfold nsFind findBy at e
  rw [← Array.find?_toList] at e
  unfold PySem.W.lookIn
  rw [hd]
  dsimp only
  split
  · rename_i y q
    rw [q] at e
    exact congrArg some e
  · rename_i q
    rw [q] at e
    have a : es.toList.any (·.refKey) = false := by
      rw [List.any_eq_false]
      intro y hy
      obtain ⟨z, t, hkey⟩ := hk y (Array.mem_toList_iff.mp hy)
      simp [DictEntry.refKey, hkey]
    have a' : ¬ es.toList.any (·.refKey) = true := by rw [a]; exact Bool.false_ne_true
    rw [if_neg a']
    exact congrArg some e
theorem ObjM.look {h : Heap} {x dx C : Addr} {mA : Str → Option Value} (I : ObjM h x dx C mA) : ∃ od, PySem.W.InstAt h x (PySem.W.instObj C dx) C (some od) ∧ ∀ name, PySem.W.lookIn name od = some (mA name) :=
  let ⟨od, ho, hl⟩ := qIo I.ns
  ⟨od, ⟨I.obj, rfl, rfl, ho⟩, hl⟩
section
variable {prog : Program} {w : World} {A : Around} {E : Value → Shared → Prop} {s : Shared} {K : PySem.W.Frag} {x dx C f : Addr} {mA : Str → Option Value} {name : Str} {v : Value}
end
theorem RelO.some_of {v : V} {o : Option Value} (r : RelO (some v) o) : ∃ u, o = some u ∧ RelV v u := by
  cases o with
  | none => exact (show False from r).elim
  | some u => exact ⟨u, rfl, r⟩
section
variable {P : Program} {w : World} {H H' : Hp} {h h' : Heap} {a C dx : Addr} {fs fs' : List (Str × V)}
theorem qL4 (hok : HOk P w H h) (e : H a = some (.ins C dx fs)) : ∃ mA, ObjM h a dx C mA ∧ (∀ f, RelO (fs.lookup f) (mA f)) ∧ PySem.Within mA (fs.map (·.1)) ∧ fs.length ≤ 1000 ∧ H dx = some (.own a) := by
  obtain ⟨d, z, ne, ob, mA, n, r, q⟩ := (show ObjOk P w H h a (.ins C dx fs) from hok a _ e)
  exact ⟨mA, ⟨ob, n, ne⟩, r, q, z, d⟩
end
structure Cls (K : PySem.W.Frag) (C : Addr) : Prop where
  pg : PySem.W.plainGet K C Str.empty = true
  hd : PySem.W.hasDictIn K C = true
  po : PySem.W.plainOver K C = true
  sa : PySem.W.findIn K (.ref C) "__setattr__" = some (some (.builtin "object.__setattr__"))
theorem Cls.get {K : PySem.W.Frag} {C : Addr} (c : Cls K C) (f : Str) : PySem.W.plainGet K C f = true := c.pg
structure Con (K : PySem.W.Frag) (C : Addr) (f : Str) (v : V) (u : Value) : Prop where
  at_ : PySem.W.findIn K (.ref C) f = some (some u)
  rel : RelV v u
  get : PySem.W.specialIn K u "__get__" = some none
  cp : PySem.W.copiedNames.contains f = false
structure Meth (K : PySem.W.Frag) (C : Addr) (m : Str) (f : Addr) : Prop where
  at_ : PySem.W.findIn K (.ref C) m = some (some (.ref f))
  fn : PySem.W.isFn K (.ref f) = true
  kp : PySem.W.keepIn K (.ref f) = true
section
variable {X : Cx} {pins : List (Addr × Obj)} {σ : St} {H : Hp} {s : Shared} {a C dx : Addr} {fs : List (Str × V)} {f : Str} {v : V} {A : Around} {E : Value → Shared → Prop}
theorem Inv.made (I : Inv X pins σ H s) : Inv X pins σ (upd (upd H s.heap.objs.size (.own (s.heap.objs.size + 1))) (s.heap.objs.size + 1) (.ins C s.heap.objs.size []))
    { s with heap := (s.heap.push PySem.W.emptyDict).push (PySem.W.instObj C s.heap.objs.size) } := by
  have e1 : (s.heap.push PySem.W.emptyDict).get? s.heap.objs.size = some PySem.W.emptyDict := Heap.get?_push_size s.heap rfl
  have e2 : ((s.heap.push PySem.W.emptyDict).push (PySem.W.instObj C s.heap.objs.size)).get? (s.heap.objs.size + 1) = some (PySem.W.instObj C s.heap.objs.size) := by
    have := Heap.get?_push_size (s.heap.push PySem.W.emptyDict) (o := PySem.W.instObj C s.heap.objs.size) rfl
    rwa [Heap.size_push] at this
  have e3 : (s.heap.push PySem.W.emptyDict).Ns s.heap.objs.size (fun _ => none) := ⟨PySem.W.emptyDict, #[], _, e1, rfl, (fun e he => absurd he (by simp)), fun _ => rfl⟩
  have I1 := I.laid (a := s.heap.objs.size) (o := .own (s.heap.objs.size + 1)) (h' := s.heap.push PySem.W.emptyDict) (t' := s.toks) (fun b u q => Heap.get?_push_of_some _ q) (Nat.le_refl _) ⟨_, e1⟩
  refine I1.laid (a := s.heap.objs.size + 1) (o := .ins C s.heap.objs.size []) (t' := s.toks) (fun b u q => Heap.get?_push_of_some _ q) (Nat.le_of_eq (Heap.size_push _ _)) ?_
  have ne : s.heap.objs.size ≠ s.heap.objs.size + 1 := Nat.ne_of_lt (Nat.lt_succ_self _)
  refine ⟨by rw [qi ne, qE], Nat.zero_le _, ne, e2, fun _ => none, (Heap.Ns1.of_empty e3).at fun o q => Heap.get?_push_of_some _ q, fun _ => True.intro, fun y hy => absurd rfl hy⟩
end
section
variable {X : Cx} {o e value : Expr} {f : Str} {pos pos' tpos : Pos} {ta tv : TE}
end
section
variable {X : Cx} {pins : List (Addr × Obj)} {σ : St} {H : Hp} {s : Shared} {A : Around} {E : Value → Shared → Prop} {Q : Value → Shared → Prop} {c : Value} {b : Bool}
inductive qHi (K : PySem.W.Frag) (H : Hp) : V → Value → Prop where
  | non : qHi K H .non (.type "NoneType")
  | bl (x : Bool) : qHi K H (.bl x) (.type "bool")
  | int (i : Int) : qHi K H (.int i) (.type "int")
  | str (x : Str) : qHi K H (.str x) (.type "str")
  | flt (x : UInt64) : qHi K H (.flt x) (.type "float")
  | lst {a : Addr} {xs : List V} (e : H a = some (.lst xs)) : qHi K H (.ref a) (.type "list")
  | frz {a : Addr} {o : Obj} {xs : List V} (e : H a = some (.frz o (.lst xs))) : qHi K H (.ref a) (.type "list")
  | tup {a : Addr} {xs : List V} (e : H a = some (.tup xs)) : qHi K H (.ref a) (.type "tuple")
  | dK {a : Addr} {kvs : List (Key × V)} (e : H a = some (.dK kvs)) : qHi K H (.ref a) (.type "dict")
  | dT {a : Addr} {kvs : List (List Key × V)} (e : H a = some (.dT kvs)) : qHi K H (.ref a) (.type "dict")
  | ins {a C dx : Addr} {fs : List (Str × V)} (e : H a = some (.ins C dx fs)) (cl : Cls K C) (ha : PySem.W.findIn K (.ref C) "__class__" = some (some (.builtin "object.__class__")))
      (hn : PySem.W.specialIn K (.builtin "object.__class__") "__get__" = some (some (.builtin "getset_descriptor.__get__"))) (htk : PySem.W.takesIn K (.builtin "object.__class__") = some true)
      (hm : PySem.W.mroIn K C (.type "object") = some true) : qHi K H (.ref a) (.ref C)
theorem qEd {x : V} {u t : Value} (I : Inv X pins σ H s) (rx : RelV x u) (ty : qHi X.K H x t) (e : PySem.W.kitOne X.K t c = some b) (h : ∀ tk, Q (.bool b) { s with toks := tk }) :
    wpAny (model X.prog X.w) A (call (.builtin "isinstance") [u, c]) Q E s := by
  cases ty with
  | non => cases (show u = Value.none from rx); exact PySem.W.kia_one PySem.W.kitx_none I.kIn True.intro e (fun z => nomatch z) h
  | bl y => cases (show u = Value.bool y from rx); exact PySem.W.kia_one PySem.W.kitx_bool I.kIn True.intro e (fun z => nomatch z) h
  | int i => obtain ⟨t, q⟩ := (show ∃ t, u = Value.int i t from rx); cases q; exact PySem.W.kia_one PySem.W.kitx_int I.kIn True.intro e (fun z => nomatch z) h
  | str y => obtain ⟨t, q⟩ := (show ∃ t, u = Value.str y t from rx); cases q; exact PySem.W.kia_one PySem.W.kitx_str I.kIn True.intro e (fun z => nomatch z) h
  | flt y => obtain ⟨t, q⟩ := (show ∃ t, u = Value.float y t from rx); cases q; exact PySem.W.kia_one PySem.W.kitx_float I.kIn True.intro e (fun z => nomatch z) h
  | @lst a xs ea =>
    cases (show u = Value.ref a from rx)
    obtain ⟨_, _, n, _, h1⟩ := (show ObjOk X.prog X.w H s.heap a (.lst xs) from I.hok a _ ea)
    exact PySem.W.kia_one PySem.W.kitx_list I.kIn ⟨_, h1, rfl⟩ e (fun z => nomatch z) h
  | @frz a ob xs ea =>
    cases (show u = Value.ref a from rx)
    obtain ⟨_, _, _, n, _, h1⟩ := (show ObjOk X.prog X.w H s.heap a (.frz ob (.lst xs)) from I.hok a _ ea)
    exact PySem.W.kia_one PySem.W.kitx_list I.kIn ⟨_, h1, rfl⟩ e (fun z => nomatch z) h
  | @tup a xs ea =>
    cases (show u = Value.ref a from rx)
    obtain ⟨_, _, _, p⟩ := (show ObjOk X.prog X.w H s.heap a (.tup xs) from I.hok a _ ea)
    obtain ⟨o, h1, h2, _⟩ := p
    exact PySem.W.kia_one PySem.W.kitx_tuple I.kIn ⟨o, h1, h2⟩ e (fun z => nomatch z) h
  | @dK a kvs ea =>
    cases (show u = Value.ref a from rx)
    obtain ⟨_, _, vs, _, p⟩ := (show ObjOk X.prog X.w H s.heap a (.dK kvs) from I.hok a _ ea)
    obtain ⟨o, es, ep, h1, h2, _⟩ := p
    exact PySem.W.kia_one PySem.W.kitx_dict I.kIn ⟨o, h1, h2.1⟩ e (fun z => nomatch z) h
  | @dT a kvs ea =>
    cases (show u = Value.ref a from rx)
    obtain ⟨_, _, xs, _, o, es, ep, h1, h2, _⟩ := (show ObjOk X.prog X.w H s.heap a (.dT kvs) from I.hok a _ ea)
    exact PySem.W.kia_one PySem.W.kitx_dict I.kIn ⟨o, h1, h2.1⟩ e (fun z => nomatch z) h
  | @ins a C dx fs ea cl ha hn htk hm =>
    cases (show u = Value.ref a from rx)
    obtain ⟨mA, O, _⟩ := qL4 I.hok ea
    obtain ⟨od, J, _⟩ := O.look
    exact PySem.W.kia_one (PySem.W.kitx_own (cl.get _) cl.hd ha hn htk hm) I.kIn J e (fun z => nomatch z) h
end
end L2
namespace L2
open PySem PySem.Spec PyProof.Rows
structure Room (k : Nat) (A : Around) : Prop where
  hd : A.handled = none
  dp : A.depth + 3 * k + 5 < recursionLimit
  un : A.units + 16 * k + 200 < cLine
theorem Room.mono {j k : Nat} {A : Around} (r : Room k A) (h : j ≤ k) : Room j A := ⟨r.hd, by have := r.dp; omega, by have := r.un; omega⟩
theorem Room.deeper {k : Nat} {A : Around} (r : Room (k + 1) A) (env : Env) : Room k (A.deeper env) :=
  ⟨r.hd, by have := r.dp; show A.depth + 1 + 3 * k + 5 < _; omega, by have := r.un; show A.units + 3 + 16 * k + 200 < _; omega⟩
theorem Room.in1 {k : Nat} {A : Around} (r : Room (k + 1) A) : Room k A.in1 :=
  ⟨r.hd, by have := r.dp; show A.depth + 3 * k + 5 < _; omega, by have := r.un; show A.units + 1 + 16 * k + 200 < _; omega⟩
theorem qHe {A : Around} {C : Addr} {us : List Value} {kw : List (Str × Value)} : (A.under (.builtin "type.__call__" ⟨.ref C :: us, kw⟩)).depth = A.depth + 1 := by
  first | rfl | simp [Around.under, Code.weight, Code.isCreation, Code.isGuard, Code.isCaller, Code.frames, Code.isFrame, guardIds]
theorem qGx {A : Around} {C : Addr} {us : List Value} {kw : List (Str × Value)} : (A.under (.builtin "type.__call__" ⟨.ref C :: us, kw⟩)).units = A.units + 1 := by
  first | rfl | simp [Around.under, Code.cUnits, Code.frames, Code.isFrame]
theorem Room.make {k : Nat} {A : Around} (r : Room (k + 1) A) (C : Addr) (us : List Value) (kw : List (Str × Value)) : Room k (A.under (.builtin "type.__call__" ⟨.ref C :: us, kw⟩)) :=
  ⟨r.hd, by have := r.dp; rw [qHe]; omega, by have := r.un; rw [qGx]; omega⟩
theorem Room.depth {k : Nat} {A : Around} (r : Room k A) : A.depth < recursionLimit := by have := r.dp; omega
theorem Room.units {k : Nat} {A : Around} (r : Room k A) : A.units + 64 < cLine := by have := r.un; omega
theorem Room.units0 {k : Nat} {A : Around} (r : Room k A) : A.units < cLine := by have := r.un; omega
def qPr : TA := fun _ H Q => Q [] H
def qN2 (ta : TE) (tr : TA) : TA := fun σ H Q => ta σ H fun x H1 => tr σ H1 fun xs H2 => Q (x :: xs) H2
section
variable {X : Cx} {e : Expr} {es : List Expr} {te : TE} {t : TA} {pos : Pos}
theorem qC : PA X [] qPr := fun _ _ _ _ H Q I h => Calls.spliced_nil ⟨[], H, I, .nil, h⟩
theorem qA (ha : PE X e te) (hr : PA X es t) (hs : starEach (e :: es) X.env = (false, eval e X.env) :: starEach es X.env := by rfl) : PA X (e :: es) (qN2 te t) := by
  intro pos pins s σ H Q I h
  rw [hs]
  show wpAny _ _ (spliced ((false, eval e X.env) :: backTo pos (starEach es X.env))) _ _ s
  refine Calls.spliced_cons (thn (ha pins s σ H _ I h) fun u s1 ⟨x, H1, I1, r1, q1⟩ => ?_)
  exact thn (hr pos pins s1 σ H1 _ I1 q1) fun us s2 ⟨xs, H2, I2, r2, q2⟩ => ⟨x :: xs, H2, I2, .cons r1 r2, q2⟩
def qPe (t : TA) : TE := fun σ H Q => t σ H fun xs H1 => xs.length ≤ sizeLine ∧ ∀ p, H1 p = none → Q (.ref p) (upd H1 p (.tup xs))
def qP0 (t : TA) : TE := fun σ H Q => t σ H fun xs H1 => xs.length ≤ sizeLine ∧ ∀ p, H1 p = none → Q (.ref p) (upd H1 p (.lst xs))
theorem qX {x1} (h : PA X es t) : PE X (.Tuple es x1 pos) (qPe t) := by
  intro pins s σ H Q I hq
  refine wpAny_Tuple_spliced (thn (h pos pins s σ H _ I hq) fun us s1 ⟨xs, H1, I1, r, z, q⟩ => ⟨by rw [← r.length]; exact z, ?_⟩)
  have hf : H1 s1.heap.objs.size = none := I1.hok.fresh (Nat.le_refl _)
  refine ⟨.ref s1.heap.objs.size, upd H1 s1.heap.objs.size (.tup xs), I1.laid (t' := s1.toks) (fun b u e => Heap.get?_push_of_some _ e) (Nat.le_refl _) ?_, rfl, q _ hf⟩
  exact ⟨z, us, r, ⟨_, Heap.get?_push_size _ rfl, rfl, _, rfl⟩⟩
theorem qh (h : PA X es t) : PE X (.List es pos) (qP0 t) := by
  intro pins s σ H Q I hq
  refine wpAny_List_spliced (thn (h pos pins s σ H _ I hq) fun us s1 ⟨xs, H1, I1, r, z, q⟩ => ⟨by rw [← r.length]; exact z, ?_⟩)
  have hf : H1 s1.heap.objs.size = none := I1.hok.fresh (Nat.le_refl _)
  refine ⟨.ref s1.heap.objs.size, upd H1 s1.heap.objs.size (.lst xs), I1.laid (t' := s1.toks) (fun b u e => Heap.get?_push_of_some _ e) (Nat.le_refl _) ?_, rfl, q _ hf⟩
  exact ⟨z, us, 0, r, Heap.get?_push_size _ rfl⟩
end
abbrev Sp := List V → Hp → VK → XK → Prop
abbrev CXT := List Env → Hp → Shared → XK → Value → Shared → Prop
structure Env0 (P : Program) (w : World) (K : PySem.W.Frag) (mg : Str → Option Value) (base : Heap) (A : Around) (outer : List Env) (s : Shared) (H : Hp) : Prop where
  frames : A.frames = some outer
  mod : Mod K mg base
  bs : ∀ b o, base.get? b = some o → s.heap.get? b = some o ∧ H b = none
  bsz : base.objs.size ≤ s.heap.objs.size
  funs : s.heap.FunFrames base outer
  frf : ∀ b ∈ frs outer, H b = none
  hok : HOk P w H s.heap
  bare : AllBare s.gens
def CE (outer : List Env) (P : Program) (w : World) (H : Hp) (s : Shared) (Q : VK) (u : Value) (s' : Shared) : Prop :=
  ∃ v H', s'.os = s.os ∧ AllBare s'.gens ∧ Un (frs outer) [] H H' s.heap s'.heap ∧ HOk P w H' s'.heap ∧ RelV v u ∧ Q v H'
def CR (CX : CXT) (outer : List Env) (P : Program) (w : World) (H : Hp) (s : Shared) (Q : VK) (E : XK) (r : Result) (s' : Shared) : Prop :=
  match r with
  | .ok (.ret u) => CE outer P w H s Q u s'
  | .ok _ => False
  | .error e => CX outer H s E e s'
structure FnOk (P : Program) (w : World) (K : PySem.W.Frag) (mg : Str → Option Value) (base : Heap) (CX : CXT) (k : Nat) (f : Addr) (fd : FuncData) (ps : List Str) (sp : Sp) : Prop where
  len : ∀ vs H Q E, sp vs H Q E → vs.length = ps.length
  run : ∀ (A : Around) (outer : List Env) (s : Shared) (H : Hp) (args : Args) (us : List Value) (vs : List V) (Q : VK) (E : XK), Room k A → Env0 P w K mg base A outer s H → BindsTo s fd args (ps.zip us) → Vals vs us → sp vs H Q E →
    codeAny (model P w) A (.call (.ref f) args) (CR CX outer P w H s Q E) s
theorem FnOk.mono {P : Program} {w : World} {K : PySem.W.Frag} {mg : Str → Option Value} {base : Heap} {CX : CXT} {j k : Nat} {f : Addr} {fd : FuncData} {ps : List Str} {sp : Sp} (F : FnOk P w K mg base CX j f fd ps sp) (h : j ≤ k) :
    FnOk P w K mg base CX k f fd ps sp := ⟨F.len, fun A outer s H args us vs Q E hr => F.run A outer s H args us vs Q E (hr.mono h)⟩
theorem FnOk.imp {P : Program} {w : World} {K : PySem.W.Frag} {mg : Str → Option Value} {base : Heap} {CX : CXT} {k : Nat} {f : Addr} {fd : FuncData} {ps : List Str} {sp sp' : Sp} (F : FnOk P w K mg base CX k f fd ps sp)
    (h : ∀ vs H Q E, sp' vs H Q E → sp vs H Q E) : FnOk P w K mg base CX k f fd ps sp' :=
  ⟨fun vs H Q E q => F.len vs H Q E (h _ _ _ _ q), fun A outer s H args us vs Q E hr he hb hv hs => F.run A outer s H args us vs Q E hr he hb hv (h _ _ _ _ hs)⟩
theorem Env0.make {P : Program} {w : World} {K : PySem.W.Frag} {mg : Str → Option Value} {base : Heap} {A : Around} {outer : List Env} {s : Shared} {H : Hp} (e : Env0 P w K mg base A outer s H) (C : Addr) (us : List Value) (kw : List (Str × Value)) :
    Env0 P w K mg base (A.under (.builtin "type.__call__" ⟨.ref C :: us, kw⟩)) outer s H := ⟨by first | exact e.frames | (simpa [Around.under, Code.envs, Code.isFrame, pushEnvs] using e.frames), e.mod, e.bs, e.bsz, e.funs, e.frf, e.hok, e.bare⟩
theorem Env0.in1 {P : Program} {w : World} {K : PySem.W.Frag} {mg : Str → Option Value} {base : Heap} {A : Around} {outer : List Env} {s : Shared} {H : Hp} (e : Env0 P w K mg base A outer s H) :
    Env0 P w K mg base A.in1 outer s H := ⟨e.frames, e.mod, e.bs, e.bsz, e.funs, e.frf, e.hok, e.bare⟩
section
variable {X : Cx} {pins : List (Addr × Obj)} {σ : St} {H : Hp} {s s' : Shared}
theorem Inv.env0 (I : Inv X pins σ H s) : Env0 X.prog X.w X.K X.mg X.base X.A X.stack s H :=
  ⟨I.ok.frames, I.ok.mod, I.bs, Nat.le_trans I.ok.bsz I.sz, I.stack, I.stkFree, I.hok, I.bare⟩
theorem Inv.after {Q : VK} {u : Value} (I : Inv X pins σ H s) (h : CE X.stack X.prog X.w H s Q u s') : EP X pins σ Q u s' := by
  obtain ⟨v, H', os, bare, un, hok, r, q⟩ := h
  obtain ⟨hh, g, d, t, os'⟩ := s'
  obtain rfl : os' = s.os := os
  exact ⟨v, H', I.call (h' := hh) (g' := g) (d' := d) (t' := t) (ch := []) un hok bare (fun b z => absurd z (by simp)), r, q⟩
end
def qLk (sp : Sp) (dvs : List V) (E : XK) (t : TA) : TE := fun σ H Q => t σ H fun vs H1 => sp (vs ++ dvs) H1 Q E
def Binds (K : PySem.W.Frag) (fd : FuncData) (ps : List Str) (ds : List Value) : Prop :=
  ∀ (s : Shared) (us : List Value), K.In s.heap → (us ++ ds).length = ps.length → BindsTo s fd ⟨us, []⟩ (ps.zip (us ++ ds))
theorem Binds.all {K : PySem.W.Frag} {fd : FuncData} {ps : List Str} (h : ∀ us : List Value, us.length = ps.length → bindArgs fd ⟨us, []⟩ = pure (ps.zip us)) : Binds K fd ps [] := fun s us _ hl => by
  rw [List.append_nil] at hl ⊢
  exact .of_eq (h us hl)
def qF6 (CX : CXT) (X : Cx) (E : XK) : Prop := ∀ (pins : List (Addr × Obj)) (σ : St) (H : Hp) (s : Shared) (e : Value) (s' : Shared), Inv X pins σ H s → CX X.stack H s E e s' → X.xe e s'
section
variable {X : Cx} {CX : CXT} {k : Nat} {f C : Addr} {fd : FuncData} {ps : List Str} {sp : Sp} {dvs : List V} {ds : List Value} {E : XK} {x m : Str} {p pos apos : Pos} {e o : Expr} {es : List Expr} {ta : TE} {t : TA}
theorem qNj {pins : List (Addr × Obj)} {σ : St} {H : Hp} {s : Shared} {Q : VK} {us : List Value} {vs : List V} (F : FnOk X.prog X.w X.K X.mg X.base CX k f fd ps sp) (hr : Room k X.A) (hb : Binds X.K fd ps ds) (hd : Vals dvs ds) (hx : qF6 CX X E)
    (I : Inv X pins σ H s) (r : Vals vs us) (h : sp (vs ++ dvs) H Q E) : wpAny (model X.prog X.w) X.A (call (.ref f) us) (EP X pins σ Q) X.xe s := by
  have r2 : Vals (vs ++ dvs) (us ++ ds) := r.append hd
  have hl : (us ++ ds).length = ps.length := by rw [← r2.length]; exact F.len _ _ _ _ h
  refine wpAny_call (codeAny_mono (F.run X.A X.stack s H ⟨us, []⟩ (us ++ ds) (vs ++ dvs) Q E hr I.env0 (hb s us I.kIn hl) r2 h) fun r s' hq => ?_)
  cases r with
  | error e => exact hx pins σ H s e s' I hq
  | ok fl =>
    cases fl with
    | ret u => exact I.after hq
    | next => exact False.elim hq
    | brk => exact False.elim hq
    | cont => exact False.elim hq
theorem qHu (F : FnOk X.prog X.w X.K X.mg X.base CX k f fd ps sp) (hr : Room k X.A) (hg : Gl X x) (hm : X.mg x = some (.ref f)) (hk : PySem.W.keepIn X.K (.ref f) = true) (hb : Binds X.K fd ps ds) (hd : Vals dvs ds) (hx : qF6 CX X E)
    (ha : PA X (e :: es) t) (hdb : (x == ("__debug__" : Str)) = false := by decide) (he : starEach (e :: es) X.env = (false, eval e X.env) :: starEach es X.env := by rfl) (hpl : (backTo pos (starEach es X.env)).any (·.1) = false := by rfl) :
    PE X (.Call (.Name x p) (e :: es) [] pos) (qLk sp dvs E t) := by
  intro pins s σ H Q I h
  refine wpAny_Call_Name_kw (qBw I hg hm ?_ hdb)
  refine PySem.W.callWith_K (h₀ := X.base) I.ok.mod.kin hk (thn (ha pos pins s σ H _ I h) fun us s1 ⟨vs, H1, I1, r, q⟩ => ⟨I1.kIn, ?_⟩) he hpl
  exact qNj F hr hb hd hx I1 r q
structure Mk (K : PySem.W.Frag) (C f : Addr) : Prop where
  makes : PySem.W.makesIn K C = true
  init : PySem.W.findIn K (.ref C) "__init__" = some (some (.ref f))
  fn : PySem.W.isFn K (.ref f) = true
  kp : PySem.W.keepIn K (.ref C) = true
end
section
variable {X : Cx} {CX : CXT} {k : Nat} {f C : Addr} {fd : FuncData} {ps ks : List Str} {sp : Sp} {E : XK} {x m : Str} {p pos apos kpos : Pos} {e o : Expr} {es : List Expr} {kws : List Keyword} {te ta : TE} {t tk : TA} {nm : Option Str}
structure KBinds (K : PySem.W.Frag) (fd : FuncData) (ps ks : List Str) (g : List Value → List Value → List Value) (gV : List V → List V → List V) : Prop where
  to : ∀ (s : Shared) (us ws : List Value), K.In s.heap → (g us ws).length = ps.length → BindsTo s fd ⟨us, ks.zip ws⟩ (ps.zip (g us ws))
  rel : ∀ {vs : List V} {us : List Value} {zs : List V} {ws : List Value}, Vals vs us → Vals zs ws → Vals (gV vs zs) (g us ws)
variable {g : List Value → List Value → List Value} {gV : List V → List V → List V}
end
structure qR (N P : List Str) (sc : Scope) : Prop where
  kind : sc.kind = .function
  co : sc.isCoroutine = false
  gen : sc.isGenerator = false
  nd : N.Nodup
  pre : N.take P.length = P
  par : ∀ x ∈ P, sc.names.lookup x = some .local ∨ sc.names.lookup x = some .cell
  nofree : ∀ y ∈ sc.names, y.2 ≠ .free
theorem qD6 {kindOf : Str → Option NameKind} {x : Str} : ∀ {binds : List (Str × Value)} {m : Str → Option Value}, (∀ v, (x, v) ∉ binds) → bindL kindOf binds m x = m x
  | [], _, _ => rfl
  | (n, v) :: r, m, h => by
    unfold bindL
    rw [qD6 fun w hw => h w (List.mem_cons_of_mem _ hw)]
    split
    · have : x ≠ n := by rintro rfl; exact h v List.mem_cons_self
      simp [this]
    · rfl
theorem qD0 {kindOf : Str → Option NameKind} {x : Str} : ∀ {binds : List (Str × Value)} {m : Str → Option Value}, (∀ v, (x, v) ∉ binds) → bindC kindOf binds m x = m x
  | [], _, _ => rfl
  | (n, v) :: r, m, h => by
    unfold bindC
    rw [qD0 fun w hw => h w (List.mem_cons_of_mem _ hw)]
    split
    · rfl
    · have : x ≠ n := by rintro rfl; exact h v List.mem_cons_self
      simp [this]
theorem qCx {kindOf : Str → Option NameKind} {x : Str} {v : Value} : ∀ {P : List Str} {vs : List Value} {i : Nat} {m : Str → Option Value}, P.Nodup → P[i]? = some x → vs[i]? = some v → kindOf x = some .local →
    bindL kindOf (P.zip vs) m x = some v
  | [], _, _, _, _, h, _, _ => by simp at h
  | _ :: _, [], _, _, _, _, h, _ => by simp at h
  | p :: P, w :: vs, 0, m, nd, h1, h2, hk => by
    simp at h1 h2; subst h1; subst h2
    show bindL kindOf ((p, w) :: P.zip vs) m p = _
    unfold bindL
    rw [qD6 fun v hv => (List.nodup_cons.mp nd).1 (List.of_mem_zip hv).1, if_pos hk]
    simp
  | p :: P, w :: vs, i + 1, m, nd, h1, h2, hk => by
    show bindL kindOf ((p, w) :: P.zip vs) m x = _
    unfold bindL
    exact qCx (i := i) (List.nodup_cons.mp nd).2 (by simpa using h1) (by simpa using h2) hk
theorem qDb {kindOf : Str → Option NameKind} {x : Str} {v : Value} : ∀ {P : List Str} {vs : List Value} {i : Nat} {m : Str → Option Value}, P.Nodup → P[i]? = some x → vs[i]? = some v → kindOf x ≠ some .local →
    bindC kindOf (P.zip vs) m x = some v
  | [], _, _, _, _, h, _, _ => by simp at h
  | _ :: _, [], _, _, _, _, h, _ => by simp at h
  | p :: P, w :: vs, 0, m, nd, h1, h2, hk => by
    simp at h1 h2; subst h1; subst h2
    show bindC kindOf ((p, w) :: P.zip vs) m p = _
    unfold bindC
    rw [qD0 fun v hv => (List.nodup_cons.mp nd).1 (List.of_mem_zip hv).1, if_neg hk]
    simp
  | p :: P, w :: vs, i + 1, m, nd, h1, h2, hk => by
    show bindC kindOf ((p, w) :: P.zip vs) m x = _
    unfold bindC
    exact qDb (i := i) (List.nodup_cons.mp nd).2 (by simpa using h1) (by simpa using h2) hk
def qBn (N : List Str) (vs : List V) : St := vs.map some ++ List.replicate (N.length - vs.length) none
def qJi (CX : CXT) (P : Program) (w : World) (K : PySem.W.Frag) (mg : Str → Option Value) (base : Heap) (N : List Str) (qual : Str) (scope : Scope) (f : Addr) (cd : Value) (A : Around) (outer : List Env) (s : Shared) (H : Hp) (E : XK) : Cx where
  prog := P
  w := w
  K := K
  mg := mg
  base := base
  A := A.deeper (envOfC qual scope s.heap.objs.size f cd)
  N := N
  s₀ := s
  H₀ := H
  env := envOfC qual scope s.heap.objs.size f cd
  outer := outer
  stack := envOfC qual scope s.heap.objs.size f cd :: outer
  ex := []
  calm := true
  fn := fun _ => true
  pn := []
  xe := fun e s' => wpAny (model P w) (A.deeper (envOfC qual scope s.heap.objs.size f cd)) (leaving (envOfC qual scope s.heap.objs.size f cd) e) (fun _ s'' => CX outer H s E e s'') (fun e' s'' => CX outer H s E e' s'') s'
theorem qGa {sc : Scope} {n : Nat} {x : Str} (h : sc.names.lookup x = some .cell) : ∃ c, (cellsFrom n sc.names []).lookup x = some c := by
  have q := PySem.W.cellsFrom_some sc.names n [] (.inl h)
  exact Option.isSome_iff_exists.mp q
theorem qJa {CX : CXT} {P : Program} {w : World} {K : PySem.W.Frag} {mg : Str → Option Value} {base : Heap} {N ps : List Str} {qual : Str} {scope : Scope} {f : Addr} {cd : Value} {A : Around} {outer : List Env} {s s1 : Shared} {H : Hp} {E : XK} {us : List Value} {vs : List V}
    (S : qR N ps scope) (hd : A.handled = none) (e0 : Env0 P w K mg base A outer s H) (hl : vs.length = ps.length) (r : Vals vs us)
    (x : InCallC s s.heap.objs.size (bindL (envOfC qual scope s.heap.objs.size f cd).kindOf (ps.zip us) fun _ => none) (cellsFrom (s.heap.objs.size + 1) scope.names []) (bindC (envOfC qual scope s.heap.objs.size f cd).kindOf (ps.zip us) fun _ => none) s1) :
    Inv (qJi CX P w K mg base N qual scope f cd A outer s H E) [] (qBn N vs) H s1 := by
  have hpl : ps.length ≤ N.length := by have := congrArg List.length S.pre; rw [List.length_take] at this; omega
  obtain ⟨h1, tk, rfl, hk⟩ := x.done
  have noA : ∀ b : Addr, b ∉ (qJi CX P w K mg base N qual scope f cd A outer s H E).ex := fun b z => absurd (show b ∈ ([] : List Addr) from z) (by simp)
  refine ⟨⟨e0.mod, S.kind, rfl, rfl, Nat.le_refl _, fun y z c h1 h2 => ?_, fun y hy => ?_, fun y c _ h => ?_, fun _ => hd, Around.frames_deeper e0.frames, .inr ⟨rfl, rfl⟩, fun b z => absurd z (noA b), e0.bs, e0.bsz, fun b _ _ => noA b, fun b z => absurd z (noA b), e0.funs, e0.frf⟩,
    rfl, e0.bare, Un.kept hk, ⟨_, x.toInCall.ns, fun i y v h1 h2 h3 => ?_⟩, fun y c h => ⟨_, x.cell y c h⟩, e0.hok.fresh (Nat.le_refl _), fun y c h => ?_, fun p hp => absurd (show p ∈ ([] : List (Addr × Obj)) from hp) (by simp), e0.hok.kept hk, ?_⟩
  · exact name_of_addr x.apart (PySem.mem_of_lookup h1) (PySem.mem_of_lookup h2)
  · have hy : scope.names.lookup y = some .cell ∨ scope.names.lookup y = some .free := hy
    rcases hy with hy | hy
    · exact qGa hy
    · exact absurd rfl (S.nofree _ (PySem.mem_of_lookup hy))
  · exact Nat.le_of_lt (x.above y c (PySem.mem_of_lookup h))
  · have hi : i < vs.length := by
      unfold qBn at h2
      by_cases hi : i < vs.length
      · exact hi
      · rw [List.getElem?_append_right (by simpa using hi)] at h2
        rw [List.getElem?_replicate] at h2
        split at h2 <;> cases h2
    have ha : vs[i]? = some v := by
      unfold qBn at h2
      rw [List.getElem?_append_left (by simpa using hi), List.getElem?_map] at h2
      cases e : vs[i]? with
      | none => rw [e] at h2; cases h2
      | some a => rw [e] at h2; cases h2; rfl
    obtain ⟨u, hu, rv⟩ := r.get ha
    have hp : ps[i]? = some y := by
      rw [← S.pre, List.getElem?_take_of_lt (by omega)]; exact h1
    have ndP : ps.Nodup := by rw [← S.pre]; exact S.nd.sublist (List.take_sublist _ _)
    refine ⟨u, rv, ?_⟩
    rcases S.par y (List.mem_of_getElem? hp) with k | k
    · exact .inl ⟨k, qCx ndP hp hu k⟩
    · obtain ⟨c, e⟩ := qGa (n := s.heap.objs.size + 1) k
      refine .inr ⟨.inl k, c, e, ?_⟩
      have q := x.cell y c e
      rw [qDb ndP hp hu (by show scope.names.lookup y ≠ _; rw [k]; decide)] at q
      exact q
  · exact e0.hok.fresh (Nat.le_of_lt (x.above y c (PySem.mem_of_lookup h)))
  · unfold qBn
    show _ = N.length
    rw [List.length_append, List.length_map, List.length_replicate]
    omega
theorem qM0 {CX : CXT} {P : Program} {w : World} {K : PySem.W.Frag} {mg : Str → Option Value} {base : Heap} {k : Nat} {f : Addr} {name qual : Str} {params : Arguments} {body : List Stmt} {scope : Scope} {dV kV doc pm cdv ct oc : Value} {an od : Option Addr}
    {osl : Array (Option Value)} {N ps : List Str} {sp : Sp} (lk : K.lookup f = some ⟨oc, od, .func (PySem.W.fnOf name qual params body scope dV kV doc pm an cdv ct), osl⟩) (hcd : PySem.W.codeIn K cdv qual = true) (S : qR N ps scope)
    (len : ∀ vs H Q E, sp vs H Q E → vs.length = ps.length)
    (hbody : ∀ (A : Around) (outer : List Env) (s : Shared) (H : Hp) (vs : List V) (Q : VK) (E : XK), Room k (A.deeper (envOfC qual scope s.heap.objs.size f cdv)) → sp vs H Q E →
      ∃ t, PSs (qJi CX P w K mg base N qual scope f cdv A outer s H E) body t ∧ t { nx := fun _ H' => Q .non H', rt := Q } (qBn N vs) H) :
    FnOk P w K mg base CX (k + 1) f (PySem.W.fnOf name qual params body scope dV kV doc pm an cdv ct) ps sp := by
  refine ⟨len, fun A outer s H args us vs Q E hr e0 hb r hsp => ?_⟩
  have hl := len _ _ _ _ hsp
  have KX : K.In s.heap := e0.mod.kin.keeps fun b o e => (e0.bs b o e).1
  have lim : s.heap.NoLimit := e0.mod.nolimit.keeps fun b o e => (e0.bs b o e).1
  have hkind : ∀ y ∈ ps.zip us, scope.names.lookup y.1 = some .local ∨ (scope.names.lookup y.1 = some .cell ∧ ((cellsFrom (s.heap.objs.size + 1) scope.names []).lookup y.1).isSome = true) := fun ⟨n, v⟩ hy => by
    rcases S.par n (List.of_mem_zip hy).1 with q | q
    · exact .inl q
    · exact .inr ⟨q, PySem.W.cellsFrom_some _ _ _ (.inl q)⟩
  refine codeAny_call_function hr.depth (KX _ _ lk) rfl S.co S.gen rfl (PySem.W.codeRec_of KX hcd) (hb _ _ _ _ ?_)
  refine wpAny_newFunctionEnv_cells S.kind hkind fun env he s1 x => ?_
  subst he
  refine ⟨lim.keeps x.toInCall.keep, codeAny_func ?_⟩
  obtain ⟨t, ht, hq⟩ := hbody A outer s H vs Q E (hr.deeper _) hsp
  have I : Inv (qJi CX P w K mg base N qual scope f cdv A outer s H E) [] (qBn N vs) H s1 := qJa S hr.hd e0 hl r x
  refine wpAny_mono (ht [] s1 (qBn N vs) H _ I hq) (fun fl s' hs => ?_) fun e s' hs => hs
  have fin : ∀ {σ' : St} {H' : Hp} {v : V} {u : Value}, Inv (qJi CX P w K mg base N qual scope f cdv A outer s H E) [] σ' H' s' → RelV v u → Q v H' → CE outer P w H s Q u s' :=
    fun {σ' H' v u} J rv q => ⟨v, H', J.os, J.bare, J.base, J.hok, rv, q⟩
  cases fl with
  | ret u =>
    obtain ⟨v, σ', H', J, rv, q⟩ := hs
    exact fin J rv q
  | next =>
    obtain ⟨σ', H', J, q⟩ := hs
    exact fin (v := V.non) (u := Value.none) J rfl q
  | brk =>
    obtain ⟨_, _, _, q⟩ := hs
    exact False.elim q
  | cont =>
    obtain ⟨_, _, _, q⟩ := hs
    exact False.elim q
end L2
namespace L2
open PySem PySem.Spec PyProof.Rows
section
variable {X : Cx} {x : Str} {p pos : Pos} {e : Expr} {es : List Expr} {t : TA} {id T : String} {r : List V → Hp → VK → Prop}
def tCB (r : List V → Hp → VK → Prop) (t : TA) : TE := fun σ H Q => t σ H fun vs H1 => r vs H1 Q
theorem qf (hc : CallR X (.builtin id) r) (hg : Gl X x) (hm : X.mg x = none) (hv : bootBuiltins x = some (.builtin id)) (ha : PA X (e :: es) t) (hn : x ≠ "__name__" := by decide) (hdb : (x == ("__debug__" : Str)) = false := by decide)
    (he : starEach (e :: es) X.env = (false, eval e X.env) :: starEach es X.env := by rfl) (hpl : (backTo pos (starEach es X.env)).any (·.1) = false := by rfl) : PE X (.Call (.Name x p) (e :: es) [] pos) (tCB r t) := by
  intro pins s σ H Q I h
  refine wpAny_Call_Name_kw (qEl I hg hm hv ?_ hn hdb)
  exact PyProof.Rows.callWith_builtin1 (thn (ha pos pins s σ H _ I h) fun us s1 ⟨vs, H1, I1, r1, q1⟩ => hc pins s1 σ H1 vs us Q I1 r1 q1) he hpl
theorem vT (hc : CallR X (.type T) r) (hg : Gl X x) (hm : X.mg x = none) (hv : bootBuiltins x = some (.type T)) (ha : PA X (e :: es) t) (hn : x ≠ "__name__" := by decide) (hdb : (x == ("__debug__" : Str)) = false := by decide)
    (he : starEach (e :: es) X.env = (false, eval e X.env) :: starEach es X.env := by rfl) (hpl : (backTo pos (starEach es X.env)).any (·.1) = false := by rfl) : PE X (.Call (.Name x p) (e :: es) [] pos) (tCB r t) := by
  intro pins s σ H Q I h
  refine wpAny_Call_Name_kw (qEl I hg hm hv ?_ hn hdb)
  exact PyProof.Rows.callWith_type1 (thn (ha pos pins s σ H _ I h) fun us s1 ⟨vs, H1, I1, r1, q1⟩ => hc pins s1 σ H1 vs us Q I1 r1 q1) he hpl
end
end L2
namespace HT
open PySem PyProof.Rows
section
open PySem.SeqAt
open PySem.AutoSeq1 (wpAny_loadPart')
open PySem.MeetsSeq PySem.MeetsSeq2 PySem.MeetsSeq3
end
section
variable {prog : Program} {w : World} {A : Around} {E : Value → Shared → Prop} {s : Shared}
theorem cat_tup {t b : Addr} {vs ws : List Value} {Q : Value → Shared → Prop} (ht : IsTup s.heap t vs.toArray) (hb : IsTup s.heap b ws.toArray) (hv : vs ≠ [])
    (h1 : ws = [] → Q (.ref t) s) (h2 : ws ≠ [] → Q (.ref s.heap.objs.size) { s with heap := s.heap.push { cls := .type "tuple", data := .seq (vs ++ ws).toArray } })
    (hsz : vs.length + ws.length ≤ sizeLine) : wpAny (model prog w) A (binaryOp .Add (.ref t) (.ref b)) Q E s := by
  obtain ⟨⟨cls, dd, data, sl⟩, ho, hc, n, hd⟩ := id ht
  obtain ⟨⟨cls2, dd2, data2, sl2⟩, ho2, hc2, n2, hd2⟩ := id hb
  simp only at hc hd hc2 hd2
  subst hc hd hc2 hd2
  have e : vs.toArray ++ ws.toArray = (vs ++ ws).toArray := by simp
  by_cases hw : ws = []
  · exact concat_meets ⟨_, ho, rfl⟩ ⟨_, ho2, rfl⟩ noFill_tuple_add seq_tuple_add PySem.F.slot_tuple_add PySem.F.entry_tuple_add (PySem.F.args_tuple_add_2 _ _)
      (tuple_addW1 t b vs.toArray ws.toArray n n2 dd dd2 sl sl2 (by simpa using hv) (by simp [hw])) ⟨ho, ho2, h1 hw⟩
  · refine concat_meets ⟨_, ho, rfl⟩ ⟨_, ho2, rfl⟩ noFill_tuple_add seq_tuple_add PySem.F.slot_tuple_add PySem.F.entry_tuple_add (PySem.F.args_tuple_add_2 _ _)
      (tuple_addW2 t b vs.toArray ws.toArray n n2 dd dd2 sl sl2 (by simpa using hv) (by simpa using hw) (by rw [List.size_toArray, List.size_toArray]; exact hsz)) ⟨ho, ho2, ?_⟩
    rw [e]
    exact h2 hw
def sIx (n d : Nat) : Option Int → Nat
  | none => d
  | some v => if v < 0 then (v + (n : Int)).toNat else min v.toNat n
theorem sIx_none (n d : Nat) : sIx n d none = d := rfl
theorem sIx_nat (n d k : Nat) : sIx n d (some (k : Int)) = min k n := by
  show (if (k : Int) < 0 then ((k : Int) + (n : Int)).toNat else min (k : Int).toNat n) = min k n
  rw [if_neg (by omega), Int.toNat_natCast]
theorem qM7 (n d : Nat) (hd : d ≤ n) (o : Option Int) : sIx n d o ≤ n := by
  cases o with
  | none => exact hd
  | some v =>
    show (if v < 0 then (v + (n : Int)).toNat else min v.toNat n) ≤ n
    by_cases hv : v < 0
    · rw [if_pos hv]; omega
    · rw [if_neg hv]; exact Nat.min_le_right _ _
theorem qIn (v : Int) (n d : Nat) : (if v < 0 then max (v + (n : Int)) 0 else min v (n : Int)) = ((sIx n d (some v) : Nat) : Int) := by
  show (if v < 0 then max (v + (n : Int)) 0 else min v (n : Int)) = (((if v < 0 then (v + (n : Int)).toNat else min v.toNat n) : Nat) : Int)
  by_cases hv : v < 0
  · simp only [if_pos hv]; omega
  · simp only [if_neg hv]; omega
theorem qHc (lo hi : Option Int) (n : Nat) : Builtin.Slice.sliceAdjust lo hi 1 (n : Int) = (((sIx n 0 lo : Nat) : Int), ((sIx n n hi : Nat) : Int)) := by
  have h1 : ¬ ((1 : Int) < 0) := by omega
  unfold Builtin.Slice.sliceAdjust
  simp only [h1, if_false]
  refine Prod.ext ?_ ?_
  · cases lo with
    | none => rfl
    | some v => exact qIn v n 0
  · cases hi with
    | none => rfl
    | some v => exact qIn v n n
theorem qGp (i j : Nat) : Builtin.Slice.slicePlaces (i : Int) (j : Int) 1 = j - i := by
  unfold Builtin.Slice.slicePlaces
  have h1 : (1 : Int) > 0 := by omega
  simp only [h1, if_true, Int.ediv_one]
  split <;> omega
theorem qBd {v : Value} {o : Option Int} {Q : Option Int → Shared → Prop} (p : IsPart v o) (h : Q o s) : wpAny (model prog w) A (Builtin.Slice.slicePartIndex v) Q E s := by
  cases p with
  | none => exact slicePart_none h
  | int i t => exact slicePart_int h
theorem wF {sl : Addr} {vl vu : Value} {lo hi : Option Int} {n : Nat} {Q : Int × Int × Nat → Shared → Prop} (hs : s.heap.IsSliceOf sl vl vu .none) (pl : IsPart vl lo) (pu : IsPart vu hi)
    (h : Q (((sIx n 0 lo : Nat) : Int), 1, sIx n n hi - sIx n 0 lo) s) : wpAny (model prog w) A (Builtin.Slice.sliceApplied (.ref sl) (pure (n : Int))) Q E s := by
  obtain ⟨os, hos, hcs, hds⟩ := id hs
  unfold Builtin.Slice.sliceApplied Builtin.Slice.sliceFields
  refine wpAny_bind (wpAny_bind (wpAny_field hos hds (x := vl) rfl (wpAny_bind (wpAny_field hos hds (x := vu) rfl (wpAny_bind (wpAny_field hos hds (x := .none) rfl (wpAny_pure ?_)))))))
  refine wpAny_bind (slicePart_none ?_)
  show wpAny _ _ (if ((1 : Int) == 0) = true then _ else _) _ _ s
  rw [if_neg (by decide)]
  refine wpAny_bind (qBd pl (wpAny_bind (qBd pu (wpAny_bind (wpAny_pure ?_)))))
  show wpAny _ _ (match Builtin.Slice.sliceAdjust lo hi 1 (n : Int) with | (lo, hi) => pure (lo, (1 : Int), Builtin.Slice.slicePlaces lo hi 1)) _ _ s
  rw [qHc lo hi n]
  show wpAny _ _ (pure (((sIx n 0 lo : Nat) : Int), (1 : Int), Builtin.Slice.slicePlaces ((sIx n 0 lo : Nat) : Int) ((sIx n n hi : Nat) : Int) 1)) _ _ s
  rw [qGp]
  exact wpAny_pure h
theorem qJ4 (xs : Array Value) (i k : Nat) : ((List.range k).filterMap fun (m : Nat) => xs[((i : Int) + (m : Int) * 1).toNat]?).toArray = ((xs.toList.drop i).take k).toArray := by
  have e : (fun (m : Nat) => xs[((i : Int) + (m : Int) * 1).toNat]?) = fun m => xs[i + m]? := by
    funext m
    have : ((i : Int) + (m : Int) * 1).toNat = i + m := by omega
    rw [this]
  rw [e]
  have := pick_run xs i k
  rw [List.filterMap_map] at this
  have e2 : ((fun x => xs[x]?) ∘ fun x => i + x) = fun m => xs[i + m]? := rfl
  rw [e2] at this
  rw [this]
theorem getItem_tuple_cut {t sl : Addr} {items : Array Value} {vl vu : Value} {lo hi : Option Int} {Q : Value → Shared → Prop} (ht : IsTup s.heap t items) (hs : s.heap.IsSliceOf sl vl vu .none) (pl : IsPart vl lo) (pu : IsPart vu hi)
    (hw : ¬ (sIx items.size 0 lo = 0 ∧ sIx items.size items.size hi = items.size))
    (h : Q (.ref s.heap.objs.size) { s with heap := s.heap.push { cls := .type "tuple", data := .seq ((items.toList.drop (sIx items.size 0 lo)).take (sIx items.size items.size hi - sIx items.size 0 lo)).toArray } })
    (hsz : items.size ≤ sizeLine) : wpAny (model prog w) A (getItem (.ref t) (.ref sl)) Q E s := by
  have htake : sizeOk (.seq ((items.toList.drop (sIx items.size 0 lo)).take (sIx items.size items.size hi - sIx items.size 0 lo)).toArray) := by
    show ((items.toList.drop (sIx items.size 0 lo)).take (sIx items.size items.size hi - sIx items.size 0 lo)).toArray.size ≤ sizeLine
    rw [List.size_toArray, List.length_take, List.length_drop, Array.length_toList]
    omega
  have hj : sIx items.size items.size hi ≤ items.size := qM7 _ _ (Nat.le_refl _) hi
  obtain ⟨os, hos, hcs, hds⟩ := id hs
  have hTs : s.TypeIs (.ref sl) "slice" := ⟨os, hos, hcs⟩
  unfold getItem
  try with_reducible refine wpAny_holding ?_
  first | refine wpAny_bind (wpAny_pure ?_) | skip
  refine wpAny_bind (wpAny_sequenceKey ht.typeIs (by decide) ?_)
  refine wpAny_bind (wpAny_callSpecial?_slot (name := Str.ofString "__getitem__") ht.typeIs PyProof.Rows.slot_tuple_getitem
    (wpAny_call_entry PyProof.Rows.slot_tuple_getitem ht.typeIs entry_tuple_getitem ?_ (args_tuple_getitem _ _)))
  show wpAny _ _ (Builtin.Tuple.tupleItemsOf (.ref t) >>= _) _ _ s
  refine wpAny_bind (tupleItemsOf_ ht ?_)
  refine wpAny_bind (wpAny_typeOf hTs ?_)
  rw [if_pos (by decide)]
  refine wpAny_bind (wF hs pl pu ?_)
  have hno : ¬ ((((sIx items.size 0 lo : Nat) : Int) == 0 && (1 : Int) == 1 && (sIx items.size items.size hi - sIx items.size 0 lo) == items.size) = true) := by
    intro q
    rw [Bool.and_eq_true, Bool.and_eq_true] at q
    have q1 : ((sIx items.size 0 lo : Nat) : Int) = 0 := eq_of_beq q.1.1
    have q2 : sIx items.size items.size hi - sIx items.size 0 lo = items.size := eq_of_beq q.2
    exact hw ⟨by omega, by omega⟩
  show wpAny _ _ (if (((sIx items.size 0 lo : Nat) : Int) == 0 && (1 : Int) == 1 && (sIx items.size items.size hi - sIx items.size 0 lo) == items.size) = true then _ else _) _ _ s
  rw [if_neg hno, qJ4]
  first
    | exact wpAny_bind (m := Builtin.Tuple.tupleExact _) (wpAny_newObj_type (wpAny_pure ⟨_, rfl, wpAny_pure h⟩) htake)
    | exact wpAny_bind (m := Builtin.Tuple.tupleExact _) (wpAny_newObj_type (wpAny_bind (wpAny_pure (wpAny_pure ⟨_, rfl, wpAny_pure h⟩))) htake)
    | exact wpAny_bind (wpAny_bind (m := Builtin.Tuple.tupleExact _) (wpAny_newObj_type (wpAny_pure (wpAny_pure ⟨_, rfl, wpAny_pure h⟩)) htake))
    | exact wpAny_bind (wpAny_bind (m := Builtin.Tuple.tupleExact _) (wpAny_newObj_type (wpAny_pure ⟨_, rfl, wpAny_pure h⟩) htake))
end
end HT
namespace L2
open PySem PySem.Spec PyProof.Rows
abbrev TO := St → Hp → (Option Int → Hp → Prop) → Prop
def PO (X : Cx) (e : Option Expr) (t : TO) : Prop :=
  ∀ (pins : List (Addr × Obj)) (s : Shared) (σ : St) (H : Hp) (Q : Option Int → Hp → Prop), Inv X pins σ H s → t σ H Q →
    wpAny (model X.prog X.w) X.A (evalPart e X.env) (fun u s' => ∃ o H', Inv X pins σ H' s' ∧ IsPart u o ∧ Q o H') X.xe s
def qMd : TO := fun _ H Q => Q none H
def qOs (t : TE) : TO := fun σ H Q => t σ H fun x H1 => ∃ i, x = .int i ∧ Q (some i) H1
section
variable {X : Cx} {e : Expr} {te : TE} {lo hi : Option Expr} {tl th : TO} {pos p2 : Pos}
theorem x6 : PO X none qMd := by
  intro pins s σ H Q I h
  rw [evalPart_none]
  exact wpAny_pure ⟨none, H, I, .none, h⟩
theorem xn (h : PE X e te) : PO X (some e) (qOs te) := by
  intro pins s σ H Q I hw
  rw [evalPart_some]
  refine thn (h pins s σ H _ I hw) fun u s1 ⟨x, H1, I1, r1, q1⟩ => ?_
  obtain ⟨i, rfl, q⟩ := q1
  obtain ⟨t, rfl⟩ := r1
  exact ⟨some i, H1, I1, .int i t, q⟩
def SlR (X : Cx) (r : V → Option Int → Option Int → Hp → VK → Prop) : Prop :=
  ∀ (pins : List (Addr × Obj)) (s : Shared) (σ : St) (H : Hp) (x : V) (v vl vu : Value) (lo hi : Option Int) (sl : Addr) (Q : VK), Inv X pins σ H s → RelV x v → s.heap.IsSliceOf sl vl vu .none → IsPart vl lo → IsPart vu hi → r x lo hi H Q →
    ∃ T id, typeLookup (.type T) "__getitem__" = pure (some (.builtin id)) ∧ s.TypeIs v T ∧ wpAny (model X.prog X.w) X.A (getItem v (.ref sl)) (EP X pins σ Q) X.xe s
theorem SlR.or {r r' : V → Option Int → Option Int → Hp → VK → Prop} (h : SlR X r) (h' : SlR X r') : SlR X (fun x lo hi H Q => r x lo hi H Q ∨ r' x lo hi H Q) := by
  intro pins s σ H x v vl vu lo hi sl Q I rx hs pl pu q
  rcases q with q | q
  · exact h pins s σ H x v vl vu lo hi sl Q I rx hs pl pu q
  · exact h' pins s σ H x v vl vu lo hi sl Q I rx hs pl pu q
def tSl (r : V → Option Int → Option Int → Hp → VK → Prop) (te : TE) (tl th : TO) : TE := fun σ H Q => te σ H fun x H1 => tl σ H1 fun l H2 => th σ H2 fun u H3 => r x l u H3 Q
theorem j6 {r : V → Option Int → Option Int → Hp → VK → Prop} (hr : SlR X r) (he : PE X e te) (hl : PO X lo tl) (hu : PO X hi th) : PE X (.Subscript e (.Slice lo hi none p2) pos) (tSl r te tl th) := by
  intro pins s σ H Q I h
  refine Subscript_ (thn (he pins s σ H _ I h) fun v s1 ⟨x, H1, I1, r1, q1⟩ => ?_)
  refine wpAny_Slice (thn (hl pins s1 σ H1 _ I1 q1) fun vl s2 ⟨l, H2, I2, pl, q2⟩ => thn (hu pins s2 σ H2 _ I2 q2) fun vu s3 ⟨u, H3, I3, pu, q3⟩ => ?_)
  rw [evalPart_none]
  refine wpAny_pure ?_
  have I4 : Inv X pins σ H3 { s3 with heap := s3.heap.push { cls := .type "slice", data := .fields #[vl, vu, .none] } } := I3.kept (t' := s3.toks) fun b ob q => Heap.get?_push_of_some _ q
  obtain ⟨T, id, hT, ht, hg⟩ := hr pins { s3 with heap := s3.heap.push { cls := .type "slice", data := .fields #[vl, vu, .none] } } σ H3 x v vl vu l u s3.heap.objs.size Q I4 r1 (Heap.IsSliceOf.new ..) pl pu q3
  show wpAny (model X.prog X.w) X.A (subscriptTail e (.Slice lo hi none p2) v (.ref s3.heap.objs.size)) (EP X pins σ Q) X.xe { s3 with heap := s3.heap.push { cls := .type "slice", data := .fields #[vl, vu, .none] } }
  exact tail_any (ops := [.ref s3.heap.objs.size, v]) ht hT hg (by with_unfolding_all rfl)
def zd (xs : List V) (lo hi : Option Int) : List V := (xs.drop (HT.sIx xs.length 0 lo)).take (HT.sIx xs.length xs.length hi - HT.sIx xs.length 0 lo)
theorem kF (xs : List V) (lo hi : Option Int) : (zd xs lo hi).length ≤ xs.length := by
  unfold zd
  rw [List.length_take, List.length_drop]
  omega
def qPn (K : PySem.W.Frag) : V → Option Int → Option Int → Hp → VK → Prop := fun x lo hi H Q => ∃ a xs, x = .ref a ∧ SqT K H a xs ∧
  ¬ (HT.sIx xs.length 0 lo = 0 ∧ HT.sIx xs.length xs.length hi = xs.length) ∧ ∀ p, H p = none → Q (.ref p) (upd H p (.tup (zd xs lo hi)))
theorem qKw : SlR X (qPn X.K) := by
  intro pins s σ H x v vl vu lo hi sl Q I rx hs pl pu h
  obtain ⟨a, xs, rfl, hx, hw, q⟩ := h
  cases rx
  obtain ⟨its, r, ht, hz⟩ := I.tuple hx
  have hlen : its.toArray.size = xs.length := by rw [List.size_toArray]; exact r.length.symm
  refine ⟨"tuple", _, PyProof.Rows.slot_tuple_getitem.lookup, ht.typeIs, ?_⟩
  refine HT.getItem_tuple_cut ht hs pl pu (by rw [hlen]; exact hw) ?_ (by rw [hlen]; exact hz)
  rw [hlen]
  refine ⟨.ref s.heap.objs.size, _, I.laid (t' := s.toks) (o := .tup (zd xs lo hi)) (fun b ob q => Heap.get?_push_of_some _ q) (Nat.le_refl _) ?_, rfl, q _ (I.hok.fresh (Nat.le_refl _))⟩
  exact ⟨Nat.le_trans (kF xs lo hi) hz, _, (r.drop (HT.sIx xs.length 0 lo)).take (HT.sIx xs.length xs.length hi - HT.sIx xs.length 0 lo), IsTup.new _ _⟩
def qN8 (K : PySem.W.Frag) : R2 := fun x y H Q => ∃ a b xs ys, x = .ref a ∧ y = .ref b ∧ SqT K H a xs ∧ SqT K H b ys ∧ xs ≠ [] ∧ xs.length + ys.length ≤ sizeLine ∧
  (ys = [] → Q (.ref a) H) ∧ (ys ≠ [] → ∀ p, H p = none → Q (.ref p) (upd H p (.tup (xs ++ ys))))
theorem Vals.nil_iff {xs : List V} {us : List Value} (r : Vals xs us) : us = [] ↔ xs = [] := by
  cases r with
  | nil => simp
  | cons _ _ => simp
theorem qL1 : OpR X (binaryOp .Add) (qN8 X.K) := by
  intro pins s σ H x y v u Q I rx ry h
  obtain ⟨a, b, xs, ys, rfl, rfl, ha, hb, hx, hz, q1, q2⟩ := h
  cases rx
  cases ry
  obtain ⟨its, r1, p1, _⟩ := I.tuple ha
  obtain ⟨its2, r2, p2, _⟩ := I.tuple hb
  refine HT.cat_tup p1 p2 (fun z => hx (r1.nil_iff.mp z)) (fun z => ⟨.ref a, H, I, rfl, q1 (r2.nil_iff.mp z)⟩) (fun z => ?_) (by rw [← r1.length, ← r2.length]; exact hz)
  refine ⟨.ref s.heap.objs.size, _, I.laid (t' := s.toks) (o := .tup (xs ++ ys)) (fun b ob q => Heap.get?_push_of_some _ q) (Nat.le_refl _) ?_, rfl, q2 (fun w => z (r2.nil_iff.mpr w)) _ (I.hok.fresh (Nat.le_refl _))⟩
  exact ⟨by rw [List.length_append]; exact hz, _, r1.append r2, IsTup.new _ _⟩
end
end L2
namespace L2
open PySem PySem.Spec PyProof.Rows
def ixN (n : Nat) (i : Int) : Option Nat := if 0 ≤ i then (if i < n then some i.toNat else none) else if -(n : Int) ≤ i then some (i + n).toNat else none
def atI {α : Type} (xs : List α) (i : Int) : Option α := (ixN xs.length i).bind fun j => xs[j]?
theorem qIb {n : Nat} {i : Int} {j : Nat} (h : ixN n i = some j) : seqIndex? i n = some j ∧ j < n ∧ -(n : Int) ≤ i ∧ i < n := by
  unfold ixN at h
  by_cases h0 : 0 ≤ i
  · rw [if_pos h0] at h
    by_cases h1 : i < n
    · rw [if_pos h1] at h
      have e : i.toNat = j := Option.some.inj h
      exact ⟨by rw [seqIndex_of h0 h1, e], by omega, by omega, h1⟩
    · rw [if_neg h1] at h; cases h
  · rw [if_neg h0] at h
    by_cases h1 : -(n : Int) ≤ i
    · rw [if_pos h1] at h
      have e : (i + n).toNat = j := Option.some.inj h
      exact ⟨by rw [seqIndex_neg (by omega) h1, e], by omega, h1, by omega⟩
    · rw [if_neg h1] at h; cases h
theorem qIu {α : Type} {xs : List α} {i : Int} {v : α} (h : atI xs i = some v) : ∃ j, seqIndex? i xs.length = some j ∧ xs[j]? = some v ∧ j < xs.length ∧ -(xs.length : Int) ≤ i ∧ i < xs.length := by
  unfold atI at h
  cases e : ixN xs.length i with
  | none => rw [e] at h; cases h
  | some j =>
    rw [e] at h
    obtain ⟨h1, h2, h3, h4⟩ := qIb e
    exact ⟨j, h1, h, h2, h3, h4⟩
theorem qq {α : Type} {xs : List α} {j : Nat} {v : α} (h : xs[j]? = some v) : atI xs (j : Int) = some v := by
  have hj : j < xs.length := (List.getElem?_eq_some_iff.mp h).1
  have e : ixN xs.length (j : Int) = some j := by
    unfold ixN
    rw [if_pos (by omega), if_pos (by omega)]; simp
  unfold atI; rw [e]; exact h
def qLi (b : Expr) : Prop := ∀ o i, subscripted b false o i = operate [o, i] (getItem o i)
def IxR (X : Cx) (r : R2) : Prop :=
  ∀ (value slice : Expr) (pins : List (Addr × Obj)) (s : Shared) (σ : St) (H : Hp) (x y : V) (v u : Value) (Q : VK), Inv X pins σ H s → RelV x v → RelV y u → r x y H Q →
    subscripted slice false v u = operate [v, u] (getItem v u) → wpAny (model X.prog X.w) X.A (subscriptTail value slice v u) (EP X pins σ Q) X.xe s
def MtR (X : Cx) (id : String) (r : V → List V → Hp → VK → Prop) : Prop :=
  ∀ (pins : List (Addr × Obj)) (s : Shared) (σ : St) (H : Hp) (x : V) (xs : List V) (v : Value) (us : List Value) (Q : VK), Inv X pins σ H s → RelV x v → Vals xs us → r x xs H Q →
    wpAny (model X.prog X.w) X.A (call (.builtin id) (v :: us)) (EP X pins σ Q) X.xe s
section
variable {X : Cx} {a b : Expr} {ta tb : TE} {pos : Pos}
theorem IxR.or {r r' : R2} (h : IxR X r) (h' : IxR X r') : IxR X (fun x y H Q => r x y H Q ∨ r' x y H Q) := by
  intro value slice pins s σ H x y v u Q I rx ry q hs
  rcases q with q | q
  · exact h value slice pins s σ H x y v u Q I rx ry q hs
  · exact h' value slice pins s σ H x y v u Q I rx ry q hs
theorem MtR.or {id : String} {r r' : V → List V → Hp → VK → Prop} (h : MtR X id r) (h' : MtR X id r') : MtR X id (fun x xs H Q => r x xs H Q ∨ r' x xs H Q) := by
  intro pins s σ H x xs v us Q I rx rs q
  rcases q with q | q
  · exact h pins s σ H x xs v us Q I rx rs q
  · exact h' pins s σ H x xs v us Q I rx rs q
theorem qJ {r : R2} (hr : IxR X r) (ha : PE X a ta) (hb : PE X b tb) (hs : qLi b) : PE X (.Subscript a b pos) (tOp r ta tb) := by
  intro pins s σ H Q I h
  exact Subscript_ (qOd ha hb I h fun v u s2 x y H2 I2 rx ry q => hr a b pins s2 σ H2 x y v u Q I2 rx ry q (hs _ _))
def qNr (K : PySem.W.Frag) : R2 := fun x y H Q => ∃ p xs i v, x = .ref p ∧ y = .int i ∧ SqL K H p xs ∧ atI xs i = some v ∧ Q v H
def qNt (K : PySem.W.Frag) : R2 := fun x y H Q => ∃ p xs i v, x = .ref p ∧ y = .int i ∧ SqT K H p xs ∧ atI xs i = some v ∧ Q v H
theorem qm : IxR X (qNr X.K) := by
  intro value slice pins s σ H x y v u Q I rx ry h hs
  obtain ⟨p, xs, i, z, rfl, rfl, hq, he, q⟩ := h
  cases rx
  obtain ⟨t, rfl⟩ := ry
  obtain ⟨its, r, pl, hz⟩ := I.list hq
  obtain ⟨j, h1, h2, h3, h4, h5⟩ := qIu he
  obtain ⟨w, ew, rw'⟩ := r.get h2
  have hl := r.length
  have hn := qDf
  have fin : EP X pins σ Q w s := ⟨z, H, I, rw', q⟩
  by_cases h0 : 0 ≤ i
  · have hj : i.toNat = j := by
      rw [seqIndex_of h0 h5] at h1
      exact Option.some.inj h1
    exact item_listR pl.isList h0 (by omega) (by rw [hj]; simpa using ew) fin hs
  · have hj : (i + (its.toArray.size : Int)).toNat = j := by
      rw [seqIndex_neg (by omega) h4] at h1
      rw [List.size_toArray, ← hl]
      exact Option.some.inj h1
    exact subscriptTail_builtinR (x := w) pl.isList.typeIs slot_list_getitem.lookup
      (wpAny_getItem_list_neg (Q := fun r s' => r = w ∧ EP X pins σ Q r s') pl.isList (by omega) (by rw [List.size_toArray] <;> omega) (by omega) (by rw [hj]; simpa using ew) ⟨rfl, fin⟩) hs
theorem qH : IxR X (qNt X.K) := by
  intro value slice pins s σ H x y v u Q I rx ry h hs
  obtain ⟨p, xs, i, z, rfl, rfl, hq, he, q⟩ := h
  cases rx
  obtain ⟨t, rfl⟩ := ry
  obtain ⟨its, r, pl, hz⟩ := I.tuple hq
  obtain ⟨j, h1, h2, h3, h4, h5⟩ := qIu he
  obtain ⟨w, ew, rw'⟩ := r.get h2
  have hl := r.length
  have hn := qDf
  have fin : EP X pins σ Q w s := ⟨z, H, I, rw', q⟩
  exact subscriptTail_builtinR (x := w) pl.typeIs slot_tuple_getitem.lookup
    (getItem_tuple (j := j) (Q := fun r s' => r = w ∧ EP X pins σ Q r s') pl (by omega) (by omega) (by rw [List.size_toArray, ← hl]; exact h1) (by simpa using ew) ⟨rfl, fin⟩) hs
theorem qG8 (its : List Value) (n j : Nat) (u : Value) : Obj.mapSeq (·.setIfInBounds j u) { cls := .type "list", data := .seq its.toArray n } = { cls := .type "list", data := .seq (its.set j u).toArray n } := by
  simp [Obj.mapSeq]
theorem Inv.lst {pins : List (Addr × Obj)} {σ : St} {H : Hp} {s : Shared} {p : Addr} {xs : List V} (I : Inv X pins σ H s) (h : H p = some (.lst xs)) :
    ∃ (its : List Value) (n : Nat), Vals xs its ∧ s.heap.get? p = some { cls := .type "list", data := .seq its.toArray n } ∧ xs.length ≤ sizeLine := by
  obtain ⟨z, its, n, r, e⟩ := I.hok p _ h
  exact ⟨its, n, r, e, z⟩
theorem Inv.lstUpd {pins : List (Addr × Obj)} {σ : St} {H : Hp} {s : Shared} {p : Addr} {xs ys : List V} {its its' : List Value} {n n' : Nat} {f : Obj → Obj} (I : Inv X pins σ H s) (h : H p = some (.lst xs))
    (ho : s.heap.get? p = some { cls := .type "list", data := .seq its.toArray n }) (hf : f { cls := .type "list", data := .seq its.toArray n } = { cls := .type "list", data := .seq its'.toArray n' }) (r : Vals ys its') (hz : ys.length ≤ sizeLine) (t : Nat) :
    Inv X pins σ (upd H p (.lst ys)) { s with heap := s.heap.update p f, toks := t } := by
  have e : (s.heap.update p f).get? p = some { cls := .type "list", data := .seq its'.toArray n' } := by
    rw [Heap.get?_update_self f ho (by rw [hf] <;> rfl), hf]
  refine I.write (x := p) (e := p) (by rw [h]; trivial) (.inl rfl) (fun b u hb q => (Heap.get?_update_other _ _ (Ne.symm hb)).trans q) ⟨_, e⟩ ?_
  exact ⟨hz, its', n', r, e⟩
def qOw : V → V → V → Hp → (Hp → Prop) → Prop := fun o i v H Q => ∃ p xs k j, o = .ref p ∧ i = .int k ∧ H p = some (.lst xs) ∧ ixN xs.length k = some j ∧ Q (upd H p (.lst (xs.set j v)))
theorem vU : qO7 X qOw := by
  intro pins s σ H o i v ov iv u Q I ro ri rv h
  obtain ⟨p, xs, k, j, rfl, rfl, hp, hj, q⟩ := h
  cases ro
  obtain ⟨t, rfl⟩ := ri
  obtain ⟨its, n, r, ho, hz⟩ := I.lst hp
  obtain ⟨h1, h2, h3, h4⟩ := qIb hj
  have hl := r.length
  have hn := qDf
  have I' : Inv X pins σ (upd H p (.lst (xs.set j v))) { s with heap := s.heap.update p (Obj.mapSeq (·.setIfInBounds j u)) } :=
    I.lstUpd hp ho (qG8 its n j u) (r.set rv j) (by rw [List.length_set]; exact hz) s.toks
  by_cases h0 : 0 ≤ k
  · have hk : k.toNat = j := by
      rw [seqIndex_of h0 h4] at h1
      exact Option.some.inj h1
    exact PySem.W.ki_setAt ho h0 (by omega) (by rw [List.size_toArray, ← hl]; exact h4) (by rw [hk]; exact ⟨_, I', q⟩)
  · have hk : (k + (its.toArray.size : Int)).toNat = j := by
      rw [seqIndex_neg (by omega) h3] at h1
      rw [List.size_toArray, ← hl]
      exact Option.some.inj h1
    exact PySem.W.ki_setBack ho (by omega) (by rw [List.size_toArray, ← hl]; exact h3) (by omega) (by rw [hk]; exact ⟨_, I', q⟩)
theorem qDy (lo hi : Option Int) (n : Nat) : (sliceBounds lo hi none n).1 = ((HT.sIx n 0 lo : Nat) : Int) ∧ (sliceBounds lo hi none n).2.1 = ((HT.sIx n n hi : Nat) : Int) ∧ (sliceBounds lo hi none n).2.2 = 1 := by
  refine ⟨?_, ?_, rfl⟩
  · cases lo with
    | none => simp [sliceBounds, HT.sIx]
    | some i =>
      simp only [sliceBounds, HT.sIx, Option.getD_none, show (1 : Int) > 0 by decide, if_true]
      by_cases h : i < 0
      · simp only [h, if_true] <;> omega
      · simp only [h, if_false] <;> omega
  · cases hi with
    | none => simp [sliceBounds, HT.sIx]
    | some i =>
      simp only [sliceBounds, HT.sIx, Option.getD_none, show (1 : Int) > 0 by decide, if_true]
      by_cases h : i < 0
      · simp only [h, if_true] <;> omega
      · simp only [h, if_false] <;> omega
theorem qBz (its : List Value) (lo hi : Option Int) : slicePick its.toArray lo hi none = ((its.drop (HT.sIx its.length 0 lo)).take (HT.sIx its.length its.length hi - HT.sIx its.length 0 lo)).toArray := by
  obtain ⟨h1, h2, h3⟩ := qDy lo hi its.toArray.size
  unfold slicePick
  rw [h1, h2, h3]
  simp only [sliceRange_one, pick_run, List.size_toArray] <;> rfl
def qPc (K : PySem.W.Frag) : V → Option Int → Option Int → Hp → VK → Prop := fun x lo hi H Q => ∃ a xs, x = .ref a ∧ SqL K H a xs ∧ ∀ p, H p = none → Q (.ref p) (upd H p (.lst (zd xs lo hi)))
theorem zf : SlR X (qPc X.K) := by
  intro pins s σ H x v vl vu lo hi sl Q I rx hs pl pu h
  obtain ⟨a, xs, rfl, hx, q⟩ := h
  cases rx
  obtain ⟨its, r, ht, hz⟩ := I.list hx
  have hlen := r.length
  refine ⟨"list", _, slot_list_getitem.lookup, ht.isList.typeIs, ?_⟩
  refine wpAny_getItem_list_slice ht.isList hs pl pu .none (by simp) ?_ (by rw [List.size_toArray] <;> omega)
  rw [qBz, ← hlen]
  refine ⟨.ref s.heap.objs.size, _, I.laid (t' := s.toks) (o := .lst (zd xs lo hi)) (fun b ob q => Heap.get?_push_of_some _ q) (Nat.le_refl _) ?_, rfl, q _ (I.hok.fresh (Nat.le_refl _))⟩
  exact ⟨Nat.le_trans (kF xs lo hi) hz, _, 0, (r.drop (HT.sIx xs.length 0 lo)).take (HT.sIx xs.length xs.length hi - HT.sIx xs.length 0 lo), Heap.get?_push_size _ rfl⟩
def zL : V → Bool
  | .non => true
  | .bl _ => true
  | .int _ => true
  | .str _ => true
  | _ => false
def eqV : V → V → Bool
  | .non, .non => true
  | .bl a, .bl b => a == b
  | .bl a, .int b => (if a then 1 else 0) == b
  | .int a, .bl b => a == (if b then 1 else 0)
  | .int a, .int b => a == b
  | .str a, .str b => a == b
  | _, _ => false
theorem qDd {A : Around} {s : Shared} {y x : V} {u v : Value} (ry : RelV y u) (rx : RelV x v) (fy : zL y = true) (fx : zL x = true) : SeqAt.EqAt A s u v (eqV y x) := by
  cases y with
  | non =>
    cases ry
    cases x with
    | non => cases rx; exact SeqAt.EqAt.same _
    | bl b => cases rx; exact SeqAt.EqAt.none_bool b
    | int b => obtain ⟨t, rfl⟩ := rx; exact SeqAt.EqAt.none_int b t
    | str b => obtain ⟨t, rfl⟩ := rx; exact SeqAt.EqAt.none_str b t
    | _ => exact absurd (show false = true from fx) Bool.false_ne_true
  | bl a =>
    cases ry
    cases x with
    | non => cases rx; exact SeqAt.EqAt.bool_none a
    | bl b => cases rx; exact SeqAt.EqAt.bool_bool a b
    | int b => obtain ⟨t, rfl⟩ := rx; exact SeqAt.EqAt.bool_int a b t
    | str b => obtain ⟨t, rfl⟩ := rx; exact SeqAt.EqAt.bool_str a b t
    | _ => exact absurd (show false = true from fx) Bool.false_ne_true
  | int a =>
    obtain ⟨t', rfl⟩ := ry
    cases x with
    | non => cases rx; exact SeqAt.EqAt.int_none a t'
    | bl b => cases rx; exact SeqAt.EqAt.int_bool a t' b
    | int b => obtain ⟨t, rfl⟩ := rx; exact SeqAt.EqAt.int_int a t' b t
    | str b => obtain ⟨t, rfl⟩ := rx; exact SeqAt.EqAt.int_str a t' b t
    | _ => exact absurd (show false = true from fx) Bool.false_ne_true
  | str a =>
    obtain ⟨t', rfl⟩ := ry
    cases x with
    | non => cases rx; exact SeqAt.EqAt.str_none a t'
    | bl b => cases rx; exact SeqAt.EqAt.str_bool a t' b
    | int b => obtain ⟨t, rfl⟩ := rx; exact SeqAt.EqAt.str_int a t' b t
    | str b => obtain ⟨t, rfl⟩ := rx; exact SeqAt.EqAt.str_str a t' b t
    | _ => exact absurd (show false = true from fx) Bool.false_ne_true
  | _ => exact absurd (show false = true from fy) Bool.false_ne_true
def eqU (x : V) (u : Value) : Bool := match u with
  | .none => eqV .non x
  | .bool b => eqV (.bl b) x
  | .int i _ => eqV (.int i) x
  | .str z _ => eqV (.str z) x
  | _ => false
theorem qK7 {x y : V} {u : Value} (r : RelV y u) (f : zL y = true) : eqU x u = eqV y x := by
  cases y with
  | non => cases r; rfl
  | bl b => cases r; rfl
  | int i => obtain ⟨t, rfl⟩ := r; rfl
  | str z => obtain ⟨t, rfl⟩ := r; rfl
  | _ => exact absurd (show false = true from f) Bool.false_ne_true
theorem qAt {x : V} : ∀ {xs : List V} {us : List Value}, Vals xs us → xs.all zL = true → us.any (eqU x) = xs.any fun y => eqV y x
  | _, _, .nil, _ => rfl
  | y :: xs, u :: us, .cons r t, f => by
    rw [List.all_cons, Bool.and_eq_true] at f
    rw [List.any_cons, List.any_cons, qK7 r f.1, qAt t f.2]
theorem vV {A : Around} {s : Shared} {x : V} {v : Value} (rx : RelV x v) (fx : zL x = true) : ∀ {xs : List V} {us : List Value}, Vals xs us → xs.all zL = true → ∀ u ∈ us, SeqAt.EqAt A s u v (eqU x u)
  | _, _, .nil, _ => fun u hu => by cases hu
  | y :: xs, u :: us, .cons r t, f => fun u' hu => by
    rw [List.all_cons, Bool.and_eq_true] at f
    rcases List.mem_cons.mp hu with rfl | hu
    · rw [qK7 r f.1]; exact qDd r rx f.1 fx
    · exact vV rx fx t f.2 u' hu
def inV (x : V) (xs : List V) : Bool := xs.any fun y => eqV y x
def rIn (K : PySem.W.Frag) (neg : Bool) : R2 := fun x y H Q => ∃ p xs, y = .ref p ∧ (SqL K H p xs ∨ SqT K H p xs) ∧ zL x = true ∧ xs.all zL = true ∧ Q (.bl (if neg then !inV x xs else inV x xs)) H
theorem ja : OpR X (compareOp .In) (rIn X.K false) := by
  intro pins s σ H x y v u Q I rx ry h
  obtain ⟨p, xs, rfl, hq, fx, fs, q⟩ := h
  cases ry
  rcases hq with hq | hq
  · obtain ⟨its, r, pl, hz⟩ := I.list hq
    refine SeqAt.in_listAt (eqU x) pl.isList (fun w hw => vV rx fx r fs w (by simpa using hw)) ⟨.bl _, H, I, rfl, ?_⟩
    rw [show its.toArray.any (eqU x) = its.any (eqU x) by simp, qAt r fs]
    exact q
  · obtain ⟨its, r, pl, hz⟩ := I.tuple hq
    refine SeqAt.in_tupleAt (eqU x) pl (fun w hw => vV rx fx r fs w (by simpa using hw)) ⟨.bl _, H, I, rfl, ?_⟩
    rw [show its.toArray.any (eqU x) = its.any (eqU x) by simp, qAt r fs]
    exact q
theorem kM : OpR X (compareOp .NotIn) (rIn X.K true) := by
  intro pins s σ H x y v u Q I rx ry h
  obtain ⟨p, xs, rfl, hq, fx, fs, q⟩ := h
  cases ry
  rcases hq with hq | hq
  · obtain ⟨its, r, pl, hz⟩ := I.list hq
    refine SeqAt.notIn_listAt (eqU x) pl.isList (fun w hw => vV rx fx r fs w (by simpa using hw)) ⟨.bl _, H, I, rfl, ?_⟩
    rw [show its.toArray.any (eqU x) = its.any (eqU x) by simp, qAt r fs]
    exact q
  · obtain ⟨its, r, pl, hz⟩ := I.tuple hq
    refine SeqAt.notIn_tupleAt (eqU x) pl (fun w hw => vV rx fx r fs w (by simpa using hw)) ⟨.bl _, H, I, rfl, ?_⟩
    rw [show its.toArray.any (eqU x) = its.any (eqU x) by simp, qAt r fs]
    exact q
theorem j9 : CallR X (.builtin "len") (fun xs H Q => ∃ p ys, xs = [.ref p] ∧ (SqL X.K H p ys ∨ SqT X.K H p ys) ∧ Q (.int ys.length) H) := by
  intro pins s σ H xs us Q I r h
  obtain ⟨p, ys, rfl, hq, q⟩ := h
  obtain ⟨u, rfl, rx⟩ := qFq r
  cases rx
  have hn := qDf
  rcases hq with hq | hq
  · obtain ⟨its, r', pl, hz⟩ := I.list hq
    have hlen := r'.length
    exact Calls.call_len_list pl.isList (by simp only [List.size_toArray] <;> omega) ⟨.int ys.length, H, I.tok _, ⟨s.toks + 1, by rw [List.size_toArray, hlen]⟩, q⟩
  · obtain ⟨its, r', pl, hz⟩ := I.tuple hq
    have hlen := r'.length
    exact len_tuple pl (by simp only [List.size_toArray] <;> omega) ⟨.int ys.length, H, I.tok _, ⟨s.toks + 1, by rw [List.size_toArray, hlen]⟩, q⟩
theorem vx : CallR X (.builtin "len") (fun xs H Q => ∃ z, xs = [.str z] ∧ z.length ≤ sizeLine ∧ Q (.int z.length) H) := by
  intro pins s σ H xs us Q I r h
  obtain ⟨z, rfl, hz, q⟩ := h
  obtain ⟨u, rfl, t, rfl⟩ := qFq r
  have hn := qDf
  exact len_str (by omega) ⟨.int z.length, H, I.tok _, ⟨_, rfl⟩, q⟩
theorem CallR.or {f : Value} {r r' : List V → Hp → VK → Prop} (h : CallR X f r) (h' : CallR X f r') : CallR X f (fun xs H Q => r xs H Q ∨ r' xs H Q) := by
  intro pins s σ H xs us Q I rs q
  rcases q with q | q
  · exact h pins s σ H xs us Q I rs q
  · exact h' pins s σ H xs us Q I rs q
theorem zV : CallR X (.type "list") (fun xs H Q => ∃ p ys, xs = [.ref p] ∧ (SqL X.K H p ys ∨ SqT X.K H p ys) ∧ ∀ l, H l = none → Q (.ref l) (upd H l (.lst ys))) := by
  intro pins s σ H xs us Q I r h
  obtain ⟨p, ys, rfl, hq, q⟩ := h
  obtain ⟨u, rfl, rx⟩ := qFq r
  cases rx
  have fin : ∀ (its : List Value), Vals ys its → ys.length ≤ sizeLine → ∀ (h' : Heap) (c' : Nat), (∀ b o', s.heap.get? b = some o' → h'.get? b = some o') →
      h'.get? s.heap.objs.size = some { cls := .type "list", dict := none, data := .seq its.toArray c', slots := #[] } → EP X pins σ Q (.ref s.heap.objs.size) { s with heap := h' } := fun its r' hz h' c' kp e =>
    ⟨.ref s.heap.objs.size, _, I.laid (t' := s.toks) kp (Nat.le_refl _) (show ObjOk X.prog X.w _ h' _ (.lst ys) from ⟨hz, its, c', r', e⟩), rfl, q _ (I.hok.fresh (Nat.le_refl _))⟩
  rcases hq with hq | hq
  · obtain ⟨its, r', pl, hz⟩ := I.list hq
    have hlen := r'.length
    obtain ⟨o, ho, hc, n, hd⟩ := pl.isList
    exact call_list_seq p (.inl rfl) ho hc hd (fun h' c' kp e => fin its r' hz h' c' kp e) (by simp only [List.size_toArray] <;> omega)
  · obtain ⟨its, r', pl, hz⟩ := I.tuple hq
    have hlen := r'.length
    obtain ⟨o, ho, hc, n, hd⟩ := pl
    exact call_list_seq p (.inr rfl) ho hc hd (fun h' c' kp e => fin its r' hz h' c' kp e) (by simp only [List.size_toArray] <;> omega)
def tyV (K : PySem.W.Frag) (T : String) (x : V) (H : Hp) : Prop := match x with
  | .str _ => T = "str"
  | .int _ => T = "int"
  | .ref p => (T = "list" ∧ ∃ xs, SqL K H p xs) ∨ (T = "tuple" ∧ ∃ o, K.lookup p = some o ∧ o.cls = .type "tuple" ∧ o.dict = none) ∨
      (T = "dict" ∧ ((∃ kvs, H p = some (.dK kvs)) ∨ ∃ kvs, H p = some (.dT kvs))) ∨ (T = "set" ∧ ∃ S n, H p = some (.set S n))
  | _ => False
theorem qKz {pins : List (Addr × Obj)} {σ : St} {H : Hp} {s : Shared} {T : String} {x : V} {v : Value} (I : Inv X pins σ H s) (r : RelV x v) (ty : tyV X.K T x H) :
    s.TypeIs v T ∧ ∀ a, v = .ref a → ∃ ob, s.heap.get? a = some ob ∧ ob.dict = none := by
  cases x with
  | str z =>
    obtain ⟨t, rfl⟩ := r
    cases (show T = "str" from ty)
    exact ⟨typeIs_str s z t, fun _ e => nomatch e⟩
  | int i =>
    obtain ⟨t, rfl⟩ := r
    cases (show T = "int" from ty)
    exact ⟨typeIs_int s i t, fun _ e => nomatch e⟩
  | ref p =>
    cases r
    rcases ty with ⟨rfl, xs, hq⟩ | ⟨rfl, o, hk, hc, hd⟩ | ⟨rfl, hk⟩ | ⟨rfl, S, n, hk⟩
    · obtain ⟨its, _, pl, _⟩ := I.list hq
      refine ⟨pl.isList.typeIs, fun a e => ?_⟩
      cases e
      obtain ⟨o, n, e, c, hd, _⟩ := pl
      exact ⟨o, e, hd⟩
    · refine ⟨⟨o, I.kIn p o hk, hc⟩, fun a e => ?_⟩
      cases e
      exact ⟨o, I.kIn _ o hk, hd⟩
    · have z : ∃ o, s.heap.get? p = some o ∧ o.ExactDict := by
        rcases hk with ⟨kvs, hk⟩ | ⟨kvs, hk⟩
        · obtain ⟨_, _, _, _, o, _, _, e, ex, _⟩ := I.hok p _ hk
          exact ⟨o, e, ex⟩
        · obtain ⟨_, _, _, _, o, _, _, e, ex, _⟩ := I.hok p _ hk
          exact ⟨o, e, ex⟩
      obtain ⟨o, e, ex⟩ := z
      refine ⟨⟨o, e, ex.1⟩, fun a e2 => ?_⟩
      cases e2
      exact ⟨o, e, ex.2.1⟩
    · obtain ⟨o, _, _, _, e, ex, _⟩ := I.hok p _ hk
      refine ⟨⟨o, e, ex.1⟩, fun a e2 => ?_⟩
      cases e2
      exact ⟨o, e, ex.2.1⟩
  | _ => exact False.elim ty
def qPx (K : PySem.W.Frag) (T : String) (r : V → List V → Hp → VK → Prop) (to : TE) : TE := fun σ H Q => to σ H fun x H1 => tyV K T x H1 ∧ r x [] H1 Q
def tBM (K : PySem.W.Frag) (T : String) (r : V → List V → Hp → VK → Prop) (to : TE) (t : TA) : TE := fun σ H Q => to σ H fun x H1 => tyV K T x H1 ∧ t σ H1 fun xs H2 => r x xs H2 Q
variable {o e : Expr} {es : List Expr} {to : TE} {t : TA} {name : Str} {apos cpos : Pos} {T id : String} {r : V → List V → Hp → VK → Prop}
theorem kI (pa : PlainAttrs T) (slot : Slot T name id) (hty : typeOf (.builtin id) = pure (.type "method_descriptor")) (hm : MtR X id r) (ho : PE X o to)
    (hbase : attributeBase o name X.env (eval o X.env) = eval o X.env := by rfl) (hline : (apos.endLine == cpos.line) = true := by rfl) : PE X (.Call (.Attribute o name apos) [] [] cpos) (qPx X.K T r to) := by
  intro pins s σ H Q I h
  refine wpAny_Call_method0_late hbase hline (thn (ho pins s σ H _ I h) fun v s1 ⟨x, H1, I1, r1, ty, q1⟩ => ?_)
  obtain ⟨h1, h2⟩ := qKz I1 r1 ty
  exact ⟨T, id, pa, slot, hty, h1, h2, Calls.callWith_builtin rfl (PySem.evalArgs_none (hm pins s1 σ H1 x [] v [] Q I1 r1 .nil q1))⟩
theorem vj (pa : PlainAttrs T) (slot : Slot T name id) (hty : typeOf (.builtin id) = pure (.type "method_descriptor")) (hm : MtR X id r) (ho : PE X o to) (ha : PA X (e :: es) t)
    (hbase : attributeBase o name X.env (eval o X.env) = eval o X.env := by rfl)
    (hfew : ((backTo cpos (starEach (e :: es) X.env)).all (fun x => !x.1) && (backToKw cpos (keywordEach [] X.env)).all (fun x => x.1.isSome)
      && decide ((e :: es).length + ([] : List Keyword).length + (if ([] : List Keyword).isEmpty then 0 else 1) < 30)) = true := by rfl)
    (hline : (apos.endLine == cpos.line) = true := by rfl) (hs : starEach (e :: es) X.env = (false, eval e X.env) :: starEach es X.env := by rfl) (hplain : (backTo cpos (starEach es X.env)).any (·.1) = false := by rfl) :
    PE X (.Call (.Attribute o name apos) (e :: es) [] cpos) (tBM X.K T r to t) := by
  intro pins s σ H Q I h
  refine wpAny_Call_method_late hbase hfew hline rfl (thn (ho pins s σ H _ I h) fun v s1 ⟨x, H1, I1, r1, ty, q1⟩ => ?_)
  obtain ⟨h1, h2⟩ := qKz I1 r1 ty
  refine ⟨T, id, pa, slot, hty, h1, h2, ?_⟩
  have hA := ha cpos pins s1 σ H1 _ I1 q1
  rw [hs] at hA ⊢
  refine Calls.callWith_builtin (by show (false || (backTo cpos (starEach es X.env)).any (·.1)) = false; rw [hplain] <;> rfl) (Calls.evalArgs_plain ?_)
  exact thn hA fun us s2 ⟨vs, H2, I2, r2, q2⟩ => hm pins s2 σ H2 x vs v us Q I2 r1 r2 q2
end
end L2
namespace L2
open PySem PySem.Spec PyProof.Rows
def MtM (X : Cx) (id : String) (r : V → List V → Hp → VK → Prop) : Prop :=
  ∀ (pins : List (Addr × Obj)) (s : Shared) (σ : St) (H : Hp) (x : V) (xs : List V) (v : Value) (us : List Value) (Q : VK), Inv X pins σ H s → RelV x v → Vals xs us → r x xs H Q →
    wpAny (model X.prog X.w) X.A (call (.builtin id) (v :: us)) (EP X pins σ Q) X.xe s
theorem Vals.one : ∀ {x : V} {us : List Value}, Vals [x] us → ∃ u, us = [u] ∧ RelV x u
  | _, _, .cons r .nil => ⟨_, rfl, r⟩
theorem Vals.two : ∀ {x y : V} {us : List Value}, Vals [x, y] us → ∃ u v, us = [u, v] ∧ RelV x u ∧ RelV y v
  | _, _, _, .cons r (.cons q .nil) => ⟨_, _, rfl, r, q⟩
theorem Vals.zero : ∀ {us : List Value}, Vals [] us → us = []
  | _, .nil => rfl
theorem Vals.dropLast {xs : List V} {us : List Value} (h : Vals xs us) : Vals xs.dropLast us.dropLast := by
  induction h with
  | nil => exact .nil
  | cons r t ih =>
    cases t with
    | nil => exact .nil
    | cons q t' => exact .cons r ih
theorem Vals.eraseIdx : ∀ {xs : List V} {us : List Value} (i : Nat), Vals xs us → Vals (xs.eraseIdx i) (us.eraseIdx i)
  | _, _, _, .nil => .nil
  | _, _, 0, .cons _ t => t
  | _, _, i + 1, .cons r t => .cons r (Vals.eraseIdx i t)
theorem Vals.reverse {xs : List V} {us : List Value} (h : Vals xs us) : Vals xs.reverse us.reverse := by
  induction h with
  | nil => exact .nil
  | cons r t ih => rw [List.reverse_cons, List.reverse_cons]; exact Vals.append ih (.cons r .nil)
theorem Vals.rep {xs : List V} {us : List Value} (h : Vals xs us) : ∀ k : Nat, Vals (List.replicate k xs).flatten (List.replicate k us).flatten
  | 0 => .nil
  | k + 1 => by
    rw [List.replicate_succ, List.replicate_succ, List.flatten_cons, List.flatten_cons]
    exact Vals.append h (Vals.rep h k)
theorem qG1 {α : Type} (l : List α) : l.eraseIdx (l.length - 1) = l.dropLast := by
  induction l with
  | nil => rfl
  | cons a r ih =>
    cases r with
    | nil => rfl
    | cons b r =>
      have e : (a :: b :: r).length - 1 = ((b :: r).length - 1) + 1 := by
        have h1 : (a :: b :: r).length = r.length + 2 := rfl
        have h2 : (b :: r).length = r.length + 1 := rfl
        omega
      rw [e, List.eraseIdx_cons_succ, ih]
      all_goals rfl
section
variable {X : Cx} {pins : List (Addr × Obj)} {σ : St} {H : Hp} {s : Shared} {l b : Addr} {xs ys zs : List V}
theorem Inv.lset {its its' : List Value} {n : Nat} {f : Array Value → Array Value} {t' : Nat} (I : Inv X pins σ H s) (hH : H l = some (.lst xs))
    (e : s.heap.get? l = some { cls := .type "list", data := .seq its.toArray n }) (hf : f its.toArray = its'.toArray) (hv : Vals ys its') (hz : ys.length ≤ sizeLine) :
    Inv X pins σ (upd H l (.lst ys)) { s with heap := s.heap.update l (Obj.mapSeq f), toks := t' } := by
  have q := PySem.IsL.update e f
  rw [hf] at q
  refine I.write (x := l) (e := l) (by rw [hH]; exact trivial) (.inl rfl) (fun b' u hb hu => (Heap.get?_update_other s.heap (Obj.mapSeq f) (Ne.symm hb)).trans hu) ⟨_, q⟩ ?_
  exact ⟨hz, its', _, hv, q⟩
theorem Inv.lnew {its : List Value} {t' : Nat} (I : Inv X pins σ H s) (hv : Vals ys its) (hz : ys.length ≤ sizeLine) :
    Inv X pins σ (upd H s.heap.objs.size (.lst ys)) { s with heap := s.heap.push { cls := .type "list", data := .seq its.toArray }, toks := t' } :=
  I.laid (fun _ _ q => Heap.get?_push_of_some _ q) (Nat.le_refl _) ⟨hz, its, 0, hv, Heap.get?_push_size _ rfl⟩
theorem Inv.fresh (I : Inv X pins σ H s) : H s.heap.objs.size = none := I.hok.fresh (Nat.le_refl _)
theorem Inv.lstM (I : Inv X pins σ H s) (hH : H l = some (.lst xs)) : xs.length ≤ sizeLine ∧ ∃ (its : List Value) (n : Nat), Vals xs its ∧ xs.length = its.length ∧ s.heap.get? l = some { cls := .type "list", data := .seq its.toArray n } := by
  obtain ⟨z, its, n, r, e⟩ := I.hok l _ hH
  exact ⟨z, its, n, r, r.length, e⟩
theorem qJm {n : Nat} (h : n ≤ sizeLine) : Builtin.List.listTooLong n = false := by
  unfold Builtin.List.listTooLong
  exact decide_eq_false (by omega)
end
section
variable {X : Cx}
def qL9 : V → List V → Hp → VK → Prop := fun x vs H Q => ∃ l xs y, x = .ref l ∧ vs = [y] ∧ H l = some (.lst xs) ∧ xs.length < sizeLine ∧ Q .non (upd H l (.lst (xs ++ [y])))
theorem jl : MtM X "list.append" qL9 := by
  intro pins s σ H x vs v us Q I rx rv h
  obtain ⟨l, xs, y, rfl, rfl, hH, hz, q⟩ := h
  cases rx
  obtain ⟨u, rfl, ru⟩ := rv.one
  obtain ⟨z, its, n, r, hl, e⟩ := I.lstM hH
  refine call_meets F.slot_list_append ⟨_, e, rfl⟩ F.entry_list_append (F.args_list_append_2 _ _) (PySem.list_append l its.toArray n u (by rw [List.size_toArray]; omega)) ⟨e, ?_⟩
  refine ⟨.non, _, I.lset (its' := its ++ [u]) hH e (by simp) (r.append (.cons ru .nil)) ?_, rfl, q⟩
  rw [List.length_append, List.length_singleton]
  omega
def qLv : V → List V → Hp → VK → Prop := fun x vs H Q => ∃ l b xs zs, x = .ref l ∧ vs = [.ref b] ∧ H l = some (.lst xs) ∧ H b = some (.lst zs) ∧ xs.length + zs.length ≤ sizeLine ∧ Q .non (upd H l (.lst (xs ++ zs)))
theorem qDw : MtM X "list.extend" qLv := by
  intro pins s σ H x vs v us Q I rx rv h
  obtain ⟨l, b, xs, zs, rfl, rfl, hH, hB, hz, q⟩ := h
  cases rx
  obtain ⟨u, rfl, ru⟩ := rv.one
  cases ru
  obtain ⟨z, its, n, r, hl, e⟩ := I.lstM hH
  obtain ⟨z2, its2, n2, r2, hl2, e2⟩ := I.lstM hB
  have hsz : its.toArray.size + its2.toArray.size ≤ sizeLine := by rw [List.size_toArray, List.size_toArray]; omega
  have hlong : ¬ (!its.toArray.isEmpty && Builtin.List.listTooLong (its.toArray.size + its2.toArray.size)) = true := by
    rw [qJm hsz, Bool.and_false]
    exact Bool.false_ne_true
  refine call_meets F.slot_list_extend ⟨_, e, rfl⟩ F.entry_list_extend (F.args_list_extend_2 _ _)
    (AutoSeq1.list_extend_list_list_0 l its.toArray n b its2.toArray n2 hlong (by rw [List.size_toArray]; omega) (by omega)) ⟨e, e2, ?_⟩
  refine ⟨.non, _, I.lset (its' := its ++ its2) hH e (by simp) (r.append r2) ?_, rfl, q⟩
  rw [List.length_append]
  omega
def qO3 : V → List V → Hp → VK → Prop := fun x vs H Q => ∃ l xs y, x = .ref l ∧ vs = [] ∧ H l = some (.lst xs) ∧ xs[xs.length - 1]? = some y ∧ Q y (upd H l (.lst xs.dropLast))
theorem kJ : MtM X "list.pop" qO3 := by
  intro pins s σ H x vs v us Q I rx rv h
  obtain ⟨l, xs, y, rfl, rfl, hH, hy, q⟩ := h
  cases rx
  have hus := rv.zero
  subst hus
  obtain ⟨z, its, n, r, hl, e⟩ := I.lstM hH
  obtain ⟨u, hu, ru⟩ := r.get hy
  have hy' : its.toArray[its.toArray.size - 1]? = some u := by
    show its.toArray[its.length - 1]? = some u
    rw [← Array.getElem?_toList, ← hl]
    exact hu
  refine call_meets F.slot_list_pop ⟨_, e, rfl⟩ F.entry_list_pop (F.args_list_pop_1 _) (MeetsSeq.list_pop_last l its.toArray n u hy' (by rw [List.size_toArray]; omega)) ⟨e, ?_⟩
  refine ⟨y, _, I.lset (its' := its.dropLast) hH e ?_ r.dropLast ?_, ru, q⟩
  · show its.toArray.eraseIdxIfInBounds (its.toArray.size - 1) = its.dropLast.toArray
    rw [List.size_toArray, List.eraseIdxIfInBounds_toArray, qG1]
  · rw [List.length_dropLast]
    omega
def qPw : R2 := fun x y H Q => ∃ l b xs zs, x = .ref l ∧ y = .ref b ∧ H l = some (.lst xs) ∧ H b = some (.lst zs) ∧ xs.length + zs.length ≤ sizeLine ∧ ∀ p, H p = none → Q (.ref p) (upd H p (.lst (xs ++ zs)))
theorem j8 : OpR X (binaryOp .Add) qPw := by
  intro pins s σ H x y v u Q I rx ry h
  obtain ⟨l, b, xs, zs, rfl, rfl, hH, hB, hz, q⟩ := h
  cases rx
  cases ry
  obtain ⟨z, its, n, r, hl, e⟩ := I.lstM hH
  obtain ⟨z2, its2, n2, r2, hl2, e2⟩ := I.lstM hB
  refine PySem.P.add_list e e2 ?_ (by rw [List.size_toArray, List.size_toArray]; omega)
  have ea : its.toArray ++ its2.toArray = (its ++ its2).toArray := by simp
  rw [ea]
  exact ⟨.ref _, _, I.lnew (t' := s.toks) (r.append r2) (by rw [List.length_append]; omega), rfl, q _ I.fresh⟩
end
section
variable {prog : Program} {w : World} {A : Around} {E : Value → Shared → Prop} {s : Shared}
end
section
variable {X : Cx}
end
end L2
namespace Att
open PySem PySem.W PySem.Calls PyProof.Rows
theorem wY {P : Params} {h : Heap} : ∀ (ns : List Int) (vs : List Value), WellAll P h vs (ns.map WData.int) → IntsAre vs ns := by
  intro ns
  induction ns with
  | nil =>
    intro vs w
    rw [List.map_nil] at w
    cases w
    exact .nil
  | cons n ns ih =>
    intro vs w
    rw [List.map_cons] at w
    cases w with
    | cons a b =>
      cases a
      exact .cons _ _ (ih _ b)
theorem qHt {l : OpenLaw} {n : Nat} (hn : l.most = some n) {P : Params} {h : Heap} {args : List WData} {vals : List Value}
    (hpre : l.row.toRowW.claim.pre args = true) (hwl : WellAll P h vals args) :
    ∃ a vs ns, vals = [Value.ref a] ∧ args = [WData.list (ns.map WData.int)] ∧ h.get? a = some { cls := .type "list", data := .seq vs.toArray } ∧ IntsAre vs ns ∧ ns.length ≤ n := by
  have hsh : WShape.hasAll [] args [.list .int] = true := (pre_splitW hpre).1
  have hc : l.pre.holds [] { args := args } = true := (pre_splitW hpre).2
  obtain ⟨d, r, rfl, h1, h2⟩ := hasAllW_cons hsh
  obtain rfl := hasAllW_nil h2
  obtain ⟨xs, rfl, h3⟩ := hasW_list h1
  obtain ⟨ns, rfl⟩ := items_int h3
  have hlen : ns.length ≤ n := by
    unfold OpenLaw.pre at hc
    have h4 : (WTm.not (.lt (.lit (.int (n : Int))) (.len (.arg 0)))).holds [] { args := [.list (ns.map .int)] } = true := by
      have h4 := (holds_andW hc).1
      rw [hn] at h4
      exact h4
    have h5 := condW_of h4 (w_not (w_lt w_lit (w_len_list (w_arg rfl))))
    rw [List.length_map] at h5
    refine Nat.le_of_not_lt fun q => ?_
    have q' : (n : Int) < ((ns.length : Nat) : Int) := by omega
    first
      | (rw [decide_eq_true q'] at h5; exact absurd h5 (by decide))
      | (simp at h5; omega)
  cases hwl with
  | cons w1 w2 =>
    cases w2
    cases w1 with
    | list ho hall => exact ⟨_, _, ns, rfl, rfl, ho, wY ns _ hall, hlen⟩
theorem qJd (l : OpenLaw) (args : List WData) : l.row.toRowW.claim.post args (.bool true) args = true :=
  postW_of (r := l.row.toRowW) (X := (true == true))
    (show WShape.has [] (.bool true) .bool = true by first | rfl | decide | simp [WShape.has, WShape.arms, WShape.armsAll])
    (show (WTm.eq .res (.lit (.bool true))).value [] { args := args, res := some (.bool true), after := args } = some (.bool (true == true)) from w_eq_bool (w_res rfl) w_lit) rfl
theorem attach_call {l : OpenLaw} {n : Nat} {q : Program} {loose : List Str} {XP : (Str → Option Value) → Heap → Prop} {YP : World → Heap → Prop} {d : DefRec}
    (hn : l.most = some n) (hdf : d.params.defaults = [])
    (call : ∀ (w : World) (s₀ s₁ : Shared) (mg mb : Str → Option Value) (fa : Addr) (o : Obj) (pm cd doc : Value) (a : Addr) (vs : List Value) (ns : List Int),
      Ground q loose [] XP w s₀ mg mb s₁.heap → YP w s₁.heap →
      s₁.heap.get? fa = some o → o.data = .func (docDef d.name d.params d.body d.scope pm cd doc) → s₁.heap.CodeRec cd d.name → mg d.name = some (.ref fa) →
      s₁.heap.get? a = some { cls := .type "list", data := .seq vs.toArray } → IntsAre vs ns → ns.length ≤ n → s₁.gens = #[] →
      codeAny (model l.prog w) callerA (.call (.ref fa) ⟨[.ref a], []⟩) (fun r s' => r = .ok (.ret (.bool true)) ∧ OldK s₁.heap s'.heap ∧ s'.os = s₁.os ∧ AllBare s'.gens) s₁) :
    WalkO q loose XP YP l.row.toRowW d [] (fun f vs => PySem.call f vs) := by
  intro w s₀ s₁ mg mb G Y fa o pm cd doc dV kV ho hd hcd hD hmg hg args vals as hpre hlay hrd hwl hlo
  obtain rfl : dV = .none := Dflts.none hD hdf
  obtain rfl : kV = .none := Dflts.noKw hD
  obtain ⟨a, vs, ns, rfl, rfl, hobj, hints, hlen⟩ := qHt hn hpre hwl
  refine enter_call (codeAny_mono (call w s₀ s₁ mg mb fa o pm cd doc a vs ns G Y ho (fd_plain hd) hcd hmg hobj hints hlen hg) fun r s' hq => ?_)
  obtain ⟨rfl, h2, h3, h4⟩ := hq
  exact ⟨.inl ⟨.bool true, .bool true, [], rfl, fun _ => rfl, .bool true, qJd l _, fun _ => ⟨List.Pairwise.nil, fun _ hm => (nomatch hm)⟩⟩, h2, h3, h4⟩
section
variable {prog : Program} {w : World} {A : Around} {E : Value → Shared → Prop} {s : Shared} {K : Frag}
def ledger (h : Heap) (L d : Addr) : List (Addr × Obj) := (List.range h.objs.size).filterMap fun a => if a = L ∨ a = d then none else (h.get? a).map fun o => (a, o)
end
end Att
namespace L2
open PySem PySem.Spec PyProof.Rows
theorem qD7 : ∀ {vs : List Value} {ns : List Int}, IntsAre vs ns → Vals (ns.map V.int) vs
  | _, _, .nil => .nil
  | _, _, .cons n t h => .cons ⟨t, rfl⟩ (qD7 h)
def qOt (H : Hp) : Prop := ∀ b, H b = none ∨ ∃ o xs, H b = some (.frz o (.lst xs))
theorem qKk {P : Program} {w : World} {K : PySem.W.Frag} {mg mb : Str → Option Value} {CX : CXT} {k : Nat} {fa a : Addr} {fd : FuncData} {x : Str} {sp : Sp} {s₁ : Shared} {vs : List Value} {ns : List Int}
    (KX : K.In s₁.heap) (hns : s₁.heap.Ns mainGlobals mg) (hb : s₁.heap.Ns builtinsNs mb) (hbb : ∀ x : Str, x ≠ "__name__" → mb x = bootBuiltins x) (hlim : s₁.heap.NoLimit) (hg : s₁.gens = #[])
    (ha : s₁.heap.get? a = some { cls := .type "list", data := .seq vs.toArray }) (hi : IntsAre vs ns) (hl : ns.length ≤ sizeLine) (hr : Room k callerA)
    (F : ∀ base : Heap, K.In base → base.Ns mainGlobals mg → FnOk P w K mg base CX k fa fd [x] sp) (hbind : ∀ (s : Shared) (u : Value), BindsTo s fd ⟨[u], []⟩ [(x, u)])
    (hsp : ∀ H : Hp, qOt H → SqL K H a (ns.map V.int) → sp [.ref a] H (fun v _ => v = .bl true) fun _ _ _ => False)
    (hCX : ∀ H e s', CX [] H s₁ (fun _ _ _ => False) e s' → False) :
    codeAny (model P w) callerA (.call (.ref fa) ⟨[.ref a], []⟩) (fun r s' => r = .ok (.ret (.bool true)) ∧ OldK s₁.heap s'.heap ∧ s'.os = s₁.os ∧ AllBare s'.gens) s₁ := by
  have rv := qD7 hi
  have lenV := hi.length
  have core : ∀ H : Hp, qOt H → SqL K H a (ns.map V.int) → HOk P w H s₁.heap → (∀ b, H b ≠ none → b = a) → (H a ≠ none → K.lookup a = none) →
      codeAny (model P w) callerA (.call (.ref fa) ⟨[.ref a], []⟩) (fun r s' => r = .ok (.ret (.bool true)) ∧ OldK s₁.heap s'.heap ∧ s'.os = s₁.os ∧ AllBare s'.gens) s₁ := by
    intro H hO hS hok hA hK
    have base_of : ∀ {b : Addr} {o : Obj}, s₁.heap.get? b = some o → H b = none → (qKh s₁.heap H).get? b = some o := fun e n => qJ1 e n
    have noA : ∀ {b : Addr} {o : Obj} {es : Array DictEntry} {ep : Nat}, s₁.heap.get? b = some o → o.data = .dict es ep → H b = none := fun {b o es ep} e d => by
      cases q : H b with
      | none => rfl
      | some u =>
        have e' : b = a := hA b (by rw [q]; simp)
        subst e'
        rw [ha] at e; cases e
        have d' : Data.seq vs.toArray _ = Data.dict es ep := d
        cases d'
    have nsK : ∀ {b : Addr} {m : Str → Option Value}, s₁.heap.Ns b m → (qKh s₁.heap H).Ns b m := fun {b m} ⟨o, es, ep, e, d, r⟩ => ⟨o, es, ep, base_of e (noA e d), d, r⟩
    have hKb : K.In (qKh s₁.heap H) := fun b o e => base_of (KX b o e) (by
      cases q : H b with
      | none => rfl
      | some u =>
        have e' : b = a := hA b (by rw [q]; simp)
        subst e'
        rw [hK (by rw [q]; simp)] at e; cases e)
    have hM : Mod K mg (qKh s₁.heap H) := ⟨hKb, nsK hns, ⟨mb, nsK hb, hbb⟩, let ⟨mc, h1, h2⟩ := hlim; ⟨mc, nsK h1, h2⟩⟩
    have e0 : Env0 P w K mg (qKh s₁.heap H) callerA [] s₁ H := ⟨rfl, hM, fun b o e => qMf e, Nat.le_of_eq (qIs _ _), trivial, fun b hb => absurd (show b ∈ ([] : List Addr) from hb) (by simp), hok, .of_eq hg⟩
    refine codeAny_mono ((F _ hKb (nsK hns)).run callerA [] s₁ H ⟨[.ref a], []⟩ [.ref a] [.ref a] _ _ hr e0 (hbind s₁ (.ref a)) (.cons rfl .nil) (hsp H hO hS)) fun r s' h => ?_
    cases r with
    | error e => exact (hCX H e s' h).elim
    | ok fl =>
      cases fl with
      | next => exact False.elim h
      | brk => exact False.elim h
      | cont => exact False.elim h
      | ret u =>
        obtain ⟨v, H', os, bare, un, hok', r', q⟩ := h
        have q' : v = .bl true := q
        subst q'
        obtain rfl : u = Value.bool true := r'
        refine ⟨rfl, OldK.of_keep fun b o e => ?_, os, bare⟩
        cases q : H b with
        | none => exact un.keep b o e q (by intro z; exact absurd (show b ∈ ([] : List Addr) from z) (by simp)) (by simp)
        | some u =>
          rcases hO b with z | ⟨ob, xs, z⟩
          · rw [q] at z; cases z
          · have z2 := un.frzs b ob _ z
            obtain ⟨e1, _⟩ := hok b _ z
            obtain ⟨e2, _⟩ := hok' b _ z2
            rw [e] at e1; cases e1
            exact e2
  cases hk : K.lookup a with
  | some o =>
    have e := KX a o hk
    rw [ha] at e
    cases e
    refine core (fun _ => none) (fun _ => .inl rfl) (.inr ⟨_, vs.toArray, _, hk, rfl, rfl, rfl, by rw [List.size_toArray, lenV]; exact hl, by simpa using rv⟩) (fun b u z => by have z' : (none : Option HO) = some u := z; cases z') (fun b z => absurd rfl z) fun z => absurd rfl z
  | none =>
    refine core (fun b => if b = a then some (.frz { cls := .type "list", data := .seq vs.toArray } (.lst (ns.map V.int))) else none) (fun b => ?_) (.inl (.inr ⟨{ cls := .type "list", data := .seq vs.toArray }, if_pos rfl⟩)) (fun b u z => ?_) (fun b z => ?_) fun _ => hk
    · by_cases hb : b = a
      · exact .inr ⟨_, _, if_pos hb⟩
      · exact .inl (if_neg hb)
    · by_cases hb : b = a
      · have z' := (if_pos hb).symm.trans z
        cases z'
        subst hb
        exact ⟨ha, by rw [List.length_map]; exact hl, vs, _, rv, ha⟩
      · have z' := (if_neg hb).symm.trans z
        cases z'
    · by_cases hb : b = a
      · exact hb
      · exact absurd (if_neg hb) z
end L2
namespace L2
open PySem PySem.Spec PyProof.Rows
theorem walk_of {l : PySem.W.OpenLaw} {n k : Nat} {q : Program} {loose : List Str} {XP : (Str → Option Value) → Heap → Prop} {YP : World → Heap → Prop} {d : DefRec} {K : Params → PySem.W.Frag} {CX : World → CXT} {sp : World → Sp} {x : Str}
    (hn : l.most = some n) (hn2 : n ≤ sizeLine) (hdf : d.params.defaults = []) (hr : Room k callerA)
    (hY : ∀ (w : World) (h : Heap), YP w h → (K w.params).In h)
    (F : ∀ (w : World) (mg : Str → Option Value) (fa : Addr) (h : Heap), (K w.params).In h → h.Ns mainGlobals mg → mg d.name = some (.ref fa) →
      ∃ fd : FuncData, (∀ (s : Shared) (u : Value), BindsTo s fd ⟨[u], []⟩ [(x, u)]) ∧
        ∀ base : Heap, (K w.params).In base → base.Ns mainGlobals mg → FnOk l.prog w (K w.params) mg base (CX w) k fa fd [x] (sp w))
    (hsp : ∀ (w : World) (H : Hp) (a : Addr) (ns : List Int), ns.length ≤ n → qOt H → SqL (K w.params) H a (ns.map V.int) → sp w [.ref a] H (fun v _ => v = .bl true) fun _ _ _ => False)
    (hCX : ∀ (w : World) (H : Hp) (s : Shared) (e : Value) (s' : Shared), CX w [] H s (fun _ _ _ => False) e s' → False) :
    PySem.W.WalkO q loose XP YP l.row.toRowW d [] (fun f vs => PySem.call f vs) := by
  refine Att.attach_call hn hdf fun w s₀ s₁ mg mb fa o pm cd doc a vs ns G Y ho hd hcd hmg hobj hints hlen hg => ?_
  have KX := hY w _ Y
  obtain ⟨fd, hb, hF⟩ := F w mg fa _ KX G.T.g hmg
  exact qKk KX G.T.g G.T.b G.T.builtins G.T.nolimit hg hobj hints (Nat.le_trans hlen hn2) hr hF hb (fun H hO hS => hsp w H a ns hlen hO hS) fun H e s' => hCX w H s₁ e s'
end L2
namespace L2
open PySem PySem.Spec PyProof.Rows
def qLe (s : Stmt) (j : Nat) : Stmt := match s with
  | .ClassDef _ _ _ body _ _ _ _ _ _ _ => body.getD j (.Pass ⟨0, 0, 0, 0⟩)
  | _ => .Pass ⟨0, 0, 0, 0⟩
def qQ (s : Stmt) : Arguments := match s with
  | .FunctionDef _ a _ _ _ _ _ _ _ _ => a
  | _ => { posonlyargs := [], args := [], vararg := none, kwonlyargs := [], kw_defaults := [], kwarg := none, defaults := [] }
def qP (s : Stmt) : List Stmt := match s with
  | .FunctionDef _ _ b _ _ _ _ _ _ _ => b
  | _ => []
def qG (s : Stmt) : Scope := match s with
  | .FunctionDef _ _ _ _ _ _ sc _ _ _ => sc
  | _ => { kind := .function, names := [], isGenerator := false, isCoroutine := false }
abbrev CX0 : CXT := fun _ _ _ _ _ _ => False
abbrev E0 : XK := fun _ _ _ => False
theorem qOl {X : Cx} : qF6 CX0 X E0 := fun _ _ _ _ _ _ _ h => h.elim
structure Fun (K : PySem.W.Frag) (x qual : Str) (st : Stmt) (f : Addr) (fd : FuncData) : Prop where
  ex : ∃ (oc : Value) (od : Option Addr) (kV doc pm : Value) (an : Option Addr) (cdv ct : Value) (osl : Array (Option Value)),
    fd = PySem.W.fnOf x qual (qQ st) (qP st) (qG st) .none kV doc pm an cdv ct ∧ K.lookup f = some ⟨oc, od, .func fd, osl⟩ ∧ PySem.W.codeIn K cdv qual = true
  kp : PySem.W.keepIn K (.ref f) = true
section
variable {P : Program} {w : World} {K : PySem.W.Frag} {mg : Str → Option Value} {base : Heap}
theorem Fun.ok {x qual : Str} {st : Stmt} {f : Addr} {fd : FuncData} {N ps : List Str} {k : Nat} {sp : Sp} (F : Fun K x qual st f fd) (S : qR N ps (qG st)) (len : ∀ vs H Q E, sp vs H Q E → vs.length = ps.length)
    (hbody : ∀ (cdv : Value) (A : Around) (outer : List Env) (s : Shared) (H : Hp) (vs : List V) (Q : VK) (E : XK), Room k (A.deeper (envOfC qual (qG st) s.heap.objs.size f cdv)) → sp vs H Q E →
      ∃ t, PSs (qJi CX0 P w K mg base N qual (qG st) f cdv A outer s H E).nox (qP st) t ∧ t { nx := fun _ H' => Q .non H', rt := Q } (qBn N vs) H) : FnOk P w K mg base CX0 (k + 1) f fd ps sp := by
  obtain ⟨oc, od, kV, doc, pm, an, cdv, ct, osl, rfl, lk, hcd⟩ := F.ex
  refine qM0 lk hcd S len fun A outer s H vs Q E hr hsp => ?_
  obtain ⟨t, h, q⟩ := hbody cdv A outer s H vs Q E hr hsp
  exact ⟨t, h.nox, q⟩
theorem Fun.binds {x qual : Str} {st : Stmt} {f : Addr} {fd : FuncData} {ps : List Str} (F : Fun K x qual st f fd)
    (h : ∀ (kV doc pm : Value) (an : Option Addr) (cdv ct : Value) (us : List Value), us.length = ps.length → bindArgs (PySem.W.fnOf x qual (qQ st) (qP st) (qG st) .none kV doc pm an cdv ct) ⟨us, []⟩ = pure (ps.zip us)) : Binds K fd ps [] := by
  obtain ⟨oc, od, kV, doc, pm, an, cdv, ct, osl, rfl, lk, hcd⟩ := F.ex
  exact .all (h kV doc pm an cdv ct)
theorem qZ {x qual : Str} {st : Stmt} {f : Addr} {oc : Value} {od an : Option Addr} {osl : Array (Option Value)} {kV doc pm cdv ct : Value} (l : K.lookup f = some ⟨oc, od, .func (PySem.W.fnOf x qual (qQ st) (qP st) (qG st) .none kV doc pm an cdv ct), osl⟩)
    (c : PySem.W.codeIn K cdv qual = true) (k : PySem.W.keepIn K (.ref f) = true) : Fun K x qual st f (PySem.W.fnOf x qual (qQ st) (qP st) (qG st) .none kV doc pm an cdv ct) := ⟨⟨oc, od, kV, doc, pm, an, cdv, ct, osl, rfl, l, c⟩, k⟩
end
theorem qIe {A : Around} {k : Nat} (hr : Room k A) : A.units + 1 < cLine := Nat.lt_of_le_of_lt (Nat.add_le_add_left (by decide : 1 ≤ 64) _) hr.units
theorem qd {n : Nat} (h : n ≤ 1000) : n < sizeLine := Nat.lt_of_le_of_lt h (by decide)
section
variable {X : Cx}
theorem pv (i : Nat) {x : Str} {pos : Pos} (hN : X.N[i]? = some x := by rfl) (hv : Vis X.env.scope x := by first | exact Or.inl rfl | exact Or.inr (Or.inl rfl) | exact Or.inr (Or.inr rfl)) (hd : (x == ("__debug__" : Str)) = false := by decide)
    (hcd : (x == ("__classdict__" : Str)) = false := by decide) : PE X (.Name x pos) (qNs i) := qNk hN hv hd hcd
end
theorem qo {A B : Prop} (h : B) : if false = true then A else B := by
  rw [if_neg Bool.false_ne_true]
  exact h
theorem j5 {A B : Prop} (h : A) : if true = true then A else B := by
  rw [if_pos rfl]
  exact h
theorem xN {c A B : Prop} [Decidable c] (h1 : c → A) (h2 : ¬ c → B) : if c then A else B := by
  by_cases h : c
  · rw [if_pos h]
    exact h1 h
  · rw [if_neg h]
    exact h2 h
theorem qH8 {c A B : Prop} [Decidable c] (hc : c) (h : B) : if (!decide c) = true then A else B := by
  rw [decide_eq_true hc]
  exact qo h
def Same (H H' : Hp) : Prop := ∀ b o, H b = some o → H' b = some o
theorem Same.refl (H : Hp) : Same H H := fun _ _ h => h
theorem Same.trans {H H1 H2 : Hp} (a : Same H H1) (b : Same H1 H2) : Same H H2 := fun c o h => b c o (a c o h)
theorem Same.free {H H' : Hp} (e : Same H H') {l : Addr} (h : H' l = Option.none) : H l = Option.none := by
  cases q : H l with
  | none => rfl
  | some o =>
    rw [e l o q] at h
    cases h
theorem Same.seq {K : PySem.W.Frag} {H H' : Hp} {a : Addr} {xs : List V} (e : Same H H') (h : SqL K H a xs) : SqL K H' a xs := by
  rcases h with (h | ⟨o, h⟩) | h
  · exact .inl (.inl (e _ _ h))
  · exact .inl (.inr ⟨o, e _ _ h⟩)
  · exact .inr h
end L2
namespace L2
open PySem PySem.Spec PyProof.Rows
section
variable {κ : Type} [DecidableEq κ]
def qE3 (kvs : List (κ × V)) (k : κ) : Option V := (kvs.find? fun kv => decide (kv.1 = k)).map (·.2)
def qGj (kvs : List (κ × V)) (k : κ) (v : V) : List (κ × V) :=
  if (kvs.any fun kv => decide (kv.1 = k)) = true then kvs.map (fun kv => if kv.1 = k then (kv.1, v) else kv) else kvs ++ [(k, v)]
def qM8 (kvs : List (κ × V)) (k : κ) : List (κ × V) := kvs.filter fun kv => decide (kv.1 ≠ k)
theorem qB6 {p : κ × V} {r : List (κ × V)} {k : κ} (e : p.1 = k) : qE3 (p :: r) k = some p.2 := by simp [qE3, List.find?_cons, e]
theorem qCo {p : κ × V} {r : List (κ × V)} {k : κ} (e : ¬ p.1 = k) : qE3 (p :: r) k = qE3 r k := by simp [qE3, List.find?_cons, e]
theorem qGc (k : κ) : ∀ kvs : List (κ × V), (kvs.any fun kv => decide (kv.1 = k)) = (qE3 kvs k).isSome
  | [] => rfl
  | p :: r => by
    rw [List.any_cons]
    by_cases e : p.1 = k
    · simp only [qB6 e, decide_eq_true e, Bool.true_or, Option.isSome_some]
    · rw [qCo e, decide_eq_false e, Bool.false_or]; exact qGc k r
theorem qE0 (kvs : List (κ × V)) (k : κ) (v : V) : (qGj kvs k v).length ≤ kvs.length + 1 := by
  unfold qGj
  split
  · rw [List.length_map]; omega
  · rw [List.length_append, List.length_cons, List.length_nil]; omega
theorem RelO.isSome_eq {o : Option V} {u : Option Value} (r : RelO o u) : o.isSome = u.isSome := by
  cases o with
  | none => cases u with
    | none => rfl
    | some _ => exact (show False from r).elim
  | some _ => cases u with
    | none => exact (show False from r).elim
    | some _ => rfl
theorem RelO.getD {o : Option V} {u : Option Value} {d : V} {d' : Value} (r : RelO o u) (rd : RelV d d') : RelV (o.getD d) (u.getD d') := by
  cases o with
  | none => cases u with
    | none => exact rd
    | some _ => exact (show False from r).elim
  | some _ => cases u with
    | none => exact (show False from r).elim
    | some _ => exact r
theorem KV.val {kvs : List (κ × V)} {vs : List (κ × Value)} (r : KV kvs vs) (k : κ) : RelO (qE3 kvs k) (valueAt vs k) := by
  unfold KV at r
  induction r with
  | nil => exact True.intro
  | @cons p q ps qs h t ih =>
    obtain ⟨h1, h2⟩ := h
    by_cases e : p.1 = k
    · have e' : q.1 = k := h1.symm.trans e
      have b : valueAt (q :: qs) k = some q.2 := by simp [valueAt, List.find?_cons, e']
      rw [qB6 e, b]; exact h2
    · have e' : ¬ q.1 = k := fun z => e (h1.trans z)
      have b : valueAt (q :: qs) k = valueAt qs k := by simp [valueAt, List.find?_cons, e']
      rw [qCo e, b]; exact ih
theorem KV.any {kvs : List (κ × V)} {vs : List (κ × Value)} (r : KV kvs vs) (k : κ) : (kvs.any fun kv => decide (kv.1 = k)) = vs.any fun kv => decide (kv.1 = k) := by
  unfold KV at r
  induction r with
  | nil => rfl
  | cons h t ih => rw [List.any_cons, List.any_cons, ih, h.1]
theorem KV.repl {kvs : List (κ × V)} {vs : List (κ × Value)} (r : KV kvs vs) (k : κ) {y : V} {u : Value} (ry : RelV y u) :
    KV (kvs.map fun kv => if kv.1 = k then (kv.1, y) else kv) (vs.map fun kv => if kv.1 = k then (kv.1, u) else kv) := by
  unfold KV at r ⊢
  induction r with
  | nil => exact .nil
  | @cons p q ps qs h t ih =>
    rw [List.map_cons, List.map_cons]
    refine .cons ?_ ih
    obtain ⟨h1, h2⟩ := h
    by_cases e : p.1 = k
    · rw [if_pos e, if_pos (h1.symm.trans e)]; exact ⟨h1, ry⟩
    · rw [if_neg e, if_neg (fun z => e (h1.trans z))]; exact ⟨h1, h2⟩
theorem KV.put {kvs : List (κ × V)} {vs : List (κ × Value)} (r : KV kvs vs) (k : κ) {y : V} {u : Value} (ry : RelV y u) : KV (qGj kvs k y) (stored vs k u) := by
  unfold qGj stored
  rw [r.any k]
  by_cases e : (vs.any fun kv => decide (kv.1 = k)) = true
  · rw [if_pos e, if_pos e]; exact r.repl k ry
  · rw [if_neg e, if_neg e]; exact Paired.snoc r ⟨rfl, ry⟩
theorem KV.drop {kvs : List (κ × V)} {vs : List (κ × Value)} (r : KV kvs vs) (k : κ) : KV (qM8 kvs k) (without vs k) := by
  unfold KV at r ⊢
  unfold qM8 without
  induction r with
  | nil => exact .nil
  | @cons p q ps qs h t ih =>
    obtain ⟨h1, h2⟩ := h
    rw [List.filter_cons, List.filter_cons]
    by_cases e : p.1 = k
    · have a : ¬ decide (p.1 ≠ k) = true := by simp [e]
      have b : ¬ decide (q.1 ≠ k) = true := by simp [h1.symm.trans e]
      rw [if_neg a, if_neg b]; exact ih
    · have e' : ¬ q.1 = k := fun z => e (h1.trans z)
      have a : decide (p.1 ≠ k) = true := by simp [e]
      have b : decide (q.1 ≠ k) = true := by simp [e']
      rw [if_pos a, if_pos b]; exact .cons ⟨h1, h2⟩ ih
theorem KV.keys {kvs : List (κ × V)} {vs : List (κ × Value)} (r : KV kvs vs) : kvs.map (·.1) = vs.map (·.1) := by
  unfold KV at r
  induction r with
  | nil => rfl
  | cons h t ih => rw [List.map_cons, List.map_cons, ih, h.1]
theorem KV.length {kvs : List (κ × V)} {vs : List (κ × Value)} (r : KV kvs vs) : kvs.length = vs.length := Paired.length r
end
theorem qKa {P : Program} {w : World} {k : Key} {u : Value} (r : RelV (kV k) u) : (xQ P w).is k u = true := by
  cases k with
  | inl i => obtain ⟨t, e⟩ := (show ∃ t, u = Value.int i t from r); subst e; exact qFo P w i t
  | inr x => obtain ⟨t, e⟩ := (show ∃ t, u = Value.str x t from r); subst e; exact qEx P w x t
theorem qDa {P : Program} {w : World} : ∀ {ks : List Key} {us : List Value}, Vals (ks.map kV) us → ItemsAre (xQ P w) ks us
  | [], _, r => by rw [List.map_nil] at r; cases r; exact .nil
  | k :: ks, _, r => by
    rw [List.map_cons] at r
    cases r with
    | cons h t => exact .cons (qKa h) (qDa t)
abbrev KT (H : Hp) : List (List Key × V) → List (List Key × Addr × Value) → Prop := Paired fun p q => p.1 = q.1 ∧ H q.2.1 = some (.tup (p.1.map kV)) ∧ RelV p.2 q.2.2
theorem KT.val {H : Hp} {kvs : List (List Key × V)} {xs : List (List Key × Addr × Value)} (r : KT H kvs xs) (k : List Key) : RelO (qE3 kvs k) ((atKey xs k).map (·.2)) := by
  induction r with
  | nil => exact True.intro
  | @cons p q ps qs h t ih =>
    obtain ⟨h1, _, h2⟩ := h
    by_cases e : p.1 = k
    · have e' : q.1 = k := h1.symm.trans e
      have b : atKey (q :: qs) k = some q.2 := by simp [atKey, List.find?_cons, e']
      rw [qB6 e, b]; exact h2
    · have e' : ¬ q.1 = k := fun z => e (h1.trans z)
      have b : atKey (q :: qs) k = atKey qs k := by simp [atKey, List.find?_cons, e']
      rw [qCo e, b]; exact ih
theorem KT.repl {H : Hp} {kvs : List (List Key × V)} {xs : List (List Key × Addr × Value)} (r : KT H kvs xs) (k : List Key) {y : V} {u : Value} (ry : RelV y u) :
    KT H (kvs.map fun kv => if kv.1 = k then (kv.1, y) else kv) (xs.map (putAt k u)) := by
  induction r with
  | nil => exact .nil
  | @cons p q ps qs h t ih =>
    rw [List.map_cons, List.map_cons]
    refine .cons ?_ ih
    obtain ⟨h1, h2, h3⟩ := h
    unfold putAt
    by_cases e : p.1 = k
    · rw [if_pos e, if_pos (h1.symm.trans e)]; exact ⟨h1, h2, ry⟩
    · rw [if_neg e, if_neg (fun z => e (h1.trans z))]; exact ⟨h1, h2, h3⟩
theorem KT.put {H : Hp} {kvs : List (List Key × V)} {xs : List (List Key × Addr × Value)} (r : KT H kvs xs) (k : List Key) {b : Addr} {y : V} {u : Value} (hb : H b = some (.tup (k.map kV))) (ry : RelV y u) :
    KT H (qGj kvs k y) (storedH xs k b u) := by
  have e : (kvs.any fun kv => decide (kv.1 = k)) = (atKey xs k).isSome := by
    rw [qGc, (r.val k).isSome_eq, Option.isSome_map]
  unfold qGj storedH
  rw [e]
  by_cases q : (atKey xs k).isSome = true
  · rw [if_pos q, if_pos q]; exact r.repl k ry
  · rw [if_neg q, if_neg q]; exact Paired.snoc r ⟨rfl, hb, ry⟩
theorem KT.keeps {H H' : Hp} {kvs : List (List Key × V)} {xs : List (List Key × Addr × Value)} (r : KT H kvs xs) (ht : ∀ b ys, H b = some (.tup ys) → H' b = some (.tup ys)) : KT H' kvs xs :=
  Paired.mapP r fun _ _ z => ⟨z.1, ht _ _ z.2.1, z.2.2⟩
section
variable {P : Program} {w : World} {H : Hp} {h : Heap} {a : Addr}
theorem qMq {u : HO} (ok : HOk P w H h) (e : Rd H a u) : ObjOk P w H h a u := e.ok ok
theorem qG4 {kvs : List (Key × V)} (ok : HOk P w H h) (e : Rd H a (.dK kvs)) : kvs.length ≤ sizeLine ∧ (a == sysModules) = false ∧ ∃ vs, KV kvs vs ∧ h.DictOf (xQ P w) a vs :=
  show ObjOk P w H h a (.dK kvs) from qMq ok e
theorem qOq {kvs : List (Key × V)} (ok : HOk P w H h) (e : H a = some (.dK kvs)) : kvs.length ≤ sizeLine ∧ (a == sysModules) = false ∧ ∃ vs, KV kvs vs ∧ h.DictOf (xQ P w) a vs := qG4 ok (.inl e)
theorem qIp {ks : List Key} (ok : HOk P w H h) (e : H a = some (.tup (ks.map kV))) : (tupleKind (xQ P w)).is h ks a := by
  obtain ⟨_, its, r, o, h1, h2, n, h3⟩ := (show ObjOk P w H h a (.tup (ks.map kV)) from ok a _ e)
  exact ⟨o, its.toArray, n, h1, h2, h3, by simpa using qDa r⟩
theorem qLg {kvs : List (List Key × V)} (ok : HOk P w H h) (e : Rd H a (.dT kvs)) : kvs.length ≤ sizeLine ∧ (a == sysModules) = false ∧
    ∃ xs, KT H kvs xs ∧ h.DictOfH (tupleKind (xQ P w)) a xs := by
  obtain ⟨z, y, xs, r, o, es, ep, h1, h2, h3, h4, h5⟩ := (show ObjOk P w H h a (.dT kvs) from qMq ok e)
  refine ⟨z, y, xs, r, o, es, ep, h1, h2, h3, h4, fun x hx => ?_, h5⟩
  have all : ∀ {l : List (List Key × V)} {m : List (List Key × Addr × Value)}, KT H l m → ∀ x ∈ m, (tupleKind (xQ P w)).is h x.1 x.2.1 := by
    intro l m q
    induction q with
    | nil => intro x hx; exact nomatch hx
    | @cons p q ps qs hq t ih =>
      intro x hx
      rcases List.mem_cons.mp hx with e | hx
      · subst e
        exact qIp ok (by rw [← hq.1]; exact hq.2.1)
      · exact ih x hx
  exact all r x hx
end
def DGet (H : Hp) (a : Addr) (y : V) (r : Option V) : Prop :=
  (∃ kvs k, Rd H a (.dK kvs) ∧ y = kV k ∧ r = qE3 kvs k) ∨ ∃ kvs k b, Rd H a (.dT kvs) ∧ y = .ref b ∧ H b = some (.tup (k.map kV)) ∧ r = qE3 kvs k
def DPut (H : Hp) (a : Addr) (y v : V) (H' : Hp) : Prop :=
  (∃ kvs k, H a = some (.dK kvs) ∧ y = kV k ∧ kvs.length < sizeLine ∧ H' = upd H a (.dK (qGj kvs k v))) ∨
  ∃ kvs k b, H a = some (.dT kvs) ∧ y = .ref b ∧ H b = some (.tup (k.map kV)) ∧ kvs.length < sizeLine ∧ H' = upd H a (.dT (qGj kvs k v))
theorem DGet.k {H : Hp} {a : Addr} {kvs : List (Key × V)} {k : Key} (e : H a = some (.dK kvs)) : DGet H a (kV k) (qE3 kvs k) := .inl ⟨kvs, k, .inl e, rfl, rfl⟩
theorem DGet.t {H : Hp} {a b : Addr} {kvs : List (List Key × V)} {k : List Key} (e : H a = some (.dT kvs)) (eb : H b = some (.tup (k.map kV))) : DGet H a (.ref b) (qE3 kvs k) := .inr ⟨kvs, k, b, .inl e, rfl, eb, rfl⟩
theorem DPut.k {H : Hp} {a : Addr} {kvs : List (Key × V)} {k : Key} {v : V} (e : H a = some (.dK kvs)) (hl : kvs.length < sizeLine) : DPut H a (kV k) v (upd H a (.dK (qGj kvs k v))) := .inl ⟨kvs, k, e, rfl, hl, rfl⟩
theorem DPut.t {H : Hp} {a b : Addr} {kvs : List (List Key × V)} {k : List Key} {v : V} (e : H a = some (.dT kvs)) (eb : H b = some (.tup (k.map kV))) (hl : kvs.length < sizeLine) :
    DPut H a (.ref b) v (upd H a (.dT (qGj kvs k v))) := .inr ⟨kvs, k, b, e, rfl, eb, hl, rfl⟩
section
variable {X : Cx} {pins : List (Addr × Obj)} {σ : St} {H : Hp} {s : Shared} {a : Addr} {y v : V} {u r : Value} {o : Option V} {A : Around} {E : Value → Shared → Prop}
theorem Inv.big (I : Inv X pins σ H s) : sysModules < s.heap.objs.size := by
  have h : mainGlobals < s.heap.objs.size := (I.mod.glob.keeps I.bk).lt
  exact Nat.lt_trans (by decide) h
theorem qH2 {Q : Value → Shared → Prop} (hu : A.units + 1 < cLine) (I : Inv X pins σ H s) (g : DGet H a y (some v)) (ry : RelV y u) (h : ∀ w' s', Inv X pins σ H s' → RelV v w' → Q w' s') :
    wpAny (model X.prog X.w) A (getItem (.ref a) u) Q E s := by
  rcases g with ⟨kvs, k, e, ey, l⟩ | ⟨kvs, k, b, e, ey, eb, l⟩
  · subst ey
    obtain ⟨z, hd, vs, rel, dd⟩ := qG4 I.hok e
    obtain ⟨w', hw, rw'⟩ := RelO.some_of (v := v) (o := valueAt vs k) (by rw [l]; exact rel.val k)
    exact wpAny_getItem_of (qKa ry) dd.mapOf hw (h w' _ (I.tok _) rw')
  · subst ey
    cases (show u = Value.ref b from ry)
    obtain ⟨z, hd, xs, rel, dd⟩ := qLg I.hok e
    obtain ⟨w', hw, rw'⟩ := RelO.some_of (v := v) (o := (atKey xs k).map (·.2)) (by rw [l]; exact rel.val k)
    obtain ⟨p, hp, hp2⟩ := Option.map_eq_some_iff.mp hw
    refine wpAny_getItem_heap (tupleKind_room_in1 hu) (qIp I.hok eb) dd hp ?_
    rw [hp2]
    exact h w' _ (I.tok _) rw'
theorem qL0 {Q : Value → Shared → Prop} (hu : A.units + 1 < cLine) (I : Inv X pins σ H s) (g : DGet H a y o) (ry : RelV y u) (h : ∀ s', Inv X pins σ H s' → Q (.bool (!o.isSome)) s') :
    wpAny (model X.prog X.w) A (compareOp .NotIn u (.ref a)) Q E s := by
  rcases g with ⟨kvs, k, e, ey, l⟩ | ⟨kvs, k, b, e, ey, eb, l⟩
  · subst ey
    obtain ⟨z, hd, vs, rel, dd⟩ := qG4 I.hok e
    refine wpAny_notIn_of (qKa ry) hd dd.mapOf ?_
    rw [← (rel.val k).isSome_eq, ← l]
    exact h _ (I.tok _)
  · subst ey
    cases (show u = Value.ref b from ry)
    obtain ⟨z, hd, xs, rel, dd⟩ := qLg I.hok e
    refine wpAny_notIn_heap (tupleKind_room_in1 hu) (qIp I.hok eb) hd dd ?_
    have q := (rel.val k).isSome_eq
    rw [Option.isSome_map] at q
    rw [← q, ← l]
    exact h _ (I.tok _)
theorem qL5 {h' : Heap} {t' : Nat} {ob : HO} (I : Inv X pins σ H s) (mu : Mut (H a)) (hs : Heap.SameBut a s.heap h') (he : ∃ q, h'.get? a = some q) (new : ObjOk X.prog X.w (upd H a ob) h' a ob) :
    Inv X pins σ (upd H a ob) { s with heap := h', toks := t' } :=
  I.write (x := a) (e := a) mu (.inl rfl) (fun b q hb z => (hs.2 b hb).trans z) he new
theorem qNn {P : Program} {w : World} {H' : Hp} {h' : Heap} {kvs : List (Key × V)} {vs : List (Key × Value)} (z : kvs.length ≤ sizeLine) (hd : (a == sysModules) = false) (rel : KV kvs vs) (dd : h'.DictOf (xQ P w) a vs) :
    ObjOk P w H' h' a (.dK kvs) := ⟨z, hd, vs, rel, dd⟩
end
section
variable {X : Cx} {pins : List (Addr × Obj)} {σ : St} {H : Hp} {s : Shared} {a : Addr} {kvs : List (Key × V)} {k : Key} {u : Value} {A : Around} {E : Value → Shared → Prop}
end
def qO6 (i : Expr) : Prop := ∀ ov iv, subscripted i false ov iv = operate [ov, iv] (getItem ov iv)
theorem qLy {prog : Program} {w : World} {A : Around} {E : Value → Shared → Prop} {s : Shared} {env : Env} {value slice : Expr} {pos : Pos} {T id : String} {Q : Value → Shared → Prop}
    (hl : typeLookup (.type T) "__getitem__" = pure (some (.builtin id))) (hs : qO6 slice)
    (h : wpAny (model prog w) A (eval value env) (fun o s₁ => wpAny (model prog w) A (eval slice env) (fun i s₂ => s₂.TypeIs o T ∧ wpAny (model prog w) A (getItem o i) Q E s₂) E s₁) E s) :
    wpAny (model prog w) A (eval (.Subscript value slice pos) env) Q E s := by
  refine Subscript_ (wpAny_mono h (fun o s₁ h₁ => wpAny_mono h₁ (fun i s₂ h₂ => ?_) fun _ _ x => x) fun _ _ x => x)
  obtain ⟨hT, h₂⟩ := h₂
  unfold subscriptTail
  refine wpAny_bind ?_
  rw [getitemInPython_of_ne hT.not_modules]
  refine wpAny_bind (wpAny_specialOf hT hl ?_)
  have fin : wpAny (model prog w) A (subscripted slice false o i) (fun r s₃ => wpAny (model prog w) A (letTemporaryGo value o r >>= fun _ => pure r) Q E s₃) E s₂ := by
    rw [hs o i]
    exact wpAny_operating (wpAny_mono h₂ (fun r s₃ h₃ => wpAny_bind (wpAny_letTemporaryGo (wpAny_pure h₃))) fun _ _ x => x)
  first
    | exact wpAny_pure (wpAny_bind fin)
    | exact wpAny_bind (wpAny_pure (wpAny_bind fin))
    | exact wpAny_bind fin
theorem qFs {X : Cx} {pins : List (Addr × Obj)} {σ : St} {H : Hp} {s : Shared} {a : Addr} {y : V} {o : Option V} (I : Inv X pins σ H s) (g : DGet H a y o) : s.TypeIs (.ref a) "dict" := by
  rcases g with ⟨kvs, k, e, _, _⟩ | ⟨kvs, k, b, e, _, _, _⟩
  · obtain ⟨_, _, vs, _, dd⟩ := qG4 I.hok e
    exact dd.typeIs
  · obtain ⟨_, _, xs, _, dd⟩ := qLg I.hok e
    exact dd.typeIs
def qOg (td ty : TE) : TE := fun σ H Q => td σ H fun x H1 => ty σ H1 fun y H2 => ∃ a v, x = .ref a ∧ DGet H2 a y (some v) ∧ Q v H2
def qLl (ty td : TE) : TE := fun σ H Q => ty σ H fun y H1 => td σ H1 fun x H2 => ∃ a o, x = .ref a ∧ DGet H2 a y o ∧ Q (.bl (!o.isSome)) H2
section
variable {X : Cx} {o i e value : Expr} {pos pos' tpos : Pos} {td ty tv : TE}
theorem qEu (hu : X.A.units + 1 < cLine) (ho : PE X o td) (hi : PE X i ty) (hs : qO6 i) : PE X (.Subscript o i pos) (qOg td ty) := by
  intro pins s σ H Q I h
  refine qLy PySem.F.slot_dict_getitem.lookup hs (thn (ho pins s σ H _ I h) fun u s1 ⟨x, H1, I1, rx, q1⟩ => thn (hi pins s1 σ H1 _ I1 q1) fun iv s2 ⟨y, H2, I2, ry, a, v, ex, g, q2⟩ => ?_)
  subst ex
  obtain rfl : u = Value.ref a := rx
  exact ⟨qFs I2 g, qH2 hu I2 g ry fun w' s3 I3 rw' => ⟨v, H2, I3, rw', q2⟩⟩
theorem qIy (hu : X.A.units + 1 < cLine) (hi : PE X i ty) (ho : PE X o td) : PC X .NotIn i o (qLl ty td) := by
  intro pins s σ H Q I h
  refine thn (hi pins s σ H _ I h) fun iv s1 ⟨y, H1, I1, ry, q1⟩ => thn (ho pins s1 σ H1 _ I1 q1) fun u s2 ⟨x, H2, I2, rx, a, ov, ex, g, q2⟩ => ?_
  subst ex
  obtain rfl : u = Value.ref a := rx
  exact qL0 hu I2 g ry fun s3 I3 => ⟨.bl (!ov.isSome), H2, I3, rfl, q2⟩
end
theorem qKl {P : Program} {w : World} {H : Hp} (h : Heap) (hb : sysModules < h.objs.size) : ObjOk P w H (h.push { cls := .type "dict", data := .dict #[] }) h.objs.size (.dK []) :=
  ⟨Nat.zero_le _, beq_eq_false_iff_ne.mpr (Ne.symm (Nat.ne_of_lt hb)), [], .nil, Heap.DictOf.new h⟩
section
variable {X : Cx} {pos : Pos}
end
def qIq : List (TE × TE) → St → Hp → (List (V × V) → Hp → Prop) → Prop
  | [], _, H, Q => Q [] H
  | (tk, tv) :: r, σ, H, Q => tk σ H fun x H1 => tv σ H1 fun y H2 => qIq r σ H2 fun ps H3 => Q ((x, y) :: ps) H3
abbrev VV : List (V × V) → List (Value × Value) → Prop := Paired fun p q => RelV p.1 q.1 ∧ RelV p.2 q.2
def PPs (X : Cx) (pos : Pos) (keys : List (Option Expr)) (values : List Expr) (trs : List (TE × TE)) : Prop :=
  ∀ (pins : List (Addr × Obj)) (s : Shared) (σ : St) (H : Hp) (Q : List (V × V) → Hp → Prop), Inv X pins σ H s → qIq trs σ H Q →
    wpAny (model X.prog X.w) X.A (evalPairs (pairTrees keys values X.env pos)) (fun vs s' => ∃ ps H', Inv X pins σ H' s' ∧ VV ps vs ∧ Q ps H') X.xe s
theorem qFw {X : Cx} {pos : Pos} : PPs X pos [] [] [] := fun pins s σ H Q I h => pairTrees_nil_walk ⟨[], H, I, .nil, h⟩
theorem qB2 {X : Cx} {pos : Pos} {k v : Expr} {ks : List (Option Expr)} {vs : List Expr} {tk tv : TE} {trs : List (TE × TE)} (hk : PE X k tk) (hv : PE X v tv) (hr : PPs X pos ks vs trs) :
    PPs X pos (some k :: ks) (v :: vs) ((tk, tv) :: trs) := fun pins s σ H Q I h =>
  pairTrees_cons_walk (thn (hk pins s σ H _ I h) fun u s1 ⟨x, H1, I1, rx, q1⟩ => thn (hv pins s1 σ H1 _ I1 q1) fun w2 s2 ⟨y, H2, I2, ry, q2⟩ =>
    thn (hr pins s2 σ H2 _ I2 q2) fun ws s3 ⟨ps, H3, I3, rel, q3⟩ => ⟨(x, y) :: ps, H3, I3, .cons ⟨rx, ry⟩ rel, q3⟩)
def qBf (kvs more : List (Key × V)) : List (Key × V) := more.foldl (fun acc kv => qGj acc kv.1 kv.2) kvs
theorem KV.merge : ∀ {more : List (Key × V)} {rs : List (Key × Value)} {kvs : List (Key × V)} {vs : List (Key × Value)}, KV more rs → KV kvs vs → KV (qBf kvs more) (merged vs rs) := by
  intro more rs kvs vs r
  unfold KV at r
  induction r generalizing kvs vs with
  | nil => intro q; exact q
  | @cons p q ps qs h t ih =>
    intro r0
    have e : KV (qGj kvs p.1 p.2) (stored vs q.1 q.2) := by
      have := r0.put p.1 h.2
      rw [← h.1]; exact this
    exact ih e
theorem vJ : ∀ (more kvs : List (Key × V)), (qBf kvs more).length ≤ kvs.length + more.length
  | [], kvs => by show kvs.length ≤ kvs.length + 0; omega
  | p :: r, kvs => by
    have h1 := vJ r (qGj kvs p.1 p.2)
    have h2 := qE0 kvs p.1 p.2
    show (qBf (qGj kvs p.1 p.2) r).length ≤ _
    rw [List.length_cons]; omega
theorem qBh {P : Program} {w : World} : ∀ {kvs : List (Key × V)} {ws : List (Value × Value)}, VV (kvs.map fun kv => (kV kv.1, kv.2)) ws → ∃ rs, Carries (xQ P w) ws rs ∧ KV kvs rs
  | [], _, r => by rw [List.map_nil] at r; cases r; exact ⟨[], True.intro, .nil⟩
  | p :: kvs, _, r => by
    rw [List.map_cons] at r
    cases r with
    | @cons a b as bs h t =>
      obtain ⟨rs, c, q⟩ := qBh (P := P) (w := w) t
      obtain ⟨b1, b2⟩ := b
      exact ⟨(p.1, b2) :: rs, ⟨qKa h.1, rfl, c⟩, .cons ⟨rfl, h.2⟩ q⟩
def qOv (trs : List (TE × TE)) : TE := fun σ H Q => ∀ p, H p = none → qIq trs σ (upd H p (.dK [])) fun ps H2 => H2 p = some (.dK []) ∧ ∃ kvs : List (Key × V), ps = kvs.map (fun kv => (kV kv.1, kv.2)) ∧ kvs.length ≤ 15 ∧ Q (.ref p) (upd H2 p (.dK (qBf [] kvs)))
theorem qFm {X : Cx} {pos : Pos} {keys : List (Option Expr)} {values : List Expr} {trs : List (TE × TE)} (h : PPs X pos keys values trs) (hall : keys.all (·.isSome) = true) (hl : keys.length = values.length) (h0 : keys ≠ [])
    (h15 : keys.length ≤ 15) : PE X (.Dict keys values pos) (qOv trs) := by
  intro pins s σ H Q I q
  have hn := I.hok.fresh (Nat.le_refl s.heap.objs.size)
  have I1 := I.laid (a := s.heap.objs.size) (o := .dK []) (h' := s.heap.push { cls := .type "dict", data := .dict #[] }) (t' := s.toks) (fun _ _ q => Heap.get?_push_of_some _ q) (Nat.le_refl _) (qKl s.heap I.big)
  refine wpAny_Dict_walk (knd := xQ X.prog X.w) hall hl h0 h15 (thn (h pins _ σ _ _ I1 (q _ hn)) fun ws s2 ⟨ps, H2, I2, rel, e, kvs, ep, lk, q2⟩ => ?_)
  subst ep
  obtain ⟨rs, c, rk⟩ := qBh (P := X.prog) (w := X.w) rel
  obtain ⟨z, hd, vs0, r0, dd⟩ := qOq I2.hok e
  cases r0
  refine ⟨rs, c, dd, fun h' dd' hs => ⟨.ref s.heap.objs.size, _, ?_, rfl, q2⟩⟩
  have hz : (qBf [] kvs).length ≤ sizeLine := by
    have h1 := vJ kvs []
    rw [List.length_nil] at h1
    rw [sizeLine_eq]; omega
  have he : ∃ q, h'.get? s.heap.objs.size = some q := let ⟨q, _, _, hq, _⟩ := dd'; ⟨q, hq⟩
  exact qL5 I2 (by rw [e]; exact True.intro) hs he (qNn hz hd (rk.merge .nil) dd')
structure M1 (X : Cx) (o : Expr) (m : Str) (apos : Pos) (e : Expr) (cpos : Pos) : Prop where
  base : attributeBase o m X.env (eval o X.env) = eval o X.env
  few : ((backTo cpos (starEach [e] X.env)).all (fun x => !x.1) && (backToKw cpos (keywordEach [] X.env)).all (fun x => x.1.isSome)
    && decide (([e] : List Expr).length + ([] : List Keyword).length + (if ([] : List Keyword).isEmpty then 0 else 1) < 30)) = true
  line : (apos.endLine == cpos.line) = true
  trees : backTo cpos (starEach [e] X.env) = [(false, eval e X.env)]
structure M2 (X : Cx) (o : Expr) (m : Str) (apos : Pos) (e f : Expr) (cpos : Pos) : Prop where
  base : attributeBase o m X.env (eval o X.env) = eval o X.env
  few : ((backTo cpos (starEach [e, f] X.env)).all (fun x => !x.1) && (backToKw cpos (keywordEach [] X.env)).all (fun x => x.1.isSome)
    && decide (([e, f] : List Expr).length + ([] : List Keyword).length + (if ([] : List Keyword).isEmpty then 0 else 1) < 30)) = true
  line : (apos.endLine == cpos.line) = true
  trees : backTo cpos (starEach [e, f] X.env) = [(false, eval e X.env), (false, eval f X.env)]
section
variable {X : Cx} {pins : List (Addr × Obj)} {σ : St} {H : Hp} {s : Shared} {a : Addr} {y d : V} {u r : Value} {o : Option V} {A : Around} {E : Value → Shared → Prop}
end
section
variable {X : Cx} {o e f : Expr} {apos cpos : Pos} {td ty tx : TE}
end
section
variable {X : Cx} {pins : List (Addr × Obj)} {σ : St} {H : Hp} {s : Shared} {a : Addr} {kvs : List (Key × V)} {A : Around} {E : Value → Shared → Prop}
end
section
variable {X : Cx} {pins : List (Addr × Obj)} {σ : St} {H : Hp} {s : Shared} {a : Addr} {y : V} {u : Value} {A : Around} {E : Value → Shared → Prop}
end
end L2
namespace Att
open PySem PySem.W PySem.Calls PyProof.Rows
section
variable {prog : Program} {w : World} {A : Around} {E : Value → Shared → Prop} {s : Shared} {K : Frag}
end
end Att
namespace L2
open PySem PySem.Spec PyProof.Rows
end L2
namespace L2
open PySem PySem.Spec PyProof.Rows
end L2
namespace L2
open PySem PySem.Spec PyProof.Rows
section
variable {P : Program} {w : World} {K : PySem.W.Frag} {mg : Str → Option Value} {base : Heap}
end
section
variable {X : Cx}
end
section
variable {κ : Type} [DecidableEq κ]
end
end L2
namespace Mt
theorem qLw (a b : Int) : a.fmod b = a - b * a.fdiv b := by
  have := Int.fmod_add_mul_fdiv a b
  omega
theorem qGf (a b : Int) : Int.gcd b (a.fmod b) = Int.gcd a b := by
  apply Nat.dvd_antisymm
  · refine Int.dvd_gcd ?_ (Int.gcd_dvd_left b (a.fmod b))
    have h1 : ((Int.gcd b (a.fmod b) : Nat) : Int) ∣ b := Int.gcd_dvd_left ..
    have h2 : ((Int.gcd b (a.fmod b) : Nat) : Int) ∣ a.fmod b := Int.gcd_dvd_right ..
    have h3 := Int.dvd_add h2 (Int.dvd_trans h1 (Int.dvd_mul_right b (a.fdiv b)))
    have e : a.fmod b + b * a.fdiv b = a := Int.fmod_add_mul_fdiv a b
    rwa [e] at h3
  · refine Int.dvd_gcd (Int.gcd_dvd_right ..) ?_
    rw [qLw]
    exact Int.dvd_sub (Int.gcd_dvd_left ..) (Int.dvd_trans (Int.gcd_dvd_right ..) (Int.dvd_mul_right ..))
theorem qJc (a b : Int) (h : b ≠ 0) : (a.fmod b).natAbs < b.natAbs := by
  rcases Int.lt_or_gt_of_ne h with h | h
  · have h1 := Int.fmod_lt_of_pos (-a) (show 0 < -b by omega)
    have h2 := Int.fmod_nonneg_of_pos (-a) (show 0 < -b by omega)
    rw [Int.neg_fmod_neg] at h1 h2
    omega
  · have h1 := Int.fmod_lt_of_pos a h
    have h2 := Int.fmod_nonneg_of_pos a h
    omega
def sg (t b : Int) : Int := if b < 0 then -((Int.gcd t b : Nat) : Int) else ((Int.gcd t b : Nat) : Int)
def zR (t b : Int) : Int := t.fdiv (sg t b)
def xZ (t b : Int) : Int := b.fdiv (sg t b)
theorem vm {t b : Int} (h : b ≠ 0) : 0 < Int.gcd t b := by
  rcases Nat.eq_zero_or_pos (Int.gcd t b) with z | z
  · rw [Int.gcd_eq_zero_iff] at z
    exact absurd z.2 h
  · exact z
theorem qNz {t b : Int} (h : b ≠ 0) : sg t b ≠ 0 := by
  have := vm (t := t) h
  unfold sg; split <;> omega
theorem qJn (t b : Int) : sg t b ∣ t := by
  unfold sg; split
  · exact Int.neg_dvd.mpr (Int.gcd_dvd_left ..)
  · exact Int.gcd_dvd_left ..
theorem qJx (t b : Int) : sg t b ∣ b := by
  unfold sg; split
  · exact Int.neg_dvd.mpr (Int.gcd_dvd_right ..)
  · exact Int.gcd_dvd_right ..
theorem qFx (t b : Int) : (sg t b).natAbs = Int.gcd t b := by
  unfold sg; split <;> omega
theorem qJs (t b : Int) : zR t b * sg t b = t := Int.fdiv_mul_cancel (qJn t b)
theorem qIh (t b : Int) : xZ t b * sg t b = b := Int.fdiv_mul_cancel (qJx t b)
theorem zj {t b : Int} (h : b ≠ 0) : 0 < xZ t b := by
  have e := qIh t b
  have g := vm (t := t) h
  by_cases hb : b < 0
  · have s : sg t b = -((Int.gcd t b : Nat) : Int) := by unfold sg; rw [if_pos hb]
    rw [s] at e
    rcases Int.lt_trichotomy (xZ t b) 0 with z | z | z
    · have := Int.mul_pos_of_neg_of_neg z (show -((Int.gcd t b : Nat) : Int) < 0 by omega)
      omega
    · rw [z] at e; omega
    · exact z
  · have s : sg t b = ((Int.gcd t b : Nat) : Int) := by unfold sg; rw [if_neg hb]
    rw [s] at e
    rcases Int.lt_trichotomy (xZ t b) 0 with z | z | z
    · have := Int.mul_neg_of_neg_of_pos z (show 0 < ((Int.gcd t b : Nat) : Int) by omega)
      omega
    · rw [z] at e; omega
    · exact z
theorem qIa {t b : Int} (h : b ≠ 0) : Int.gcd (zR t b) (xZ t b) = 1 := by
  have e := Int.gcd_mul_right (zR t b) (sg t b) (xZ t b)
  rw [qJs, qIh, qFx] at e
  have g := vm (t := t) h
  have e' : 1 * Int.gcd t b = (zR t b).gcd (xZ t b) * Int.gcd t b := by omega
  exact (Nat.eq_of_mul_eq_mul_right g e').symm
theorem vS (t b : Int) : zR t b * b = t * xZ t b := by
  have e1 := qJs t b
  have e2 := qIh t b
  calc zR t b * b = zR t b * (xZ t b * sg t b) := by rw [e2]
    _ = (zR t b * sg t b) * xZ t b := by rw [Int.mul_comm (xZ t b), Int.mul_assoc]
    _ = t * xZ t b := by rw [e1]
theorem qBq {t b : Int} (h : b ≠ 0) : (zR t b).natAbs ≤ t.natAbs := by
  have e := congrArg Int.natAbs (qJs t b)
  rw [Int.natAbs_mul, qFx] at e
  have g := vm (t := t) h
  rw [← e]
  exact Nat.le_mul_of_pos_right _ g
theorem kc {t b : Int} (h : b ≠ 0) : (xZ t b).natAbs ≤ b.natAbs := by
  have e := congrArg Int.natAbs (qIh t b)
  rw [Int.natAbs_mul, qFx] at e
  have g := vm (t := t) h
  have := Nat.le_mul_of_pos_right (xZ t b).natAbs g
  omega
end Mt
namespace Mt
theorem qLx {p q p' q' : Int} (hq : 0 < q) (hq' : 0 < q') (g : Int.gcd p q = 1) (g' : Int.gcd p' q' = 1) (c : p * q' = p' * q) : p = p' ∧ q = q' := by
  have d1 : q ∣ q' := by
    have h : q ∣ p * q' := by rw [c]; exact Int.dvd_mul_left ..
    have n : q.natAbs ∣ p.natAbs * q'.natAbs := by
      have := Int.natAbs_dvd_natAbs.mpr h
      rwa [Int.natAbs_mul] at this
    have co : Nat.Coprime q.natAbs p.natAbs := by
      show Nat.gcd q.natAbs p.natAbs = 1
      rw [Nat.gcd_comm]; exact g
    exact Int.natAbs_dvd_natAbs.mp (Nat.Coprime.dvd_of_dvd_mul_left co n)
  have d2 : q' ∣ q := by
    have h : q' ∣ p' * q := by rw [← c]; exact Int.dvd_mul_left ..
    have n : q'.natAbs ∣ p'.natAbs * q.natAbs := by
      have := Int.natAbs_dvd_natAbs.mpr h
      rwa [Int.natAbs_mul] at this
    have co : Nat.Coprime q'.natAbs p'.natAbs := by
      show Nat.gcd q'.natAbs p'.natAbs = 1
      rw [Nat.gcd_comm]; exact g'
    exact Int.natAbs_dvd_natAbs.mp (Nat.Coprime.dvd_of_dvd_mul_left co n)
  have e : q = q' := by
    have h1 := Int.le_of_dvd hq' d1
    have h2 := Int.le_of_dvd hq d2
    omega
  subst e
  exact ⟨Int.eq_of_mul_eq_mul_right (by omega) c, rfl⟩
theorem qGh {t b p q : Int} (h : b ≠ 0) (hq : 0 < q) (g : Int.gcd p q = 1) (c : p * b = t * q) : zR t b = p ∧ xZ t b = q := by
  have e := vS t b
  have k : zR t b * q = p * xZ t b := by
    have : (zR t b * q) * b = (p * xZ t b) * b := by
      calc (zR t b * q) * b = (zR t b * b) * q := by rw [Int.mul_assoc, Int.mul_comm q b, ← Int.mul_assoc]
        _ = (t * xZ t b) * q := by rw [e]
        _ = (t * q) * xZ t b := by rw [Int.mul_assoc, Int.mul_comm (xZ t b) q, ← Int.mul_assoc]
        _ = (p * b) * xZ t b := by rw [c]
        _ = (p * xZ t b) * b := by rw [Int.mul_assoc, Int.mul_comm b, ← Int.mul_assoc]
    exact Int.eq_of_mul_eq_mul_right h this
  exact qLx (zj h) hq (qIa h) g k
theorem qGb {p q : Int} (hq : 0 < q) (g : Int.gcd p q = 1) : zR p q = p ∧ xZ p q = q := qGh (by omega) hq g rfl
theorem j7 {p q : Int} (hq : 0 < q) : p.fdiv q * q ≤ p ∧ p < (p.fdiv q + 1) * q := by
  have e := Int.fmod_add_mul_fdiv p q
  have h1 := Int.fmod_nonneg_of_pos p hq
  have h2 := Int.fmod_lt_of_pos p hq
  have c : q * p.fdiv q = p.fdiv q * q := Int.mul_comm ..
  have d : (p.fdiv q + 1) * q = p.fdiv q * q + q := by rw [Int.add_mul, Int.one_mul]
  omega
end Mt
namespace Mt
theorem qBk {A B C D : Int} (hB : 0 < B) (hD : 0 < D) (h : A * D = C * B) : A.fdiv B = C.fdiv D := by
  obtain ⟨h1, h2⟩ := j7 (p := A) hB
  obtain ⟨h3, h4⟩ := j7 (p := C) hD
  generalize A.fdiv B = f at h1 h2 ⊢
  generalize C.fdiv D = g at h3 h4 ⊢
  have k1 : f * B * D ≤ A * D := Int.mul_le_mul_of_nonneg_right h1 (by omega)
  have k2 : C * B < (g + 1) * D * B := Int.mul_lt_mul_of_pos_right h4 hB
  have k3 : g * D * B ≤ C * B := Int.mul_le_mul_of_nonneg_right h3 (by omega)
  have k4 : A * D < (f + 1) * B * D := Int.mul_lt_mul_of_pos_right h2 hD
  have p := Int.mul_pos hB hD
  have e1 : f * (B * D) < (g + 1) * (B * D) := by grind
  have e2 : g * (B * D) < (f + 1) * (B * D) := by grind
  have := Int.lt_of_mul_lt_mul_right e1 (by omega)
  have := Int.lt_of_mul_lt_mul_right e2 (by omega)
  omega
def plP (p q r s k : Int) : Int := zR (p * s + k * r * q) (q * s)
def plQ (p q r s k : Int) : Int := xZ (p * s + k * r * q) (q * s)
theorem qMy {p q r s k : Int} (hq : 0 < q) (hs : 0 < s) : 0 < plQ p q r s k := zj (Int.ne_of_gt (Int.mul_pos hq hs))
theorem qH6 {p q r s : Int} (hq : 0 < q) (hs : 0 < s) (g : Int.gcd p q = 1) : plP p q r s 0 = p ∧ plQ p q r s 0 = q := by
  refine qGh (Int.ne_of_gt (Int.mul_pos hq hs)) hq g ?_
  grind
theorem qMh {p q r s k : Int} (hq : 0 < q) (hs : 0 < s) : (plP p q r s k).natAbs ≤ (p * s + k * r * q).natAbs := qBq (Int.ne_of_gt (Int.mul_pos hq hs))
theorem qMg {p q r s k : Int} (hq : 0 < q) (hs : 0 < s) : (plQ p q r s k).natAbs ≤ (q * s).natAbs := kc (Int.ne_of_gt (Int.mul_pos hq hs))
end Mt
namespace Mt
def InR (N D m : Int) : Prop := 0 ≤ N ∧ N < m * D
theorem qLj {N D m : Int} (hD : 0 < D) : InR N D m ↔ (0 ≤ N.fdiv D ∧ N.fdiv D < m) := by
  obtain ⟨h1, h2⟩ := j7 (p := N) hD
  generalize N.fdiv D = f at h1 h2 ⊢
  unfold InR
  constructor
  · rintro ⟨a, b⟩
    constructor
    · have : 0 * D < (f + 1) * D := by rw [Int.zero_mul]; omega
      have := Int.lt_of_mul_lt_mul_right this (by omega)
      omega
    · exact Int.lt_of_mul_lt_mul_right (a := D) (by omega) (by omega)
  · rintro ⟨a, b⟩
    constructor
    · have := Int.mul_nonneg a (by omega : 0 ≤ D)
      omega
    · have : (f + 1) * D ≤ m * D := Int.mul_le_mul_of_nonneg_right (by omega) (by omega)
      omega
def qAu (N R D m : Int) : Int :=
  if R = 0 then 1000000 else if ¬ (0 ≤ N.fdiv D ∧ N.fdiv D < m) then 0
  else if 1000000 < (if R < 0 then N.fdiv (-R) + 1 else -((N - m * D).fdiv R)) then 1000000 else (if R < 0 then N.fdiv (-R) + 1 else -((N - m * D).fdiv R))
end Mt
set_option maxHeartbeats 4000000
namespace L3
open PySem PySem.Spec PyProof.Rows L2
def CMulB (i j : Int) : Prop := CMul i j ∨ (i.natAbs < 2 ^ 60000 ∧ j.natAbs < 2 ^ 60000)
theorem vP {i : Int} (h : i.natAbs < 2 ^ 60000) : Builtin.Int.intBits i ≤ 2 ^ 20 := by
  unfold Builtin.Int.intBits
  split
  · exact Nat.zero_le _
  · rename_i h0
    have hz : i.natAbs ≠ 0 := by
      intro z
      apply h0
      have : i = 0 := by omega
      rw [this]; rfl
    have := (Nat.log2_lt hz).mpr h
    have e : (2 : Nat) ^ 20 = 1048576 := by decide
    omega
theorem CMulB.ok {i j : Int} (h : CMulB i j) : IntMulOk i j := by
  rcases h with h | ⟨h1, h2⟩
  · exact h.ok
  · exact IntMulOk.of_bits (vP h1) (vP h2)
def CDivB (_ j : Int) : Prop := j ≠ 0 ∧ j.natAbs < 2 ^ 8000
theorem CDivB.ok {i j : Int} (h : CDivB i j) : Builtin.divisionGoesByPylong i j = false := by
  refine PyProof.noPylong_of_log2 ?_
  have hz : j.natAbs ≠ 0 := by have := h.1; omega
  have := (Nat.log2_lt hz).mpr h.2
  omega
section
variable {X : Cx}
theorem jP : OpR X (binaryOp .Mult) (rI CMulB fun i j => .int (i * j)) := opI fun _ _ _ _ _ _ _ hc q => mul_int q hc.ok
theorem qr : OpR X (binaryOp .FloorDiv) (rI CDivB fun i j => .int (i.fdiv j)) := opI fun _ _ _ _ _ _ _ hc q => floordiv_int hc.1 q (.inl hc.ok)
theorem xS : CallR X (.builtin "isinstance") (fun xs H Q => ∃ x c t b, xs = [x, c] ∧ qHi X.K H x t ∧
    (∃ n, c = .ty n ∧ PySem.W.kitOne X.K t (.type n) = some b ∨ ∃ a, c = .ref a ∧ PySem.W.kitOne X.K t (.ref a) = some b) ∧ Q (.bl b) H) := by
  intro pins s σ H xs us Q I r h
  obtain ⟨x, c, t, b, rfl, ty, hk, q⟩ := h
  obtain ⟨u, u', rfl, rx, rc⟩ := qMb r
  obtain ⟨n, ⟨rfl, e⟩ | ⟨a, rfl, e⟩⟩ := hk
  · cases rc
    exact qEd I rx ty e fun tk => ⟨.bl b, H, I.tok _, rfl, q⟩
  · cases rc
    exact qEd I rx ty e fun tk => ⟨.bl b, H, I.tok _, rfl, q⟩
def qBv (xs ys : List V) : Bool := (List.range (min xs.length ys.length)).all (fun j => eqV (xs.getD j .non) (ys.getD j .non)) && xs.length == ys.length
theorem vd {A : Around} {s : Shared} {xs ys : List V} {us ws : List Value} (r1 : Vals xs us) (r2 : Vals ys ws) (f1 : xs.all zL = true) (f2 : ys.all zL = true) :
    ∀ j (h1 : j < us.toArray.size) (h2 : j < ws.toArray.size), SeqAt.EqAt A s us.toArray[j] ws.toArray[j] (eqV (xs.getD j .non) (ys.getD j .non)) := by
  intro j h1 h2
  have l1 := r1.length
  have l2 := r2.length
  rw [List.size_toArray] at h1 h2
  have g1 : xs[j]? = some xs[j] := List.getElem?_eq_getElem (by omega)
  have g2 : ys[j]? = some ys[j] := List.getElem?_eq_getElem (by omega)
  obtain ⟨u, e1, q1⟩ := r1.get g1
  obtain ⟨w, e2, q2⟩ := r2.get g2
  have d1 : xs.getD j .non = xs[j] := by rw [List.getD_eq_getElem?_getD, g1]; rfl
  have d2 : ys.getD j .non = ys[j] := by rw [List.getD_eq_getElem?_getD, g2]; rfl
  have c1 : us.toArray[j] = u := by
    have := (List.getElem?_eq_some_iff.mp e1).2
    simpa using this
  have c2 : ws.toArray[j] = w := by
    have := (List.getElem?_eq_some_iff.mp e2).2
    simpa using this
  rw [d1, d2, c1, c2]
  exact qDd q1 q2 (List.all_eq_true.mp f1 _ (List.getElem_mem _)) (List.all_eq_true.mp f2 _ (List.getElem_mem _))
def qO9 (K : PySem.W.Frag) (neg : Bool) : R2 := fun x y H Q => ∃ p q xs ys, x = .ref p ∧ y = .ref q ∧ SqT K H p xs ∧ SqT K H q ys ∧ xs.all zL = true ∧ ys.all zL = true ∧ Q (.bl (if neg then !qBv xs ys else qBv xs ys)) H
theorem qK0 (hu : X.A.units < cLine) : OpR X (compareOp .Eq) (qO9 X.K false) := by
  intro pins s σ H x y v u Q I rx ry h
  obtain ⟨p, q, xs, ys, rfl, rfl, h1, h2, f1, f2, k⟩ := h
  cases rx; cases ry
  obtain ⟨us, r1, t1, _⟩ := I.tuple h1
  obtain ⟨ws, r2, t2, _⟩ := I.tuple h2
  have l1 : us.toArray.size = xs.length := by rw [List.size_toArray]; exact r1.length.symm
  have l2 : ws.toArray.size = ys.length := by rw [List.size_toArray]; exact r2.length.symm
  refine SeqAt.eq_tupleAt t1 t2 hu (vd r1 r2 f1 f2) ?_
  rw [l1, l2]
  exact ⟨.bl (qBv xs ys), H, I, rfl, k⟩
theorem qNc (hu : X.A.units < cLine) : OpR X (compareOp .NotEq) (qO9 X.K true) := by
  intro pins s σ H x y v u Q I rx ry h
  obtain ⟨p, q, xs, ys, rfl, rfl, h1, h2, f1, f2, k⟩ := h
  cases rx; cases ry
  obtain ⟨us, r1, t1, _⟩ := I.tuple h1
  obtain ⟨ws, r2, t2, _⟩ := I.tuple h2
  have l1 : us.toArray.size = xs.length := by rw [List.size_toArray]; exact r1.length.symm
  have l2 : ws.toArray.size = ys.length := by rw [List.size_toArray]; exact r2.length.symm
  refine SeqAt.RcNeAt.tuples t1 t2 hu (vd r1 r2 f1 f2) _ _ _ _ ?_
  rw [l1, l2]
  exact ⟨.bl (!qBv xs ys), H, I, rfl, k⟩
end
end L3
set_option maxHeartbeats 4000000
namespace L3
open PySem PySem.Spec PyProof.Rows L2
def jA (X : Cx) (scope : Scope) (cl : List (Str × Addr)) (C : Addr) (N : List Str) (s : Shared) (H : Hp) (fp : List Addr) : Cx :=
  { X with N := N, s₀ := s, H₀ := H, env := compEnvC scope cl C X.env, outer := X.stack, stack := X.stack, ex := fp, fn := fun _ => false, pn := [] }
def kn (js : List Nat) (σ : L2.St) : L2.St := js.map fun j => (σ[j]?).join
def wU (js : List Nat) (te : TE) (σ : L2.St) (Q : VK) (J : It) (H1 : Hp) : Prop := ∃ W : Nat → Nat → List V → Hp → Prop, (∃ m, W 0 m [] H1) ∧ ∀ i m acc H2, W i m acc H2 →
  acc.length < sizeLine ∧ ((J.stop i H2 ∧ ∀ D, H2 D = none → Q (.ref D) (upd H2 D (.lst acc))) ∨
    (J.go i H2 ∧ ∀ x H3, J.yld i H2 x H3 → te (some x :: kn js σ) H3 fun v H4 => ∃ m', m' < m ∧ W (i + 1) m' (acc ++ [v]) H4))
def qLf (js : List Nat) (wi : TI) (te : TE) : TE := fun σ H Q => wi σ H (wU js te σ Q)
theorem qDq {X : Cx} {elt iter : Expr} {x : Str} {px : Pos} {scope : Scope} {cl : List (Str × Addr)} {pos : Pos} {wi : TI} {te : TE} (ys : List Str) (js : List Nat)
    (hcm : X.calm = true) (hi : PI X (.Name x px) iter wi) (he : ∀ C s H fp, PE (jA X scope cl C (x :: ys) s H fp).nox elt te)
    (hclos : closureFor scope X.env = pure cl := by rfl)
    (hcl : cl.map (fun p => X.env.cells.lookup p.1) = cl.map (fun p => some p.2) := by rfl)
    (hcell : (scope.names.all fun p => p.2 != .cell) = true := by rfl) (hkind : scope.kind = .function := by rfl)
    (hnames : (scope.names.all fun p => p.2 != .local || scope.names.lookup p.1 == some .local) = true := by rfl)
    (hx : scope.names.lookup x = some .local := by rfl)
    (hhas : ((relabel scope X.env).names.all fun p => (p.2 != .cell && p.2 != .free) || (cl.lookup p.1).isSome) = true := by rfl)
    (hnd : (x :: ys).Nodup := by decide)
    (hjs : js.map (fun j => X.N[j]?) = ys.map some := by rfl)
    (hys : (ys.all fun y => ((relabel scope X.env).names.lookup y == some .cell || (relabel scope X.env).names.lookup y == some .free) && (X.env.scope.names.lookup y == some .cell || X.env.scope.names.lookup y == some .free)) = true := by rfl)
    (hs : ∀ x, foldedSetIterable iter X.env x = pure x := by intro _; rfl)
    {pins : List (Addr × Obj)} {s : Shared} {σ : L2.St} {H : Hp} (R : V → Hp → Prop) (use : Option (Value → Sem Unit)) (Q : Value → Shared → Prop) (I : Inv X pins σ H s) (h : qLf js wi te σ H R)
    (fin : ∀ (v : V) (u : Value) (H' : Hp) (s' : Shared) (C : Addr), Inv X pins σ H' s' → RelV v u → R v H' → (∃ m, s'.heap.Ns C m) → H' C = none → C ≠ X.env.locals → X.s₀.heap.objs.size ≤ C → (∀ y c, X.env.cells.lookup y = some c → c ≠ C) → (∀ p ∈ X.pn ++ pins, p.1 ≠ C) →
      compPost (model X.prog X.w) X.A X.xe use Q u C (.ok .next) s') :
    wpAny (model X.prog X.w) X.A (comprehension (.ListComp elt [⟨.Name x px, iter, [], 0⟩] scope pos) scope X.env (firstIterPos [⟨.Name x px, iter, [], 0⟩] pos) (newList []) false (eval iter X.env) use) Q X.xe s := by
  have hcell' : ∀ y ∈ scope.names, y.2 ≠ .cell := fun y hy => by
    have := List.all_eq_true.mp hcell y hy
    simpa using this
  have hnm : ∀ y ∈ scope.names, y.2 = .local → scope.names.lookup y.1 = some .local := fun y hy e => by
    have := List.all_eq_true.mp hnames y hy
    rw [e] at this
    simpa using this
  have clX : ∀ y c, cl.lookup y = some c → X.env.cells.lookup y = some c := fun y c e => by
    have hm := PySem.mem_of_lookup e
    obtain ⟨k, hk, e2⟩ := List.mem_iff_getElem.mp hm
    have := congrArg (fun l => l[k]?) hcl
    simp only [List.getElem?_map, List.getElem?_eq_getElem hk, Option.map_some, e2] at this
    exact Option.some.inj this
  have has : ∀ y, ((relabel scope X.env).names.lookup y = some .cell ∨ (relabel scope X.env).names.lookup y = some .free) → ∃ c, cl.lookup y = some c := fun y hy => by
    have key : ∀ k : NameKind, (k = .cell ∨ k = .free) → (relabel scope X.env).names.lookup y = some k → ∃ c, cl.lookup y = some c := fun k hk e => by
      have := List.all_eq_true.mp hhas _ (PySem.mem_of_lookup e)
      rcases hk with rfl | rfl <;> exact Option.isSome_iff_exists.mp (by simpa using this)
    rcases hy with e | e
    · exact key _ (.inl rfl) e
    · exact key _ (.inr rfl) e
  refine wpAny_comprehension_free (use := use) rfl hs hclos hkind hnm (thn (hi pins s σ H _ I h) fun v s1 h1 => thn h1 fun itv s2 h2 => ?_)
  obtain ⟨it, fp, tn, J, H2, e, I2, T, st2, f2, W, ⟨m0, w0⟩, turn⟩ := h2
  subst e
  refine wpAny_newObj_type (wpAny_newFunctionEnv hcell' (by intro y hy; simp at hy) (fun h₁ hns hsb => ?_) hkind)
  dsimp only at hns hsb ⊢
  generalize hG : s2.heap.push { cls := .type "list", dict := none, data := .seq ([] : List Value).toArray } = G at hns hsb ⊢
  have szG : G.objs.size = s2.heap.objs.size + 1 := by rw [← hG, Heap.size_push]
  have inG : ∀ b o, s2.heap.get? b = some o → G.get? b = some o := fun b o e => hG ▸ Heap.get?_push_of_some _ e
  have ltC : ∀ b o, s2.heap.get? b = some o → b ≠ G.objs.size := fun b o e => by rw [szG]; exact Nat.ne_of_lt (Nat.lt_succ_of_lt (Heap.lt_size e))
  have ltD : ∀ b o, s2.heap.get? b = some o → b ≠ s2.heap.objs.size := fun b o e => Nat.ne_of_lt (Heap.lt_size e)
  have DC : s2.heap.objs.size ≠ G.objs.size := by rw [szG]; omega
  have old : ∀ b o, s2.heap.get? b = some o → h₁.get? b = some o := fun b o e => hsb.extBut b o (ltC b o e) (Heap.get?_push_of_some _ (inG b o e))
  have hacc : h₁.PlainList s2.heap.objs.size #[] := ⟨_, hsb.extBut _ _ DC (Heap.get?_push_of_some _ (hG ▸ Heap.get?_push_size _ rfl))⟩
  have fpO : ∀ b ∈ fp, ∃ o, s2.heap.get? b = some o := fun b hb => let ⟨o, e, _⟩ := T.obj 0 _ st2 b hb; ⟨o, e⟩
  have stkO : ∀ b ∈ frs X.stack, ∃ o, s2.heap.get? b = some o := fun b hb => by
    obtain ⟨_, o, ho, _⟩ := I2.stack.mem hb
    exact ⟨o, ho⟩
  have freshH : ∀ a, s2.heap.objs.size ≤ a → H2 a = none := fun a ha => I2.hok.fresh ha
  have stkFp : ∀ b ∈ fp, b ∉ frs X.stack := fun b hb z => by
    rcases List.mem_cons.mp (I2.stkSub b z) with q | q
    · exact (f2 b hb).2.1 q
    · exact (f2 b hb).2.2.1 q
  have okX : (jA X scope cl G.objs.size (x :: ys) s2 H2 fp).Ok := {
    mod := I2.ok.mod
    kind := hkind
    glob := I2.ok.glob
    blt := I2.ok.blt
    above := by show s2.heap.objs.size ≤ G.objs.size; rw [szG]; omega
    inj := fun y z c e1 e2 => I2.ok.inj y z c (clX y c e1) (clX z c e2)
    has := fun y hy => has y hy
    cab := fun y c e _ => absurd (show false = true from e) Bool.false_ne_true
    hd := I2.ok.hd
    frames := I2.ok.frames
    stk := .inl rfl
    exf := fun b hb => by
      obtain ⟨o, e⟩ := fpO b hb
      exact ⟨ltC b o e, fun y c e1 => (f2 b hb).2.2.2.2.1 y c (clX y c e1)⟩
    bs := I2.bs
    bsz := Nat.le_trans I2.ok.bsz I2.sz
    noex := fun b o e hb => by
      rcases (f2 b hb).2.2.2.1 with q | q
      · exact I2.ok.noex b o e q
      · exact Nat.lt_irrefl _ (Nat.lt_of_lt_of_le (Nat.lt_of_lt_of_le (Heap.lt_size e) I2.ok.bsz) q)
    exfs := stkFp
    funs := I2.stack
    frf := I2.stkFree }
  have lenY : js.length = ys.length := by have := congrArg List.length hjs; simpa using this
  have I0 : Inv (jA X scope cl G.objs.size (x :: ys) s2 H2 fp) [] (none :: kn js σ) H2 { s2 with heap := h₁, toks := s2.toks + ([] : List (Str × Value)).length } := by
    refine ⟨okX, rfl, I2.bare, Un.kept old, ⟨_, hns, fun k y v e1 e2 e3 => ?_⟩, fun y c e => ?_, freshH _ (by show s2.heap.objs.size ≤ G.objs.size; rw [szG]; omega), fun y c e => I2.freeC y c (clX y c e), fun p hp => absurd (show p ∈ ([] : List (Addr × Obj)) from hp) (by simp), I2.hok.kept old, ?_⟩
    · cases k with
      | zero => cases e2
      | succ k =>
        have e1' : ys[k]? = some y := e1
        have e2' : (kn js σ)[k]? = some (some v) := e2
        unfold kn at e2'
        rw [List.getElem?_map] at e2'
        cases ej : js[k]? with
        | none => rw [ej] at e2'; cases e2'
        | some j =>
          rw [ej] at e2'
          have e4 : (σ[j]?).join = some v := Option.some.inj e2'
          have e5 : σ[j]? = some (some v) := by
            cases q : σ[j]? with
            | none => rw [q] at e4; cases e4
            | some o => rw [q] at e4; exact congrArg some e4
          have e6 : X.N[j]? = some y := by
            have := congrArg (fun l => l[k]?) hjs
            simp only [List.getElem?_map, ej, e1', Option.map_some] at this
            exact Option.some.inj this
          have hy := List.all_eq_true.mp hys y (List.mem_of_getElem? e1')
          simp only [Bool.and_eq_true, Bool.or_eq_true, beq_iff_eq] at hy
          obtain ⟨ky, ko⟩ := hy
          obtain ⟨m, hn, hl⟩ := I2.loc
          obtain ⟨u, r, lk⟩ := hl j y v e6 e5 (.inr ko)
          refine ⟨u, r, .inr ⟨ky, ?_⟩⟩
          rcases lk with ⟨kl, _⟩ | ⟨_, c, ec, hc⟩
          · have kl' : X.env.scope.names.lookup y = some .local := kl
            rw [kl'] at ko
            rcases ko with z | z <;> cases z
          · obtain ⟨c', ec'⟩ := has y ky
            have := clX y c' ec'
            rw [ec] at this
            cases this
            obtain ⟨o, ho, hd⟩ := hc
            exact ⟨c, ec', o, old c o ho, hd⟩
    · obtain ⟨v, o, ho, hd⟩ := I2.cell y c (clX y c e)
      exact ⟨v, o, old c o ho, hd⟩
    · show (none :: kn js σ).length = (x :: ys).length
      simp [kn, lenY]
  have loop : ∀ s3 : Shared, s3 = { s2 with heap := h₁, toks := s2.toks + ([] : List (Str × Value)).length } →
      codeAny (model X.prog X.w) X.A (.compLoop (.ListComp elt [⟨.Name x px, iter, [], 0⟩] scope pos) 0 (.ref it) (.ref s2.heap.objs.size) (compEnvC scope cl G.objs.size X.env))
        (compPost (model X.prog X.w) X.A X.xe use Q (.ref s2.heap.objs.size) G.objs.size) s3 := by
    rintro s3 rfl
    have stat : ∀ {H' : Hp} (o : Obj), (∀ b ∈ fp, H' b = none) → ∀ b ∈ fp, qJk (jA X scope cl G.objs.size (x :: ys) s2 H2 fp) [(s2.heap.objs.size, o)] H' b := fun {H'} o hn b hb => by
      obtain ⟨ob, eb⟩ := fpO b hb
      refine ⟨hn b hb, ltC b ob eb, stkFp b hb, .inl hb, fun y c e1 => (f2 b hb).2.2.2.2.1 y c (clX y c e1), fun p hp => ?_⟩
      have hp' : p = (s2.heap.objs.size, o) := by
        have : p ∈ [(s2.heap.objs.size, o)] := hp
        simpa using this
      rw [hp']
      exact Ne.symm (ltD b ob eb)
    refine codeAny_compLoop_list (fun n s' => ∃ i acc its H3, Inv (jA X scope cl G.objs.size (x :: ys) s2 H2 fp) [] (none :: kn js σ) H3 s' ∧ tn i s'.heap ∧ (∀ b ∈ fp, H3 b = none) ∧ s'.heap.PlainList s2.heap.objs.size its.toArray ∧ Vals acc its ∧ H3 s2.heap.objs.size = none ∧ W i n acc H3)
      ?_ m0 ⟨0, [], [], H2, I0, T.keep _ _ _ st2 fun b _ o e => old b o e, fun b hb => (f2 b hb).1, hacc, .nil, freshH _ (Nat.le_refl _), w0⟩
    rintro n s3 ⟨i, acc, its, H3, I3, st3, fr3, ⟨nn, pl3⟩, va3, hD3, w3⟩
    obtain ⟨hlen, cs⟩ := turn i n acc H3 w3
    have hal : acc.length = its.length := va3.length
    have nD : s2.heap.objs.size ∉ frs X.stack := fun z => by
      obtain ⟨o, e⟩ := stkO _ z
      exact ltD _ o e rfl
    have I3p : Inv (jA X scope cl G.objs.size (x :: ys) s2 H2 fp) [(s2.heap.objs.size, { cls := .type "list", data := .seq its.toArray nn })] (none :: kn js σ) H3 s3 := I3.pins_of fun p hp => by
      have e : p = (s2.heap.objs.size, { cls := .type "list", data := .seq its.toArray nn }) := by simpa using hp
      subst e
      exact ⟨pl3, hD3, DC, nD, fun v z => nomatch z⟩
    rcases cs with ⟨stop, q⟩ | ⟨go, step⟩
    · refine thn (T.done (jA X scope cl G.objs.size (x :: ys) s2 H2 fp) rfl rfl rfl hcm i _ s3 _ H3 _ I3p (stat _ fr3) st3 stop) fun r s4 hr => ?_
      obtain ⟨hr, I4⟩ := hr
      subst hr
      have pl4 := (I4.pin (s2.heap.objs.size, { cls := .type "list", data := .seq its.toArray nn }) (by simp)).1
      obtain ⟨m, hn, _⟩ := I4.loc
      have B := I4.base
      have un' : Un (frs X.stack) fp H2 (upd H3 s2.heap.objs.size (.lst acc)) s2.heap s4.heap := by
        refine ⟨fun b o e n hb hx => B.keep b o e n hb hx, fun b o e n hb hx => B.slot b o e n hb hx, fun b o e n hx => ?_, fun b o e hx => B.there b o e hx, fun b xs e => ?_, fun b o u e => ?_, fun b ps e => ?_⟩
        · rw [qi (ltD b o e)]
          exact B.free b o e n hx
        · have z := B.tups b xs e
          rw [qi (ql z hD3)]
          exact z
        · have z := B.frzs b o u e
          rw [qi (ql z hD3)]
          exact z
        · obtain ⟨more, z⟩ := B.tbls b ps e
          exact ⟨more, by rw [qi (ql z hD3)]; exact z⟩
      have freeC4 : H3 G.objs.size = none := I4.free
      have hok' : HOk X.prog X.w (upd H3 s2.heap.objs.size (.lst acc)) s4.heap := fun b u e => by
        by_cases hb : b = s2.heap.objs.size
        · subst hb
          rw [qE] at e
          cases e
          exact ⟨Nat.le_of_lt hlen, its, nn, va3, pl4⟩
        · rw [qi hb] at e
          exact (I4.hok b u e).stay (fun c v hc z => z) (fun c z => by rw [qi (ql z hD3)]; exact z) fun c xs z => by rw [qi (ql z hD3)]; exact z
      have hch : ∀ b ∈ fp, (b ∈ X.ex ∨ X.s₀.heap.objs.size ≤ b) ∧ b ≠ X.env.locals ∧ (∀ y c, X.env.cells.lookup y = some c → c ≠ b) ∧ ∀ p ∈ X.pn ++ pins, p.1 ≠ b := fun b hb => by
        obtain ⟨_, z1, _, z3, z4, z5⟩ := f2 b hb
        exact ⟨z3, z1, z4, z5⟩
      have I5 := I2.call' (s' := s4) (ch := fp) I4.os un' hok' I4.bare hch
      refine fin (.ref s2.heap.objs.size) _ _ s4 G.objs.size I5 rfl (q _ hD3) ⟨m, hn⟩ ?_ ?_ ?_ (fun y c e => ?_) fun p hp => ?_
      · rw [qi (Ne.symm DC)]; exact freeC4
      · rw [szG]; exact Nat.ne_of_gt (Nat.lt_succ_of_lt I2.lt)
      · rw [szG]; exact Nat.le_succ_of_le I2.sz
      · obtain ⟨v, o, ho, _⟩ := I2.cell y c e
        exact ltC c o ho
      · exact ltC p.1 p.2 (I2.pin p hp).1
    · refine thn (T.item (jA X scope cl G.objs.size (x :: ys) s2 H2 fp) rfl rfl rfl hcm i _ s3 _ H3 _ I3p (stat _ fr3) st3 go) fun r s4 hr => ?_
      obtain ⟨u, hr, h4⟩ := hr
      subst hr
      show wpAny (model X.prog X.w) X.A (letOwnedTupleGo (.Name x px) (.ref it) u >>= fun _ => assign (.Name x px) (compEnvC scope cl G.objs.size X.env) u) _ _ s4
      refine wpAny_bind (thn h4 fun _ s5 h5 => ?_)
      obtain ⟨v, H5, I5, r5, y5, st5, fr5⟩ := h5
      have I5' := I5.pinned (stat _ fr5) (T.obj _ _ st5)
      refine wpAny_assign_Name (ki (i := 0) I5' hnd rfl (.inl (lookup_relabel_local hx)) r5 (fun s6 I6 => ?_) (.inr (lookup_relabel_local hx)))
      have I6' : Inv (jA X scope cl G.objs.size (x :: ys) s2 H2 fp).nox _ _ H5 s6 := I6.wish _
      refine wpAny_mono (he G.objs.size s2 H2 fp _ s6 _ H5 _ I6' (step v H5 y5)) (fun y s7 h7 => ?_) fun _ _ z => z.elim
      obtain ⟨v7, H7, I7, r7, m', hm', w7⟩ := h7
      have I7 := I7.unwish
      have pinD := I7.pin (s2.heap.objs.size, { cls := .type "list", data := .seq its.toArray nn }) (by simp)
      refine wpAny_list_append_plain (items := its.toArray) ⟨nn, pinD.1⟩ (fun h' hp' hsb' => ?_) (by rw [List.size_toArray, ← hal]; exact Nat.le_of_lt hlen)
      have e8 : its.toArray.push y = (its ++ [y]).toArray := by simp
      rw [e8] at hp'
      have pf : ∀ b ∈ fp, ∀ o, s5.heap.get? b = some o → s7.heap.get? b = some o ∧ H7 b = none := fun b hb o e => by
        have z := I7.pin (b, o) (List.mem_append_right _ (List.mem_append_right _ (kZ hb e)))
        exact ⟨z.1, z.2.1⟩
      have I8 : Inv (jA X scope cl G.objs.size (x :: ys) s2 H2 fp) [] (none :: kn js σ) H7 { s7 with heap := h' } := by
        have I7u : Inv (jA X scope cl G.objs.size (x :: ys) s2 H2 fp) [] (none :: kn js σ) H7 s7 := (I7.pins_of (pins' := []) fun p hp => absurd hp (by simp)).weak (by simp) fun k v e => by
          cases k with
          | zero => cases e
          | succ k => exact e
        refine I7u.turned (t' := s7.toks) (it := s2.heap.objs.size) (fun b o hb e => hsb'.extBut b o hb e) pinD.2.1 DC (.inr (Nat.le_refl _)) (fun y c e => ?_) fun p hp => absurd (show p ∈ ([] : List (Addr × Obj)) from hp) (by simp)
        obtain ⟨v, o, ho, _⟩ := I2.cell y c (clX y c e)
        exact ltD c o ho
      refine ⟨m', hm', i + 1, acc ++ [v7], its ++ [y], H7, I8, ?_, fun b hb => ?_, hp', va3.append (.cons r7 .nil), pinD.2.1, w7⟩
      · refine T.keep _ _ _ st5 fun b hb o e => hsb'.extBut b o ?_ (pf b hb o e).1
        obtain ⟨ob, eb⟩ := fpO b hb
        exact ltD b ob eb
      · obtain ⟨o, e, _⟩ := T.obj _ _ st5 b hb
        exact (pf b hb o e).2
  exact codeAny_compStart_list (loop _ rfl) (T.self _ 0 _ _ _ (T.keep _ _ _ st2 fun b _ o e => old b o e) (loop _ rfl))
theorem wQ {X : Cx} {pins : List (Addr × Obj)} {σ : L2.St} {H : Hp} {s : Shared} {C : Addr} {h' : Heap} (I : Inv X pins σ H s) (hsb : Heap.SameBut C s.heap h') (h0 : H C = none) (h1 : C ≠ X.env.locals) (h2 : X.s₀.heap.objs.size ≤ C)
    (h3 : ∀ y c, X.env.cells.lookup y = some c → c ≠ C) (h4 : ∀ p ∈ X.pn ++ pins, p.1 ≠ C) : Inv X pins σ H { s with heap := h' } :=
  I.turned (t' := s.toks) (it := C) (fun b o hb e => hsb.extBut b o hb e) h0 h1 (.inr h2) h3 h4
theorem ve {X : Cx} {elt iter : Expr} {x : Str} {px : Pos} {scope : Scope} {cl : List (Str × Addr)} {pos : Pos} {wi : TI} {te : TE} (ys : List Str) (js : List Nat)
    (hcm : X.calm = true) (hi : PI X (.Name x px) iter wi) (he : ∀ C s H fp, PE (jA X scope cl C (x :: ys) s H fp).nox elt te)
    (hclos : closureFor scope X.env = pure cl := by rfl)
    (hcl : cl.map (fun p => X.env.cells.lookup p.1) = cl.map (fun p => some p.2) := by rfl)
    (hcell : (scope.names.all fun p => p.2 != .cell) = true := by rfl) (hkind : scope.kind = .function := by rfl)
    (hnames : (scope.names.all fun p => p.2 != .local || scope.names.lookup p.1 == some .local) = true := by rfl)
    (hx : scope.names.lookup x = some .local := by rfl)
    (hhas : ((relabel scope X.env).names.all fun p => (p.2 != .cell && p.2 != .free) || (cl.lookup p.1).isSome) = true := by rfl)
    (hnd : (x :: ys).Nodup := by decide)
    (hjs : js.map (fun j => X.N[j]?) = ys.map some := by rfl)
    (hys : (ys.all fun y => ((relabel scope X.env).names.lookup y == some .cell || (relabel scope X.env).names.lookup y == some .free) && (X.env.scope.names.lookup y == some .cell || X.env.scope.names.lookup y == some .free)) = true := by rfl)
    (hs : ∀ x, foldedSetIterable iter X.env x = pure x := by intro _; rfl) : PE X (.ListComp elt [⟨.Name x px, iter, [], 0⟩] scope pos) (qLf js wi te) := by
  intro pins s σ H Q I h
  rw [eval_ListComp]
  refine qDq ys js hcm hi he hclos hcl hcell hkind hnames hx hhas hnd hjs hys hs Q none (EP X pins σ Q) I h fun v u H' s' C I' r q hm h0 h1 h2 h3 h4 => ?_
  obtain ⟨m, hm⟩ := hm
  exact ⟨m, hm, fun h' hsb => ⟨v, H', wQ I' hsb h0 h1 h2 h3 h4, r, q⟩⟩
theorem qHr {X : Cx} {elt iter : Expr} {x : Str} {px : Pos} {scope : Scope} {cl : List (Str × Addr)} {pos : Pos} {wi : TI} {te : TE} (ys : List Str) (js : List Nat)
    {i : Nat} {y : Str} {py spos : Pos} (hN : X.N.Nodup) (hi' : X.N[i]? = some y) (hy : X.env.kindOf y = some .local) (hcm : X.calm = true) (hi : PI X (.Name x px) iter wi) (he : ∀ C s H fp, PE (jA X scope cl C (x :: ys) s H fp).nox elt te)
    (hclos : closureFor scope X.env = pure cl := by rfl)
    (hcl : cl.map (fun p => X.env.cells.lookup p.1) = cl.map (fun p => some p.2) := by rfl)
    (hcell : (scope.names.all fun p => p.2 != .cell) = true := by rfl) (hkind : scope.kind = .function := by rfl)
    (hnames : (scope.names.all fun p => p.2 != .local || scope.names.lookup p.1 == some .local) = true := by rfl)
    (hx : scope.names.lookup x = some .local := by rfl)
    (hhas : ((relabel scope X.env).names.all fun p => (p.2 != .cell && p.2 != .free) || (cl.lookup p.1).isSome) = true := by rfl)
    (hnd : (x :: ys).Nodup := by decide)
    (hjs : js.map (fun j => X.N[j]?) = ys.map some := by rfl)
    (hys : (ys.all fun y => ((relabel scope X.env).names.lookup y == some .cell || (relabel scope X.env).names.lookup y == some .free) && (X.env.scope.names.lookup y == some .cell || X.env.scope.names.lookup y == some .free)) = true := by rfl)
    (hs : ∀ x, foldedSetIterable iter X.env x = pure x := by intro _; rfl) (hsw : swapsWith (.ListComp elt [⟨.Name x px, iter, [], 0⟩] scope pos) (some (.Name y py)) spos.line X.env = pure true := by rfl) : PS X (.Assign [.Name y py] (.ListComp elt [⟨.Name x px, iter, [], 0⟩] scope pos) spos) (qNv (qLf js wi te) (qJ9 i)) := by
  intro pins s σ H D I h
  rw [exec_Assign_Name_used _ _ _ _ hsw]
  refine wpAny_bind (wpAny_standAt (wpAny_bind ?_))
  have key := qDq ys js hcm hi he hclos hcl hcell hkind hnames hx hhas hnd hjs hys hs (pos := pos) (fun v H' => D.nx (σ.set i (some v)) H') (some (assign (.Name y py) X.env)) (fun _ s' => SP X pins D .next s') I h fun v u H' s' C I' r q hm h0 h1 h2 h3 h4 => ?_
  · exact wpAny_bind (thn key fun _ s' hq => wpAny_pure (wpAny_pure hq))
  · refine wpAny_assign_Name (qAl I' hN hi' (.inl hy) r (fun s2 I2 ch => ?_) (.inr hy))
    obtain ⟨b, sb, hb⟩ := ch
    obtain ⟨m, hm⟩ := hm
    have nb : C ≠ b := by
      rcases hb with rfl | hb
      · exact h1
      · exact Ne.symm (h3 y b hb)
    exact ⟨m, hm.sameBut sb nb, fun h' hsb => ⟨_, H', wQ I2 hsb h0 h1 h2 h3 h4, q⟩⟩
def Nxt (n i : Nat) (P : Prop) : Prop := ∃ m', m' < n - i ∧ m' = n - (i + 1) ∧ i + 1 ≤ n ∧ P
theorem Nxt.mk {n i : Nat} {P : Prop} (h : i < n) (p : P) : Nxt n i P := ⟨n - (i + 1), by omega, rfl, h, p⟩
theorem zt {K : PySem.W.Frag} {a : Addr} {xs : List V} {js : List Nat} {te : TE} {σ : L2.St} {H : Hp} {Q : VK} (Pv : Nat → List V → Hp → Prop) (h0 : Pv 0 [] H) (hl : ∀ i acc H, i ≤ xs.length → Pv i acc H → SqL K H a xs ∧ acc.length < sizeLine)
    (hs : ∀ i x acc H, i < xs.length → xs[i]? = some x → Pv i acc H → te (some x :: kn js σ) H fun v H' => Nxt xs.length i (Pv (i + 1) (acc ++ [v]) H')) (hd : ∀ acc H, Pv xs.length acc H → ∀ D, H D = none → Q (.ref D) (upd H D (.lst acc))) : wU js te σ Q (Itl K a) H := by
  refine ⟨fun i m acc H => m = xs.length - i ∧ i ≤ xs.length ∧ Pv i acc H, ⟨xs.length, by simp, Nat.zero_le _, h0⟩, ?_⟩
  rintro i m acc H2 ⟨rfl, hi, p⟩
  obtain ⟨q, hz⟩ := hl i acc H2 hi p
  refine ⟨hz, ?_⟩
  by_cases hlt : i < xs.length
  · refine .inr ⟨⟨xs, xs[i], q, by simp [hlt]⟩, fun x H3 y => ?_⟩
    obtain ⟨e, y⟩ := y
    subst e
    exact hs i x acc _ hlt (y xs q) p
  · have e : i = xs.length := by omega
    subst e
    exact .inl ⟨⟨xs, q, Nat.le_refl _⟩, hd acc H2 p⟩
theorem qHf {lo : Int} {n : Nat} {js : List Nat} {te : TE} {σ : L2.St} {H : Hp} {Q : VK} (Pv : Nat → List V → Hp → Prop) (h0 : Pv 0 [] H) (hl : ∀ i acc H, i ≤ n → Pv i acc H → acc.length < sizeLine)
    (hs : ∀ i acc H, i < n → Pv i acc H → te (some (.int (lo + i)) :: kn js σ) H fun v H' => Nxt n i (Pv (i + 1) (acc ++ [v]) H')) (hd : ∀ acc H, Pv n acc H → ∀ D, H D = none → Q (.ref D) (upd H D (.lst acc))) : wU js te σ Q (Itr lo n) H := by
  refine ⟨fun i m acc H => m = n - i ∧ i ≤ n ∧ Pv i acc H, ⟨n, by simp, Nat.zero_le _, h0⟩, ?_⟩
  rintro i m acc H2 ⟨rfl, hi, p⟩
  refine ⟨hl i acc H2 hi p, ?_⟩
  by_cases hlt : i < n
  · refine .inr ⟨hlt, fun x H3 y => ?_⟩
    obtain ⟨e, y⟩ := y
    subst e y
    exact hs i acc _ hlt p
  · have e : i = n := by omega
    subst e
    exact .inl ⟨Nat.le_refl _, hd acc H2 p⟩
end L3
set_option maxHeartbeats 4000000
namespace L3
open PySem PySem.Spec PyProof.Rows L2
structure Def (K : PySem.W.Frag) (mg : Str → Option Value) (x : Str) (st : Stmt) (ps : List Str) (f : Addr) (fd : FuncData) : Prop where
  F : Fun K x x st f fd
  b : Binds K fd ps []
  m : mg x = some (.ref f)
section
variable {X : Cx}
theorem qK {k j : Nat} {x : Str} {st : Stmt} {ps : List Str} {f : Addr} {fd : FuncData} {sp : Sp} {e : Expr} {es : List Expr} {t : TA} {p pos : Pos} (D : Def X.K X.mg x st ps f fd) (F : FnOk X.prog X.w X.K X.mg X.base CX0 j f fd ps sp) (hr : Room k X.A) (hg : Gl X x) (ha : PA X (e :: es) t) (hj : j ≤ k := by decide)
    (hdb : (x == ("__debug__" : Str)) = false := by decide) (he : starEach (e :: es) X.env = (false, eval e X.env) :: starEach es X.env := by rfl) (hpl : (backTo pos (starEach es X.env)).any (·.1) = false := by rfl) :
    PE X (.Call (.Name x p) (e :: es) [] pos) (qLk sp [] E0 t) := qHu F (hr.mono hj) hg D.m D.F.kp D.b .nil qOl ha hdb he hpl
theorem qGy {x : Str} {n : String} {pos : Pos} (hg : Gl X x) (hm : X.mg x = none) (hv : bootBuiltins x = some (.type n)) (hn : x ≠ "__name__" := by decide) (hd : (x == ("__debug__" : Str)) = false := by decide) : PE X (.Name x pos) (tC (.ty n)) :=
  qLq hg hm hv rfl hn hd
end
theorem qF9 {X : Cx} {K : PySem.W.Frag} (h : X.K = K) : IxR X (qNr K) := h ▸ qm
theorem qBp {X : Cx} {K : PySem.W.Frag} (h : X.K = K) : IxR X (qNt K) := h ▸ qH
def qOp (t : TS) : TS := fun D σ H => ∃ R : L2.St → Hp → Prop, t { D with nx := R } σ H ∧ ∀ σ' H', R σ' H' → D.nx σ' H'
theorem zZ {X : Cx} {st : Stmt} {t : TS} (h : PS X st t) : PS X st (qOp t) := by
  rintro pins s σ H D I ⟨R, ht, hR⟩
  refine thn (h pins s σ H { D with nx := R } I ht) fun f s' q => ?_
  cases f with
  | next => obtain ⟨σ', H', I', r⟩ := q; exact ⟨σ', H', I', hR _ _ r⟩
  | brk => exact q
  | cont => exact q
  | ret u => exact q
theorem qF {H : Hp} {p : Addr} (h : H p = none) (o : HO) : Same H (upd H p o) := fun b u q => by rw [qi (ql q h)]; exact q
theorem Same.tup {K : PySem.W.Frag} {H H' : Hp} {a : Addr} {xs : List V} (e : Same H H') (h : SqT K H a xs) : SqT K H' a xs := by
  rcases h with (h | ⟨o, h⟩) | h
  · exact .inl (.inl (e _ _ h))
  · exact .inl (.inr ⟨o, e _ _ h⟩)
  · exact .inr h
end L3
set_option maxHeartbeats 4000000
namespace L3
open PySem PySem.Spec PyProof.Rows L2
section
variable {X : Cx}
def DE1 (K : PySem.W.Frag) (H : Hp) (x y : V) (b : Bool) : Prop := (zL x = true ∧ zL y = true ∧ b = eqV x y) ∨
  ∃ p q xs ys, x = .ref p ∧ y = .ref q ∧ SqT K H p xs ∧ SqT K H q ys ∧ xs.all zL = true ∧ ys.all zL = true ∧ b = qBv xs ys ∧ (p = q → b = true)
theorem DE1.at {pins : List (Addr × Obj)} {σ : L2.St} {H : Hp} {s : Shared} {A : Around} {x y : V} {u v : Value} {b : Bool} (I : Inv X pins σ H s) (hu : A.units < cLine) (rx : RelV x u) (ry : RelV y v) (h : DE1 X.K H x y b) : SeqAt.EqAt A s u v b := by
  rcases h with ⟨f1, f2, rfl⟩ | ⟨p, q, xs, ys, rfl, rfl, h1, h2, f1, f2, rfl, hb⟩
  · exact qDd rx ry f1 f2
  · cases rx; cases ry
    by_cases e : p = q
    · subst e
      rw [hb rfl]
      exact SeqAt.EqAt.same _
    · obtain ⟨us, r1, t1, _⟩ := I.tuple h1
      obtain ⟨ws, r2, t2, _⟩ := I.tuple h2
      have l1 : us.toArray.size = xs.length := by rw [List.size_toArray]; exact r1.length.symm
      have l2 : ws.toArray.size = ys.length := by rw [List.size_toArray]; exact r2.length.symm
      have := SeqAt.EqAt.of_refs e (SeqAt.RcAt.tuples t1 t2 hu (vd (A := A.in1) (s := s) r1 r2 f1 f2))
      rw [l1, l2] at this
      exact this
end
end L3
set_option maxHeartbeats 4000000
namespace L3
open PySem PySem.Spec PyProof.Rows L2
def qDz (h : Heap) (e : Addr) (C : Value) (hd : Option Addr) : Prop :=
  ∃ (vs : Array Value) (sl : Array (Option Value)) (od : Option Addr), h.get? e = some { cls := C, dict := od, data := .fields vs, slots := sl } ∧
    match hd with
    | none => vs[1]? = some .none
    | some T => vs[1]? = some (.ref T) ∧ T ≠ e ∧ ∃ oT ts, h.get? T = some oT ∧ oT.data = .fields ts ∧ ts[3]? = some .none
structure Noted (fs : List Addr) (e : Addr) (hd : Option Addr) (C : Value) (h h' : Heap) : Prop where
  keep : ∀ b o, h.get? b = some o → b ∉ fs → b ≠ e → some b ≠ hd → h'.get? b = some o
  slot : ∀ b o, h.get? b = some o → b ∈ fs → b ≠ e → some b ≠ hd → ∃ sl, h'.get? b = some { o with slots := sl }
  ent : ∃ T, (h.get? T = none ∨ hd = some T) ∧ qDz h' e C (some T)
theorem Noted.before {fs : List Addr} {e T : Addr} {C : Value} {h h1 h' : Heap} (x : Noted fs e none C h1 h') (k : ∀ b, b ≠ T → h1.get? b = h.get? b) (t : ∃ o, h1.get? T = some o) : Noted fs e (some T) C h h' := by
  refine ⟨fun b o q hf he ht => x.keep b o ?_ hf he (by simp), fun b o q hf he ht => x.slot b o ?_ hf he (by simp), ?_⟩
  · rw [k b (fun z => ht (by rw [z]))]; exact q
  · rw [k b (fun z => ht (by rw [z]))]; exact q
  · obtain ⟨T', n | n, r⟩ := x.ent
    · refine ⟨T', .inl ?_, r⟩
      rw [← k T' (fun z => ?_)]; exact n
      obtain ⟨o, q⟩ := t
      rw [z, q] at n; cases n
    · cases n
section
variable {M : Model} {A : Around} {E : Value → Shared → Prop} {s : Shared}
theorem qDp {base : Heap} {env : Env} {outer : List Env} {L e : Addr} {C head : Value} {vs : Array Value} {sl : Array (Option Value)} {od : Option Addr} {had : Bool} {Q : Unit → Shared → Prop}
    (fr : A.frames = some (env :: outer)) (ff : s.heap.FunFrames base (env :: outer)) (ef : env.frame = some L) (re : s.heap.get? e = some { cls := C, dict := od, data := .fields vs, slots := sl }) (v1 : 1 < vs.size)
    (k : ∀ h', Noted (frs (env :: outer)) e none C s.heap h' → Q () { s with heap := h' }) :
    wpAny M A (do let a ← frameOf env; let pl ← entryPlaceOf L had; let b ← EntryCells.newEntry head a .none (rawInt L) .none pl; setField (.ref e) 1 b) (fun _ s' => wpAny M A (setFlight (.ref e) none) Q E s') E s := by
  have efs : e ∉ frs (env :: outer) := fun z => by
    obtain ⟨_, o, q, nf⟩ := ff.mem z
    rw [re] at q; cases q
    exact nf vs rfl
  refine wpAny_bind (wpAny_frameOf_fun fr ff ef fun g so => ?_)
  refine wpAny_bind (wpAny_entryPlaceOf fun pl ip => ?_)
  unfold EntryCells.newEntry newFields
  refine wpAny_bind (wpAny_newObj_type ?_ (ip.sizeOk5 _ _ _ _ _))
  generalize hN : ({ cls := .type "traceback", dict := none, data := .fields ([head, .ref L, .none, rawInt L, .none] ++ (if pl.isEmpty then List.replicate 6 Value.none else pl)).toArray } : Obj) = N
  have Nd : N.data = .fields ([head, .ref L, .none, rawInt L, .none] ++ (if pl.isEmpty then List.replicate 6 Value.none else pl)).toArray := by rw [← hN]
  have q1 : g.get? e = some { cls := C, dict := od, data := .fields vs, slots := sl } := (so.2.1 e efs).trans re
  have q2 := Heap.get?_push_of_some (h := g) N q1
  have ne : g.objs.size ≠ e := Nat.ne_of_gt (Heap.lt_size q1)
  refine wpAny_setField q2 rfl v1 ?_
  have q3 := Heap.get?_update_self (Obj.mapFields (·.setIfInBounds 1 (Value.ref g.objs.size))) q2 rfl
  have nf : N.isFreed = false := Obj.isFreed_of_fields Nd
  have t3 : ((g.push N).update e (Obj.mapFields (·.setIfInBounds 1 (Value.ref g.objs.size)))).get? g.objs.size = some N :=
    (Heap.get?_update_other (g.push N) _ (Ne.symm ne)).trans (Heap.get?_push_size g nf)
  unfold setFlight
  refine wpAny_bind (wpAny_field q3 (vs := vs.setIfInBounds 1 (.ref g.objs.size)) rfl (x := .ref g.objs.size) (by simp [v1]) ?_)
  rw [if_pos (by simp)]
  refine wpAny_setField t3 Nd (by simp only [List.size_toArray, List.length_append, List.length_cons, List.length_nil] <;> omega) (k _ ?_)
  have t4 := Heap.get?_update_self (Obj.mapFields (·.setIfInBounds 3 ((none : Option Addr).elim Value.none fun f => rawInt f))) t3 (Obj.isFreed_of_fields (Obj.data_mapFields Nd _))
  have oth : ∀ b o, b ≠ e → g.get? b = some o → (((g.push N).update e (Obj.mapFields (·.setIfInBounds 1 (Value.ref g.objs.size)))).update g.objs.size (Obj.mapFields (·.setIfInBounds 3 ((none : Option Addr).elim Value.none fun f => rawInt f)))).get? b = some o := fun b o hb q => by
    rw [Heap.get?_update_other _ _ (Nat.ne_of_gt (Heap.lt_size q)), Heap.get?_update_other _ _ (Ne.symm hb)]
    exact Heap.get?_push_of_some _ q
  refine ⟨fun b o q hf he _ => oth b o he ((so.2.1 b hf).trans q), fun b o q hf he _ => ?_, g.objs.size, .inl ?_, vs.setIfInBounds 1 (.ref g.objs.size), sl, od, ?_, by simp [v1], ne, _, _, t4, Obj.data_mapFields Nd _, ?_⟩
  · obtain ⟨sl', q'⟩ := so.2.2 b o q
    exact ⟨sl', oth b _ he q'⟩
  · rw [so.1]
    exact Heap.get?_none_of_le (Nat.le_refl _)
  · rw [Heap.get?_update_other _ _ ne]
    exact q3
  · first
      | (simp; done)
      | (rcases ip with rfl | ⟨_, _, _, _, _, _, _, rfl⟩ <;> simp)
theorem qL7 {base : Heap} {env : Env} {outer : List Env} {L e : Addr} {C : Value} {hd : Option Addr} {Q : Unit → Shared → Prop}
    (fr : A.frames = some (env :: outer)) (ff : s.heap.FunFrames base (env :: outer)) (ef : env.frame = some L) (re : qDz s.heap e C hd)
    (k : ∀ h', Noted (frs (env :: outer)) e hd C s.heap h' → Q () { s with heap := h' }) : wpAny M A (noteFrame (.ref e) env) (fun _ s' => wpAny M A (setFlight (.ref e) none) Q E s') E s := by
  obtain ⟨vs, sl, od, q, r⟩ := re
  unfold noteFrame
  simp only [ef]
  cases hd with
  | none =>
    refine wpAny_bind (wpAny_field q rfl r ?_)
    rw [if_neg (by decide)]
    exact qDp fr ff ef q (Array.getElem?_eq_some_iff.mp r).1 k
  | some T =>
    obtain ⟨r1, nT, oT, ts, qT, dT, r3⟩ := r
    refine wpAny_bind (wpAny_field q rfl r1 ?_)
    rw [if_pos (by simp)]
    refine wpAny_bind (wpAny_field qT dT r3 ?_)
    rw [if_neg (by simp [rawInt])]
    refine wpAny_bind (wpAny_setField qT dT (Array.getElem?_eq_some_iff.mp r3).1 ?_)
    have oth : ∀ b, b ≠ T → (s.heap.update T (Obj.mapFields (·.setIfInBounds 3 Value.none))).get? b = s.heap.get? b := fun b z => Heap.get?_update_other _ _ (Ne.symm z)
    have qT' := Heap.get?_update_self (Obj.mapFields (·.setIfInBounds 3 Value.none)) qT (Obj.isFreed_of_fields (Obj.data_mapFields dT _))
    have nf : ∀ b o, s.heap.get? b = some o → (∀ vs, o.data ≠ .fields vs) → b ≠ T := fun b o z n w => by
      rw [w, qT] at z; cases z
      exact n ts dT
    refine qDp (s := { s with heap := s.heap.update T (Obj.mapFields (·.setIfInBounds 3 Value.none)) }) fr (ff.of_keeps fun b o z n => ⟨o, (oth b (nf b o z n)).trans z, rfl⟩) ef ((oth e (Ne.symm nT)).trans q) (Array.getElem?_eq_some_iff.mp r1).1 fun h' x => ?_
    exact k h' (x.before oth ⟨_, qT'⟩)
end
end L3
set_option maxHeartbeats 4000000
namespace L3
open PySem PySem.Spec PyProof.Rows L2
theorem qK8 {P : Program} {w : World} {H : Hp} {h : Heap} {a : Addr} {o : HO} (x : ObjOk P w H h a o) : ∃ ob, h.get? a = some ob := by
  cases o with
  | lst xs => obtain ⟨_, _, _, _, e⟩ := x; exact ⟨_, e⟩
  | tup xs => obtain ⟨_, _, _, ob, e, _⟩ := x; exact ⟨ob, e⟩
  | dK kvs => obtain ⟨_, _, _, _, o, _, _, e, _⟩ := x; exact ⟨_, e⟩
  | dT kvs => obtain ⟨_, _, _, _, o, _, _, e, _⟩ := x; exact ⟨_, e⟩
  | set S n => obtain ⟨o, _, _, _, e, _⟩ := x; exact ⟨_, e⟩
  | ins C dx fs => obtain ⟨_, _, _, e, _⟩ := x; exact ⟨_, e⟩
  | own y => exact x
  | xd fs => obtain ⟨_, ⟨_, _, _, e, _⟩, _⟩ := x; exact ⟨_, e⟩
  | rng lo hi => obtain ⟨_, _, _, e⟩ := x; exact ⟨_, e⟩
  | frz ob u => obtain ⟨e, _⟩ := x; exact ⟨_, e⟩
  | tbl ps => exact ⟨_, x⟩
  | met f y => exact ⟨_, x⟩
  | ext φ => exact x.2.1
def qJz (h₀ : Heap) (H : Hp) (ps : List (Addr × Obj)) (e : Addr) : Prop := h₀.get? e = none ∧ H e = none ∧ ∀ p ∈ ps, p.1 ≠ e
def qLr (h₀ : Heap) (H : Hp) (ps : List (Addr × Obj)) (h : Heap) (e : Addr) (C : Value) : Prop :=
  qJz h₀ H ps e ∧ ∃ hd, qDz h e C hd ∧ ∀ T, hd = some T → qJz h₀ H ps T
def CXR (P : Program) (w : World) : CXT := fun outer H s E e s' => ∃ ea C H', e = .ref ea ∧ s'.os = s.os ∧ AllBare s'.gens ∧ Un (frs outer) [] H H' s.heap s'.heap ∧ HOk P w H' s'.heap ∧ qLr s.heap H' [] s'.heap ea C ∧ E C none H'
def XE (X : Cx) (Ex : Value → Hp → Prop) : Value → Shared → Prop := fun e s' => ∃ ea C σ H', e = .ref ea ∧ Inv X [] σ H' s' ∧ qLr X.s₀.heap H' X.pn s'.heap ea C ∧ Ex C H'
section
variable {X : Cx} {σ : L2.St} {H : Hp} {s : Shared}
theorem qJe {e : Addr} {hd : Option Addr} {C : Value} {h' : Heap} (I : Inv X [] σ H s) (hex : X.ex = []) (re : qDz s.heap e C hd) (n1 : qJz X.s₀.heap H X.pn e) (n3 : ∀ T, hd = some T → qJz X.s₀.heap H X.pn T)
    (N : Noted (frs X.stack) e hd C s.heap h') : Inv X [] σ H { s with heap := h' } ∧ qLr X.s₀.heap H X.pn h' e C := by
  have B := I.base
  rw [hex] at B
  have ne : ∀ b o, X.s₀.heap.get? b = some o → b ≠ e ∧ some b ≠ hd ∧ b ≠ X.env.locals := fun b o q => by
    refine ⟨fun z => ?_, fun z => ?_, Nat.ne_of_lt (Nat.lt_of_lt_of_le (Heap.lt_size q) I.ok.above)⟩
    · rw [z, n1.1] at q; cases q
    · rw [(n3 b z.symm).1] at q; cases q
  have nin : ∀ b, b ∉ ([] : List Addr) := fun b z => nomatch z
  have nfl : ∀ b o, s.heap.get? b = some o → (∀ vs, o.data ≠ .fields vs) → b ≠ e ∧ some b ≠ hd := fun b o q nf => by
    obtain ⟨vs, sl, od, qe, r⟩ := re
    refine ⟨fun z => ?_, fun z => ?_⟩
    · rw [z, qe] at q; cases q
      exact nf vs rfl
    · subst z
      obtain ⟨_, _, oT, ts, qT, dT, _⟩ := r
      rw [qT] at q; cases q
      exact nf ts dT
  have up : ∀ b o, s.heap.get? b = some o → b ≠ e → some b ≠ hd → ∃ sl, h'.get? b = some { o with slots := sl } := fun b o q z1 z2 => by
    by_cases hs : b ∈ frs X.stack
    · exact N.slot b o q hs z1 z2
    · exact ⟨o.slots, N.keep b o q hs z1 z2⟩
  have un : Un X.fs [] X.H₀ H X.s₀.heap h' := by
    refine ⟨fun b o q n hb hx => ?_, fun b o q n hb hx => ?_, fun b o q n hx => B.free b o q n hx, fun b o q hx => ?_, B.tups, B.frzs, B.tbls⟩
    · obtain ⟨z1, z2, z3⟩ := ne b o q
      refine N.keep b o (B.keep b o q n hb hx) (fun z => ?_) z1 z2
      rcases List.mem_cons.mp (I.stkSub b z) with w | w
      · exact z3 w
      · exact hb w
    · obtain ⟨z1, z2, z3⟩ := ne b o q
      obtain ⟨sl, q1⟩ := B.slot b o q n hb hx
      obtain ⟨sl', q2⟩ := up b _ q1 z1 z2
      exact ⟨sl', q2⟩
    · obtain ⟨z1, z2, z3⟩ := ne b o q
      obtain ⟨o', q1⟩ := B.there b o q hx
      obtain ⟨sl', q2⟩ := up b _ q1 z1 z2
      exact ⟨_, q2⟩
  have hok : HOk X.prog X.w H h' := fun a u q => by
    have key : ∀ c, H c = none → ¬ (c = a ∨ H c = some (.own a)) := fun c z w => by
      rcases w with w | w
      · rw [w, q] at z; cases z
      · rw [z] at w; cases w
    exact (I.hok a u q).stay (fun c v hc z => N.keep c v z (fun w => key c (I.stkFree c w) hc) (fun w => key c (by rw [w]; exact n1.2.1) hc) fun w => key c (n3 c w.symm).2.1 hc) (fun _ z => z) fun _ _ z => z
  have cellK : ∀ c v, s.heap.IsCell c v → h'.IsCell c v := fun c v ⟨o, q, d⟩ => by
    obtain ⟨z1, z2⟩ := nfl c o q fun vs w => by rw [d] at w; cases w
    obtain ⟨sl, q'⟩ := up c o q z1 z2
    exact ⟨_, q', d⟩
  have I' : Inv X [] σ H { s with heap := h' } := by
    refine ⟨I.ok, I.os, I.bare, by rw [hex]; exact un, ?_, fun y c e => ?_, I.free, I.freeC, fun p hp => ?_, hok, I.len⟩
    · obtain ⟨m, ⟨o, es, ep, ho, hd', r⟩, hl⟩ := I.loc
      obtain ⟨z1, z2⟩ := nfl _ o ho fun vs w => by rw [hd'] at w; cases w
      obtain ⟨sl, q'⟩ := up _ o ho z1 z2
      refine ⟨m, ⟨_, es, ep, q', hd', r⟩, fun i x v e1 e2 e3 => ?_⟩
      obtain ⟨u, r, l⟩ := hl i x v e1 e2 e3
      refine ⟨u, r, ?_⟩
      rcases l with l | ⟨k, c, ec, z⟩
      · exact .inl l
      · exact .inr ⟨k, c, ec, cellK c _ z⟩
    · obtain ⟨v, z⟩ := I.cell y c e
      exact ⟨v, cellK c v z⟩
    · obtain ⟨q, n, nl, nf, d⟩ := I.pin p hp
      have hp' : p ∈ X.pn := by simpa using hp
      refine ⟨N.keep p.1 p.2 q (fun z => ?_) (n1.2.2 p hp') fun z => (n3 p.1 z.symm).2.2 p hp' rfl, n, nl, nf, d⟩
      rcases List.mem_cons.mp (I.stkSub p.1 z) with w | w
      · exact nl w
      · exact nf w
  refine ⟨I', n1, ?_⟩
  obtain ⟨T, nT, r⟩ := N.ent
  refine ⟨some T, r, fun T' e' => ?_⟩
  cases e'
  rcases nT with nT | nT
  rotate_left
  · exact n3 T nT
  refine ⟨?_, ?_, fun p hp z => ?_⟩
  · cases q : X.s₀.heap.get? T with
    | none => rfl
    | some o =>
      obtain ⟨o', z⟩ := B.there T o q (nin T)
      rw [nT] at z; cases z
  · cases q : H T with
    | none => rfl
    | some u =>
      obtain ⟨o', z⟩ := qK8 (I.hok T u q)
      rw [nT] at z; cases z
  · have q := (I.pin p (List.mem_append_left _ hp)).1
    rw [z, nT] at q; cases q
end
theorem qMa {X : Cx} {E : Value → Shared → Prop} {st : List Stmt} {t : TS} (h : PSs (X.wish E) st t) (hE : ∀ e s', E e s' → X.xe e s') : PSs X st t := fun pins s σ H D I hw =>
  wpAny_mono (h pins s σ H D (I.wish E) hw) (fun _ _ q => q.unwish) hE
section
variable {P : Program} {w : World} {K : PySem.W.Frag} {mg : Str → Option Value} {base : Heap}
theorem okX {x qual : Str} {st : Stmt} {f : Addr} {fd : FuncData} {N ps : List Str} {k : Nat} {sp : Sp} (F : Fun K x qual st f fd) (S : qR N ps (qG st)) (len : ∀ vs H Q E, sp vs H Q E → vs.length = ps.length)
    (hbody : ∀ (cdv : Value) (A : Around) (outer : List Env) (s : Shared) (H : Hp) (vs : List V) (Q : VK) (E : XK), Room k (A.deeper (envOfC qual (qG st) s.heap.objs.size f cdv)) → sp vs H Q E →
      ∃ t, PSs ((qJi (CXR P w) P w K mg base N qual (qG st) f cdv A outer s H E).wish (XE (qJi (CXR P w) P w K mg base N qual (qG st) f cdv A outer s H E) fun C H' => E C none H')) (qP st) t ∧
        t { nx := fun _ H' => Q .non H', rt := Q } (qBn N vs) H) : FnOk P w K mg base (CXR P w) (k + 1) f fd ps sp := by
  obtain ⟨oc, od, kV, doc, pm, an, cdv, ct, osl, rfl, lk, hcd⟩ := F.ex
  refine qM0 lk hcd S len fun A outer s H vs Q E hr hsp => ?_
  obtain ⟨t, h, q⟩ := hbody cdv A outer s H vs Q E hr hsp
  refine ⟨t, qMa h ?_, q⟩
  rintro e s' ⟨ea, C, σ, H', rfl, I, ⟨n1, hd, r, n3⟩, z⟩
  show wpAny _ _ (leaving _ _) _ _ _
  unfold leaving
  refine wpAny_bind (qL7 I.ok.frames I.stack rfl r fun h' N' => ?_)
  obtain ⟨I', x'⟩ := qJe I rfl r n1 n3 N'
  exact ⟨ea, C, H', rfl, I.os, I.bare, I'.base, I'.hok, x', z⟩
end
theorem qNx {X : Cx} {Ex : Value → Hp → Prop} (hex : X.ex = []) : qF6 (CXR X.prog X.w) (X.wish (XE X Ex)) (fun C _ H' => Ex C H') := by
  rintro pins σ H s e s' I ⟨ea, C, H', rfl, os, bare, un, hok, ⟨n1, hd, r, n3⟩, q⟩
  have I0 := I.unwish
  have I1 : Inv X pins σ H' s' := I0.call' (ch := []) os un hok bare fun b z => nomatch z
  have old : ∀ b, s.heap.get? b = none → X.s₀.heap.get? b = none := fun b z => by
    cases w : X.s₀.heap.get? b with
    | none => rfl
    | some o =>
      obtain ⟨o', w'⟩ := I0.base.there b o w (by rw [hex]; intro y; cases y)
      rw [z] at w'; cases w'
  have pn : ∀ b, s.heap.get? b = none → ∀ p ∈ X.pn, p.1 ≠ b := fun b z p hp w => by
    have q := (I0.pin p (List.mem_append_left _ hp)).1
    rw [w, z] at q; cases q
  exact ⟨ea, C, σ, H', rfl, I1.pins_of (pins' := []) fun p hp => (nomatch hp), ⟨⟨old _ n1.1, n1.2.1, pn _ n1.1⟩, hd, r, fun T e => ⟨old _ (n3 T e).1, (n3 T e).2.1, pn _ (n3 T e).1⟩⟩, q⟩
theorem qCd {X : Cx} {Ex : Value → Hp → Prop} {k j : Nat} {x : Str} {st : Stmt} {ps : List Str} {f : Addr} {fd : FuncData} {sp : Sp} {e : Expr} {es : List Expr} {t : TA} {p pos : Pos} (D : Def X.K X.mg x st ps f fd) (F : FnOk X.prog X.w X.K X.mg X.base (CXR X.prog X.w) j f fd ps sp) (hr : Room k X.A) (hg : Gl X x)
    (ha : PA (X.wish (XE X Ex)) (e :: es) t) (hj : j ≤ k := by decide) (hex : X.ex = [] := by rfl)
    (hdb : (x == ("__debug__" : Str)) = false := by decide) (he : starEach (e :: es) X.env = (false, eval e X.env) :: starEach es X.env := by rfl) (hpl : (backTo pos (starEach es X.env)).any (·.1) = false := by rfl) :
    PE (X.wish (XE X Ex)) (.Call (.Name x p) (e :: es) [] pos) (qLk sp [] (fun C _ H' => Ex C H') t) :=
  qHu (X := X.wish (XE X Ex)) (CX := CXR X.prog X.w) F (hr.mono hj) hg D.m D.F.kp D.b .nil (qNx hex) ha hdb he hpl
def qLz : List Value := [.type "ValueError", .type "Exception", .type "BaseException", .type "object"]
def OwnX (K : PySem.W.Frag) (C : Addr) : Prop := PySem.W.excIn K C qLz "ValueError.__new__" = true
theorem qL6 {K : PySem.W.Frag} {h : Heap} {mg : Str → Option Value} {x : Str} {C : Addr} (X : K.In h) (b : mg x = some (.ref C)) (q : OwnX K C) : OwnCls x C qLz "ValueError.__new__" mg h := by
  refine ⟨b, ?_⟩
  unfold OwnX PySem.W.excIn at q
  split at q
  · rename_i dd cd sl ho
    split at q
    · rename_i C' bm k0 k1 k2 k3 n k5 hm hs
      simp only [Bool.and_eq_true, beq_iff_eq, Bool.not_eq_true'] at q
      obtain ⟨⟨⟨⟨⟨eC, en⟩, del⟩, ht⟩, ok⟩, ni⟩ := q
      subst eC en
      obtain ⟨nm, bs, mro, ns, qn, hd, sn, sub, ab, col, dl⟩ := cd
      dsimp only at hm del ok ni
      subst hm del
      have hsl : sl = #[k0, k1, k2, k3, some (.builtin "ValueError.__new__"), k5] := by
        obtain ⟨l⟩ := sl
        simp only at hs
        rw [hs]
      subst hsl
      exact ⟨bm, ns, nm, qn, bs, hd, sn, sub, ab, col, dd, k0, k1, k2, k3, k5, _, X _ _ ho, .of_isNs (PySem.W.isNs_of_in X ok), PySem.W.nsMap_none_of_in X ok ni, PySem.W.tail_of_in X ht⟩
    · cases q
  · cases q
def qM9 (C : Addr) (Ex : Value → Hp → Prop) (t : TA) : TS := fun _ σ H => t σ H fun vs H1 => vs.length ≤ sizeLine ∧ Ex (.ref C) H1
theorem qGd {X : Cx} {Ex : Value → Hp → Prop} {x : Str} {C : Addr} {np cpos pos : Pos} {e₀ : Expr} {rest : List Expr} {t : TA} (hcm : X.calm = true) (hg : Gl X x) (hm : X.mg x = some (.ref C)) (hx : OwnX X.K C) (ha : PA (X.wish (XE X Ex)) (e₀ :: rest) t)
    (he : starEach (e₀ :: rest) X.env = (false, eval e₀ X.env) :: starEach rest X.env := by rfl) (hpl : (backTo cpos (starEach rest X.env)).any (·.1) = false := by rfl) (hex : X.ex = [] := by rfl) (hdb : (x == ("__debug__" : Str)) = false := by decide) :
    PS (X.wish (XE X Ex)) (.Raise (some (.Call (.Name x np) (e₀ :: rest) [] cpos)) none pos) (qM9 C Ex t) := by
  intro pins s σ H D I h
  obtain ⟨tl, N, nm, q, bs, hdct, sn, sub, ab, col, dd, k0, k1, k2, k3, k5, mN, hC, hN, hni, T⟩ :=
    (qL6 (X := I.ok.mod.kin) hm hx).obj
  refine wpAny_Raise_call_subT (bm := tl) (C := C) (N := N) (nm := nm) (q := q) (bs := bs) (hdct := hdct) (sn := sn) (sub := sub) (ab := ab) (col := col) (dd := dd) (k5 := k5) (k0 := k0) (k1 := k1) (k2 := k2) (k3 := k3)
    PySem.F.excBase_ValueError (mN := mN) (T.hasType PySem.F.excBase_ValueError.hasBase) (I.ok.hd hcm) (by rw [he]; show (false || (backTo cpos (starEach rest X.env)).any (·.1)) = false; rw [hpl]; rfl) hni (qBw I hg hm ⟨rfl, ?_⟩ hdb)
  have z := ha cpos pins s σ H _ I h
  rw [show (X.wish (XE X Ex)).env = X.env from rfl] at z
  rw [he] at z ⊢
  refine Calls.evalArgs_plain (wpAny_mono z (fun us s2 w => ?_) fun _ _ y => y)
  obtain ⟨vs, H1, I1, r1, hl, ex⟩ := w
  have I1' := I1.unwish
  refine ⟨rfl, by rw [← r1.length]; exact hl, I1.bk _ _ hC, hN.keeps I1.bk, T.keeps I1.bk, fun h' e hmk => ?_⟩
  obtain ⟨tt, q1, q2, q3⟩ := hmk.there
  have I2 : Inv X pins σ H1 { s2 with heap := h' } := I1'.kept (t' := s2.toks) hmk.keeps
  refine ⟨e, .ref C, σ, H1, rfl, I2.pins_of (pins' := []) fun p hp => (nomatch hp), ⟨⟨?_, ?_, fun p hp z => ?_⟩, none, ⟨_, _, _, q1, rfl⟩, fun T e' => nomatch e'⟩, ex⟩
  · cases w : X.s₀.heap.get? e with
    | none => rfl
    | some o =>
      obtain ⟨o', w'⟩ := I1'.base.there e o w (by rw [hex]; intro y; cases y)
      rw [hmk.new] at w'; cases w'
  · cases w : H1 e with
    | none => rfl
    | some u =>
      obtain ⟨o', w'⟩ := qK8 (I1'.hok e u w)
      rw [hmk.new] at w'; cases w'
  · have q' := (I1'.pin p (List.mem_append_left _ hp)).1
    rw [z, hmk.new] at q'; cases q'
end L3
set_option maxHeartbeats 4000000
namespace L3
open PySem PySem.Spec PyProof.Rows L2
section
variable {X : Cx} {pins : List (Addr × Obj)} {σ : L2.St} {H : Hp} {s : Shared}
end
inductive qK9 (X : Cx) : Option Str → Option Nat → Prop where
  | none : qK9 X none none
  | some {n : Str} {i : Nat} (hi : X.N[i]? = some n) (hl : X.env.scope.names.lookup n = some .local) : qK9 X (some n) (some i)
end L3
set_option maxHeartbeats 4000000
set_option maxRecDepth 100000
namespace L3
open PySem PySem.Spec PySem.Calls PyProof.Rows PySem.W
section
variable {prog : Program} {w : World} {A : Around} {E : Value → Shared → Prop} {K : Frag} {h : Heap} {g : Array GenState} {d : Drawn} {t : Nat} {os : OsState} {a D : Addr} {ox : Obj}
structure ExcK (K : Frag) (D : Addr) : Prop where
  ga : findIn K (.ref D) "__getattribute__" = some (some (.builtin "BaseException.__getattribute__"))
  gt : findIn K (.ref D) "__getattr__" = some none
  ca : findIn K (.ref D) "__class__" = some (some (.builtin "object.__class__"))
  sg : specialIn K (.builtin "object.__class__") "__get__" = some (some (.builtin "getset_descriptor.__get__"))
  tk : takesIn K (.builtin "object.__class__") = some true
  mo : mroIn K D (.type "object") = some true
  mb : mroIn K D (.type "BaseException") = some true
end
end L3
namespace L3
open PySem PySem.Spec PyProof.Rows L2
end L3
set_option maxHeartbeats 4000000
set_option maxRecDepth 100000
namespace L3
open PySem PySem.Spec PySem.Calls PySem.Builtin PySem.Builtin.ObjectAttr PyProof.Rows
def exOver (K : PySem.W.Frag) (C D : Addr) : Bool := (PySem.W.clsIn K C).any fun cd => cd.mro == .ref C :: .ref D :: qLz
section
variable {prog : Program} {w : World} {A : Around} {E : Value → Shared → Prop} {K : PySem.W.Frag} {s : Shared} {x C D : Addr} {vs : Array Value} {sl : Array (Option Value)} {R : Result → Shared → Prop}
open PySem.W in
theorem qI2 {ox : Obj} {od : Option Obj} {name : Str} {tk : Tok} {v : Value} (X : K.In s.heap) (I : InstAt s.heap x ox C od) (hp : exOver K C D = true) (ht : takerIn K C name = some none)
    (h : ∀ b, wpAny (model prog w) A.in1 (storeInOwnDict (.ref x) (.ref C) (.str name tk) name v b)
      (fun fin s' => match fin with | .done f => R (.ok f) s' | .again c' => c'.quiet = true ∧ codeAny (model prog w) A c' R s') (fun e s' => R (.error e) s') s) :
    codeAny (model prog w) A (.call (.builtin "object.__setattr__") ⟨[.ref x, .str name tk, v], []⟩) R s := by
  have SF := PySem.F.store_object
  obtain ⟨cd, hc, ho⟩ := any_some hp
  have ho : cd.mro = .ref C :: .ref D :: qLz := beq_iff_eq.mp ho
  have sub : Looks (model prog w) s.heap (isInstance (.ref x) (.type "object")) true := I.type.andThen (looks_mroIn X (by unfold mroIn; rw [hc, Option.bind_some, ho]; rfl))
  refine codeAny_call_builtin SF.slot.plain SF.entry (@check_slot (model prog w) _ _ s "object.__setattr__" "object" "__setattr__" (.ref x) [.str name tk, v] [] _ SF.kind SF.split sub (SF.args (.ref x) (.str name tk) v) ?_)
  obtain ⟨attr, ha, hr⟩ := Option.bind_eq_some_iff.mp ht
  have hm : Looks (model prog w) s.heap (mroOf (.ref C)) cd.mro := (looks_clsIn X hc).andThen .now
  have L3 : Looks (model prog w) s.heap (storeTaker? attr) none := by
    cases attr with
    | none => cases hr; exact .now
    | some a =>
      obtain ⟨b, hb, hb2⟩ := Option.map_eq_some_iff.mp hr
      refine (looks_takesIn X hb).andThen ?_
      cases b
      · exact .now
      · cases hb2
  rw [osa_eq, refuse_eq]
  refine wpAny_bind (wpAny_bind (I.type.here (wpAny_bind (hm.here ?_))))
  rw [ho, refuseLoop_ref, refuseLoop_ref]
  rw [show refuseLoop (.ref x) "__setattr__" qLz = pure () from PySem.F.store_ValueError.passes (.ref x)]
  refine wpAny_pure (wpAny_bind (I.type.here (wpAny_bind ((looks_findIn X ha).here (wpAny_bind (L3.here ?_))))))
  exact h _
open PySem.W in
theorem qLp {name : Str} {v : Value} {Q : Unit → Shared → Prop} (X : K.In s.heap) (hx : s.heap.get? x = some { cls := .ref C, dict := none, data := .fields vs, slots := sl })
    (hs : findIn K (.ref C) "__setattr__" = some (some (.builtin "object.__setattr__"))) (hp : exOver K C D = true) (ht : takerIn K C name = some none) (hh : hasDictIn K C = true)
    (h : ∀ h' tk, h'.get? x = some { cls := .ref C, dict := some s.heap.objs.size, data := .fields vs, slots := sl } → (∀ b o, b ≠ x → s.heap.get? b = some o → h'.get? b = some o) → Q () { s with heap := h', toks := tk }) :
    wpAny (model prog w) A (setAttr (.ref x) name v) Q E s := by
  have J : InstAt s.heap x { cls := .ref C, dict := none, data := .fields vs, slots := sl } C none := ⟨hx, rfl, rfl, trivial⟩
  refine PySem.W.set_plain X J hs (qI2 (s := { s with toks := s.toks + 1 }) X J hp ht fun b => ?_)
  obtain ⟨cd, hc, hd'⟩ := PySem.W.any_some hh
  refine wpAny_bind (wpAny_pure (wpAny_bind (wpAny_bind (wpAny_loadPart hx (wpAny_bind (PySem.W.Looks.here (s := { s with toks := s.toks + 1 }) (PySem.W.looks_clsIn X hc) ?_))))))
  rw [hd']
  have hx₁ : (s.heap.push { cls := .type "dict", data := .dict #[] }).get? x = some { cls := .ref C, dict := none, data := .fields vs, slots := sl } := Heap.get?_push_of_some _ hx
  have hxs : x ≠ s.heap.objs.size := Nat.ne_of_lt (Heap.lt_size hx)
  refine wpAny_bind (wpAny_alloc' ?_)
  refine wpAny_bind (wpAny_update' hx₁ ?_)
  refine wpAny_pure ?_
  have hgd : ((s.heap.push { cls := .type "dict", data := .dict #[] }).update x fun o => { o with dict := some s.heap.objs.size }).get? s.heap.objs.size = some { cls := .type "dict", data := .dict #[] } :=
    (Heap.get?_update_ne _ _ _ _ hxs.symm).trans (Heap.get?_push_at rfl rfl)
  have hnd : ((s.heap.push { cls := .type "dict", data := .dict #[] }).update x fun o => { o with dict := some s.heap.objs.size }).Ns s.heap.objs.size (fun _ => none) :=
    ⟨_, #[], _, hgd, rfl, fun e he => absurd he (by simp), fun _ => rfl⟩
  refine wpAny_bind (wpAny_pure (wpAny_bind ?_))
  refine wpAny_nsSet1 (s := { s with heap := _, toks := s.toks + 1 }) (Heap.Ns1.of_empty hnd) fun h' hn' hs2 => ?_
  obtain ⟨oD, esD, epD, hoD, hdD, hcD⟩ := hn'.count (Within.cons name v Within.nil)
  refine wpAny_bind (wpAny_lookBehind hoD (by rw [hdD]; exact pastItsLine_dict (Nat.le_trans hcD (by rw [List.length_cons, List.length_nil, sizeLine_eq]; omega))) ?_)
  refine wpAny_pure (h _ _ ?_ ?_)
  · refine (hs2.2 x hxs).trans (Heap.get?_update_self _ hx₁ rfl)
  · intro b o hb ho
    exact (hs2.2 b (Nat.ne_of_lt (Heap.lt_size ho))).trans ((Heap.get?_update_ne _ _ _ _ hb).trans (Heap.get?_push_of_some _ ho))
end
section
variable {prog : Program} {w : World} {A : Around} {E : Value → Shared → Prop} {h : Heap} {g : Array GenState} {d : Drawn} {t : Nat} {os : OsState}
variable {nm q : Str} {C N : Addr} {bs bm bmB : List Value} {hdct : Bool} {sn : List Str} {sub : List Value} {ab : Bool} {col : Option Bool} {dd : Option Addr} {k0 k1 k2 k3 k5 : Option Value} {B newId initId : String}
theorem wj (F : ExcBaseFacts B newId initId bmB) (T : OwnTail h bmB bm) {mN : Str → Option Value} {rest : List Value} {fI : Addr} {oI : Obj} {Q : PySem.Fin → Shared → Prop}
    (hC : h.get? C = some (excClassObj nm q C N bs bm hdct sn sub ab col dd k0 k1 k2 k3 k5 newId)) (hn : h.Ns N mN) (hi : mN "__init__" = some (.ref fI))
    (hfI : h.get? fI = some oI) (hfc : oI.cls = .type "function")
    (hq : ∀ h' e, Heap.MadeExcOf h h' e (.ref C) rest → h'.objs.size = h.objs.size + 2 → e = h.objs.size + 1 →
      wpAny (model prog w) A (call (.ref fI) (.ref e :: rest)) (fun r s' => r = .none ∧ Q (.done (.ret (.ref e))) s') E ⟨h', g, d, t, os⟩) (hrest : rest.length ≤ sizeLine := by size_fits) :
    wpAny (model prog w) A (Builtin.«type.__call__» ⟨.ref C :: rest, []⟩) Q E ⟨h, g, d, t, os⟩ := by
  repeat (first | with_reducible refine wpAny_loadPart_at hC ?_ | with_reducible refine wpAny_madeBy_exc hC ?_ | wp_step)
  refine codeAny_call_builtin_code (Code.quiet_builtin _ F.quiet) (wpAny_check_new_subT F T hC ?_)
  refine codeAny_exc_new_subT F T hC ?_ hrest
  show wpAny _ _ _ _ _ _
  have hC₁ := Heap.get?_push_of_some { cls := .ref C, data := .fields #[.ref h.objs.size, .none, .none, .none, .bool false, .none] }
    (Heap.get?_push_of_some { cls := .type "tuple", data := .seq rest.toArray } hC)
  have hfI₁ := Heap.get?_push_of_some { cls := .ref C, data := .fields #[.ref h.objs.size, .none, .none, .none, .bool false, .none] }
    (Heap.get?_push_of_some { cls := .type "tuple", data := .seq rest.toArray } hfI)
  have hn₁ : ((h.push { cls := .type "tuple", data := .seq rest.toArray }).push { cls := .ref C, data := .fields #[.ref h.objs.size, .none, .none, .none, .bool false, .none] }).Ns N mN :=
    let ⟨o, es, ep, e, r⟩ := hn; ⟨o, es, ep, Heap.get?_push_of_some _ (Heap.get?_push_of_some _ e), r⟩
  have hget : ((h.push { cls := .type "tuple", data := .seq rest.toArray }).push
      { cls := .ref C, data := .fields #[.ref h.objs.size, .none, .none, .none, .bool false, .none] }).get? (h.objs.size + 1) = some
      { cls := .ref C, data := .fields #[.ref h.objs.size, .none, .none, .none, .bool false, .none] } := by heap_get
  have hcC : (Value.ref C :: bm).contains (.ref C) = true := by simp
  have T₁ := T.keeps (h' := (h.push { cls := .type "tuple", data := .seq rest.toArray }).push { cls := .ref C, data := .fields #[.ref h.objs.size, .none, .none, .none, .bool false, .none] })
    fun b o e => Heap.get?_push_of_some _ (Heap.get?_push_of_some _ e)
  unfold isInstance
  repeat (first | with_reducible refine wpAny_loadPart_at hget ?_ | (with_reducible refine wpAny_isSubtype_exc hC₁ ?_; rw [hcC]) | wp_step)
  show wpAny _ _ (typeLookup (.ref C) _) _ _ _
  refine wpAny_typeLookup_tail hC₁ hn₁ T₁ F.mroIs F.init.lookup ?_
  rw [hi]
  refine wpAny_holding (wpAny_bind ?_)
  unfold bindSpecial
  refine wpAny_bind (wpAny_typeOf (T := "function") ⟨_, hfI₁, hfc⟩ ?_)
  rw [if_pos (by decide)]
  refine wpAny_pure (wpAny_bind (wpAny_mono (hq _ (h.objs.size + 1) ⟨fun b o hb => Heap.get?_push_of_some _ (Heap.get?_push_of_some _ hb), Heap.get?_none_of_le (Nat.le_succ _), h.objs.size, hget, Heap.get?_none_of_le (Nat.le_refl _), ?_⟩ (by simp only [Heap.size_push]) rfl) (fun r s' hr => ?_) fun _ _ x => x))
  · exact Heap.get?_push_of_some _ (Heap.get?_push_at rfl rfl)
  · obtain ⟨rfl, hQ⟩ := hr
    wp_walk
    exact hQ
theorem qGz (F : ExcBaseFacts B newId initId bmB) (T : OwnTail h bmB bm) {mN : Str → Option Value} {rest : List Value} {fI : Addr} {oI : Obj} {Q : Value → Shared → Prop}
    (hC : h.get? C = some (excClassObj nm q C N bs bm hdct sn sub ab col dd k0 k1 k2 k3 k5 newId)) (hn : h.Ns N mN) (hi : mN "__init__" = some (.ref fI))
    (hfI : h.get? fI = some oI) (hfc : oI.cls = .type "function")
    (hq : ∀ h' e, Heap.MadeExcOf h h' e (.ref C) rest → h'.objs.size = h.objs.size + 2 → e = h.objs.size + 1 →
      wpAny (model prog w) (A.under (.builtin "type.__call__" ⟨.ref C :: rest, []⟩)) (call (.ref fI) (.ref e :: rest)) (fun r s' => r = .none ∧ Q (.ref e) s') E ⟨h', g, d, t, os⟩) (hrest : rest.length ≤ sizeLine := by size_fits) :
    wpAny (model prog w) A (call (.ref C) rest) Q E ⟨h, g, d, t, os⟩ := by
  have f1 := tc_lookup
  have f2 := tc_bind (.ref C)
  have hT : (⟨h, g, d, t, os⟩ : Shared).TypeIs (.ref C) "type" := ⟨_, hC, rfl⟩
  refine wpAny_call (codeAny_of_tree ?_)
  show wpAny _ _ (callAny (.ref C) _) _ _ _
  repeat (any_goals (first | assumption | with_reducible refine wpAny_loadPart_at hC ?_ | wp_step))
  refine ⟨rfl, ?_⟩
  refine codeAny_call_builtin_at (Code.quiet_builtin _ (by decide +kernel)) entry_typeCall (wpAny_check_type_call_sub hC (wj (hrest := hrest) F T hC hn hi hfI hfc fun h' e hm h1 h2 => ?_))
  exact hq h' e hm h1 h2
end
section
variable {prog : Program} {w : World} {A : Around} {E : Value → Shared → Prop} {s : Shared} {env : Env}
variable {nm q : Str} {C N : Addr} {bs bm bmB : List Value} {hdct : Bool} {sn : List Str} {sub : List Value} {ab : Bool} {col : Option Bool} {dd : Option Addr} {k0 k1 k2 k3 k5 : Option Value} {B newId initId : String}
theorem qGv {M : Model} {x : Sem Value} {Q : Flow → Shared → Prop} (hbase : bm.contains (.type "BaseException") = true) (hh : A.handled = none)
    (h : wpAny M A x (fun v s₁ => ∃ e od vs sl, v = .ref e ∧ s₁.heap.get? C = some (excClassObj nm q C N bs bm hdct sn sub ab col dd k0 k1 k2 k3 k5 newId) ∧
      s₁.heap.get? e = some { cls := .ref C, dict := od, data := .fields vs, slots := sl } ∧ vs[1]? = some .none ∧ E (.ref e) s₁) E s) :
    wpAny M A (raiseStmt env (some x) none) Q E s := by
  have hcB : (Value.ref C :: bm).contains (.type "BaseException") = true := by rw [List.contains_cons, hbase, Bool.or_true]
  unfold raiseStmt
  refine wpAny_bind (wpAny_mono h (fun v s₁ h₁ => ?_) fun _ _ x => x)
  obtain ⟨e, od, vs, sl, rfl, hC, he, hv, hE⟩ := h₁
  obtain ⟨hp, g, d, tk, os⟩ := s₁
  repeat (first | with_reducible refine wpAny_loadPart_at he ?_ | with_reducible refine wpAny_loadPart_at hC ?_ | (with_reducible refine wpAny_isSubtype_exc hC ?_; rw [hcB]) | wp_step)
  rw [hv]
  refine wpAny_pure ?_
  rw [if_neg (by decide)]
  refine wpAny_pure ?_
  exact wpAny_raiseNew_none hh hE
theorem qE4 (F : ExcBaseFacts B newId initId bmB) {mN : Str → Option Value} {x : Str} {np cpos pos : Pos} {args : List Expr} {fI : Addr} {oI : Obj} {Q : Flow → Shared → Prop}
    (hbase : bm.contains (.type "BaseException") = true) (hh : A.handled = none) (hplain : (backTo cpos (starEach args env)).any (·.1) = false) (hi : mN "__init__" = some (.ref fI)) (hfc : oI.cls = .type "function")
    (h : wpAny (model prog w) A (eval (.Name x np) env) (fun f s₁ => f = .ref C ∧ wpAny (model prog w) A (evalArgs (.ref C) true (backTo cpos (starEach args env)) [])
      (fun a s₂ => a.kw = [] ∧ a.pos.length ≤ sizeLine ∧ s₂.heap.get? C = some (excClassObj nm q C N bs bm hdct sn sub ab col dd k0 k1 k2 k3 k5 newId) ∧ s₂.heap.Ns N mN ∧ OwnTail s₂.heap bmB bm ∧ s₂.heap.get? fI = some oI ∧
        ∀ h' e, Heap.MadeExcOf s₂.heap h' e (.ref C) a.pos → h'.objs.size = s₂.heap.objs.size + 2 → e = s₂.heap.objs.size + 1 →
          wpAny (model prog w) (A.under (.builtin "type.__call__" ⟨.ref C :: a.pos, []⟩)) (call (.ref fI) (.ref e :: a.pos))
            (fun r s' => r = .none ∧ s'.heap.get? C = some (excClassObj nm q C N bs bm hdct sn sub ab col dd k0 k1 k2 k3 k5 newId) ∧ (∃ od vs sl, s'.heap.get? e = some { cls := .ref C, dict := od, data := .fields vs, slots := sl } ∧ vs[1]? = some .none) ∧ E (.ref e) s') E { s₂ with heap := h' }) E s₁) E s) :
    wpAny (model prog w) A (exec (.Raise (some (.Call (.Name x np) args [] cpos)) none pos) env) Q E s := by
  rw [arm_exec_Raise]
  refine wpAny_bind (wpAny_standAt (qGv (C := C) (nm := nm) (q := q) (N := N) (bs := bs) (bm := bm) (hdct := hdct) (sn := sn) (sub := sub) (ab := ab) (col := col) (dd := dd) (k0 := k0) (k1 := k1) (k2 := k2) (k3 := k3) (k5 := k5) (newId := newId) hbase hh (wpAny_bind (wpAny_mono (wpAny_Call_ofName (wpAny_mono h (fun f s₁ h₁ => ?_) fun _ _ x => x)) (fun v s₃ h₃ => wpAny_bind (wpAny_standAt (wpAny_pure h₃))) fun _ _ x => x))))
  obtain ⟨rfl, h₁⟩ := h₁
  unfold callWith
  refine wpAny_bind (wpAny_holding (wpAny_mono h₁ (fun a s₂ h₂ => wpAny_bind (wpAny_standAt ?_)) fun _ _ x => x))
  obtain ⟨apos, akw⟩ := a
  obtain ⟨hkw, hlen, hC, hn, T, hfI, h₂⟩ := h₂
  obtain rfl : akw = [] := hkw
  obtain ⟨hp, g, d, tk, os⟩ := s₂
  simp only [hplain]
  refine wpAny_bind (wpAny_keeperOf_exc hC ?_)
  refine wpAny_bind (qGz (hrest := hlen) F T hC hn hi hfI hfc fun h' e hm h1 h2 => wpAny_mono (h₂ h' e hm h1 h2) (fun r s' z => ⟨z.1, ?_⟩) fun _ _ x => x)
  obtain ⟨_, hC', ⟨od, vs, sl, he, hv⟩, hE⟩ := z
  refine wpAny_bind (wpAny_holding (wpAny_point (wpAny_pure ?_)))
  exact ⟨e, od, vs, sl, rfl, hC', he, hv, hE⟩
end
end L3
namespace L3
open PySem PySem.Spec PyProof.Rows L2
def wP (e : Addr) (C : Value) : HO := .ext fun h => ∃ (vs : Array Value) (sl : Array (Option Value)), h.get? e = some { cls := C, dict := none, data := .fields vs, slots := sl } ∧ vs[1]? = some .none
def qFe (e : Addr) (C : Value) : HO := .ext fun h => qDz h e C none
def excInitIn (K : PySem.W.Frag) (C f : Addr) : Bool := match K.lookup C with
  | some ⟨.type "type", _, .cls cd, sl⟩ => (match cd.mro, sl.toList with
    | .ref C' :: bm, [_, _, _, _, some (.builtin n), _] => C' == C && n == "ValueError.__new__" && !cd.hasDel && PySem.W.tailIn K qLz bm && PySem.W.nsOkIn K cd.ns && PySem.W.nsIn K cd.ns "__init__" == some (some (.ref f))
    | _, _ => false)
  | _ => false
structure XMk (K : PySem.W.Frag) (C D f : Addr) : Prop where
  ov : exOver K C D = true
  hd : PySem.W.hasDictIn K C = true
  sa : PySem.W.findIn K (.ref C) "__setattr__" = some (some (.builtin "object.__setattr__"))
  ex : excInitIn K C f = true
  fn : PySem.W.isFn K (.ref f) = true
theorem qGr {K : PySem.W.Frag} {h : Heap} {N : Addr} {mg : Str → Option Value} {n : Str} {v : Value} (X : K.In h) (G : h.Ns N mg) (e : PySem.W.nsIn K N n = some (some v)) : mg n = some v := by
  obtain ⟨o, es, ep, ho, hd, _, hf⟩ := G
  unfold PySem.W.nsIn at e
  split at e
  · rename_i c d es' n' sl q
    have := X _ _ q
    rw [ho] at this
    cases this
    cases hd
    split at e
    · rename_i en he
      cases e
      rw [← hf]
      unfold nsFind findBy
      rw [← Array.find?_toList, he]
      rfl
    · split at e <;> cases e
  · cases e
theorem qJw {K : PySem.W.Frag} {h : Heap} {C f : Addr} (X : K.In h) (q : excInitIn K C f = true) :
    ∃ bm N nm qn bs hdct sn sub ab col dd k0 k1 k2 k3 k5 mN, h.get? C = some (excClassObj nm qn C N bs bm hdct sn sub ab col dd k0 k1 k2 k3 k5 "ValueError.__new__") ∧ h.Ns N mN ∧ mN "__init__" = some (.ref f) ∧ OwnTail h qLz bm := by
  unfold excInitIn at q
  split at q
  · rename_i dd cd sl ho
    split at q
    · rename_i C' bm k0 k1 k2 k3 n k5 hm hs
      simp only [Bool.and_eq_true, beq_iff_eq, Bool.not_eq_true'] at q
      obtain ⟨⟨⟨⟨⟨eC, en⟩, del⟩, ht⟩, ok⟩, ni⟩ := q
      subst eC en
      obtain ⟨nm, bs, mro, ns, qn, hd, sn, sub, ab, col, dl⟩ := cd
      dsimp only at hm del ok ni
      subst hm del
      have hsl : sl = #[k0, k1, k2, k3, some (.builtin "ValueError.__new__"), k5] := by
        obtain ⟨l⟩ := sl
        simp only at hs
        rw [hs]
      subst hsl
      have N1 : h.Ns ns (h.nsMap ns) := .of_isNs (PySem.W.isNs_of_in X ok)
      refine ⟨bm, ns, nm, qn, bs, hd, sn, sub, ab, col, dd, k0, k1, k2, k3, k5, _, X _ _ ho, N1, qGr X N1 ni, PySem.W.tail_of_in X ht⟩
    · cases q
  · cases q
section
variable {X : Cx} {pins : List (Addr × Obj)} {σ : L2.St} {H : Hp} {s : Shared}
theorem qKj {e : Addr} {φ : Heap → Prop} (I : Inv X pins σ (upd H e (.ext φ)) s) (h0 : H e = none) (hs : X.s₀.heap.get? e = none) : Inv X pins σ H s := by
  have B := I.base
  have nn : ∀ b u, upd H e (.ext φ) b = some u → (∀ ψ, u ≠ .ext ψ) → H b = some u := fun b u z n => by
    by_cases hb : b = e
    · subst hb
      rw [qE] at z
      cases z
      exact absurd rfl (n φ)
    · rwa [qi hb] at z
  have n0 : ∀ b, upd H e (.ext φ) b = none → H b = none := fun b z => by
    by_cases hb : b = e
    · rw [hb, qE] at z; cases z
    · rwa [qi hb] at z
  refine ⟨I.ok, I.os, I.bare, ⟨B.keep, B.slot, fun b o w z hx => n0 _ (B.free b o w z hx), B.there, fun b xs w => nn _ _ (B.tups b xs w) (fun _ z => nomatch z), fun b o u w => nn _ _ (B.frzs b o u w) (fun _ z => nomatch z), fun b ps w => ?_⟩, I.loc, I.cell, n0 _ I.free, fun y c z => n0 _ (I.freeC y c z), fun p hp => ?_, fun b u w => ?_, I.len⟩
  · obtain ⟨more, z⟩ := B.tbls b ps w
    exact ⟨more, nn _ _ z (fun _ z => nomatch z)⟩
  · obtain ⟨w1, w2, w3⟩ := I.pin p hp
    exact ⟨w1, n0 _ w2, w3⟩
  · have hb : b ≠ e := fun z => by rw [z, h0] at w; cases w
    refine (I.hok b u (by rw [qi hb]; exact w)).stay (fun _ _ _ z => z) (fun c z => nn _ _ z (fun _ z => nomatch z)) fun c xs z => nn _ _ z (fun _ z => nomatch z)
end
def qN5 (K : PySem.W.Frag) (ta tv : TE) (f : Str) : TS := fun D σ H => tv σ H fun _ H1 => ta σ H1 fun x H2 => ∃ a C B, x = .ref a ∧ H2 a = some (wP a (.ref C)) ∧ exOver K C B = true ∧ PySem.W.hasDictIn K C = true ∧
  PySem.W.findIn K (.ref C) "__setattr__" = some (some (.builtin "object.__setattr__")) ∧ PySem.W.takerIn K C f = some none ∧ D.nx σ (upd H2 a (qFe a (.ref C)))
theorem qLd {X : Cx} {o value : Expr} {f : Str} {pos pos' : Pos} {ta tv : TE} (ha : PE X o ta) (hv : PE X value tv) (hs : swapsWith value (some (.Attribute o f pos')) pos.line X.env = pure false := by rfl) :
    PS X (.Assign [.Attribute o f pos'] value pos) (qN5 X.K ta tv f) := by
  intro pins s σ H D I h
  refine plainObj_wpAny_Assign_Attribute (thn (hv pins s σ H _ I h) fun u s1 ⟨y, H1, I1, ry, q⟩ => thn (ha pins s1 σ H1 _ I1 q) fun ov s2 ⟨x, H2, I2, rx, a, C, B, ex, ea, o1, o2, o3, o4, q2⟩ => ?_) hs
  subst ex
  obtain rfl : ov = Value.ref a := rx
  obtain ⟨⟨vs, sl, he, hv1⟩, _, _⟩ := I2.hok a _ ea
  refine qLp I2.kIn he o3 o1 o4 o2 fun h' tk he' k => ⟨σ, _, ?_, q2⟩
  refine I2.write (x := a) (e := a) (by rw [ea]; exact True.intro) (.inl rfl) k ⟨_, he'⟩ ?_
  refine ⟨⟨vs, sl, _, he', hv1⟩, ⟨_, he'⟩, fun h1 h2 z k => ?_⟩
  obtain ⟨vs', sl', od', z, z2⟩ := z
  exact ⟨vs', sl', od', k _ z, z2⟩
def qFf (C : Addr) : Sp := fun vs H Q _ => ∃ (e : Addr) (v : V), vs = [.ref e, v] ∧ H e = some (wP e (.ref C)) ∧ Q .non (upd H e (qFe e (.ref C)))
def qMj (C : Addr) (Ex : Value → Hp → Prop) (t : TA) : TS := fun _ σ H => t σ H fun vs H1 => (∃ v, vs = [v]) ∧ Ex (.ref C) H1
theorem qI7 {X : Cx} {Ex : Value → Hp → Prop} {k : Nat} {x : Str} {C B f : Addr} {fd : FuncData} {ps : List Str} {np cpos pos : Pos} {e₀ : Expr} {rest : List Expr} {t : TA} (M : XMk X.K C B f)
    (F : FnOk X.prog X.w X.K X.mg X.base CX0 k f fd ps (qFf C)) (hb : Binds X.K fd ps []) (hr : Room (k + 1) X.A) (hcm : X.calm = true) (hg : Gl X x) (hm : X.mg x = some (.ref C)) (ha : PA (X.wish (XE X Ex)) (e₀ :: rest) t)
    (he : starEach (e₀ :: rest) X.env = (false, eval e₀ X.env) :: starEach rest X.env := by rfl) (hpl : (backTo cpos (starEach rest X.env)).any (·.1) = false := by rfl) (hex : X.ex = [] := by rfl) (hdb : (x == ("__debug__" : Str)) = false := by decide) :
    PS (X.wish (XE X Ex)) (.Raise (some (.Call (.Name x np) (e₀ :: rest) [] cpos)) none pos) (qMj C Ex t) := by
  intro pins s σ H D I h
  obtain ⟨tl, N, nm, q, bs, hdct, sn, sub, ab, col, dd, k0, k1, k2, k3, k5, mN, hC, hN, hni, T⟩ := qJw (K := X.K) I.ok.mod.kin M.ex
  have hfn : PySem.W.typeIn X.K (.ref f) = some (.type "function") := beq_iff_eq.mp M.fn
  have hfo : ∃ oI : Obj, X.base.get? f = some oI ∧ oI.cls = .type "function" := by
    replace hfn : (X.K.lookup f).map (·.cls) = some (.type "function") := hfn
    cases hl : X.K.lookup f with
    | none => rw [hl] at hfn; cases hfn
    | some o =>
      rw [hl] at hfn
      exact ⟨o, I.ok.mod.kin _ _ hl, by simpa using hfn⟩
  obtain ⟨oI, hfI, hfc⟩ := hfo
  refine qE4 (bm := tl) (C := C) (N := N) (nm := nm) (q := q) (bs := bs) (hdct := hdct) (sn := sn) (sub := sub) (ab := ab) (col := col) (dd := dd) (k5 := k5) (k0 := k0) (k1 := k1) (k2 := k2) (k3 := k3)
    PySem.F.excBase_ValueError (mN := mN) (fI := f) (oI := oI) (T.hasType PySem.F.excBase_ValueError.hasBase) (I.ok.hd hcm) (by rw [he]; show (false || (backTo cpos (starEach rest X.env)).any (·.1)) = false; rw [hpl]; rfl) hni hfc (qBw I hg hm ⟨rfl, ?_⟩ hdb)
  have z := ha cpos pins s σ H _ I h
  rw [show (X.wish (XE X Ex)).env = X.env from rfl] at z
  rw [he] at z ⊢
  refine Calls.evalArgs_plain (wpAny_mono z (fun us s2 w => ?_) fun _ _ y => y)
  obtain ⟨vs, H1, I1, r1, ⟨v, rfl⟩, ex⟩ := w
  have I1' := I1.unwish
  have hl1 : us.length = 1 := r1.length.symm
  refine ⟨rfl, by rw [hl1, sizeLine_eq]; decide, I1.bk _ _ hC, hN.keeps I1.bk, T.keeps I1.bk, I1.bk _ _ hfI, fun h' e hmk hsz hes => ?_⟩
  obtain ⟨tt, q1, q2, q3⟩ := hmk.there
  have hle : s2.heap.objs.size ≤ e := by rw [hes]; exact Nat.le_succ _
  have e0 : H1 e = none := I1'.hok.fresh hle
  have I2 : Inv X pins σ (upd H1 e (wP e (.ref C))) { s2 with heap := h' } := I1'.laid (t' := s2.toks) hmk.keeps hle ⟨⟨_, _, q1, rfl⟩, ⟨_, q1⟩, fun h1 h2 z k => by
    obtain ⟨vs', sl', z, z2⟩ := z
    exact ⟨vs', sl', k _ z, z2⟩⟩
  have r2 : Vals [V.ref e, v] (Value.ref e :: us) := .cons rfl r1
  have hsp : qFf C [V.ref e, v] (upd H1 e (wP e (.ref C))) (fun v H2 => v = .non ∧ H2 = upd H1 e (qFe e (.ref C))) E0 := ⟨e, v, rfl, qE, rfl, by
    funext b
    by_cases hb : b = e
    · rw [hb, qE, qE]
    · rw [qi hb, qi hb, qi hb]⟩
  have hl : ((Value.ref e :: us) ++ []).length = ps.length := by
    have := F.len _ _ _ _ hsp
    rw [List.append_nil, List.length_cons, hl1]
    simpa using this
  have hbb := hb _ (Value.ref e :: us) I2.kIn hl
  rw [List.append_nil] at hbb
  refine wpAny_call (codeAny_mono (F.run _ X.stack _ _ ⟨Value.ref e :: us, []⟩ (Value.ref e :: us) _ _ E0 (hr.make C us []) (I2.env0.make C us []) hbb r2 hsp) fun r s' hq' => ?_)
  cases r with
  | error e => exact False.elim hq'
  | ok fl =>
    cases fl with
    | ret u =>
      obtain ⟨v', H', I3, rv, ev, rfl⟩ := I2.after hq'
      subst ev
      cases rv
      obtain ⟨⟨vs', sl', od', g1, g2⟩, _, _⟩ := I3.hok e _ qE
      have hs0 : X.s₀.heap.get? e = none := by
        cases w : X.s₀.heap.get? e with
        | none => rfl
        | some o =>
          obtain ⟨o', w'⟩ := I1'.base.there e o w (by rw [hex]; intro y; cases y)
          rw [hmk.new] at w'; cases w'
      refine ⟨rfl, I3.bk _ _ hC, ⟨od', vs', sl', g1, g2⟩, e, .ref C, σ, H1, rfl, (qKj I3 e0 hs0).pins_of (pins' := []) fun p hp => (nomatch hp), ⟨⟨hs0, e0, fun p hp z => ?_⟩, none, ⟨vs', sl', od', g1, g2⟩, fun T e' => nomatch e'⟩, ex⟩
      have q' := (I1'.pin p (List.mem_append_left _ hp)).1
      rw [z, hmk.new] at q'; cases q'
    | next => exact False.elim hq'
    | brk => exact False.elim hq'
    | cont => exact False.elim hq'
end L3
set_option maxHeartbeats 4000000
set_option maxRecDepth 100000
namespace L3
open PySem PySem.Spec PyProof.Rows L2
end L3
set_option maxHeartbeats 4000000
namespace L3
open PySem PySem.Spec PyProof.Rows L2
section
variable {X : Cx}
theorem qGg {bs : List Bool} {its : List Value} {P : Program} {w : World} {A : Around} (r : Vals (bs.map V.bl) its) : TruthOf P w A (fun i v => its.toArray[i]? = some v) (fun i => (bs[i]?).getD false) := by
  intro i v s Q E hv hq
  have hv' : its[i]? = some v := by simpa using hv
  have hl := r.length
  have hi : i < bs.length := by
    have := (List.getElem?_eq_some_iff.mp hv').1
    rw [List.length_map] at hl
    omega
  obtain ⟨u, e1, q1⟩ := r.get (i := i) (x := .bl bs[i]) (by rw [List.getElem?_map, List.getElem?_eq_getElem hi]; rfl)
  rw [hv'] at e1
  cases e1
  cases q1
  have e : (bs[i]?).getD false = bs[i] := by rw [List.getElem?_eq_getElem hi]; rfl
  have hq' : Q ((bs[i]?).getD false) s := hq
  rw [e] at hq'
  exact wpAny_truthy_bool hq'
theorem qHy (bs : List Bool) : (List.range bs.length).all (fun i => (bs[i]?).getD false) = bs.all id := by
  rw [Bool.eq_iff_iff, List.all_eq_true, List.all_eq_true]
  constructor
  · intro h x hx
    obtain ⟨i, hi, e⟩ := List.mem_iff_getElem.mp hx
    have := h i (by simpa using hi)
    rw [List.getElem?_eq_getElem hi, e] at this
    exact this
  · intro h i hi
    have hi : i < bs.length := by simpa using hi
    rw [List.getElem?_eq_getElem hi]
    exact h _ (List.getElem_mem hi)
theorem qIm (bs : List Bool) : (List.range bs.length).any (fun i => (bs[i]?).getD false) = bs.any id := by
  rw [Bool.eq_iff_iff, List.any_eq_true, List.any_eq_true]
  constructor
  · rintro ⟨i, hi, h⟩
    have hi : i < bs.length := by simpa using hi
    rw [List.getElem?_eq_getElem hi] at h
    exact ⟨_, List.getElem_mem hi, h⟩
  · rintro ⟨x, hx, h⟩
    obtain ⟨i, hi, e⟩ := List.mem_iff_getElem.mp hx
    exact ⟨i, by simpa using hi, by rw [List.getElem?_eq_getElem hi, e]; exact h⟩
theorem qI1 (hc : X.calm = true) : CallR X (.builtin "all") (fun xs H Q => ∃ (p : Addr) (bs : List Bool), xs = [.ref p] ∧ SqL X.K H p (bs.map V.bl) ∧ Q (.bl (bs.all id)) H) := by
  intro pins s σ H xs us Q I r h
  obtain ⟨p, bs, rfl, hq, q⟩ := h
  obtain ⟨u, rfl, rx⟩ := qFq r
  cases rx
  obtain ⟨its, rv, pl, hz⟩ := I.list hq
  have hp : p ≠ s.heap.objs.size := by
    obtain ⟨o, n, e, _⟩ := pl
    exact Nat.ne_of_lt (Heap.lt_size e)
  have hh : X.A.in1.handled = none := I.ok.hd hc
  have hl : its.toArray.size = bs.length := by rw [List.size_toArray, ← rv.length, List.length_map]
  refine call_all_walk (wpAny_pyIter_list pl.isList ?_)
  refine ⟨s.heap.objs.size, _, _, _, _, _, _, rfl, Walks.list hh _ p hp its.toArray, ⟨⟨_, Heap.get?_push_size _ rfl, rfl, rfl⟩, pl.isList.at fun o e => Heap.get?_push_of_some _ e⟩, qGg rv, fun h' tk hk => ?_⟩
  rw [hl, qHy]
  refine ⟨.bl _, H, I.kept fun b o e => hk b o (fun z => ?_) (Heap.get?_push_of_some _ e), rfl, q⟩
  have z' : b = s.heap.objs.size := by simpa using z
  exact absurd (Heap.lt_size e) (by rw [z']; exact Nat.lt_irrefl _)
theorem qH7 (hc : X.calm = true) : CallR X (.builtin "any") (fun xs H Q => ∃ (p : Addr) (bs : List Bool), xs = [.ref p] ∧ SqL X.K H p (bs.map V.bl) ∧ Q (.bl (bs.any id)) H) := by
  intro pins s σ H xs us Q I r h
  obtain ⟨p, bs, rfl, hq, q⟩ := h
  obtain ⟨u, rfl, rx⟩ := qFq r
  cases rx
  obtain ⟨its, rv, pl, hz⟩ := I.list hq
  have hp : p ≠ s.heap.objs.size := by
    obtain ⟨o, n, e, _⟩ := pl
    exact Nat.ne_of_lt (Heap.lt_size e)
  have hh : X.A.in1.handled = none := I.ok.hd hc
  have hl : its.toArray.size = bs.length := by rw [List.size_toArray, ← rv.length, List.length_map]
  refine call_any_walk (wpAny_pyIter_list pl.isList ?_)
  refine ⟨s.heap.objs.size, _, _, _, _, _, _, rfl, Walks.list hh _ p hp its.toArray, ⟨⟨_, Heap.get?_push_size _ rfl, rfl, rfl⟩, pl.isList.at fun o e => Heap.get?_push_of_some _ e⟩, qGg rv, fun h' tk hk => ?_⟩
  rw [hl, qIm]
  refine ⟨.bl _, H, I.kept fun b o e => hk b o (fun z => ?_) (Heap.get?_push_of_some _ e), rfl, q⟩
  have z' : b = s.heap.objs.size := by simpa using z
  exact absurd (Heap.lt_size e) (by rw [z']; exact Nat.lt_irrefl _)
theorem qNf : OpR X (compareOp .In) (fun x y H Q => ∃ (a b : Str), x = .str a ∧ y = .str b ∧ Q (.bl (!(Builtin.Str.occurrences b a 0 b.length 1).isEmpty)) H) := by
  intro pins s σ H x y v u Q I rx ry h
  obtain ⟨a, b, rfl, rfl, q⟩ := h
  obtain ⟨t, rfl⟩ := rx
  obtain ⟨t', rfl⟩ := ry
  exact P.in_str ⟨.bl _, H, I, rfl, q⟩
def Its (z : Str) : It := ⟨fun i _ => i < z.cps.size, fun i H x H' => H' = H ∧ ∃ c, z.cps[i]? = some c ∧ x = .str ⟨#[c]⟩, fun i _ => z.cps.size ≤ i⟩
theorem qIk {P : Program} {w : World} {K : PySem.W.Frag} {tg : Expr} (it : Addr) (z : Str) (t : Tok) (ty : String) (hty : ty = "str_ascii_iterator" ∨ ty = "str_iterator") :
    qMk P w K tg (Its z) [it] it (fun i h => h.IsStrIter it ty z t i ∧ i ≤ z.cps.size) where
  mem := by simp
  obj := fun i h st b hb => by
    have e : b = it := by simpa using hb
    subst e
    obtain ⟨⟨o, e, c, d⟩, _⟩ := st
    exact ⟨o, e, fun v z => by rw [d] at z; cases z⟩
  keep := fun i h h' st k => ⟨let ⟨o, ho, r⟩ := st.1; ⟨o, k it (by simp) o ho, r⟩, st.2⟩
  item := by
    intro X hP hw hK hc i pins s σ H E I hf st hg
    subst hP hw hK
    have hi : i < z.cps.size := hg
    have hx : z.cps[i]? = some z.cps[i] := by simp [hi]
    obtain ⟨f0, f1, f2, f3, f4, f5⟩ := hf it (by simp)
    have fin : ∀ h', h'.IsStrIter it ty z t (i + 1) → Heap.SameBut it s.heap h' → ∃ u, some (Value.str ⟨#[z.cps[i]]⟩ s.toks) = some u ∧ wpAny (model X.prog X.w) X.A (letOwnedTupleGo tg (.ref it) u) (fun _ s2 => ∃ x H', Inv X pins σ H' s2 ∧ RelV x u ∧ (Its z).yld i H x H' ∧ (s2.heap.IsStrIter it ty z t (i + 1) ∧ i + 1 ≤ z.cps.size) ∧ ∀ b ∈ [it], H' b = none) E { s with heap := h', toks := s.toks + 1 } := fun h' st' sb => by
      have I1 : Inv X pins σ H { s with heap := h', toks := s.toks + 1 } := I.turned (t' := s.toks + 1) (fun b o hb e => (sb.2 b hb).trans e) f0 f1 f3 f4 f5
      obtain ⟨o, e, c, d⟩ := id st'
      refine ⟨_, rfl, qJv (s := { s with heap := h', toks := s.toks + 1 }) e c d (by rcases hty with rfl | rfl <;> decide) ⟨.str ⟨#[z.cps[i]]⟩, H, I1, ⟨_, rfl⟩, ⟨rfl, _, hx, rfl⟩, ⟨st', hi⟩, fun b hb => (hf b hb).1⟩⟩
    rcases hty with rfl | rfl
    · exact wpAny_pyNext_ascii_item st.1 hx fin
    · exact wpAny_pyNext_wide_item st.1 hx fin
  done := by
    intro X hP hw hK hc i pins s σ H E I hf st hg
    subst hP hw hK
    have hi : z.cps.size ≤ i := hg
    have hx : z.cps[i]? = none := by simp [hi]
    obtain ⟨f0, f1, f2, f3, f4, f5⟩ := hf it (by simp)
    rcases hty with rfl | rfl
    · exact wpAny_pyNext_ascii_end (I.ok.hd hc) st.1 hx fun h' eb => ⟨rfl, I.turned (t' := s.toks) (fun b o hb e => eb b o hb e) f0 f1 f3 f4 f5⟩
    · exact wpAny_pyNext_wide_end (I.ok.hd hc) st.1 hx fun h' eb => ⟨rfl, I.turned (t' := s.toks) (fun b o hb e => eb b o hb e) f0 f1 f3 f4 f5⟩
  self := fun _ _ _ _ _ st h => by
    rcases hty with rfl | rfl
    · exact wpAny_pyIter_striter_ascii st.1 h
    · exact wpAny_pyIter_striter_wide st.1 h
def qPg (tl : TE) : TI := fun σ H R => tl σ H fun x H1 => ∃ z, x = .str z ∧ R (Its z) H1
theorem qMt {tg l : Expr} {tl : TE} (hl : PE X l tl) : PI X tg l (qPg tl) := by
  intro pins s σ H R I h
  refine thn (hl pins s σ H _ I h) fun v s1 ⟨x, H1, I1, r1, q1⟩ => ?_
  obtain ⟨z, e, q⟩ := q1
  subst e
  obtain ⟨t, rfl⟩ := r1
  have key : ∀ ty : String, (ty = "str_ascii_iterator" ∨ ty = "str_iterator") → PIE X pins σ tg R (.ref s1.heap.objs.size) { s1 with heap := s1.heap.push { cls := .type ty, data := .fields #[.str z t, .int 0 0] } } := fun ty hty => by
    refine ⟨s1.heap.objs.size, [s1.heap.objs.size], _, _, H1, rfl, I1.kept (t' := s1.toks) fun b o e => Heap.get?_push_of_some _ e, qIk _ z t ty hty, ⟨⟨_, Heap.get?_push_size _ rfl, rfl, rfl⟩, Nat.zero_le _⟩, fun b hb => ?_, q⟩
    have e : b = s1.heap.objs.size := by simpa using hb
    subst e
    exact I1.fpOk (Nat.le_refl _) (I1.hok.fresh (Nat.le_refl _))
  cases ha : z.cps.all (· < 128)
  · exact wpAny_pyIter_wide ha (key _ (.inr rfl))
  · exact wpAny_pyIter_ascii ha (key _ (.inl rfl))
theorem qJu {z : Str} {js : List Nat} {te : TE} {σ : L2.St} {H : Hp} {Q : VK} (Pv : Nat → List V → Hp → Prop) (h0 : Pv 0 [] H) (hl : ∀ i acc H, i ≤ z.cps.size → Pv i acc H → acc.length < sizeLine)
    (hs : ∀ i c acc H, i < z.cps.size → z.cps[i]? = some c → Pv i acc H → te (some (.str ⟨#[c]⟩) :: kn js σ) H fun v H' => Nxt z.cps.size i (Pv (i + 1) (acc ++ [v]) H')) (hd : ∀ acc H, Pv z.cps.size acc H → ∀ D, H D = none → Q (.ref D) (upd H D (.lst acc))) : wU js te σ Q (Its z) H := by
  refine ⟨fun i m acc H => m = z.cps.size - i ∧ i ≤ z.cps.size ∧ Pv i acc H, ⟨z.cps.size, by simp, Nat.zero_le _, h0⟩, ?_⟩
  rintro i m acc H2 ⟨rfl, hi, p⟩
  refine ⟨hl i acc H2 hi p, ?_⟩
  by_cases hlt : i < z.cps.size
  · refine .inr ⟨hlt, fun x H3 y => ?_⟩
    obtain ⟨e, c, hc, rfl⟩ := y
    subst e
    exact hs i c acc _ hlt hc p
  · have e : i = z.cps.size := by omega
    subst e
    exact .inl ⟨Nat.le_refl _, hd acc H2 p⟩
end
end L3
namespace L3
open PySem PySem.Spec PyProof.Rows L2
end L3
set_option maxHeartbeats 4000000
namespace L3
open PySem PySem.Spec PyProof.Rows L2
section
variable {X : Cx}
end
end L3
set_option maxHeartbeats 4000000
namespace L3
open PySem PySem.Spec PyProof.Rows L2
inductive D where
  | leaf (v : V)
  | tup (xs : List D)
  | lst (xs : List D)
mutual
def Rep (K : PySem.W.Frag) (H : Hp) : D → V → Prop
  | .leaf v, x => x = v ∧ zL v = true
  | .tup ds, x => ∃ p xs, x = .ref p ∧ SqT K H p xs ∧ Reps K H ds xs
  | .lst ds, x => ∃ p xs, x = .ref p ∧ SqL K H p xs ∧ Reps K H ds xs
def Reps (K : PySem.W.Frag) (H : Hp) : List D → List V → Prop
  | [], [] => True
  | d :: ds, x :: xs => Rep K H d x ∧ Reps K H ds xs
  | _, _ => False
end
mutual
def eqD : D → D → Bool
  | .leaf v, .leaf w => eqV v w
  | .tup xs, .tup ys => v8 xs ys
  | .lst xs, .lst ys => v8 xs ys
  | _, _ => false
def v8 : List D → List D → Bool
  | [], [] => true
  | x :: xs, y :: ys => eqD x y && v8 xs ys
  | _, _ => false
end
mutual
def dep : D → Nat
  | .leaf _ => 0
  | .tup xs => deps xs + 1
  | .lst xs => deps xs + 1
def deps : List D → Nat
  | [] => 0
  | x :: xs => max (dep x) (deps xs)
end
theorem Reps.length {K : PySem.W.Frag} {H : Hp} : ∀ {ds : List D} {xs : List V}, Reps K H ds xs → ds.length = xs.length
  | [], [], _ => rfl
  | _ :: _, _ :: _, h => by
    unfold Reps at h
    rw [List.length_cons, List.length_cons, h.2.length]
  | [], _ :: _, h => by unfold Reps at h; exact h.elim
  | _ :: _, [], h => by unfold Reps at h; exact h.elim
theorem qJ3 {v : V} (h : zL v = true) : eqV v v = true := by
  cases v <;> simp_all [zL, eqV]
theorem wT : ∀ {xs ys : List D}, v8 xs ys = true → xs.length = ys.length
  | [], [], _ => rfl
  | x :: xs, y :: ys, h => by
    unfold v8 at h
    rw [Bool.and_eq_true] at h
    rw [List.length_cons, List.length_cons, wT h.2]
  | [], _ :: _, h => by simp [v8] at h
  | _ :: _, [], h => by simp [v8] at h
def itE (xs ys : List D) (j : Nat) : Bool := match xs[j]?, ys[j]? with
  | some a, some b => eqD a b
  | _, _ => false
theorem qCz : ∀ (xs ys : List D), ((List.range (min xs.length ys.length)).all (itE xs ys) && xs.length == ys.length) = v8 xs ys
  | [], [] => by simp [v8]
  | [], y :: ys => by simp [v8]
  | x :: xs, [] => by simp [v8]
  | x :: xs, y :: ys => by
    have ih := qCz xs ys
    have e : min (x :: xs).length (y :: ys).length = min xs.length ys.length + 1 := by simp only [List.length_cons]; omega
    rw [e, List.range_succ_eq_map, List.all_cons, List.all_map]
    have e2 : (itE (x :: xs) (y :: ys)) ∘ Nat.succ = itE xs ys := by
      funext j
      simp [itE]
    have e3 : itE (x :: xs) (y :: ys) 0 = eqD x y := by simp [itE]
    have e4 : ((x :: xs).length == (y :: ys).length) = (xs.length == ys.length) := by
      rw [Bool.eq_iff_iff]; simp
    rw [e2, e3, e4, Bool.and_assoc, ih]
    conv => rhs; unfold v8
theorem qE8 {xs ys : List D} (h : xs.length = ys.length) : (List.range xs.length).all (itE xs ys) = v8 xs ys := by
  have := qCz xs ys
  rw [← h, Nat.min_self] at this
  simpa using this
section
variable {X : Cx} {pins : List (Addr × Obj)} {σ : L2.St} {H : Hp} {s : Shared}
mutual
theorem qCi (I : Inv X pins σ H s) : ∀ (d e : D) {x : V}, Rep X.K H d x → Rep X.K H e x → eqD d e = true
  | .leaf v, .leaf w, x, h1, h2 => by
    unfold Rep at h1 h2
    obtain ⟨rfl, f⟩ := h1
    obtain ⟨rfl, _⟩ := h2
    unfold eqD
    exact qJ3 f
  | .leaf v, .tup ds, x, h1, h2 => by
    unfold Rep at h1 h2
    obtain ⟨rfl, f⟩ := h1
    obtain ⟨p, xs, rfl, _⟩ := h2
    cases f
  | .leaf v, .lst ds, x, h1, h2 => by
    unfold Rep at h1 h2
    obtain ⟨rfl, f⟩ := h1
    obtain ⟨p, xs, rfl, _⟩ := h2
    cases f
  | .tup ds, .leaf w, x, h1, h2 => by
    unfold Rep at h1 h2
    obtain ⟨rfl, f⟩ := h2
    obtain ⟨p, xs, rfl, _⟩ := h1
    cases f
  | .lst ds, .leaf w, x, h1, h2 => by
    unfold Rep at h1 h2
    obtain ⟨rfl, f⟩ := h2
    obtain ⟨p, xs, rfl, _⟩ := h1
    cases f
  | .tup ds, .tup es, x, h1, h2 => by
    unfold Rep at h1 h2
    obtain ⟨p, xs, rfl, t1, r1⟩ := h1
    obtain ⟨q, ys, e, t2, r2⟩ := h2
    cases e
    rw [I.tuple_inj t1 t2] at r1
    unfold eqD
    exact qAp I ds es r1 r2
  | .lst ds, .lst es, x, h1, h2 => by
    unfold Rep at h1 h2
    obtain ⟨p, xs, rfl, t1, r1⟩ := h1
    obtain ⟨q, ys, e, t2, r2⟩ := h2
    cases e
    rw [I.list_inj t1 t2] at r1
    unfold eqD
    exact qAp I ds es r1 r2
  | .tup ds, .lst es, x, h1, h2 => by
    unfold Rep at h1 h2
    obtain ⟨p, xs, rfl, t1, r1⟩ := h1
    obtain ⟨q, ys, e, t2, r2⟩ := h2
    cases e
    obtain ⟨_, _, i1, _⟩ := I.tuple t1
    obtain ⟨_, _, i2, _⟩ := I.list t2
    exact (SeqAt.ne_of_list_tuple i2.isList i1 rfl).elim
  | .lst ds, .tup es, x, h1, h2 => by
    unfold Rep at h1 h2
    obtain ⟨p, xs, rfl, t1, r1⟩ := h1
    obtain ⟨q, ys, e, t2, r2⟩ := h2
    cases e
    obtain ⟨_, _, i1, _⟩ := I.list t1
    obtain ⟨_, _, i2, _⟩ := I.tuple t2
    exact (SeqAt.ne_of_list_tuple i1.isList i2 rfl).elim
theorem qAp (I : Inv X pins σ H s) : ∀ (ds es : List D) {xs : List V}, Reps X.K H ds xs → Reps X.K H es xs → v8 ds es = true
  | [], [], _, _, _ => by simp [v8]
  | d :: ds, e :: es, [], h1, _ => by unfold Reps at h1; exact h1.elim
  | d :: ds, e :: es, x :: xs, h1, h2 => by
    unfold Reps at h1 h2
    unfold v8
    rw [qCi I d e h1.1 h2.1, qAp I ds es h1.2 h2.2]
    rfl
  | [], e :: es, [], _, h2 => by unfold Reps at h2; exact h2.elim
  | [], e :: es, _ :: _, h1, _ => by unfold Reps at h1; exact h1.elim
  | d :: ds, [], [], h1, _ => by unfold Reps at h1; exact h1.elim
  | d :: ds, [], _ :: _, _, h2 => by unfold Reps at h2; exact h2.elim
end
theorem kW {A : Around} {x : V} {u : Value} {p : Addr} {its : Array Value} (f : zL x = true) (r : RelV x u) (hu : A.units < cLine) (h : s.heap.IsTuple p its ∨ s.heap.IsList p its) : SeqAt.EqAt A s u (.ref p) false ∧ SeqAt.EqAt A s (.ref p) u false := by
  cases x with
  | non => cases r; rcases h with h | h <;> exact ⟨by first | exact SeqAt.EqAt.none_tuple h hu | exact SeqAt.EqAt.none_list h hu, by first | exact SeqAt.EqAt.tuple_none h hu | exact SeqAt.EqAt.list_none h hu⟩
  | bl b => cases r; rcases h with h | h <;> exact ⟨by first | exact SeqAt.EqAt.bool_tuple _ h hu | exact SeqAt.EqAt.bool_list _ h hu, by first | exact SeqAt.EqAt.tuple_bool _ h hu | exact SeqAt.EqAt.list_bool _ h hu⟩
  | int i => obtain ⟨t, rfl⟩ := r; rcases h with h | h <;> exact ⟨by first | exact SeqAt.EqAt.int_tuple _ _ h hu | exact SeqAt.EqAt.int_list _ _ h hu, by first | exact SeqAt.EqAt.tuple_int _ _ h hu | exact SeqAt.EqAt.list_int _ _ h hu⟩
  | str i => obtain ⟨t, rfl⟩ := r; rcases h with h | h <;> exact ⟨by first | exact SeqAt.EqAt.str_tuple _ _ h hu | exact SeqAt.EqAt.str_list _ _ h hu, by first | exact SeqAt.EqAt.tuple_str _ _ h hu | exact SeqAt.EqAt.list_str _ _ h hu⟩
  | _ => cases f
theorem Reps.get {K : PySem.W.Frag} {H : Hp} : ∀ {ds : List D} {xs : List V}, Reps K H ds xs → ∀ (j : Nat) (d : D), ds[j]? = some d → ∃ x, xs[j]? = some x ∧ Rep K H d x
  | [], [], _, j, d, e => by simp at e
  | a :: ds, x :: xs, h, 0, d, e => by
    unfold Reps at h
    have : a = d := by simpa using e
    subst this
    exact ⟨x, rfl, h.1⟩
  | a :: ds, x :: xs, h, j + 1, d, e => by
    unfold Reps at h
    exact h.2.get j d (by simpa using e)
  | [], _ :: _, h, _, _, _ => by unfold Reps at h; exact h.elim
  | _ :: _, [], h, _, _, _ => by unfold Reps at h; exact h.elim
theorem qB1 : ∀ {ds : List D} {j : Nat} {d : D}, ds[j]? = some d → dep d ≤ deps ds
  | a :: ds, 0, d, e => by
    have : a = d := by simpa using e
    subst this
    unfold deps
    exact Nat.le_max_left _ _
  | a :: ds, j + 1, d, e => by
    have := qB1 (ds := ds) (j := j) (d := d) (by simpa using e)
    unfold deps
    exact Nat.le_trans this (Nat.le_max_right _ _)
  | [], _, _, e => by simp at e
theorem qI6 {A : Around} {ds es : List D} {xs ys : List V} {us ws : List Value} (r1 : Reps X.K H ds xs) (r2 : Reps X.K H es ys) (v1 : Vals xs us) (v2 : Vals ys ws)
    (ih : ∀ d e x y u w, d ∈ ds → Rep X.K H d x → Rep X.K H e y → RelV x u → RelV y w → SeqAt.EqAt A s u w (eqD d e)) :
    ∀ j (h1 : j < us.toArray.size) (h2 : j < ws.toArray.size), SeqAt.EqAt A s us.toArray[j] ws.toArray[j] (itE ds es j) := by
  intro j h1 h2
  have l1 := v1.length
  have l2 := v2.length
  have m1 := r1.length
  have m2 := r2.length
  rw [List.size_toArray] at h1 h2
  have g1 : ds[j]? = some ds[j] := List.getElem?_eq_getElem (by omega)
  have g2 : es[j]? = some es[j] := List.getElem?_eq_getElem (by omega)
  obtain ⟨x, ex, rx⟩ := r1.get j _ g1
  obtain ⟨y, ey, ry⟩ := r2.get j _ g2
  obtain ⟨u, eu, qu⟩ := v1.get ex
  obtain ⟨w, ew, qw⟩ := v2.get ey
  have c1 : us.toArray[j] = u := by
    have := (List.getElem?_eq_some_iff.mp eu).2
    simpa using this
  have c2 : ws.toArray[j] = w := by
    have := (List.getElem?_eq_some_iff.mp ew).2
    simpa using this
  have e : itE ds es j = eqD ds[j] es[j] := by unfold itE; rw [g1, g2]
  rw [c1, c2, e]
  exact ih _ _ _ _ _ _ (List.getElem_mem _) rx ry qu qw
theorem qK4 (I : Inv X pins σ H s) : ∀ (n : Nat) (A : Around) (d e : D) (x y : V) (u w : Value), dep d ≤ n → A.units + n < cLine → Rep X.K H d x → Rep X.K H e y → RelV x u → RelV y w → SeqAt.EqAt A s u w (eqD d e) := by
  intro n
  induction n with
  | zero =>
    intro A d e x y u w hd hu r1 r2 q1 q2
    cases d with
    | leaf v =>
      unfold Rep at r1
      obtain ⟨rfl, f1⟩ := r1
      cases e with
      | leaf v' =>
        unfold Rep at r2
        obtain ⟨rfl, f2⟩ := r2
        unfold eqD
        exact qDd q1 q2 f1 f2
      | tup es =>
        unfold Rep at r2
        obtain ⟨p, ys, rfl, t, _⟩ := r2
        cases q2
        obtain ⟨_, _, i, _⟩ := I.tuple t
        unfold eqD
        exact (kW f1 q1 hu (.inl i)).1
      | lst es =>
        unfold Rep at r2
        obtain ⟨p, ys, rfl, t, _⟩ := r2
        cases q2
        obtain ⟨_, _, i, _⟩ := I.list t
        unfold eqD
        exact (kW f1 q1 hu (.inr i.isList)).1
    | tup ds => unfold dep at hd; omega
    | lst ds => unfold dep at hd; omega
  | succ n ih =>
    intro A d e x y u w hd hu r1 r2 q1 q2
    have hu0 : A.units < cLine := by omega
    have hu1 : A.in1.units + n < cLine := by show A.units + 1 + n < cLine; omega
    cases d with
    | leaf v =>
      unfold Rep at r1
      obtain ⟨rfl, f1⟩ := r1
      cases e with
      | leaf v' =>
        unfold Rep at r2
        obtain ⟨rfl, f2⟩ := r2
        unfold eqD
        exact qDd q1 q2 f1 f2
      | tup es =>
        unfold Rep at r2
        obtain ⟨p, ys, rfl, t, _⟩ := r2
        cases q2
        obtain ⟨_, _, i, _⟩ := I.tuple t
        unfold eqD
        exact (kW f1 q1 hu0 (.inl i)).1
      | lst es =>
        unfold Rep at r2
        obtain ⟨p, ys, rfl, t, _⟩ := r2
        cases q2
        obtain ⟨_, _, i, _⟩ := I.list t
        unfold eqD
        exact (kW f1 q1 hu0 (.inr i.isList)).1
    | tup ds =>
      have r1' := r1
      unfold Rep at r1
      obtain ⟨p, xs, rfl, t1, s1⟩ := r1
      cases q1
      obtain ⟨us, v1, i1, _⟩ := I.tuple t1
      cases e with
      | leaf v' =>
        unfold Rep at r2
        obtain ⟨rfl, f2⟩ := r2
        unfold eqD
        exact (kW f2 q2 hu0 (.inl i1)).2
      | lst es =>
        unfold Rep at r2
        obtain ⟨q, ys, rfl, t2, _⟩ := r2
        cases q2
        obtain ⟨_, _, i2, _⟩ := I.list t2
        unfold eqD
        exact SeqAt.EqAt.tuple_list i1 i2.isList hu0
      | tup es =>
        have r2' := r2
        unfold Rep at r2
        obtain ⟨q, ys, rfl, t2, s2⟩ := r2
        cases q2
        by_cases pq : p = q
        · subst pq
          rw [qCi I _ _ r1' r2']
          exact SeqAt.EqAt.same _
        obtain ⟨ws, v2, i2, _⟩ := I.tuple t2
        have hdd : deps ds ≤ n := by unfold dep at hd; omega
        have := SeqAt.EqAt.of_refs pq (SeqAt.RcAt.tuples i1 i2 hu0 (qI6 s1 s2 v1 v2 fun d e x y u w hm ra rb qa qb => by
          obtain ⟨j, hj, ej⟩ := List.mem_iff_getElem.mp hm
          have hde : dep d ≤ deps ds := qB1 (j := j) (by rw [List.getElem?_eq_getElem hj, ej])
          exact ih A.in1 d e x y u w (by omega) hu1 ra rb qa qb))
        rw [List.size_toArray, List.size_toArray, ← v1.length, ← v2.length, ← s1.length, ← s2.length, qCz] at this
        unfold eqD
        exact this
    | lst ds =>
      have r1' := r1
      unfold Rep at r1
      obtain ⟨p, xs, rfl, t1, s1⟩ := r1
      cases q1
      obtain ⟨us, v1, i1, _⟩ := I.list t1
      cases e with
      | leaf v' =>
        unfold Rep at r2
        obtain ⟨rfl, f2⟩ := r2
        unfold eqD
        exact (kW f2 q2 hu0 (.inr i1.isList)).2
      | tup es =>
        unfold Rep at r2
        obtain ⟨q, ys, rfl, t2, _⟩ := r2
        cases q2
        obtain ⟨_, _, i2, _⟩ := I.tuple t2
        unfold eqD
        exact SeqAt.EqAt.list_tuple i1.isList i2 hu0
      | lst es =>
        have r2' := r2
        unfold Rep at r2
        obtain ⟨q, ys, rfl, t2, s2⟩ := r2
        cases q2
        by_cases pq : p = q
        · subst pq
          rw [qCi I _ _ r1' r2']
          exact SeqAt.EqAt.same _
        obtain ⟨ws, v2, i2, _⟩ := I.list t2
        have hdd : deps ds ≤ n := by unfold dep at hd; omega
        unfold eqD
        by_cases hl : ds.length = es.length
        · have hsz : us.toArray.size = ws.toArray.size := by rw [List.size_toArray, List.size_toArray, ← v1.length, ← v2.length, ← s1.length, ← s2.length]; exact hl
          have := SeqAt.EqAt.of_refs pq (SeqAt.RcAt.lists i1.isList i2.isList hsz hu0 (qI6 s1 s2 v1 v2 fun d e x y u w hm ra rb qa qb => by
            obtain ⟨j, hj, ej⟩ := List.mem_iff_getElem.mp hm
            have hde : dep d ≤ deps ds := qB1 (j := j) (by rw [List.getElem?_eq_getElem hj, ej])
            exact ih A.in1 d e x y u w (by omega) hu1 ra rb qa qb))
          rw [List.size_toArray, ← v1.length, ← s1.length, qE8 hl] at this
          exact this
        · have hsz : (us.toArray.size != ws.toArray.size) = true := by
            rw [List.size_toArray, List.size_toArray, ← v1.length, ← v2.length, ← s1.length, ← s2.length]
            simpa using hl
          have e : v8 ds es = false := by
            rw [Bool.eq_false_iff]
            intro z
            exact hl (wT z)
          rw [e]
          exact SeqAt.EqAt.of_refs pq (SeqAt.RcAt.lists_lengths i1.isList i2.isList hsz hu0)
def kin : D → D → Bool
  | .tup _, .tup _ => true
  | .lst _, .lst _ => true
  | _, _ => false
def qN7 (K : PySem.W.Frag) (neg : Bool) : R2 := fun x y H Q => ∃ d e : D, Rep K H d x ∧ Rep K H e y ∧ kin d e = true ∧ dep d ≤ 60 ∧ Q (.bl (if neg then !eqD d e else eqD d e)) H
theorem ke {A : Around} (I : Inv X pins σ H s) (hu : A.units + 64 < cLine) {ds es : List D} {xs ys : List V} {us ws : List Value} (hd : deps ds ≤ 60) (s1 : Reps X.K H ds xs) (s2 : Reps X.K H es ys) (v1 : Vals xs us) (v2 : Vals ys ws) :
    ∀ j (h1 : j < us.toArray.size) (h2 : j < ws.toArray.size), SeqAt.EqAt A.in1 s us.toArray[j] ws.toArray[j] (itE ds es j) :=
  qI6 s1 s2 v1 v2 fun d e x y u w hm ra rb qa qb => by
    obtain ⟨j, hj, ej⟩ := List.mem_iff_getElem.mp hm
    have hde : dep d ≤ deps ds := qB1 (j := j) (by rw [List.getElem?_eq_getElem hj, ej])
    exact qK4 I 60 A.in1 d e x y u w (by omega) (by show A.units + 1 + 60 < cLine; omega) ra rb qa qb
theorem qK2 (hu : X.A.units + 64 < cLine) : OpR X (compareOp .Eq) (qN7 X.K false) := by
  intro pins s σ H x y v u Q I rx ry h
  obtain ⟨d, e, r1, r2, hk, hd, q⟩ := h
  have hu0 : X.A.units < cLine := by omega
  cases d with
  | leaf a => cases e <;> cases hk
  | tup ds =>
    cases e with
    | leaf b => cases hk
    | lst es => cases hk
    | tup es =>
      unfold Rep at r1 r2
      obtain ⟨p, xs, rfl, t1, s1⟩ := r1
      obtain ⟨p', ys, rfl, t2, s2⟩ := r2
      cases rx; cases ry
      obtain ⟨us, v1, i1, _⟩ := I.tuple t1
      obtain ⟨ws, v2, i2, _⟩ := I.tuple t2
      refine SeqAt.eq_tupleAt i1 i2 hu0 (ke I hu (by unfold dep at hd; omega) s1 s2 v1 v2) ?_
      rw [List.size_toArray, List.size_toArray, ← v1.length, ← v2.length, ← s1.length, ← s2.length, qCz]
      refine ⟨.bl _, H, I, rfl, ?_⟩
      unfold eqD at q
      exact q
  | lst ds =>
    cases e with
    | leaf b => cases hk
    | tup es => cases hk
    | lst es =>
      unfold Rep at r1 r2
      obtain ⟨p, xs, rfl, t1, s1⟩ := r1
      obtain ⟨p', ys, rfl, t2, s2⟩ := r2
      cases rx; cases ry
      obtain ⟨us, v1, i1, _⟩ := I.list t1
      obtain ⟨ws, v2, i2, _⟩ := I.list t2
      unfold eqD at q
      by_cases hl : ds.length = es.length
      · have hsz : us.toArray.size = ws.toArray.size := by rw [List.size_toArray, List.size_toArray, ← v1.length, ← v2.length, ← s1.length, ← s2.length]; exact hl
        refine SeqAt.eq_listAt i1.isList i2.isList hsz hu0 (ke I hu (by unfold dep at hd; omega) s1 s2 v1 v2) ?_
        rw [List.size_toArray, ← v1.length, ← s1.length, qE8 hl]
        exact ⟨.bl _, H, I, rfl, q⟩
      · have hsz : (us.toArray.size != ws.toArray.size) = true := by
          rw [List.size_toArray, List.size_toArray, ← v1.length, ← v2.length, ← s1.length, ← s2.length]
          simpa using hl
        have e : v8 ds es = false := by
          rw [Bool.eq_false_iff]
          intro z
          exact hl (wT z)
        rw [e] at q
        exact SeqAt.eq_list_lengthsAt i1.isList i2.isList hsz hu0 ⟨.bl _, H, I, rfl, q⟩
theorem qBl (hu : X.A.units + 64 < cLine) : OpR X (compareOp .NotEq) (qN7 X.K true) := by
  intro pins s σ H x y v u Q I rx ry h
  obtain ⟨d, e, r1, r2, hk, hd, q⟩ := h
  have hu0 : X.A.units < cLine := by omega
  cases d with
  | leaf a => cases e <;> cases hk
  | tup ds =>
    cases e with
    | leaf b => cases hk
    | lst es => cases hk
    | tup es =>
      unfold Rep at r1 r2
      obtain ⟨p, xs, rfl, t1, s1⟩ := r1
      obtain ⟨p', ys, rfl, t2, s2⟩ := r2
      cases rx; cases ry
      obtain ⟨us, v1, i1, _⟩ := I.tuple t1
      obtain ⟨ws, v2, i2, _⟩ := I.tuple t2
      refine SeqAt.RcNeAt.tuples i1 i2 hu0 (ke I hu (by unfold dep at hd; omega) s1 s2 v1 v2) _ _ _ _ ?_
      rw [List.size_toArray, List.size_toArray, ← v1.length, ← v2.length, ← s1.length, ← s2.length, qCz]
      refine ⟨.bl _, H, I, rfl, ?_⟩
      unfold eqD at q
      exact q
  | lst ds =>
    cases e with
    | leaf b => cases hk
    | tup es => cases hk
    | lst es =>
      unfold Rep at r1 r2
      obtain ⟨p, xs, rfl, t1, s1⟩ := r1
      obtain ⟨p', ys, rfl, t2, s2⟩ := r2
      cases rx; cases ry
      obtain ⟨us, v1, i1, _⟩ := I.list t1
      obtain ⟨ws, v2, i2, _⟩ := I.list t2
      unfold eqD at q
      by_cases hl : ds.length = es.length
      · have hsz : us.toArray.size = ws.toArray.size := by rw [List.size_toArray, List.size_toArray, ← v1.length, ← v2.length, ← s1.length, ← s2.length]; exact hl
        refine SeqAt.RcNeAt.lists i1.isList i2.isList hsz hu0 (ke I hu (by unfold dep at hd; omega) s1 s2 v1 v2) _ _ _ _ ?_
        rw [List.size_toArray, ← v1.length, ← s1.length, qE8 hl]
        exact ⟨.bl _, H, I, rfl, q⟩
      · have hsz : (us.toArray.size != ws.toArray.size) = true := by
          rw [List.size_toArray, List.size_toArray, ← v1.length, ← v2.length, ← s1.length, ← s2.length]
          simpa using hl
        have e : v8 ds es = false := by
          rw [Bool.eq_false_iff]
          intro z
          exact hl (wT z)
        rw [e] at q
        exact SeqAt.RcNeAt.lists_lengths i1.isList i2.isList hsz hu0 _ _ _ _ ⟨.bl _, H, I, rfl, q⟩
end
mutual
theorem Rep.same {K : PySem.W.Frag} {H H' : Hp} (e : Same H H') : ∀ (d : D) {x : V}, Rep K H d x → Rep K H' d x
  | .leaf v, x, h => by unfold Rep at h ⊢; exact h
  | .tup ds, x, h => by
    unfold Rep at h ⊢
    obtain ⟨p, xs, h1, h2, h3⟩ := h
    exact ⟨p, xs, h1, L3.Same.tup e h2, Reps.same e ds h3⟩
  | .lst ds, x, h => by
    unfold Rep at h ⊢
    obtain ⟨p, xs, h1, h2, h3⟩ := h
    exact ⟨p, xs, h1, e.seq h2, Reps.same e ds h3⟩
theorem Reps.same {K : PySem.W.Frag} {H H' : Hp} (e : Same H H') : ∀ (ds : List D) {xs : List V}, Reps K H ds xs → Reps K H' ds xs
  | [], [], h => by unfold Reps; trivial
  | d :: ds, x :: xs, h => by
    unfold Reps at h ⊢
    exact ⟨Rep.same e d h.1, Reps.same e ds h.2⟩
  | [], _ :: _, h => by unfold Reps at h; exact h.elim
  | _ :: _, [], h => by unfold Reps at h; exact h.elim
end
end L3
set_option maxHeartbeats 4000000
namespace L3
open PySem PySem.Spec PyProof.Rows L2
def qCt (js : List Nat) (tc : TT) (te : TE) (σ : L2.St) (Q : VK) (J : It) (H1 : Hp) : Prop := ∃ W : Nat → Nat → List V → Hp → Prop, (∃ m, W 0 m [] H1) ∧ ∀ i m acc H2, W i m acc H2 →
  acc.length < sizeLine ∧ ((J.stop i H2 ∧ ∀ D, H2 D = none → Q (.ref D) (upd H2 D (.lst acc))) ∨
    (J.go i H2 ∧ ∀ x H3, J.yld i H2 x H3 → tc (some x :: kn js σ) H3 fun ok H4 => if ok = true then te (some x :: kn js σ) H4 fun v H5 => ∃ m', m' < m ∧ W (i + 1) m' (acc ++ [v]) H5 else ∃ m', m' < m ∧ W (i + 1) m' acc H4))
def qHx (js : List Nat) (wi : TI) (tc : TT) (te : TE) : TE := fun σ H Q => wi σ H (qCt js tc te σ Q)
theorem qBg {X : Cx} {elt iter cnd : Expr} {x : Str} {px : Pos} {scope : Scope} {cl : List (Str × Addr)} {pos : Pos} {wi : TI} {tc : TT} {te : TE} (ys : List Str) (js : List Nat)
    (hcm : X.calm = true) (hi : PI X (.Name x px) iter wi) (hc : ∀ C s H fp, PT (jA X scope cl C (x :: ys) s H fp).nox cnd tc) (he : ∀ C s H fp, PE (jA X scope cl C (x :: ys) s H fp).nox elt te)
    (hclos : closureFor scope X.env = pure cl := by rfl)
    (hcl : cl.map (fun p => X.env.cells.lookup p.1) = cl.map (fun p => some p.2) := by rfl)
    (hcell : (scope.names.all fun p => p.2 != .cell) = true := by rfl) (hkind : scope.kind = .function := by rfl)
    (hnames : (scope.names.all fun p => p.2 != .local || scope.names.lookup p.1 == some .local) = true := by rfl)
    (hx : scope.names.lookup x = some .local := by rfl)
    (hhas : ((relabel scope X.env).names.all fun p => (p.2 != .cell && p.2 != .free) || (cl.lookup p.1).isSome) = true := by rfl)
    (hnd : (x :: ys).Nodup := by decide)
    (hjs : js.map (fun j => X.N[j]?) = ys.map some := by rfl)
    (hys : (ys.all fun y => ((relabel scope X.env).names.lookup y == some .cell || (relabel scope X.env).names.lookup y == some .free) && (X.env.scope.names.lookup y == some .cell || X.env.scope.names.lookup y == some .free)) = true := by rfl)
    (hs : ∀ x, foldedSetIterable iter X.env x = pure x := by intro _; rfl)
    {pins : List (Addr × Obj)} {s : Shared} {σ : L2.St} {H : Hp} (R : V → Hp → Prop) (use : Option (Value → Sem Unit)) (Q : Value → Shared → Prop) (I : Inv X pins σ H s) (h : qHx js wi tc te σ H R)
    (fin : ∀ (v : V) (u : Value) (H' : Hp) (s' : Shared) (C : Addr), Inv X pins σ H' s' → RelV v u → R v H' → (∃ m, s'.heap.Ns C m) → H' C = none → C ≠ X.env.locals → X.s₀.heap.objs.size ≤ C → (∀ y c, X.env.cells.lookup y = some c → c ≠ C) → (∀ p ∈ X.pn ++ pins, p.1 ≠ C) →
      compPost (model X.prog X.w) X.A X.xe use Q u C (.ok .next) s') :
    wpAny (model X.prog X.w) X.A (comprehension (.ListComp elt [⟨.Name x px, iter, [cnd], 0⟩] scope pos) scope X.env (firstIterPos [⟨.Name x px, iter, [cnd], 0⟩] pos) (newList []) false (eval iter X.env) use) Q X.xe s := by
  have hcell' : ∀ y ∈ scope.names, y.2 ≠ .cell := fun y hy => by
    have := List.all_eq_true.mp hcell y hy
    simpa using this
  have hnm : ∀ y ∈ scope.names, y.2 = .local → scope.names.lookup y.1 = some .local := fun y hy e => by
    have := List.all_eq_true.mp hnames y hy
    rw [e] at this
    simpa using this
  have clX : ∀ y c, cl.lookup y = some c → X.env.cells.lookup y = some c := fun y c e => by
    have hm := PySem.mem_of_lookup e
    obtain ⟨k, hk, e2⟩ := List.mem_iff_getElem.mp hm
    have := congrArg (fun l => l[k]?) hcl
    simp only [List.getElem?_map, List.getElem?_eq_getElem hk, Option.map_some, e2] at this
    exact Option.some.inj this
  have has : ∀ y, ((relabel scope X.env).names.lookup y = some .cell ∨ (relabel scope X.env).names.lookup y = some .free) → ∃ c, cl.lookup y = some c := fun y hy => by
    have key : ∀ k : NameKind, (k = .cell ∨ k = .free) → (relabel scope X.env).names.lookup y = some k → ∃ c, cl.lookup y = some c := fun k hk e => by
      have := List.all_eq_true.mp hhas _ (PySem.mem_of_lookup e)
      rcases hk with rfl | rfl <;> exact Option.isSome_iff_exists.mp (by simpa using this)
    rcases hy with e | e
    · exact key _ (.inl rfl) e
    · exact key _ (.inr rfl) e
  refine wpAny_comprehension_free (use := use) rfl hs hclos hkind hnm (thn (hi pins s σ H _ I h) fun v s1 h1 => thn h1 fun itv s2 h2 => ?_)
  obtain ⟨it, fp, tn, J, H2, e, I2, T, st2, f2, W, ⟨m0, w0⟩, turn⟩ := h2
  subst e
  refine wpAny_newObj_type (wpAny_newFunctionEnv hcell' (by intro y hy; simp at hy) (fun h₁ hns hsb => ?_) hkind)
  dsimp only at hns hsb ⊢
  generalize hG : s2.heap.push { cls := .type "list", dict := none, data := .seq ([] : List Value).toArray } = G at hns hsb ⊢
  have szG : G.objs.size = s2.heap.objs.size + 1 := by rw [← hG, Heap.size_push]
  have inG : ∀ b o, s2.heap.get? b = some o → G.get? b = some o := fun b o e => hG ▸ Heap.get?_push_of_some _ e
  have ltC : ∀ b o, s2.heap.get? b = some o → b ≠ G.objs.size := fun b o e => by rw [szG]; exact Nat.ne_of_lt (Nat.lt_succ_of_lt (Heap.lt_size e))
  have ltD : ∀ b o, s2.heap.get? b = some o → b ≠ s2.heap.objs.size := fun b o e => Nat.ne_of_lt (Heap.lt_size e)
  have DC : s2.heap.objs.size ≠ G.objs.size := by rw [szG]; omega
  have old : ∀ b o, s2.heap.get? b = some o → h₁.get? b = some o := fun b o e => hsb.extBut b o (ltC b o e) (Heap.get?_push_of_some _ (inG b o e))
  have hacc : h₁.PlainList s2.heap.objs.size #[] := ⟨_, hsb.extBut _ _ DC (Heap.get?_push_of_some _ (hG ▸ Heap.get?_push_size _ rfl))⟩
  have fpO : ∀ b ∈ fp, ∃ o, s2.heap.get? b = some o := fun b hb => let ⟨o, e, _⟩ := T.obj 0 _ st2 b hb; ⟨o, e⟩
  have stkO : ∀ b ∈ frs X.stack, ∃ o, s2.heap.get? b = some o := fun b hb => by
    obtain ⟨_, o, ho, _⟩ := I2.stack.mem hb
    exact ⟨o, ho⟩
  have freshH : ∀ a, s2.heap.objs.size ≤ a → H2 a = none := fun a ha => I2.hok.fresh ha
  have stkFp : ∀ b ∈ fp, b ∉ frs X.stack := fun b hb z => by
    rcases List.mem_cons.mp (I2.stkSub b z) with q | q
    · exact (f2 b hb).2.1 q
    · exact (f2 b hb).2.2.1 q
  have okX : (jA X scope cl G.objs.size (x :: ys) s2 H2 fp).Ok := {
    mod := I2.ok.mod
    kind := hkind
    glob := I2.ok.glob
    blt := I2.ok.blt
    above := by show s2.heap.objs.size ≤ G.objs.size; rw [szG]; omega
    inj := fun y z c e1 e2 => I2.ok.inj y z c (clX y c e1) (clX z c e2)
    has := fun y hy => has y hy
    cab := fun y c e _ => absurd (show false = true from e) Bool.false_ne_true
    hd := I2.ok.hd
    frames := I2.ok.frames
    stk := .inl rfl
    exf := fun b hb => by
      obtain ⟨o, e⟩ := fpO b hb
      exact ⟨ltC b o e, fun y c e1 => (f2 b hb).2.2.2.2.1 y c (clX y c e1)⟩
    bs := I2.bs
    bsz := Nat.le_trans I2.ok.bsz I2.sz
    noex := fun b o e hb => by
      rcases (f2 b hb).2.2.2.1 with q | q
      · exact I2.ok.noex b o e q
      · exact Nat.lt_irrefl _ (Nat.lt_of_lt_of_le (Nat.lt_of_lt_of_le (Heap.lt_size e) I2.ok.bsz) q)
    exfs := stkFp
    funs := I2.stack
    frf := I2.stkFree }
  have lenY : js.length = ys.length := by have := congrArg List.length hjs; simpa using this
  have I0 : Inv (jA X scope cl G.objs.size (x :: ys) s2 H2 fp) [] (none :: kn js σ) H2 { s2 with heap := h₁, toks := s2.toks + ([] : List (Str × Value)).length } := by
    refine ⟨okX, rfl, I2.bare, Un.kept old, ⟨_, hns, fun k y v e1 e2 e3 => ?_⟩, fun y c e => ?_, freshH _ (by show s2.heap.objs.size ≤ G.objs.size; rw [szG]; omega), fun y c e => I2.freeC y c (clX y c e), fun p hp => absurd (show p ∈ ([] : List (Addr × Obj)) from hp) (by simp), I2.hok.kept old, ?_⟩
    · cases k with
      | zero => cases e2
      | succ k =>
        have e1' : ys[k]? = some y := e1
        have e2' : (kn js σ)[k]? = some (some v) := e2
        unfold kn at e2'
        rw [List.getElem?_map] at e2'
        cases ej : js[k]? with
        | none => rw [ej] at e2'; cases e2'
        | some j =>
          rw [ej] at e2'
          have e4 : (σ[j]?).join = some v := Option.some.inj e2'
          have e5 : σ[j]? = some (some v) := by
            cases q : σ[j]? with
            | none => rw [q] at e4; cases e4
            | some o => rw [q] at e4; exact congrArg some e4
          have e6 : X.N[j]? = some y := by
            have := congrArg (fun l => l[k]?) hjs
            simp only [List.getElem?_map, ej, e1', Option.map_some] at this
            exact Option.some.inj this
          have hy := List.all_eq_true.mp hys y (List.mem_of_getElem? e1')
          simp only [Bool.and_eq_true, Bool.or_eq_true, beq_iff_eq] at hy
          obtain ⟨ky, ko⟩ := hy
          obtain ⟨m, hn, hl⟩ := I2.loc
          obtain ⟨u, r, lk⟩ := hl j y v e6 e5 (.inr ko)
          refine ⟨u, r, .inr ⟨ky, ?_⟩⟩
          rcases lk with ⟨kl, _⟩ | ⟨_, c, ec, hc⟩
          · have kl' : X.env.scope.names.lookup y = some .local := kl
            rw [kl'] at ko
            rcases ko with z | z <;> cases z
          · obtain ⟨c', ec'⟩ := has y ky
            have := clX y c' ec'
            rw [ec] at this
            cases this
            obtain ⟨o, ho, hd⟩ := hc
            exact ⟨c, ec', o, old c o ho, hd⟩
    · obtain ⟨v, o, ho, hd⟩ := I2.cell y c (clX y c e)
      exact ⟨v, o, old c o ho, hd⟩
    · show (none :: kn js σ).length = (x :: ys).length
      simp [kn, lenY]
  have loop : ∀ s3 : Shared, s3 = { s2 with heap := h₁, toks := s2.toks + ([] : List (Str × Value)).length } →
      codeAny (model X.prog X.w) X.A (.compLoop (.ListComp elt [⟨.Name x px, iter, [cnd], 0⟩] scope pos) 0 (.ref it) (.ref s2.heap.objs.size) (compEnvC scope cl G.objs.size X.env))
        (compPost (model X.prog X.w) X.A X.xe use Q (.ref s2.heap.objs.size) G.objs.size) s3 := by
    rintro s3 rfl
    have stat : ∀ {H' : Hp} (o : Obj), (∀ b ∈ fp, H' b = none) → ∀ b ∈ fp, qJk (jA X scope cl G.objs.size (x :: ys) s2 H2 fp) [(s2.heap.objs.size, o)] H' b := fun {H'} o hn b hb => by
      obtain ⟨ob, eb⟩ := fpO b hb
      refine ⟨hn b hb, ltC b ob eb, stkFp b hb, .inl hb, fun y c e1 => (f2 b hb).2.2.2.2.1 y c (clX y c e1), fun p hp => ?_⟩
      have hp' : p = (s2.heap.objs.size, o) := by
        have : p ∈ [(s2.heap.objs.size, o)] := hp
        simpa using this
      rw [hp']
      exact Ne.symm (ltD b ob eb)
    refine codeAny_compLoop_tests (fun n s' => ∃ i acc its H3, Inv (jA X scope cl G.objs.size (x :: ys) s2 H2 fp) [] (none :: kn js σ) H3 s' ∧ tn i s'.heap ∧ (∀ b ∈ fp, H3 b = none) ∧ s'.heap.PlainList s2.heap.objs.size its.toArray ∧ Vals acc its ∧ H3 s2.heap.objs.size = none ∧ W i n acc H3)
      ?_ m0 ⟨0, [], [], H2, I0, T.keep _ _ _ st2 fun b _ o e => old b o e, fun b hb => (f2 b hb).1, hacc, .nil, freshH _ (Nat.le_refl _), w0⟩
    rintro n s3 ⟨i, acc, its, H3, I3, st3, fr3, ⟨nn, pl3⟩, va3, hD3, w3⟩
    obtain ⟨hlen, cs⟩ := turn i n acc H3 w3
    have hal : acc.length = its.length := va3.length
    have nD : s2.heap.objs.size ∉ frs X.stack := fun z => by
      obtain ⟨o, e⟩ := stkO _ z
      exact ltD _ o e rfl
    have I3p : Inv (jA X scope cl G.objs.size (x :: ys) s2 H2 fp) [(s2.heap.objs.size, { cls := .type "list", data := .seq its.toArray nn })] (none :: kn js σ) H3 s3 := I3.pins_of fun p hp => by
      have e : p = (s2.heap.objs.size, { cls := .type "list", data := .seq its.toArray nn }) := by simpa using hp
      subst e
      exact ⟨pl3, hD3, DC, nD, fun v z => nomatch z⟩
    rcases cs with ⟨stop, q⟩ | ⟨go, step⟩
    · refine thn (T.done (jA X scope cl G.objs.size (x :: ys) s2 H2 fp) rfl rfl rfl hcm i _ s3 _ H3 _ I3p (stat _ fr3) st3 stop) fun r s4 hr => ?_
      obtain ⟨hr, I4⟩ := hr
      subst hr
      have pl4 := (I4.pin (s2.heap.objs.size, { cls := .type "list", data := .seq its.toArray nn }) (by simp)).1
      obtain ⟨m, hn, _⟩ := I4.loc
      have B := I4.base
      have un' : Un (frs X.stack) fp H2 (upd H3 s2.heap.objs.size (.lst acc)) s2.heap s4.heap := by
        refine ⟨fun b o e n hb hx => B.keep b o e n hb hx, fun b o e n hb hx => B.slot b o e n hb hx, fun b o e n hx => ?_, fun b o e hx => B.there b o e hx, fun b xs e => ?_, fun b o u e => ?_, fun b ps e => ?_⟩
        · rw [qi (ltD b o e)]
          exact B.free b o e n hx
        · have z := B.tups b xs e
          rw [qi (ql z hD3)]
          exact z
        · have z := B.frzs b o u e
          rw [qi (ql z hD3)]
          exact z
        · obtain ⟨more, z⟩ := B.tbls b ps e
          exact ⟨more, by rw [qi (ql z hD3)]; exact z⟩
      have freeC4 : H3 G.objs.size = none := I4.free
      have hok' : HOk X.prog X.w (upd H3 s2.heap.objs.size (.lst acc)) s4.heap := fun b u e => by
        by_cases hb : b = s2.heap.objs.size
        · subst hb
          rw [qE] at e
          cases e
          exact ⟨Nat.le_of_lt hlen, its, nn, va3, pl4⟩
        · rw [qi hb] at e
          exact (I4.hok b u e).stay (fun c v hc z => z) (fun c z => by rw [qi (ql z hD3)]; exact z) fun c xs z => by rw [qi (ql z hD3)]; exact z
      have hch : ∀ b ∈ fp, (b ∈ X.ex ∨ X.s₀.heap.objs.size ≤ b) ∧ b ≠ X.env.locals ∧ (∀ y c, X.env.cells.lookup y = some c → c ≠ b) ∧ ∀ p ∈ X.pn ++ pins, p.1 ≠ b := fun b hb => by
        obtain ⟨_, z1, _, z3, z4, z5⟩ := f2 b hb
        exact ⟨z3, z1, z4, z5⟩
      have I5 := I2.call' (s' := s4) (ch := fp) I4.os un' hok' I4.bare hch
      refine fin (.ref s2.heap.objs.size) _ _ s4 G.objs.size I5 rfl (q _ hD3) ⟨m, hn⟩ ?_ ?_ ?_ (fun y c e => ?_) fun p hp => ?_
      · rw [qi (Ne.symm DC)]; exact freeC4
      · rw [szG]; exact Nat.ne_of_gt (Nat.lt_succ_of_lt I2.lt)
      · rw [szG]; exact Nat.le_succ_of_le I2.sz
      · obtain ⟨v, o, ho, _⟩ := I2.cell y c e
        exact ltC c o ho
      · exact ltC p.1 p.2 (I2.pin p hp).1
    · refine thn (T.item (jA X scope cl G.objs.size (x :: ys) s2 H2 fp) rfl rfl rfl hcm i _ s3 _ H3 _ I3p (stat _ fr3) st3 go) fun r s4 hr => ?_
      obtain ⟨u, hr, h4⟩ := hr
      subst hr
      show wpAny (model X.prog X.w) X.A (letOwnedTupleGo (.Name x px) (.ref it) u >>= fun _ => assign (.Name x px) (compEnvC scope cl G.objs.size X.env) u) _ _ s4
      refine wpAny_bind (thn h4 fun _ s5 h5 => ?_)
      obtain ⟨v, H5, I5, r5, y5, st5, fr5⟩ := h5
      have I5' := I5.pinned (stat _ fr5) (T.obj _ _ st5)
      refine wpAny_assign_Name (ki (i := 0) I5' hnd rfl (.inl (lookup_relabel_local hx)) r5 (fun s6 I6 => ?_) (.inr (lookup_relabel_local hx)))
      have I6' : Inv (jA X scope cl G.objs.size (x :: ys) s2 H2 fp).nox _ _ H5 s6 := I6.wish _
      have back : ∀ (H7 : Hp) (s7 : Shared) (σ7 : L2.St) (h' : Heap) (acc' : List V) (its' : List Value) (m' : Nat), Inv (jA X scope cl G.objs.size (x :: ys) s2 H2 fp) ([(s2.heap.objs.size, { cls := .type "list", data := .seq its.toArray nn })] ++ qDv fp s5.heap) (some v :: kn js σ) H7 s7 →
          Heap.SameBut s2.heap.objs.size s7.heap h' → h'.PlainList s2.heap.objs.size its'.toArray → Vals acc' its' → m' < n → W (i + 1) m' acc' H7 →
          ∃ m, m < n ∧ ∃ i acc its H3, Inv (jA X scope cl G.objs.size (x :: ys) s2 H2 fp) [] (none :: kn js σ) H3 { s7 with heap := h' } ∧ tn i h' ∧ (∀ b ∈ fp, H3 b = none) ∧ h'.PlainList s2.heap.objs.size its.toArray ∧ Vals acc its ∧ H3 s2.heap.objs.size = none ∧ W i m acc H3 := by
        intro H7 s7 _ h' acc' its' m' I7 hsb' hp' va' hm' w7
        have pinD := I7.pin (s2.heap.objs.size, { cls := .type "list", data := .seq its.toArray nn }) (by simp)
        have pf : ∀ b ∈ fp, ∀ o, s5.heap.get? b = some o → s7.heap.get? b = some o ∧ H7 b = none := fun b hb o e => by
          have z := I7.pin (b, o) (List.mem_append_right _ (List.mem_append_right _ (kZ hb e)))
          exact ⟨z.1, z.2.1⟩
        have I8 : Inv (jA X scope cl G.objs.size (x :: ys) s2 H2 fp) [] (none :: kn js σ) H7 { s7 with heap := h' } := by
          have I7u : Inv (jA X scope cl G.objs.size (x :: ys) s2 H2 fp) [] (none :: kn js σ) H7 s7 := (I7.pins_of (pins' := []) fun p hp => absurd hp (by simp)).weak (by simp) fun k v e => by
            cases k with
            | zero => cases e
            | succ k => exact e
          refine I7u.turned (t' := s7.toks) (it := s2.heap.objs.size) (fun b o hb e => hsb'.extBut b o hb e) pinD.2.1 DC (.inr (Nat.le_refl _)) (fun y c e => ?_) fun p hp => absurd (show p ∈ ([] : List (Addr × Obj)) from hp) (by simp)
          obtain ⟨v, o, ho, _⟩ := I2.cell y c (clX y c e)
          exact ltD c o ho
        refine ⟨m', hm', i + 1, acc', its', H7, I8, ?_, fun b hb => ?_, hp', va', pinD.2.1, w7⟩
        · refine T.keep _ _ _ st5 fun b hb o e => hsb'.extBut b o ?_ (pf b hb o e).1
          obtain ⟨ob, eb⟩ := fpO b hb
          exact ltD b ob eb
        · obtain ⟨o, e, _⟩ := T.obj _ _ st5 b hb
          exact (pf b hb o e).2
      simp only [List.forIn_cons, List.forIn_nil, if_true]
      refine wpAny_bind (wpAny_bind (wpAny_mono (hc G.objs.size s2 H2 fp _ s6 _ H5 _ I6' (step v H5 y5)) (fun ok s6a h6 => ?_) fun _ _ z => z.elim))
      obtain ⟨H6, I6a, q6⟩ := h6
      refine wpAny_pure (wpAny_pure ?_)
      cases ok with
      | false =>
        rw [if_neg (by decide)] at q6 ⊢
        obtain ⟨m', hm', w7⟩ := q6
        have I7 := I6a.unwish
        have pinD := I7.pin (s2.heap.objs.size, { cls := .type "list", data := .seq its.toArray nn }) (by simp)
        exact back H6 s6a (none :: kn js σ) s6a.heap acc its m' I7 (Heap.SameBut.refl _ _) ⟨nn, pinD.1⟩ va3 hm' w7
      | true =>
        rw [if_pos rfl] at q6 ⊢
        refine wpAny_mono (he G.objs.size s2 H2 fp _ s6a _ H6 _ I6a q6) (fun y s7 h7 => ?_) fun _ _ z => z.elim
        obtain ⟨v7, H7, I7, r7, m', hm', w7⟩ := h7
        have I7 := I7.unwish
        have pinD := I7.pin (s2.heap.objs.size, { cls := .type "list", data := .seq its.toArray nn }) (by simp)
        refine wpAny_list_append_plain (items := its.toArray) ⟨nn, pinD.1⟩ (fun h' hp' hsb' => ?_) (by rw [List.size_toArray, ← hal]; exact Nat.le_of_lt hlen)
        have e8 : its.toArray.push y = (its ++ [y]).toArray := by simp
        rw [e8] at hp'
        exact back H7 s7 (none :: kn js σ) h' (acc ++ [v7]) (its ++ [y]) m' I7 hsb' hp' (va3.append (.cons r7 .nil)) hm' w7
  exact codeAny_compStart_list (loop _ rfl) (T.self _ 0 _ _ _ (T.keep _ _ _ st2 fun b _ o e => old b o e) (loop _ rfl))
theorem qB5 {X : Cx} {elt iter cnd : Expr} {x : Str} {px : Pos} {scope : Scope} {cl : List (Str × Addr)} {pos : Pos} {wi : TI} {tc : TT} {te : TE} (ys : List Str) (js : List Nat)
    (hcm : X.calm = true) (hi : PI X (.Name x px) iter wi) (hc : ∀ C s H fp, PT (jA X scope cl C (x :: ys) s H fp).nox cnd tc) (he : ∀ C s H fp, PE (jA X scope cl C (x :: ys) s H fp).nox elt te)
    (hclos : closureFor scope X.env = pure cl := by rfl)
    (hcl : cl.map (fun p => X.env.cells.lookup p.1) = cl.map (fun p => some p.2) := by rfl)
    (hcell : (scope.names.all fun p => p.2 != .cell) = true := by rfl) (hkind : scope.kind = .function := by rfl)
    (hnames : (scope.names.all fun p => p.2 != .local || scope.names.lookup p.1 == some .local) = true := by rfl)
    (hx : scope.names.lookup x = some .local := by rfl)
    (hhas : ((relabel scope X.env).names.all fun p => (p.2 != .cell && p.2 != .free) || (cl.lookup p.1).isSome) = true := by rfl)
    (hnd : (x :: ys).Nodup := by decide)
    (hjs : js.map (fun j => X.N[j]?) = ys.map some := by rfl)
    (hys : (ys.all fun y => ((relabel scope X.env).names.lookup y == some .cell || (relabel scope X.env).names.lookup y == some .free) && (X.env.scope.names.lookup y == some .cell || X.env.scope.names.lookup y == some .free)) = true := by rfl)
    (hs : ∀ x, foldedSetIterable iter X.env x = pure x := by intro _; rfl) : PE X (.ListComp elt [⟨.Name x px, iter, [cnd], 0⟩] scope pos) (qHx js wi tc te) := by
  intro pins s σ H Q I h
  rw [eval_ListComp]
  refine qBg ys js hcm hi hc he hclos hcl hcell hkind hnames hx hhas hnd hjs hys hs Q none (EP X pins σ Q) I h fun v u H' s' C I' r q hm h0 h1 h2 h3 h4 => ?_
  obtain ⟨m, hm⟩ := hm
  exact ⟨m, hm, fun h' hsb => ⟨v, H', wQ I' hsb h0 h1 h2 h3 h4, r, q⟩⟩
theorem qKr {X : Cx} {elt iter cnd : Expr} {x : Str} {px : Pos} {scope : Scope} {cl : List (Str × Addr)} {pos : Pos} {wi : TI} {tc : TT} {te : TE} (ys : List Str) (js : List Nat)
    {i : Nat} {y : Str} {py spos : Pos} (hN : X.N.Nodup) (hi' : X.N[i]? = some y) (hy : X.env.kindOf y = some .local) (hcm : X.calm = true) (hi : PI X (.Name x px) iter wi) (hc : ∀ C s H fp, PT (jA X scope cl C (x :: ys) s H fp).nox cnd tc) (he : ∀ C s H fp, PE (jA X scope cl C (x :: ys) s H fp).nox elt te)
    (hclos : closureFor scope X.env = pure cl := by rfl)
    (hcl : cl.map (fun p => X.env.cells.lookup p.1) = cl.map (fun p => some p.2) := by rfl)
    (hcell : (scope.names.all fun p => p.2 != .cell) = true := by rfl) (hkind : scope.kind = .function := by rfl)
    (hnames : (scope.names.all fun p => p.2 != .local || scope.names.lookup p.1 == some .local) = true := by rfl)
    (hx : scope.names.lookup x = some .local := by rfl)
    (hhas : ((relabel scope X.env).names.all fun p => (p.2 != .cell && p.2 != .free) || (cl.lookup p.1).isSome) = true := by rfl)
    (hnd : (x :: ys).Nodup := by decide)
    (hjs : js.map (fun j => X.N[j]?) = ys.map some := by rfl)
    (hys : (ys.all fun y => ((relabel scope X.env).names.lookup y == some .cell || (relabel scope X.env).names.lookup y == some .free) && (X.env.scope.names.lookup y == some .cell || X.env.scope.names.lookup y == some .free)) = true := by rfl)
    (hs : ∀ x, foldedSetIterable iter X.env x = pure x := by intro _; rfl) (hsw : swapsWith (.ListComp elt [⟨.Name x px, iter, [cnd], 0⟩] scope pos) (some (.Name y py)) spos.line X.env = pure true := by rfl) : PS X (.Assign [.Name y py] (.ListComp elt [⟨.Name x px, iter, [cnd], 0⟩] scope pos) spos) (qNv (qHx js wi tc te) (qJ9 i)) := by
  intro pins s σ H D I h
  rw [exec_Assign_Name_used _ _ _ _ hsw]
  refine wpAny_bind (wpAny_standAt (wpAny_bind ?_))
  have key := qBg ys js hcm hi hc he hclos hcl hcell hkind hnames hx hhas hnd hjs hys hs (pos := pos) (fun v H' => D.nx (σ.set i (some v)) H') (some (assign (.Name y py) X.env)) (fun _ s' => SP X pins D .next s') I h fun v u H' s' C I' r q hm h0 h1 h2 h3 h4 => ?_
  · exact wpAny_bind (thn key fun _ s' hq => wpAny_pure (wpAny_pure hq))
  · refine wpAny_assign_Name (qAl I' hN hi' (.inl hy) r (fun s2 I2 ch => ?_) (.inr hy))
    obtain ⟨b, sb, hb⟩ := ch
    obtain ⟨m, hm⟩ := hm
    have nb : C ≠ b := by
      rcases hb with rfl | hb
      · exact h1
      · exact Ne.symm (h3 y b hb)
    exact ⟨m, hm.sameBut sb nb, fun h' hsb => ⟨_, H', wQ I2 hsb h0 h1 h2 h3 h4, q⟩⟩
theorem kU {K : PySem.W.Frag} {a : Addr} {xs : List V} {js : List Nat} {tc : TT} {te : TE} {σ : L2.St} {H : Hp} {Q : VK} (Pv : Nat → List V → Hp → Prop) (h0 : Pv 0 [] H) (hl : ∀ i acc H, i ≤ xs.length → Pv i acc H → SqL K H a xs ∧ acc.length < sizeLine)
    (hs : ∀ i x acc H, i < xs.length → xs[i]? = some x → Pv i acc H → tc (some x :: kn js σ) H fun ok H' => if ok = true then te (some x :: kn js σ) H' fun v H'' => Nxt xs.length i (Pv (i + 1) (acc ++ [v]) H'') else Nxt xs.length i (Pv (i + 1) acc H')) (hd : ∀ acc H, Pv xs.length acc H → ∀ D, H D = none → Q (.ref D) (upd H D (.lst acc))) : qCt js tc te σ Q (Itl K a) H := by
  refine ⟨fun i m acc H => m = xs.length - i ∧ i ≤ xs.length ∧ Pv i acc H, ⟨xs.length, by simp, Nat.zero_le _, h0⟩, ?_⟩
  rintro i m acc H2 ⟨rfl, hi, p⟩
  obtain ⟨q, hz⟩ := hl i acc H2 hi p
  refine ⟨hz, ?_⟩
  by_cases hlt : i < xs.length
  · refine .inr ⟨⟨xs, xs[i], q, by simp [hlt]⟩, fun x H3 y => ?_⟩
    obtain ⟨e, y⟩ := y
    subst e
    exact hs i x acc _ hlt (y xs q) p
  · have e : i = xs.length := by omega
    subst e
    exact .inl ⟨⟨xs, q, Nat.le_refl _⟩, hd acc H2 p⟩
end L3
set_option maxHeartbeats 4000000
namespace L3
open PySem PySem.Spec PyProof.Rows L2
theorem qIx (n : Nat) : sliceRange (sliceBounds none none (some (-1)) n).1 (sliceBounds none none (some (-1)) n).2.1 (sliceBounds none none (some (-1)) n).2.2 = (List.range n).map fun k => n - 1 - k := by
  have e1 : (sliceBounds none none (some (-1)) n).1 = (n : Int) - 1 := by simp [sliceBounds]
  have e2 : (sliceBounds none none (some (-1)) n).2.1 = -1 := by simp [sliceBounds]
  have e3 : (sliceBounds none none (some (-1)) n).2.2 = -1 := by simp [sliceBounds]
  rw [e1, e2, e3]
  unfold sliceRange
  have h0 : ¬ ((-1 : Int) > 0) := by decide
  have hc : (if (-1 : Int) > 0 then (if (n : Int) - 1 < -1 then (-1 - ((n : Int) - 1) + -1 - 1) / -1 else 0) else (if (n : Int) - 1 > -1 then ((n : Int) - 1 - -1 - -1 - 1) / (- -1) else 0)).toNat = n := by
    rw [if_neg h0]
    by_cases hn : (n : Int) - 1 > -1
    · rw [if_pos hn]
      have e : (- -1 : Int) = 1 := by decide
      rw [e, Int.ediv_one]
      omega
    · rw [if_neg hn]
      omega
  simp only [] at hc ⊢
  rw [hc]
  refine List.map_congr_left fun k hk => ?_
  have := List.mem_range.mp hk
  omega
theorem qJ6 (its : List Value) : slicePick its.toArray none none (some (-1)) = its.reverse.toArray := by
  unfold slicePick
  rw [qIx]
  congr 1
  rw [List.filterMap_map]
  apply List.ext_getElem?
  intro j
  have key : ∀ n, n ≤ its.length → (List.range n).filterMap ((fun x => its.toArray[x]?) ∘ fun k => its.toArray.size - 1 - k) = its.reverse.take n := by
    intro n
    induction n with
    | zero => intro _; simp
    | succ n ih =>
      intro hn
      rw [List.range_succ, List.filterMap_append, ih (by omega), List.take_add_one]
      have hi : its.length - 1 - n < its.length := by omega
      have e : its.reverse[n]? = some its[its.length - 1 - n] := by
        rw [List.getElem?_reverse (by omega), List.getElem?_eq_getElem hi]
      rw [e]
      simp [hi]
  rw [List.size_toArray] at key ⊢
  rw [key its.length (Nat.le_refl _), List.take_of_length_le (by simp)]
theorem Vals.rev {xs : List V} {us : List Value} (r : Vals xs us) : Vals xs.reverse us.reverse := by
  induction r with
  | nil => exact .nil
  | cons h t ih =>
    rw [List.reverse_cons, List.reverse_cons]
    exact ih.append (.cons h .nil)
def qPd (K : PySem.W.Frag) (te : TE) : TE := fun σ H Q => te σ H fun x H1 => ∃ a xs, x = .ref a ∧ SqL K H1 a xs ∧ ∀ p, H1 p = none → Q (.ref p) (upd H1 p (.lst xs.reverse))
theorem qNa {X : Cx} {e : Expr} {te : TE} {j : Nat} {pc pu p2 pos : Pos} (he : PE X e te) : PE X (.Subscript e (.Slice none none (some (.UnaryOp .USub (.Constant (.int 1) j pc) pu)) p2) pos) (qPd X.K te) := by
  intro pins s σ H Q I h
  refine Subscript_ (thn (he pins s σ H _ I h) fun v s1 ⟨x, H1, I1, r1, q1⟩ => ?_)
  obtain ⟨a, xs, rfl, hx, q⟩ := q1
  cases r1
  refine wpAny_Slice ?_
  rw [evalPart_none]
  refine wpAny_pure (wpAny_pure ?_)
  have po := (xn (X := X) (zM (X := X) (pos := pu) jn (qB (X := X) (i := 1) (j := j) (pos := pc)))) pins s1 σ H1 (fun i H2 => i = some (-1) ∧ H2 = H1) I1 ⟨1, rfl, -1, rfl, rfl, rfl⟩
  refine thn po fun vs s3 h3 => ?_
  obtain ⟨st, H3, I3, ps, rfl, rfl⟩ := h3
  have I4 : Inv X pins σ H3 { s3 with heap := s3.heap.push { cls := .type "slice", data := .fields #[.none, .none, vs] } } := I3.kept (t' := s3.toks) fun b ob q => Heap.get?_push_of_some _ q
  obtain ⟨its, r, ht, hz⟩ := I4.list hx
  have hlen := r.length
  show wpAny (model X.prog X.w) X.A (subscriptTail e (.Slice none none (some (.UnaryOp .USub (.Constant (.int 1) j pc) pu)) p2) (.ref a) (.ref s3.heap.objs.size)) (EP X pins σ Q) X.xe { s3 with heap := s3.heap.push { cls := .type "slice", data := .fields #[.none, .none, vs] } }
  refine tail_any (ops := [.ref a, .ref s3.heap.objs.size]) ht.isList.typeIs slot_list_getitem.lookup ?_ (by with_unfolding_all rfl)
  refine wpAny_getItem_list_slice ht.isList (Heap.IsSliceOf.new ..) .none .none ps (by simp) ?_ (by rw [List.size_toArray] <;> omega)
  rw [qJ6]
  refine ⟨.ref _, _, I4.laid (t' := s3.toks) (o := .lst xs.reverse) (fun b ob q => Heap.get?_push_of_some _ q) (Nat.le_refl _) ?_, rfl, q _ (I4.hok.fresh (Nat.le_refl _))⟩
  exact ⟨by rw [List.length_reverse]; exact hz, _, 0, L3.Vals.rev r, Heap.get?_push_size _ rfl⟩
end L3
set_option maxHeartbeats 4000000
namespace L3
open PySem PySem.Spec PyProof.Rows L2
theorem qMe {X : Cx} {pins : List (Addr × Obj)} {σ : L2.St} {H : Hp} {s : Shared} {h' : Heap} {t' : Nat} {ch : List Addr} (I : Inv X pins σ H s) (hf : ∀ b ∈ ch, qJk X pins H b)
    (k : ∀ b o, b ∉ ch → s.heap.get? b = some o → h'.get? b = some o) : Inv X pins σ H { s with heap := h', toks := t' } := by
  have nit : ∀ b u, H b = some u → b ∉ ch := fun b u e z => by rw [(hf b z).1] at e; cases e
  refine I.step (g' := s.gens) (d' := s.drawn) (ch := ch) (fun b hb => ?_) (fun b o _ _ hc e _ => k b o hc e) (fun b o _ _ hc e _ => ⟨o.slots, k b o hc e⟩) (fun _ _ _ _ n => n)
    (fun b o hc e => ⟨o, k b o hc e⟩) (fun _ _ e => e) (fun _ _ _ e => e) (fun b ps e => ⟨#[], by rw [e]; simp⟩) (fun m hm => ?_) (fun b u e => ?_) I.bare
  · obtain ⟨_, f1, _, f3, f4, f5⟩ := hf b hb
    exact ⟨f3, f1, f4, f5⟩
  · obtain ⟨o, es, ep, ho, r⟩ := hm
    exact ⟨o, es, ep, k _ o (fun z => (hf _ z).2.1 rfl) ho, r⟩
  · refine (I.hok b u e).stay (fun c v hc q => k c v ?_ q) (fun _ q => q) fun _ _ q => q
    rcases hc with z | z
    · rw [z]; exact nit b u e
    · exact nit c _ z
theorem qMp {X : Cx} {pins : List (Addr × Obj)} {σ : L2.St} {H : Hp} {s : Shared} {h' : Heap} {t' : Nat} {ch : List Addr} {xs : List V} {us : Array Value} (I : Inv X pins σ H s) (hf : ∀ b ∈ ch, qJk X pins H b) (hlt : ∀ b ∈ ch, b < s.heap.objs.size)
    (k : ∀ b o, b ∉ ch → s.heap.get? b = some o → h'.get? b = some o) (hT : h'.get? s.heap.objs.size = some { cls := .type "tuple", data := .seq us }) (r : Vals xs us.toList) (hz : xs.length ≤ sizeLine) :
    Inv X pins σ (upd H s.heap.objs.size (.tup xs)) { s with heap := h', toks := t' } ∧ ∀ b ∈ ch, upd H s.heap.objs.size (.tup xs) b = none := by
  have hn : ∀ b ∈ ch, upd H s.heap.objs.size (.tup xs) b = none := fun b hb => by
    rw [qi (Nat.ne_of_lt (hlt b hb))]; exact (hf b hb).1
  have I1 : Inv X pins σ (upd H s.heap.objs.size (.tup xs)) { s with heap := s.heap.push { cls := .type "tuple", data := .seq us }, toks := t' } :=
    I.laid (t' := t') (fun b o e => Heap.get?_push_of_some _ e) (Nat.le_refl _) ⟨hz, us.toList, r, ⟨_, Heap.get?_push_size _ rfl, rfl, _, rfl⟩⟩
  have I2 := qMe (h' := h') (t' := t') (ch := ch) I1 (fun b hb => ⟨hn b hb, (hf b hb).2⟩) (fun b o hb e => ?_)
  · exact ⟨I2, hn⟩
  rcases Heap.get?_push_cases e with ⟨e1, e2⟩ | e1
  · rw [e1, e2]; exact hT
  · exact k b o hb e1
def Ite (K : PySem.W.Frag) (a : Addr) : It :=
  ⟨fun i H => ∃ xs x, SqL K H a xs ∧ xs[i]? = some x, fun i H x H' => ∃ p v, H p = none ∧ x = .ref p ∧ (∀ xs, SqL K H a xs → xs[i]? = some v) ∧ H' = upd H p (.tup [.int i, v]), fun i H => ∃ xs, SqL K H a xs ∧ xs.length ≤ i⟩
theorem qH5 {P : Program} {w : World} {K : PySem.W.Frag} {elts : List Expr} {k1 : Nat} {pos : Pos} (a e it : Addr) (hne : e ≠ it) :
    qMk P w K (.Tuple elts k1 pos) (Ite K a) [e, it] e (fun i h => (∃ old, IsEnum h e it (i : Nat) old) ∧ h.IsListIter it a i) where
  mem := by simp
  obj := fun i h st b hb => by
    obtain ⟨⟨old, he⟩, o, ho, c, d⟩ := st
    rcases List.mem_cons.mp hb with rfl | hb
    · exact ⟨_, he, fun v z => by cases z⟩
    · have e : b = it := by simpa using hb
      subst e
      exact ⟨o, ho, fun v z => by rw [d] at z; cases z⟩
  keep := fun i h h' st k => by
    obtain ⟨⟨old, he⟩, hi⟩ := st
    exact ⟨⟨old, k e (by simp) _ he⟩, hi.at fun o q => k it (by simp) o q⟩
  item := by
    intro X hP hw hK hc i pins s σ H E I hf st hg
    subst hP hw hK
    obtain ⟨⟨old, he⟩, hit⟩ := st
    obtain ⟨xs, x, hq, hx⟩ := hg
    obtain ⟨its, rv, p, hz⟩ := I.list hq
    obtain ⟨u, hu, ru⟩ := rv.get hx
    refine wpAny_pyNext_enum_item he hit p.isList (x := u) (by simpa using hu) hne fun h' heo hit' hT hsz hk => ?_
    refine ⟨_, rfl, wpAny_letOwnedTupleGo_enum heo fun h'' he'' hs'' => ?_⟩
    have hel : e < s.heap.objs.size := Heap.lt_size he
    have hil : it < s.heap.objs.size := by obtain ⟨_, q, _⟩ := hit; exact Heap.lt_size q
    have T := qMp (h' := h'') (t' := s.toks + 1) (ch := [e, it]) (xs := [.int i, x]) (us := #[.int i s.toks, u]) I hf (fun b hb => by
        rcases List.mem_cons.mp hb with rfl | hb
        · exact hel
        · have z : b = it := by simpa using hb
          subst z; exact hil)
      (fun b o hb q => (hs''.2 b (fun z => hb (by simp [z]))).trans (hk b o (fun z => hb (by simp [z])) (fun z => hb (by simp [z])) q))
      ((hs''.2 _ (Nat.ne_of_gt hel)).trans hT) (.cons ⟨_, rfl⟩ (.cons ru .nil)) (by show 2 ≤ sizeLine; decide)
    refine ⟨.ref s.heap.objs.size, _, T.1, rfl, ⟨_, x, I.hok.fresh (Nat.le_refl _), rfl, fun ys hy => by rw [I.list_inj hy hq]; exact hx, rfl⟩, ⟨⟨u, by simpa using he''⟩, hit'.at fun o q => (hs''.2 it hne.symm).trans q⟩, T.2⟩
  done := by
    intro X hP hw hK hc i pins s σ H E I hf st hg
    subst hP hw hK
    obtain ⟨⟨old, he⟩, hit⟩ := st
    obtain ⟨xs, hq, hx⟩ := hg
    obtain ⟨its, rv, p, hz⟩ := I.list hq
    obtain ⟨f0, f1, f2, f3, f4, f5⟩ := hf it (by simp)
    have hl := rv.length
    exact wpAny_pyNext_enum_end (I.ok.hd hc) he hit p.isList (by simp; omega) fun h' eb => ⟨rfl, I.turned (t' := s.toks) (fun b o hb e => eb b o hb e) f0 f1 f3 f4 f5⟩
  self := fun _ _ _ _ _ st h => by
    obtain ⟨⟨old, he⟩, _⟩ := st
    exact wpAny_pyIter_enum he h
def qOj (K : PySem.W.Frag) (t : TA) : TI := fun σ H R => t σ H fun vs H1 => ∃ a, vs = [.ref a] ∧ (∃ xs, SqL K H1 a xs) ∧ R (Ite K a) H1
theorem qLm {X : Cx} {l : Expr} {tl : TA} {elts : List Expr} {k1 : Nat} {tpos p pos : Pos} (hg : Gl X "enumerate") (hm : X.mg "enumerate" = none) (hl : PA X [l] tl) (hs : starEach [l] X.env = [(false, eval l X.env)] := by rfl) :
    PI X (.Tuple elts k1 tpos) (.Call (.Name "enumerate" p) [l] [] pos) (qOj X.K tl) := by
  intro pins s σ H R I h
  refine Call_ (qEl I hg hm boot_enumerate (PyProof.Rows.callWith_type1 (thn (hl pos pins s σ H _ I h) fun us s1 ⟨vs, H1, I1, r1, q1⟩ => ?_) hs rfl))
  obtain ⟨a, e, ⟨xs, hq⟩, q⟩ := q1
  subst e
  cases r1 with
  | cons r rr =>
    cases rr
    cases r
    obtain ⟨its, rv, pl, hz⟩ := I1.list hq
    refine call_enumerate_list pl.isList fun h' he hit hsz hk => ?_
    refine wpAny_pyIter_enum he ?_
    refine ⟨s1.heap.objs.size + 1, [s1.heap.objs.size + 1, s1.heap.objs.size], _, _, H1, rfl, I1.kept (t' := s1.toks) fun b o e => hk b o e, qH5 a _ _ (Nat.succ_ne_self _), ⟨⟨_, he⟩, hit⟩, fun b hb => ?_, q⟩
    rcases List.mem_cons.mp hb with rfl | hb
    · exact I1.fpOk (Nat.le_succ _) (I1.hok.fresh (Nat.le_succ _))
    · have e : b = s1.heap.objs.size := by simpa using hb
      subst e
      exact I1.fpOk (Nat.le_refl _) (I1.hok.fresh (Nat.le_refl _))
theorem qKi {K : PySem.W.Frag} {a : Addr} {xs : List V} {g : TG} {tb : TS} {D : qJo} {σ : L2.St} {H : Hp} (Pv : Nat → L2.St → Hp → Prop) (h0 : Pv 0 σ H) (hl : ∀ i σ H, i ≤ xs.length → Pv i σ H → SqL K H a xs)
    (hs : ∀ i x σ H p, xs[i]? = some x → Pv i σ H → H p = none → g (.ref p) σ (upd H p (.tup [.int i, x])) fun σ2 H2 => tb { D with nx := Pv (i + 1), ct := Pv (i + 1), bk := D.nx } σ2 H2) (hd : ∀ σ H, Pv xs.length σ H → D.nx σ H) :
    ∃ W : Nat → Nat → L2.St → Hp → Prop, (∃ m, W 0 m σ H) ∧ ∀ i m σ H, W i m σ H →
      ((Ite K a).stop i H ∧ D.nx σ H) ∨ ((Ite K a).go i H ∧ ∃ N : L2.St → Hp → Prop, (∀ σ' H', N σ' H' → ∃ m', m' < m ∧ W (i + 1) m' σ' H') ∧ ∀ x H', (Ite K a).yld i H x H' → g x σ H' fun σ2 H2 => tb { D with nx := N, ct := N, bk := D.nx } σ2 H2) := by
  refine ⟨fun i m σ H => m = xs.length - i ∧ i ≤ xs.length ∧ Pv i σ H, ⟨xs.length, by simp, Nat.zero_le _, h0⟩, ?_⟩
  rintro i m σ H ⟨rfl, hi, p⟩
  have q := hl i σ H hi p
  by_cases hlt : i < xs.length
  · refine .inr ⟨⟨xs, xs[i], q, by simp [hlt]⟩, Pv (i + 1), fun σ' H' p' => ⟨xs.length - (i + 1), by omega, rfl, hlt, p'⟩, fun x H' y => ?_⟩
    obtain ⟨z, v, hz, rfl, y, rfl⟩ := y
    exact hs i v σ _ z (y xs q) p hz
  · have e : i = xs.length := by omega
    subst e
    exact .inl ⟨⟨xs, q, Nat.le_refl _⟩, hd σ H p⟩
theorem qHq : ∀ {ns : List Int} {us : List Value}, Vals (ns.map V.int) us → ∃ xs : List (Int × Tok), us.toArray = intItems xs.toArray ∧ xs.map (·.1) = ns
  | [], us, r => by cases r; exact ⟨[], by simp [intItems], rfl⟩
  | n :: ns, us, r => by
    rw [List.map_cons] at r
    cases r with
    | cons h t =>
      obtain ⟨xs, e1, e2⟩ := qHq t
      obtain ⟨tk, rfl⟩ := h
      refine ⟨(n, tk) :: xs, ?_, by rw [List.map_cons, e2]⟩
      have e3 := congrArg Array.toList e1
      simp only [intItems, List.map_toArray] at e3 ⊢
      rw [e3]
      rfl
theorem qDm {X : Cx} (hc : X.calm = true) : CallR X (.builtin "sum") (fun xs H Q => ∃ (p : Addr) (ns : List Int), xs = [.ref p] ∧ SqL X.K H p (ns.map V.int) ∧ Q (.int ns.sum) H) := by
  intro pins s σ H xs us Q I r h
  obtain ⟨p, ns, rfl, hq, q⟩ := h
  obtain ⟨u, rfl, rx⟩ := qFq r
  cases rx
  obtain ⟨its, rv, pl, hz⟩ := I.list hq
  obtain ⟨ys, e1, e2⟩ := qHq rv
  have pl' := pl.isList
  rw [e1] at pl'
  refine sum_intListG (I.ok.hd hc) pl' fun h' tk t' hk => ?_
  rw [preSum_eq, List.take_of_length_le (by simp)]
  have e3 : ys.toArray.toList.map (·.1) = ns := by simpa using e2
  rw [e3]
  exact ⟨.int ns.sum, H, I.kept fun b o e => hk b o e, ⟨_, rfl⟩, q⟩
end L3
set_option maxHeartbeats 4000000
namespace L3
open PySem PySem.Spec PyProof.Rows L2
end L3
set_option maxHeartbeats 4000000
namespace L3
open PySem PySem.Spec PyProof.Rows L2
theorem KV.get {κ : Type} {kvs : List (κ × V)} {vs : List (κ × Value)} (r : KV kvs vs) {i : Nat} {k : κ} {v : V} (h : kvs[i]? = some (k, v)) : ∃ u, vs[i]? = some (k, u) ∧ RelV v u := by
  induction r generalizing i with
  | nil => simp at h
  | @cons p q ps qs hpq _ ih =>
    cases i with
    | zero =>
      have e : p = (k, v) := by simpa using h
      subst e
      obtain ⟨k', u⟩ := q
      have e : k = k' := hpq.1
      subst e
      exact ⟨u, rfl, hpq.2⟩
    | succ i => exact ih (by simpa using h)
section
variable {P : Program} {w : World} {K : PySem.W.Frag}
end
end L3
set_option maxHeartbeats 4000000
namespace L3
open PySem PySem.Spec PyProof.Rows L2
def EqIn (P : Program) (w : World) (A : Around) (s : Shared) (y x : Value) : Prop := ∀ (E : Value → Shared → Prop) (Q : Bool → Shared → Prop), Q true s → wpAny (model P w) A (eqBool y x) Q E s
theorem EqIn.rc {P : Program} {w : World} {A : Around} {s : Shared} {l b : Addr} (h : ∀ (E : Value → Shared → Prop) (Q : Value → Shared → Prop), Q (.bool true) s → wpAny (model P w) A (richCompare .Eq (.ref l) (.ref b)) Q E s) : EqIn P w A s (.ref l) (.ref b) := by
  by_cases e : l = b
  · subst e
    exact fun E Q hq => SeqAt.EqAt.same _ P w E Q hq
  · intro E Q hq
    unfold eqBool
    refine wpAny_holding (wpAny_ite_split (fun z => ?_) (fun _ => ?_))
    · have := eq_of_beq z
      injection this with this
      exact absurd this e
    · exact wpAny_bind (h E _ (wpAny_truthy_bool hq))
def DEq (K : PySem.W.Frag) (H : Hp) (a b : Addr) : Prop := ∃ ka kb : List (Key × V), Rd H a (.dK ka) ∧ Rd H b (.dK kb) ∧ ka.length = kb.length ∧ ∀ p ∈ ka, ∃ v d, qE3 kb p.1 = some v ∧ Rep K H d p.2 ∧ Rep K H d v ∧ eqD d d = true ∧ dep d ≤ 50
section
variable {X : Cx} {pins : List (Addr × Obj)} {σ : L2.St} {H : Hp} {s : Shared}
theorem qLn (I : Inv X pins σ H s) {A : Around} (hu : A.units + 50 < cLine) {kb : List (Key × V)} {vb : List (Key × Value)} (rb : KV kb vb) : ∀ {ka : List (Key × V)} {va : List (Key × Value)}, KV ka va →
    (∀ p ∈ ka, ∃ v d, qE3 kb p.1 = some v ∧ Rep X.K H d p.2 ∧ Rep X.K H d v ∧ eqD d d = true ∧ dep d ≤ 50) → PySem.W.KeqHits A s vb va true := by
  intro ka va r
  unfold KV at r
  induction r with
  | nil => exact fun _ => .nil
  | @cons p q ps qs h t ih =>
    intro hp
    obtain ⟨h1, h2⟩ := h
    obtain ⟨v, d, e, r1, r2, g, hd⟩ := hp p (by simp)
    have rv := rb.val p.1
    rw [e] at rv
    cases w : valueAt vb p.1 with
    | none => rw [w] at rv; exact (show False from rv).elim
    | some y =>
      rw [w] at rv
      have rv : RelV v y := rv
      have ea := qK4 I 50 A d d p.2 v q.2 y hd hu r1 r2 h2 rv
      rw [g] at ea
      have hq : q = (p.1, q.2) := by rw [h1]
      have k := PySem.W.KeqHits.hit (A := A) (s := s) (kb := vb) (k := p.1) (v := q.2) (e := true) w ea (ih fun x hx => hp x (by simp [hx]))
      rw [hq]
      exact k
theorem DEq.at (I : Inv X pins σ H s) {A : Around} (hu : A.units + 51 < cLine) {a b : Addr} (h : DEq X.K H a b) : EqIn X.prog X.w A s (.ref a) (.ref b) := by
  obtain ⟨ka, kb, ra, rb, hl, hh⟩ := h
  obtain ⟨_, na, va, qa, da⟩ := qG4 I.hok ra
  obtain ⟨_, nb, vb, qb, db⟩ := qG4 I.hok rb
  refine EqIn.rc fun E Q hq => ?_
  refine PySem.W.keq_eq (r := true) na nb da db (by omega) (fun _ => qLn I (by show A.units + 1 + 50 < cLine; omega) qb qa hh) ?_
  have e : (va.length == vb.length) = true := by rw [← qa.length, ← qb.length, hl]; simp
  rw [e]
  exact hq
end
theorem qBr {X : Cx} {K : PySem.W.Frag} (h : X.K = K) : CallR X (.type "list") (fun xs H Q => ∃ p ys, xs = [.ref p] ∧ (SqL K H p ys ∨ SqT K H p ys) ∧ ∀ l, H l = none → Q (.ref l) (upd H l (.lst ys))) := h ▸ zV
end L3
set_option maxHeartbeats 4000000
set_option maxRecDepth 100000
namespace L3
open PySem PySem.Spec PyProof.Rows L2
theorem qKq {K : PySem.W.Frag} {a : Addr} {xs : List V} {js : List Nat} {te : TE} {σ : L2.St} {H : Hp} {Q : VK} (Pv : Nat → List V → Hp → Prop) (h0 : Pv 0 [] H) (hl : ∀ i acc H, i ≤ xs.length → Pv i acc H → SqT K H a xs ∧ acc.length < sizeLine)
    (hs : ∀ i x acc H, i < xs.length → xs[i]? = some x → Pv i acc H → te (some x :: kn js σ) H fun v H' => Nxt xs.length i (Pv (i + 1) (acc ++ [v]) H')) (hd : ∀ acc H, Pv xs.length acc H → ∀ D, H D = none → Q (.ref D) (upd H D (.lst acc))) : wU js te σ Q (Itt K a) H := by
  refine ⟨fun i m acc H => m = xs.length - i ∧ i ≤ xs.length ∧ Pv i acc H, ⟨xs.length, by simp, Nat.zero_le _, h0⟩, ?_⟩
  rintro i m acc H2 ⟨rfl, hi, p⟩
  obtain ⟨q, hz⟩ := hl i acc H2 hi p
  refine ⟨hz, ?_⟩
  by_cases hlt : i < xs.length
  · refine .inr ⟨⟨xs, xs[i], q, by simp [hlt]⟩, fun x H3 y => ?_⟩
    obtain ⟨e, y⟩ := y
    subst e
    exact hs i x acc _ hlt (y xs q) p
  · have e : i = xs.length := by omega
    subst e
    exact .inl ⟨⟨xs, q, Nat.le_refl _⟩, hd acc H2 p⟩
theorem KV.keys {kvs : List (Key × V)} {vs : List (Key × Value)} (r : KV kvs vs) : vs.map (·.1) = kvs.map (·.1) := by
  induction r with
  | nil => rfl
  | cons h _ ih => rw [List.map_cons, List.map_cons, ih, h.1]
theorem qH4 {K : PySem.W.Frag} {a : Addr} {xs : List V} {js : List Nat} {tc : TT} {te : TE} {σ : L2.St} {H : Hp} {Q : VK} (Pv : Nat → List V → Hp → Prop) (h0 : Pv 0 [] H) (hl : ∀ i acc H, i ≤ xs.length → Pv i acc H → SqT K H a xs ∧ acc.length < sizeLine)
    (hs : ∀ i x acc H, i < xs.length → xs[i]? = some x → Pv i acc H → tc (some x :: kn js σ) H fun ok H' => if ok = true then te (some x :: kn js σ) H' fun v H'' => Nxt xs.length i (Pv (i + 1) (acc ++ [v]) H'') else Nxt xs.length i (Pv (i + 1) acc H')) (hd : ∀ acc H, Pv xs.length acc H → ∀ D, H D = none → Q (.ref D) (upd H D (.lst acc))) : qCt js tc te σ Q (Itt K a) H := by
  refine ⟨fun i m acc H => m = xs.length - i ∧ i ≤ xs.length ∧ Pv i acc H, ⟨xs.length, by simp, Nat.zero_le _, h0⟩, ?_⟩
  rintro i m acc H2 ⟨rfl, hi, p⟩
  obtain ⟨q, hz⟩ := hl i acc H2 hi p
  refine ⟨hz, ?_⟩
  by_cases hlt : i < xs.length
  · refine .inr ⟨⟨xs, xs[i], q, by simp [hlt]⟩, fun x H3 y => ?_⟩
    obtain ⟨e, y⟩ := y
    subst e
    exact hs i x acc _ hlt (y xs q) p
  · have e : i = xs.length := by omega
    subst e
    exact .inl ⟨⟨xs, q, Nat.le_refl _⟩, hd acc H2 p⟩
end L3
set_option maxHeartbeats 4000000
namespace L3
open PySem PySem.Spec PyProof.Rows L2
end L3
set_option maxHeartbeats 4000000
namespace L3
open PySem PySem.Spec PyProof.Rows L2
end L3
set_option maxHeartbeats 4000000
set_option maxRecDepth 100000
namespace Lw
open PySem L2 L3 Mt
seal L2.PSs L2.PS L2.PE L2.PA L2.PT L2.PW L2.PC L2.PI L2.PG L2.PGs L2.PO
def top (i : Nat) : Stmt := PySem.Challenge.pw_reelcut_k52_the_told_way_back.main.body.getD i (.Pass ⟨0, 0, 0, 0⟩)
abbrev x9 : Stmt := top 8
abbrev jH : Stmt := top 9
abbrev jy : Stmt := top 10
abbrev zI : Stmt := top 11
abbrev kh : Stmt := top 12
abbrev zk : Stmt := top 13
abbrev zG : Stmt := top 14
abbrev zK : Stmt := top 15
abbrev xk : Stmt := top 16
abbrev zH : Stmt := top 17
abbrev zm : Stmt := top 23
abbrev jQ : Stmt := top 24
abbrev zE : Stmt := top 25
abbrev xD : Stmt := top 26
abbrev zB : Stmt := top 27
abbrev xL : Stmt := top 28
abbrev xc : Stmt := top 29
abbrev zy : Stmt := top 30
abbrev jS : Stmt := top 31
abbrev xg : Stmt := top 32
abbrev xl : Stmt := top 33
abbrev xj : Stmt := top 35
abbrev jU : Stmt := top 36
abbrev xH : Stmt := top 37
abbrev zF : Stmt := top 38
abbrev xm : Stmt := top 39
abbrev zq : Stmt := top 40
abbrev zl : Stmt := top 41
abbrev jz : Stmt := top 42
abbrev jc : Stmt := top 43
abbrev jT : Stmt := top 44
abbrev qz : Stmt := top 45
abbrev jt : Stmt := top 46
abbrev xX : Stmt := top 47
abbrev jV : Stmt := top 48
abbrev xt : Stmt := top 50
abbrev xP : Stmt := top 51
abbrev xT : Stmt := top 52
abbrev jG : Stmt := top 53
abbrev jj : Stmt := top 54
abbrev zA : Stmt := top 55
abbrev jr : Stmt := top 58
abbrev zJ : Stmt := top 59
abbrev xB : Stmt := top 60
abbrev jI : Stmt := top 61
abbrev jf : Stmt := top 62
abbrev zn : Stmt := top 63
abbrev j0 : Stmt := top 64
abbrev xW : Stmt := top 65
abbrev xf : Stmt := top 66
abbrev z6 : Stmt := top 67
abbrev qt : Stmt := top 68
abbrev xK : Stmt := top 69
abbrev kf : Stmt := top 70
abbrev xG : Stmt := top 76
abbrev zw : Stmt := top 77
abbrev jg : Stmt := top 78
abbrev jE : Stmt := top 79
abbrev jO : Stmt := top 80
abbrev jw : Stmt := top 81
abbrev jp : Stmt := top 82
abbrev ji : Stmt := top 83
abbrev j2 : Stmt := top 84
abbrev zD : Stmt := top 85
abbrev kX : Stmt := top 86
abbrev vZ : Stmt := top 87
abbrev zx : Stmt := top 88
abbrev kY : Stmt := top 89
abbrev zz : Stmt := top 90
abbrev xh : Stmt := top 91
abbrev vf : Stmt := top 93
abbrev xE : Stmt := top 94
abbrev jx : Stmt := top 95
abbrev jd : Stmt := top 96
abbrev qy : Stmt := top 97
abbrev zo : Stmt := top 98
abbrev je : Stmt := top 100
abbrev ju : Stmt := top 101
abbrev xA : Stmt := top 102
abbrev xF : Stmt := top 103
abbrev xU : Stmt := top 104
abbrev xC : Stmt := top 105
abbrev jb : Stmt := top 106
abbrev jv : Stmt := top 107
abbrev zC : Stmt := top 108
abbrev xV : Stmt := top 109
abbrev xJ : Stmt := top 110
abbrev qCg : Stmt := top 111
theorem qEs : qR ["x"] ["x"] (qG x9) := ⟨rfl, rfl, rfl, by decide +kernel, rfl, by decide +kernel, by decide +kernel⟩
theorem sc_common_divisor : qR ["one", "other", "rest"] ["one", "other"] (qG jH) := ⟨rfl, rfl, rfl, by decide +kernel, rfl, by decide +kernel, by decide +kernel⟩
theorem qA9 : qR ["x"] ["x"] (qG jy) := ⟨rfl, rfl, rfl, by decide +kernel, rfl, by decide +kernel, by decide +kernel⟩
theorem sc_fraction : qR ["top", "bottom", "divisor"] ["top", "bottom"] (qG zI) := ⟨rfl, rfl, rfl, by decide +kernel, rfl, by decide +kernel, by decide +kernel⟩
theorem qJh : qR ["one", "other"] ["one", "other"] (qG kh) := ⟨rfl, rfl, rfl, by decide +kernel, rfl, by decide +kernel, by decide +kernel⟩
theorem qHh : qR ["one", "other"] ["one", "other"] (qG zk) := ⟨rfl, rfl, rfl, by decide +kernel, rfl, by decide +kernel, by decide +kernel⟩
theorem qFc : qR ["one", "other"] ["one", "other"] (qG zG) := ⟨rfl, rfl, rfl, by decide +kernel, rfl, by decide +kernel, by decide +kernel⟩
theorem qFg : qR ["one", "other"] ["one", "other"] (qG zK) := ⟨rfl, rfl, rfl, by decide +kernel, rfl, by decide +kernel, by decide +kernel⟩
theorem qEk : qR ["one", "other"] ["one", "other"] (qG xk) := ⟨rfl, rfl, rfl, by decide +kernel, rfl, by decide +kernel, by decide +kernel⟩
theorem qFv : qR ["one"] ["one"] (qG zH) := ⟨rfl, rfl, rfl, by decide +kernel, rfl, by decide +kernel, by decide +kernel⟩
theorem qG9 : qR ["thing"] ["thing"] (qG zm) := ⟨rfl, rfl, rfl, by decide +kernel, rfl, by decide +kernel, by decide +kernel⟩
theorem wH : qR ["item"] ["item"] (qG jQ) := ⟨rfl, rfl, rfl, by decide +kernel, rfl, by decide +kernel, by decide +kernel⟩
theorem qE1 : qR ["clip", "k"] ["clip", "k"] (qG zE) := ⟨rfl, rfl, rfl, by decide +kernel, rfl, by decide +kernel, by decide +kernel⟩
theorem qB0 : qR ["clip", "k"] ["clip", "k"] (qG xD) := ⟨rfl, rfl, rfl, by decide +kernel, rfl, by decide +kernel, by decide +kernel⟩
theorem qEz : qR ["picture", "many"] ["picture", "many"] (qG zB) := ⟨rfl, rfl, rfl, by decide +kernel, rfl, by decide +kernel, by decide +kernel⟩
theorem sc_check_clip : qR ["item", "reels", "many"] ["item", "reels"] (qG xL) := ⟨rfl, rfl, rfl, by decide +kernel, rfl, by decide +kernel, by decide +kernel⟩
theorem qD2 : qR ["clip", "low", "high"] ["clip", "low", "high"] (qG xc) := ⟨rfl, rfl, rfl, by decide +kernel, rfl, by decide +kernel, by decide +kernel⟩
theorem qGl : qR ["one", "other"] ["one", "other"] (qG zy) := ⟨rfl, rfl, rfl, by decide +kernel, rfl, by decide +kernel, by decide +kernel⟩
theorem sc_moments_there : qR ["first", "step", "many", "room"] ["first", "step", "many"] (qG jS) := ⟨rfl, rfl, rfl, by decide +kernel, rfl, by decide +kernel, by decide +kernel⟩
theorem qDh : qR ["clip", "reels"] ["clip", "reels"] (qG xg) := ⟨rfl, rfl, rfl, by decide +kernel, rfl, by decide +kernel, by decide +kernel⟩
theorem qD4 : qR ["clip", "reels"] ["clip", "reels"] (qG xl) := ⟨rfl, rfl, rfl, by decide +kernel, rfl, by decide +kernel, by decide +kernel⟩
theorem qDc : qR ["thing"] ["thing"] (qG xj) := ⟨rfl, rfl, rfl, by decide +kernel, rfl, by decide +kernel, by decide +kernel⟩
theorem wC : qR ["item"] ["item"] (qG jU) := ⟨rfl, rfl, rfl, by decide +kernel, rfl, by decide +kernel, by decide +kernel⟩
theorem qBo : qR ["item"] ["item"] (qG xH) := ⟨rfl, rfl, rfl, by decide +kernel, rfl, by decide +kernel, by decide +kernel⟩
theorem sc_one_form : qR ["some", "track", "waiting", "item"] ["some"] (qG zF) := ⟨rfl, rfl, rfl, by decide +kernel, rfl, by decide +kernel, by decide +kernel⟩
theorem qDx : qR ["track"] ["track"] (qG xm) := ⟨rfl, rfl, rfl, by decide +kernel, rfl, by decide +kernel, by decide +kernel⟩
theorem sc_item_at : qR ["track", "moment", "begin", "place", "item", "end"] ["track", "moment"] (qG zq) := ⟨rfl, rfl, rfl, by decide +kernel, rfl, by decide +kernel, by decide +kernel⟩
theorem qG5 : qR ["track", "place"] ["track", "place"] (qG zl) := ⟨rfl, rfl, rfl, by decide +kernel, rfl, by decide +kernel, by decide +kernel⟩
theorem qBa : qR ["track", "place"] ["track", "place"] (qG jz) := ⟨rfl, rfl, rfl, by decide +kernel, rfl, by decide +kernel, by decide +kernel⟩
theorem wx : qR ["track", "place"] ["track", "place"] (qG jc) := ⟨rfl, rfl, rfl, by decide +kernel, rfl, by decide +kernel, by decide +kernel⟩
theorem sc_neighbours_at : qR ["track", "moment", "found"] ["track", "moment"] (qG jT) := ⟨rfl, rfl, rfl, by decide +kernel, rfl, by decide +kernel, by decide +kernel⟩
theorem sc_clips_at_border : qR ["track", "moment", "places"] ["track", "moment"] (qG qz) := ⟨rfl, rfl, rfl, by decide +kernel, rfl, by decide +kernel, by decide +kernel⟩
theorem sc_lies_within : qR ["track", "moment", "found"] ["track", "moment"] (qG jt) := ⟨rfl, rfl, rfl, by decide +kernel, rfl, by decide +kernel, by decide +kernel⟩
theorem qDu : qR ["item", "low", "high"] ["item", "low", "high"] (qG xX) := ⟨rfl, rfl, rfl, by decide +kernel, rfl, by decide +kernel, by decide +kernel⟩
theorem sc_part_of_track : qR ["track", "low", "high", "parts", "begin", "item", "end", "first", "last"] ["track", "low", "high"] (qG jV) := ⟨rfl, rfl, rfl, by decide +kernel, rfl, by decide +kernel, by decide +kernel⟩
theorem sc_mix_spans : qR ["track", "spans", "border", "item"] ["track"] (qG xT) := ⟨rfl, rfl, rfl, by decide +kernel, rfl, by decide +kernel, by decide +kernel⟩
theorem vX : qR ["track", "place"] ["track", "place"] (qG jG) := ⟨rfl, rfl, rfl, by decide +kernel, rfl, by decide +kernel, by decide +kernel⟩
theorem wk : qR ["track", "place"] ["track", "place"] (qG jj) := ⟨rfl, rfl, rfl, by decide +kernel, rfl, by decide +kernel, by decide +kernel⟩
theorem sc_most_mix : qR ["track", "moment", "reels", "places", "ahead", "behind", "most_ahead", "most_behind"] ["track", "moment", "reels"] (qG zA) := ⟨rfl, rfl, rfl, by decide +kernel, rfl, by decide +kernel, by decide +kernel⟩
theorem qA2 : qR ["table", "number", "moment"] ["table", "number", "moment"] (qG jr) := ⟨rfl, rfl, rfl, by decide +kernel, rfl, by decide +kernel, by decide +kernel⟩
theorem qFb : qR ["by"] ["by"] (qG zJ) := ⟨rfl, rfl, rfl, by decide +kernel, rfl, by decide +kernel, by decide +kernel⟩
theorem sc_clip_there : qR ["track", "moment", "found"] ["track", "moment"] (qG xB) := ⟨rfl, rfl, rfl, by decide +kernel, rfl, by decide +kernel, by decide +kernel⟩
theorem sc_clip_and_sides : qR ["track", "moment", "found", "left", "right"] ["track", "moment"] (qG jI) := ⟨rfl, rfl, rfl, by decide +kernel, rfl, by decide +kernel, by decide +kernel⟩
theorem qAk : qR ["track", "deed"] ["track", "deed"] (qG jf) := ⟨rfl, rfl, rfl, by decide +kernel, rfl, by decide +kernel, by decide +kernel⟩
theorem qHl : qR ["track", "place"] ["track", "place"] (qG zn) := ⟨rfl, rfl, rfl, by decide +kernel, rfl, by decide +kernel, by decide +kernel⟩
theorem qA8 : qR ["most", "by"] ["most", "by"] (qG j0) := ⟨rfl, rfl, rfl, by decide +kernel, rfl, by decide +kernel, by decide +kernel⟩
theorem qCv : qR ["clip", "by", "reels"] ["clip", "by", "reels"] (qG xW) := ⟨rfl, rfl, rfl, by decide +kernel, rfl, by decide +kernel, by decide +kernel⟩
theorem qC1 : qR ["left", "right", "by", "reels"] ["left", "right", "by", "reels"] (qG xf) := ⟨rfl, rfl, rfl, by decide +kernel, rfl, by decide +kernel, by decide +kernel⟩
theorem sc_slipped : qR ["track", "place", "by", "reels", "clip", "changed"] ["track", "place", "by", "reels"] (qG z6) := ⟨rfl, rfl, rfl, by decide +kernel, rfl, by decide +kernel, by decide +kernel⟩
theorem sc_with_rolled_ends : qR ["track", "first", "last", "by", "reels", "left", "right", "changed"] ["track", "first", "last", "by", "reels"] (qG qt) := ⟨rfl, rfl, rfl, by decide +kernel, rfl, by decide +kernel, by decide +kernel⟩
theorem sc_table_with : qR ["table", "number", "track", "tracks"] ["table", "number", "track"] (qG xK) := ⟨rfl, rfl, rfl, by decide +kernel, rfl, by decide +kernel, by decide +kernel⟩
theorem sc_rolled : qR ["table", "deed", "reels", "track", "places"] ["table", "deed", "reels"] (qG kf) := ⟨rfl, rfl, rfl, by decide +kernel, rfl, by decide +kernel, by decide +kernel⟩
theorem qBs : qR ["deed"] ["deed"] (qG xG) := ⟨rfl, rfl, rfl, by decide +kernel, rfl, by decide +kernel, by decide +kernel⟩
theorem qGo : qR ["deed"] ["deed"] (qG zw) := ⟨rfl, rfl, rfl, by decide +kernel, rfl, by decide +kernel, by decide +kernel⟩
theorem wZ : qR ["deed"] ["deed"] (qG jg) := ⟨rfl, rfl, rfl, by decide +kernel, rfl, by decide +kernel, by decide +kernel⟩
theorem vc : qR ["table", "deed"] ["table", "deed"] (qG jE) := ⟨rfl, rfl, rfl, by decide +kernel, rfl, by decide +kernel, by decide +kernel⟩
theorem wN : qR ["deed"] ["deed"] (qG jO) := ⟨rfl, rfl, rfl, by decide +kernel, rfl, by decide +kernel, by decide +kernel⟩
theorem sc_touches_mix : qR ["track", "low", "high", "span"] ["track", "low", "high"] (qG jw) := ⟨rfl, rfl, rfl, by decide +kernel, rfl, by decide +kernel, by decide +kernel⟩
theorem sc_check_mixes : qR ["table", "deed", "stretch", "number"] ["table", "deed"] (qG jp) := ⟨rfl, rfl, rfl, by decide +kernel, rfl, by decide +kernel, by decide +kernel⟩
theorem we : qR ["table", "deed", "reels"] ["table", "deed", "reels"] (qG ji) := ⟨rfl, rfl, rfl, by decide +kernel, rfl, by decide +kernel, by decide +kernel⟩
theorem sc_can_heal : qR ["track", "places", "one", "other"] ["track", "places"] (qG zD) := ⟨rfl, rfl, rfl, by decide +kernel, rfl, by decide +kernel, by decide +kernel⟩
theorem sc_healed : qR ["table", "deed", "track", "places", "one", "whole"] ["table", "deed"] (qG kX) := ⟨rfl, rfl, rfl, by decide +kernel, rfl, by decide +kernel, by decide +kernel⟩
theorem sc_mixed : qR ["table", "deed", "reels", "track", "places", "most"] ["table", "deed", "reels"] (qG vZ) := ⟨rfl, rfl, rfl, by decide +kernel, rfl, by decide +kernel, by decide +kernel⟩
theorem sc_unmixed : qR ["table", "deed", "track", "places"] ["table", "deed"] (qG zx) := ⟨rfl, rfl, rfl, by decide +kernel, rfl, by decide +kernel, by decide +kernel⟩
theorem sc_relaid : qR ["track", "low", "high", "laid", "filling"] ["track", "low", "high", "laid"] (qG kY) := ⟨rfl, rfl, rfl, by decide +kernel, rfl, by decide +kernel, by decide +kernel⟩
theorem sc_changed : qR ["table", "deed", "stretch", "told", "number", "laid"] ["table", "deed"] (qG zz) := ⟨rfl, rfl, rfl, by decide +kernel, rfl, by decide +kernel, by decide +kernel⟩
theorem qD3 : qR ["table", "deed", "reels"] ["table", "deed", "reels"] (qG xh) := ⟨rfl, rfl, rfl, by decide +kernel, rfl, by decide +kernel, by decide +kernel⟩
theorem qKb : qR ["table", "number", "moments"] ["table", "number", "moments"] (qG vf) := ⟨rfl, rfl, rfl, by decide +kernel, rfl, by decide +kernel, by decide +kernel⟩
theorem sc_laid_again : qR ["table", "number", "low", "high", "deeds", "moment", "item"] ["table", "number", "low", "high"] (qG xE) := ⟨rfl, rfl, rfl, by decide +kernel, rfl, by decide +kernel, by decide +kernel⟩
theorem sc_back_of_mix : qR ["table", "deed", "track", "places"] ["table", "deed"] (qG jx) := ⟨rfl, rfl, rfl, by decide +kernel, rfl, by decide +kernel, by decide +kernel⟩
theorem sc_back_of_room : qR ["table", "deed", "length", "deeds", "number"] ["table", "deed"] (qG jd) := ⟨rfl, rfl, rfl, by decide +kernel, rfl, by decide +kernel, by decide +kernel⟩
theorem sc_back_of_stretch : qR ["table", "deed", "stretch", "deeds", "number"] ["table", "deed"] (qG qy) := ⟨rfl, rfl, rfl, by decide +kernel, rfl, by decide +kernel, by decide +kernel⟩
theorem qGu : qR ["table", "deed", "reels"] ["table", "deed", "reels"] (qG zo) := ⟨rfl, rfl, rfl, by decide +kernel, rfl, by decide +kernel, by decide +kernel⟩
theorem wW : qR ["_law_script", "_law_k"] ["_law_script", "_law_k"] (qG je) := ⟨rfl, rfl, rfl, by decide +kernel, rfl, by decide +kernel, by decide +kernel⟩
theorem sc__law_stream : qR ["_law_cell", "_law_size", "_law_found", "_law_rest", "_law_k", "_law_number"] ["_law_cell", "_law_size"] (qG ju) := ⟨rfl, rfl, rfl, by decide +kernel, rfl, by decide +kernel, by decide +kernel⟩
theorem sc__law_table : qR ["_law_xs", "_law_one", "_law_other", "_law_first", "_law_second", "_law_third"] ["_law_xs"] (qG xA) := ⟨rfl, rfl, rfl, by decide +kernel, rfl, by decide +kernel, by decide +kernel⟩
theorem sc__law_floor : qR ["_law_item", "_law_k", "_law_top", "_law_bottom", "_law_one", "_law_other"] ["_law_item", "_law_k"] (qG xF) := ⟨rfl, rfl, rfl, by decide +kernel, rfl, by decide +kernel, by decide +kernel⟩
theorem qC3 : qR ["_law_item", "_law_low", "_law_high"] ["_law_item", "_law_low", "_law_high"] (qG xU) := ⟨rfl, rfl, rfl, by decide +kernel, rfl, by decide +kernel, by decide +kernel⟩
theorem sc__law_again : qR ["_law_track", "_law_number", "_law_first", "_law_last", "_law_row", "_law_heals", "_law_begin", "_law_item", "_law_end", "_law_low", "_law_high", "_law_moment"] ["_law_track", "_law_number", "_law_first", "_law_last"] (qG xC) := ⟨rfl, rfl, rfl, by decide +kernel, rfl, by decide +kernel, by decide +kernel⟩
theorem qAg : qR ["_law_table_here", "_law_number"] ["_law_table_here", "_law_number"] (qG jb) := ⟨rfl, rfl, rfl, by decide +kernel, rfl, by decide +kernel, by decide +kernel⟩
theorem sc__law_cut_at : qR ["_law_track", "_law_moment", "_law_begin", "_law_item"] ["_law_track", "_law_moment"] (qG jv) := ⟨rfl, rfl, rfl, by decide +kernel, rfl, by decide +kernel, by decide +kernel⟩
theorem sc__law_due : qR ["_law_table_here", "_law_deed_here", "_law_word", "_law_number", "_law_moment", "_law_length", "_law_touched_here", "_law_row", "_law_one", "_law_last"] ["_law_table_here", "_law_deed_here"] (qG zC) := ⟨rfl, rfl, rfl, by decide +kernel, rfl, by decide +kernel, by decide +kernel⟩
theorem sc__law_deed : qR ["_law_xs", "_law_table_here", "_law_word", "_law_number", "_law_moment", "_law_length"] ["_law_xs", "_law_table_here"] (qG xV) := ⟨rfl, rfl, rfl, by decide +kernel, rfl, by decide +kernel, by decide +kernel⟩
theorem sc__law_small : qR ["_law_table_here", "_law_xs", "_law_reels", "_law_one", "_law_place", "_law_mixed", "_law_by"] ["_law_table_here", "_law_xs"] (qG xJ) := ⟨rfl, rfl, rfl, by decide +kernel, rfl, by decide +kernel, by decide +kernel⟩
theorem sc_law : qR ["_law_script", "_law_cell", "_law_xs", "_law_table_here", "_law_deed_here", "_law_by", "_law_clips"] ["_law_script"] (qG qCg) := ⟨rfl, rfl, rfl, by decide +kernel, rfl, by decide +kernel, by decide +kernel⟩
abbrev kd : Stmt := qLe (top 6) 0
theorem qIr : qR ["self", "most"] ["self", "most"] (qG kd) := ⟨rfl, rfl, rfl, by decide +kernel, rfl, by decide +kernel, by decide +kernel⟩
set_option genInjectivity false
set_option genSizeOf false
structure Ads where
  a_is_whole : Addr
  f_is_whole : FuncData
  a_common_divisor : Addr
  f_common_divisor : FuncData
  a_is_fraction : Addr
  f_is_fraction : FuncData
  a_fraction : Addr
  f_fraction : FuncData
  a_sum_of : Addr
  f_sum_of : FuncData
  a_less_by : Addr
  f_less_by : FuncData
  a_times_of : Addr
  f_times_of : FuncData
  a_quotient : Addr
  f_quotient : FuncData
  a_is_before : Addr
  f_is_before : FuncData
  a_floor_of : Addr
  f_floor_of : FuncData
  a_is_name : Addr
  f_is_name : FuncData
  a_has_clip_form : Addr
  f_has_clip_form : FuncData
  a_place_at : Addr
  f_place_at : FuncData
  a_picture_at : Addr
  f_picture_at : FuncData
  a_is_there : Addr
  f_is_there : FuncData
  a_check_clip : Addr
  f_check_clip : FuncData
  a_clip_part : Addr
  f_clip_part : FuncData
  a_goes_on : Addr
  f_goes_on : FuncData
  a_moments_there : Addr
  f_moments_there : FuncData
  a_head_room : Addr
  f_head_room : FuncData
  a_tail_room : Addr
  f_tail_room : FuncData
  a_is_length : Addr
  f_is_length : FuncData
  a_has_nest_form : Addr
  f_has_nest_form : FuncData
  a_moments_of : Addr
  f_moments_of : FuncData
  a_one_form : Addr
  f_one_form : FuncData
  a_length_of : Addr
  f_length_of : FuncData
  a_item_at : Addr
  f_item_at : FuncData
  a_kind_at : Addr
  f_kind_at : FuncData
  a_place_ahead : Addr
  f_place_ahead : FuncData
  a_place_behind : Addr
  f_place_behind : FuncData
  a_neighbours_at : Addr
  f_neighbours_at : FuncData
  a_clips_at_border : Addr
  f_clips_at_border : FuncData
  a_lies_within : Addr
  f_lies_within : FuncData
  a_item_part : Addr
  f_item_part : FuncData
  a_part_of_track : Addr
  f_part_of_track : FuncData
  a_part_ahead : Addr
  f_part_ahead : FuncData
  a_part_behind : Addr
  f_part_behind : FuncData
  a_mix_spans : Addr
  f_mix_spans : FuncData
  a_taken_at_begin : Addr
  f_taken_at_begin : FuncData
  a_taken_at_end : Addr
  f_taken_at_end : FuncData
  a_most_mix : Addr
  f_most_mix : FuncData
  a_check_place : Addr
  f_check_place : FuncData
  a_check_by : Addr
  f_check_by : FuncData
  a_clip_there : Addr
  f_clip_there : FuncData
  a_clip_and_sides : Addr
  f_clip_and_sides : FuncData
  a_places_named : Addr
  f_places_named : FuncData
  a_has_mix : Addr
  f_has_mix : FuncData
  a_check_short : Addr
  f_check_short : FuncData
  a_most_slip : Addr
  f_most_slip : FuncData
  a_most_roll : Addr
  f_most_roll : FuncData
  a_slipped : Addr
  f_slipped : FuncData
  a_with_rolled_ends : Addr
  f_with_rolled_ends : FuncData
  a_table_with : Addr
  f_table_with : FuncData
  a_rolled : Addr
  f_rolled : FuncData
  a_stretch_of : Addr
  f_stretch_of : FuncData
  a_laid_by : Addr
  f_laid_by : FuncData
  a_laid_on_tied : Addr
  f_laid_on_tied : FuncData
  a_tracks_changed : Addr
  f_tracks_changed : FuncData
  a_check_numbers : Addr
  f_check_numbers : FuncData
  a_touches_mix : Addr
  f_touches_mix : FuncData
  a_check_mixes : Addr
  f_check_mixes : FuncData
  a_check_change : Addr
  f_check_change : FuncData
  a_nest_goes_on : Addr
  f_nest_goes_on : FuncData
  a_can_heal : Addr
  f_can_heal : FuncData
  a_healed : Addr
  f_healed : FuncData
  a_mixed : Addr
  f_mixed : FuncData
  a_unmixed : Addr
  f_unmixed : FuncData
  a_relaid : Addr
  f_relaid : FuncData
  a_changed : Addr
  f_changed : FuncData
  a_deed_done : Addr
  f_deed_done : FuncData
  a_heals : Addr
  f_heals : FuncData
  a_laid_again : Addr
  f_laid_again : FuncData
  a_back_of_mix : Addr
  f_back_of_mix : FuncData
  a_back_of_room : Addr
  f_back_of_room : FuncData
  a_back_of_stretch : Addr
  f_back_of_stretch : FuncData
  a_back_of : Addr
  f_back_of : FuncData
  a__law_cell_at : Addr
  f__law_cell_at : FuncData
  a__law_stream : Addr
  f__law_stream : FuncData
  a__law_table : Addr
  f__law_table : FuncData
  a__law_floor : Addr
  f__law_floor : FuncData
  a__law_part : Addr
  f__law_part : FuncData
  a__law_again : Addr
  f__law_again : FuncData
  a__law_touched : Addr
  f__law_touched : FuncData
  a__law_cut_at : Addr
  f__law_cut_at : FuncData
  a__law_due : Addr
  f__law_due : FuncData
  a__law_deed : Addr
  f__law_deed : FuncData
  a__law_small : Addr
  f__law_small : FuncData
  a_law : Addr
  f_law : FuncData
  k_CutError : Addr
  k_NoNumber : Addr
  k_NoClip : Addr
  k_NoPlace : Addr
  k_Mixed : Addr
  k_Short : Addr
  t_LETTERS : Tok
  t_LONGEST_NAME : Tok
  t_MOST_ROOM : Tok
  n_NOUGHT : Addr
  t_MOST_BY : Tok
  n_ROLLS : Addr
  n_LAYS : Addr
  n_PUSHES : Addr
  n_CHANGES : Addr
  fi_Short : Addr
  gi_Short : FuncData
structure Tx (K : PySem.W.Frag) (mg : Str → Option Value) (a : Ads) : Prop where
  d_is_whole : L3.Def K mg "is_whole" x9 ["x"] a.a_is_whole a.f_is_whole
  d_common_divisor : L3.Def K mg "common_divisor" jH ["one", "other"] a.a_common_divisor a.f_common_divisor
  d_is_fraction : L3.Def K mg "is_fraction" jy ["x"] a.a_is_fraction a.f_is_fraction
  d_fraction : L3.Def K mg "fraction" zI ["top", "bottom"] a.a_fraction a.f_fraction
  d_sum_of : L3.Def K mg "sum_of" kh ["one", "other"] a.a_sum_of a.f_sum_of
  d_less_by : L3.Def K mg "less_by" zk ["one", "other"] a.a_less_by a.f_less_by
  d_times_of : L3.Def K mg "times_of" zG ["one", "other"] a.a_times_of a.f_times_of
  d_quotient : L3.Def K mg "quotient" zK ["one", "other"] a.a_quotient a.f_quotient
  d_is_before : L3.Def K mg "is_before" xk ["one", "other"] a.a_is_before a.f_is_before
  d_floor_of : L3.Def K mg "floor_of" zH ["one"] a.a_floor_of a.f_floor_of
  d_is_name : L3.Def K mg "is_name" zm ["thing"] a.a_is_name a.f_is_name
  d_has_clip_form : L3.Def K mg "has_clip_form" jQ ["item"] a.a_has_clip_form a.f_has_clip_form
  d_place_at : L3.Def K mg "place_at" zE ["clip", "k"] a.a_place_at a.f_place_at
  d_picture_at : L3.Def K mg "picture_at" xD ["clip", "k"] a.a_picture_at a.f_picture_at
  d_is_there : L3.Def K mg "is_there" zB ["picture", "many"] a.a_is_there a.f_is_there
  d_check_clip : L3.Def K mg "check_clip" xL ["item", "reels"] a.a_check_clip a.f_check_clip
  d_clip_part : L3.Def K mg "clip_part" xc ["clip", "low", "high"] a.a_clip_part a.f_clip_part
  d_goes_on : L3.Def K mg "goes_on" zy ["one", "other"] a.a_goes_on a.f_goes_on
  d_moments_there : L3.Def K mg "moments_there" jS ["first", "step", "many"] a.a_moments_there a.f_moments_there
  d_head_room : L3.Def K mg "head_room" xg ["clip", "reels"] a.a_head_room a.f_head_room
  d_tail_room : L3.Def K mg "tail_room" xl ["clip", "reels"] a.a_tail_room a.f_tail_room
  d_is_length : L3.Def K mg "is_length" xj ["thing"] a.a_is_length a.f_is_length
  d_has_nest_form : L3.Def K mg "has_nest_form" jU ["item"] a.a_has_nest_form a.f_has_nest_form
  d_moments_of : L3.Def K mg "moments_of" xH ["item"] a.a_moments_of a.f_moments_of
  d_one_form : L3.Def K mg "one_form" zF ["some"] a.a_one_form a.f_one_form
  d_length_of : L3.Def K mg "length_of" xm ["track"] a.a_length_of a.f_length_of
  d_item_at : L3.Def K mg "item_at" zq ["track", "moment"] a.a_item_at a.f_item_at
  d_kind_at : L3.Def K mg "kind_at" zl ["track", "place"] a.a_kind_at a.f_kind_at
  d_place_ahead : L3.Def K mg "place_ahead" jz ["track", "place"] a.a_place_ahead a.f_place_ahead
  d_place_behind : L3.Def K mg "place_behind" jc ["track", "place"] a.a_place_behind a.f_place_behind
  d_neighbours_at : L3.Def K mg "neighbours_at" jT ["track", "moment"] a.a_neighbours_at a.f_neighbours_at
  d_clips_at_border : L3.Def K mg "clips_at_border" qz ["track", "moment"] a.a_clips_at_border a.f_clips_at_border
  d_lies_within : L3.Def K mg "lies_within" jt ["track", "moment"] a.a_lies_within a.f_lies_within
  d_item_part : L3.Def K mg "item_part" xX ["item", "low", "high"] a.a_item_part a.f_item_part
  d_part_of_track : L3.Def K mg "part_of_track" jV ["track", "low", "high"] a.a_part_of_track a.f_part_of_track
  d_part_ahead : L3.Def K mg "part_ahead" xt ["length"] a.a_part_ahead a.f_part_ahead
  d_part_behind : L3.Def K mg "part_behind" xP ["length"] a.a_part_behind a.f_part_behind
  d_mix_spans : L3.Def K mg "mix_spans" xT ["track"] a.a_mix_spans a.f_mix_spans
  d_taken_at_begin : L3.Def K mg "taken_at_begin" jG ["track", "place"] a.a_taken_at_begin a.f_taken_at_begin
  d_taken_at_end : L3.Def K mg "taken_at_end" jj ["track", "place"] a.a_taken_at_end a.f_taken_at_end
  d_most_mix : L3.Def K mg "most_mix" zA ["track", "moment", "reels"] a.a_most_mix a.f_most_mix
  d_check_place : L3.Def K mg "check_place" jr ["table", "number", "moment"] a.a_check_place a.f_check_place
  d_check_by : L3.Def K mg "check_by" zJ ["by"] a.a_check_by a.f_check_by
  d_clip_there : L3.Def K mg "clip_there" xB ["track", "moment"] a.a_clip_there a.f_clip_there
  d_clip_and_sides : L3.Def K mg "clip_and_sides" jI ["track", "moment"] a.a_clip_and_sides a.f_clip_and_sides
  d_places_named : L3.Def K mg "places_named" jf ["track", "deed"] a.a_places_named a.f_places_named
  d_has_mix : L3.Def K mg "has_mix" zn ["track", "place"] a.a_has_mix a.f_has_mix
  d_check_short : L3.Def K mg "check_short" j0 ["most", "by"] a.a_check_short a.f_check_short
  d_most_slip : L3.Def K mg "most_slip" xW ["clip", "by", "reels"] a.a_most_slip a.f_most_slip
  d_most_roll : L3.Def K mg "most_roll" xf ["left", "right", "by", "reels"] a.a_most_roll a.f_most_roll
  d_slipped : L3.Def K mg "slipped" z6 ["track", "place", "by", "reels"] a.a_slipped a.f_slipped
  d_with_rolled_ends : L3.Def K mg "with_rolled_ends" qt ["track", "first", "last", "by", "reels"] a.a_with_rolled_ends a.f_with_rolled_ends
  d_table_with : L3.Def K mg "table_with" xK ["table", "number", "track"] a.a_table_with a.f_table_with
  d_rolled : L3.Def K mg "rolled" kf ["table", "deed", "reels"] a.a_rolled a.f_rolled
  d_stretch_of : L3.Def K mg "stretch_of" xG ["deed"] a.a_stretch_of a.f_stretch_of
  d_laid_by : L3.Def K mg "laid_by" zw ["deed"] a.a_laid_by a.f_laid_by
  d_laid_on_tied : L3.Def K mg "laid_on_tied" jg ["deed"] a.a_laid_on_tied a.f_laid_on_tied
  d_tracks_changed : L3.Def K mg "tracks_changed" jE ["table", "deed"] a.a_tracks_changed a.f_tracks_changed
  d_check_numbers : L3.Def K mg "check_numbers" jO ["deed"] a.a_check_numbers a.f_check_numbers
  d_touches_mix : L3.Def K mg "touches_mix" jw ["track", "low", "high"] a.a_touches_mix a.f_touches_mix
  d_check_mixes : L3.Def K mg "check_mixes" jp ["table", "deed"] a.a_check_mixes a.f_check_mixes
  d_check_change : L3.Def K mg "check_change" ji ["table", "deed", "reels"] a.a_check_change a.f_check_change
  d_nest_goes_on : L3.Def K mg "nest_goes_on" j2 ["one", "other"] a.a_nest_goes_on a.f_nest_goes_on
  d_can_heal : L3.Def K mg "can_heal" zD ["track", "places"] a.a_can_heal a.f_can_heal
  d_healed : L3.Def K mg "healed" kX ["table", "deed"] a.a_healed a.f_healed
  d_mixed : L3.Def K mg "mixed" vZ ["table", "deed", "reels"] a.a_mixed a.f_mixed
  d_unmixed : L3.Def K mg "unmixed" zx ["table", "deed"] a.a_unmixed a.f_unmixed
  d_relaid : L3.Def K mg "relaid" kY ["track", "low", "high", "laid"] a.a_relaid a.f_relaid
  d_changed : L3.Def K mg "changed" zz ["table", "deed"] a.a_changed a.f_changed
  d_deed_done : L3.Def K mg "deed_done" xh ["table", "deed", "reels"] a.a_deed_done a.f_deed_done
  d_heals : L3.Def K mg "heals" vf ["table", "number", "moments"] a.a_heals a.f_heals
  d_laid_again : L3.Def K mg "laid_again" xE ["table", "number", "low", "high"] a.a_laid_again a.f_laid_again
  d_back_of_mix : L3.Def K mg "back_of_mix" jx ["table", "deed"] a.a_back_of_mix a.f_back_of_mix
  d_back_of_room : L3.Def K mg "back_of_room" jd ["table", "deed"] a.a_back_of_room a.f_back_of_room
  d_back_of_stretch : L3.Def K mg "back_of_stretch" qy ["table", "deed"] a.a_back_of_stretch a.f_back_of_stretch
  d_back_of : L3.Def K mg "back_of" zo ["table", "deed", "reels"] a.a_back_of a.f_back_of
  d__law_cell_at : L3.Def K mg "_law_cell_at" je ["_law_script", "_law_k"] a.a__law_cell_at a.f__law_cell_at
  d__law_stream : L3.Def K mg "_law_stream" ju ["_law_cell", "_law_size"] a.a__law_stream a.f__law_stream
  d__law_table : L3.Def K mg "_law_table" xA ["_law_xs"] a.a__law_table a.f__law_table
  d__law_floor : L3.Def K mg "_law_floor" xF ["_law_item", "_law_k"] a.a__law_floor a.f__law_floor
  d__law_part : L3.Def K mg "_law_part" xU ["_law_item", "_law_low", "_law_high"] a.a__law_part a.f__law_part
  d__law_again : L3.Def K mg "_law_again" xC ["_law_track", "_law_number", "_law_first", "_law_last"] a.a__law_again a.f__law_again
  d__law_touched : L3.Def K mg "_law_touched" jb ["_law_table_here", "_law_number"] a.a__law_touched a.f__law_touched
  d__law_cut_at : L3.Def K mg "_law_cut_at" jv ["_law_track", "_law_moment"] a.a__law_cut_at a.f__law_cut_at
  d__law_due : L3.Def K mg "_law_due" zC ["_law_table_here", "_law_deed_here"] a.a__law_due a.f__law_due
  d__law_deed : L3.Def K mg "_law_deed" xV ["_law_xs", "_law_table_here"] a.a__law_deed a.f__law_deed
  d__law_small : L3.Def K mg "_law_small" xJ ["_law_table_here", "_law_xs"] a.a__law_small a.f__law_small
  d_law : L3.Def K mg "law" qCg ["_law_script"] a.a_law a.f_law
  c_CutError : mg "CutError" = some (.ref a.k_CutError)
  c_NoNumber : mg "NoNumber" = some (.ref a.k_NoNumber)
  c_NoClip : mg "NoClip" = some (.ref a.k_NoClip)
  c_NoPlace : mg "NoPlace" = some (.ref a.k_NoPlace)
  c_Mixed : mg "Mixed" = some (.ref a.k_Mixed)
  c_Short : mg "Short" = some (.ref a.k_Short)
  b_isinstance : mg "isinstance" = none
  b_int : mg "int" = none
  b_bool : mg "bool" = none
  b_abs : mg "abs" = none
  b_tuple : mg "tuple" = none
  b_len : mg "len" = none
  b_all : mg "all" = none
  b_str : mg "str" = none
  b_min : mg "min" = none
  b_sum : mg "sum" = none
  b_enumerate : mg "enumerate" = none
  b_max : mg "max" = none
  b_list : mg "list" = none
  b_any : mg "any" = none
  b_range : mg "range" = none
  g_LETTERS : mg "LETTERS" = some (.str "abcdefghijklmnopqrstuvwxyz" a.t_LETTERS)
  g_LONGEST_NAME : mg "LONGEST_NAME" = some (.int 8 a.t_LONGEST_NAME)
  g_MOST_ROOM : mg "MOST_ROOM" = some (.int 1000000 a.t_MOST_ROOM)
  g_NOUGHT : mg "NOUGHT" = some (.ref a.n_NOUGHT)
  sq_NOUGHT : ∀ H, SqT K H a.n_NOUGHT [.int 0, .int 1]
  g_MOST_BY : mg "MOST_BY" = some (.int 1000000 a.t_MOST_BY)
  g_ROLLS : mg "ROLLS" = some (.ref a.n_ROLLS)
  sq_ROLLS : ∀ H, SqT K H a.n_ROLLS [.str "roll", .str "slip", .str "slide"]
  g_LAYS : mg "LAYS" = some (.ref a.n_LAYS)
  sq_LAYS : ∀ H, SqT K H a.n_LAYS [.str "lay_in", .str "lay_over"]
  g_PUSHES : mg "PUSHES" = some (.ref a.n_PUSHES)
  sq_PUSHES : ∀ H, SqT K H a.n_PUSHES [.str "lay_in", .str "open", .str "close"]
  g_CHANGES : mg "CHANGES" = some (.ref a.n_CHANGES)
  sq_CHANGES : ∀ H, SqT K H a.n_CHANGES [.str "cut", .str "lay_in", .str "open", .str "close", .str "lift", .str "lay_over"]
  x_NoPlace : L3.OwnX K a.k_NoPlace
  x_Mixed : L3.OwnX K a.k_Mixed
  i_Short : Fun K "__init__" "Short.__init__" kd a.fi_Short a.gi_Short
  ib_Short : Binds K a.gi_Short ["self", "most"] []
  m_Short : L3.XMk K a.k_Short a.k_CutError a.fi_Short
  tk_Short : PySem.W.takerIn K a.k_Short "most" = some none
def qKg (K : PySem.W.Frag) : Sp := fun vs H Q _ => ∃ (a : Addr) (ns : List Int), vs = [.ref a] ∧ SqL K H a (ns.map V.int) ∧ ns.length ≤ 63 ∧ ∀ H', Q (.bl true) H'
def qJj (H : Hp) (Q : VK) (p q : Int) : Prop := ∀ z, H z = none → Q (.ref z) (upd H z (.tup [.int p, .int q]))
theorem jN {CX : CXT} {P : Program} {w : World} {K : PySem.W.Frag} {mg : Str → Option Value} {base : Heap} {ns : List Str} {n : Str} {sc : Scope} {ad : Addr} {cdv : Value} {A : Around} {outer : List Env} {s : Shared} {H : Hp} {E : XK} : (qJi CX P w K mg base ns n sc ad cdv A outer s H E).K = K := rfl
theorem qg {CX : CXT} {P : Program} {w : World} {K : PySem.W.Frag} {mg : Str → Option Value} {base : Heap} {ns : List Str} {n : Str} {sc : Scope} {ad : Addr} {cdv : Value} {A : Around} {outer : List Env} {s : Shared} {H : Hp} {E : XK} : (qJi CX P w K mg base ns n sc ad cdv A outer s H E).nox.K = K := rfl
theorem sL0 : (0 : Nat) ≤ sizeLine := by decide
theorem sL1 : (1 : Nat) ≤ sizeLine := by decide
theorem sL2 : (2 : Nat) ≤ sizeLine := by decide
theorem sL3 : (3 : Nat) ≤ sizeLine := by decide
theorem sL4 : (4 : Nat) ≤ sizeLine := by decide
theorem sL5 : (5 : Nat) ≤ sizeLine := by decide
theorem glt {α : Type} {xs : List α} {i : Nat} {x : α} (h : xs[i]? = some x) : i < xs.length := (List.getElem?_eq_some_iff.mp h).1
theorem ixT {K : PySem.W.Frag} {σ : St} {H : Hp} {p : Addr} {xs : List V} {i : Int} {v : V} {Q : VK} (h : SqT K H p xs) (a : atI xs i = some v) (q : Q v H) : tC (.int i) σ H (fun y H2 => qNt K (.ref p) y H2 Q) := ⟨p, xs, i, v, rfl, rfl, h, a, q⟩
theorem ixL {K : PySem.W.Frag} {σ : St} {H : Hp} {p : Addr} {xs : List V} {i : Int} {v : V} {Q : VK} (h : SqL K H p xs) (a : atI xs i = some v) (q : Q v H) : tC (.int i) σ H (fun y H2 => qNr K (.ref p) y H2 Q) := ⟨p, xs, i, v, rfl, rfl, h, a, q⟩
theorem qY {K : PySem.W.Frag} {σ : St} {H : Hp} {p : Addr} {xs : List V} {i : Int} {v : V} {Q : VK} {j : Nat} (e : σ[j]? = some (some (.ref p))) (h : SqT K H p xs) (a : atI xs i = some v) (q : Q v H) : tOp (qNt K) (qNs j) (tC (.int i)) σ H Q := ⟨.ref p, e, p, xs, i, v, rfl, rfl, h, a, q⟩
theorem qPp {K : PySem.W.Frag} {σ : St} {H : Hp} {p : Addr} {xs : List V} {i : Int} {v : V} {Q : VK} {j : Nat} (e : σ[j]? = some (some (.ref p))) (h : SqL K H p xs) (a : atI xs i = some v) (q : Q v H) : tOp (qNr K) (qNs j) (tC (.int i)) σ H Q := ⟨.ref p, e, p, xs, i, v, rfl, rfl, h, a, q⟩
section
variable {P : Program} {w : World} {K : W.Frag} {mg : Str → Option Value} {base : Heap} {a : Ads}
def qE5 : Sp := fun vs H Q _ => ∃ i : Int, vs = [.int i] ∧ Q (.bl true) H
theorem qv (T : Tx K mg a) : FnOk P w K mg base CX0 1 a.a_is_whole a.f_is_whole ["x"] qE5 := by
  refine T.d_is_whole.F.ok qEs (fun vs H Q E h => ?_) (fun cdv A outer s H vs Q E hr h => ?_)
  · obtain ⟨i, rfl, _⟩ := h
    rfl
  obtain ⟨i, rfl, q⟩ := h
  refine ⟨_, (qI (qN (vL (qf xS rfl T.b_isinstance rfl (qA (pv 0) (qA (qGy rfl T.b_int rfl) qC))) (wA (qM1 (qf xS rfl T.b_isinstance rfl (qA (pv 0) (qA (qGy rfl T.b_bool rfl) qC)))))))), ?_⟩
  try dsimp only [jN, qg]
  refine ⟨_, rfl, _, _, _, true, rfl, .int i, ⟨_, .inl ⟨rfl, rfl⟩⟩, true, rfl, j5 ?_⟩
  refine ⟨_, rfl, _, _, _, false, rfl, .int i, ⟨_, .inl ⟨rfl, by kernel_rfl⟩⟩, false, rfl, ?_⟩
  exact q
def vo : Sp := fun vs H Q _ => ∃ i j : Int, vs = [.int i, .int j] ∧ Q (.int ((Int.gcd i j : Nat) : Int)) H
theorem zp (T : Tx K mg a) : FnOk P w K mg base CX0 1 a.a_common_divisor a.f_common_divisor ["one", "other"] vo := by
  refine T.d_common_divisor.F.ok sc_common_divisor (fun vs H Q E h => ?_) (fun cdv A outer s H vs Q E hr h => ?_)
  · obtain ⟨i, j, rfl, _⟩ := h
    rfl
  obtain ⟨i, j, rfl, q⟩ := h
  refine ⟨_, (qD (qGi PassesOwn.never (qL zT (pv 1) qB (qS _)) (qD (qU (i := 2) sc_common_divisor.nd rfl (Or.inl rfl) (qW jX (pv 0) (pv 1)))
      (qD (qU (i := 0) sc_common_divisor.nd rfl (Or.inl rfl) (pv 1))
      (qI (qU (i := 1) sc_common_divisor.nd rfl (Or.inl rfl) (pv 2))))))
      (qI (qN (qf wR rfl T.b_abs rfl (qA (pv 0) qC))))), ?_⟩
  try dsimp only [jN, qg]
  refine qF7 (fun σ H' => H' = H ∧ ∃ (x y : Int) (v : Option V), σ = [some (.int x), some (.int y), v] ∧ Int.gcd x y = Int.gcd i j)
    (fun σ _ => match σ with | [_, some (.int y), _] => y.natAbs | _ => 0) ⟨rfl, i, j, none, rfl, rfl⟩ ?_ ?_
  · rintro σ H1 ⟨rfl, x, y, v, rfl, e⟩
    refine ⟨_, rfl, rfl, _, rfl, ?_⟩
    refine xN (fun c => ?_) (fun c => ?_)
    · have hy : y ≠ 0 := by simpa using c
      refine ⟨_, rfl, _, rfl, _, _, rfl, rfl, hy, _, rfl, _, rfl, ⟨rfl, y, x.fmod y, _, rfl, ?_⟩, ?_⟩
      · rw [qGf]; exact e
      · exact qJc x y hy
    · have hy : y = 0 := by simpa using c
      subst hy
      refine ⟨_, rfl, x, rfl, ?_⟩
      have e2 : (if x < 0 then -x else x) = ((Int.gcd i j : Nat) : Int) := by
        rw [← e, Int.gcd_zero_right]
        split <;> omega
      rw [e2]
      exact q
  · rintro σ H1 Q1 Q2 hq h
    obtain ⟨v, e, s, k, hk, z⟩ := h
    exact ⟨v, e, s, k, hk, hq _ _ z⟩
def qEq : Sp := fun vs H Q _ => ∃ t b : Int, vs = [.int t, .int b] ∧ b ≠ 0 ∧ b.natAbs < 2 ^ 8000 ∧ qJj H Q (zR t b) (xZ t b)
theorem qFy {t b : Int} (h : b ≠ 0) (hb : b.natAbs < 2 ^ 8000) : CDivB t (sg t b) ∧ CDivB b (sg t b) := by
  have h1 := qNz (t := t) h
  have h2 : (sg t b).natAbs < 2 ^ 8000 := by
    rw [qFx]
    exact Nat.lt_of_le_of_lt (Nat.le_of_dvd (by omega) (Int.gcd_dvd_natAbs_right ..)) hb
  exact ⟨⟨h1, h2⟩, ⟨h1, h2⟩⟩
theorem xY (T : Tx K mg a) : FnOk P w K mg base CX0 2 a.a_fraction a.f_fraction ["top", "bottom"] qEq := by
  refine T.d_fraction.F.ok sc_fraction (fun vs H Q E h => ?_) (fun cdv A outer s H vs Q E hr h => ?_)
  · obtain ⟨t, b, rfl, _⟩ := h
    rfl
  obtain ⟨t, b, rfl, hb, hs, q⟩ := h
  refine ⟨_, (qD (qc (PW.pt (xM (jZ (q9 (qK T.d_is_whole (qv T) hr rfl (qA (pv 0) qC)))) (jR (jZ (q9 (qK T.d_is_whole (qv T) hr rfl (qA (pv 1) qC))))))) qp qO)
      (qD (qc (qL jD (pv 1) qB (qS _)) qp qO)
      (qD (qU (i := 2) sc_fraction.nd rfl (Or.inl rfl) (qK T.d_common_divisor (zp T) hr rfl (qA (pv 0) (qA (pv 1) qC))))
      (qD (qc (qL z9 (pv 1) qB (qS _)) (qI (qU (i := 2) sc_fraction.nd rfl (Or.inl rfl) (zM jn (pv 2)))) qO)
      (qI (qN (qX (qA (qW qr (pv 0) (pv 2)) (qA (qW qr (pv 1) (pv 2)) qC))))))))), ?_⟩
  try dsimp only [jN, qg]
  refine ⟨_, rfl, t, rfl, true, rfl, qo ?_⟩
  refine ⟨_, rfl, b, rfl, true, rfl, qo ?_⟩
  refine ⟨_, rfl, rfl, _, rfl, ?_⟩
  refine xN (fun c => absurd (by simpa using c) hb) (fun _ => ?_)
  refine ⟨_, rfl, _, rfl, t, b, rfl, ?_⟩
  refine ⟨_, rfl, _, _, rfl, rfl, _, rfl, ?_⟩
  obtain ⟨d1, d2⟩ := qFy (t := t) hb hs
  refine xN (fun c => ?_) (fun c => ?_)
  · have c' : b < 0 := by simpa using c
    have e : -((Int.gcd t b : Nat) : Int) = sg t b := by unfold sg; rw [if_pos c']
    have q' : qJj H Q (t.fdiv (-((Int.gcd t b : Nat) : Int))) (b.fdiv (-((Int.gcd t b : Nat) : Int))) := by rw [e]; exact q
    exact ⟨_, rfl, _, rfl, _, rfl, _, rfl, _, _, rfl, rfl, (by rw [e]; exact d1), _, rfl, _, rfl, _, _, rfl, rfl, (by rw [e]; exact d2), sL2, q'⟩
  · have c' : ¬ b < 0 := by simpa using c
    have e : ((Int.gcd t b : Nat) : Int) = sg t b := by unfold sg; rw [if_neg c']
    have q' : qJj H Q (t.fdiv ((Int.gcd t b : Nat) : Int)) (b.fdiv ((Int.gcd t b : Nat) : Int)) := by rw [e]; exact q
    exact ⟨_, rfl, _, rfl, _, _, rfl, rfl, (by rw [e]; exact d1), _, rfl, _, rfl, _, _, rfl, rfl, (by rw [e]; exact d2), sL2, q'⟩
def Pr (K : W.Frag) (H : Hp) (v : V) (p q : Int) : Prop := ∃ z, v = .ref z ∧ SqT K H z [.int p, .int q]
theorem Pr.same {H H' : Hp} {v : V} {p q : Int} (e : Same H H') (h : Pr K H v p q) : Pr K H' v p q := let ⟨z, h1, h2⟩ := h; ⟨z, h1, L3.Same.tup e h2⟩
def Sm (i : Int) : Prop := i.natAbs < 2 ^ 3000
theorem Sm.mul {i j : Int} (h1 : Sm i) (h2 : Sm j) : CMulB i j := by
  unfold Sm at h1 h2
  have : (2 : Nat) ^ 3000 ≤ 2 ^ 60000 := Nat.pow_le_pow_right (by decide) (by decide)
  exact .inr ⟨by omega, by omega⟩
theorem Sm.prod {i j : Int} (h1 : Sm i) (h2 : Sm j) : (i * j).natAbs < 2 ^ 8000 := by
  unfold Sm at h1 h2
  rw [Int.natAbs_mul]
  have h3 : i.natAbs * j.natAbs < 2 ^ 3000 * 2 ^ 3000 := Nat.mul_lt_mul'' h1 h2
  rw [← Nat.pow_add] at h3
  exact Nat.lt_of_lt_of_le h3 (Nat.pow_le_pow_right (by decide) (by decide))
theorem at0 {x y : V} : atI [x, y] 0 = some x := rfl
theorem at1 {x y : V} : atI [x, y] 1 = some y := rfl
def qI4 (K : W.Frag) : Sp := fun vs H Q _ => ∃ (x y : V) (p q r s : Int), vs = [x, y] ∧ Pr K H x p q ∧ Pr K H y r s ∧ q ≠ 0 ∧ s ≠ 0 ∧ Sm p ∧ Sm q ∧ Sm r ∧ Sm s ∧ qJj H Q (zR (p * s + r * q) (q * s)) (xZ (p * s + r * q) (q * s))
theorem qIg (T : Tx K mg a) : FnOk P w K mg base CX0 3 a.a_sum_of a.f_sum_of ["one", "other"] (qI4 K) := by
  refine T.d_sum_of.F.ok qJh (fun vs H Q E h => ?_) (fun cdv A outer s H vs Q E hr h => ?_)
  · obtain ⟨x, y, p, q, r, s, rfl, _⟩ := h
    rfl
  obtain ⟨x, y, p, q, r, s', rfl, ⟨z1, rfl, h1⟩, ⟨z2, rfl, h2⟩, hq, hs, bp, bq, br, bs, k⟩ := h
  refine ⟨_, (qI (qN (qK T.d_fraction (xY T) hr rfl (qA (qW qj (qW jP (qJ qH (pv 0) qB (fun _ _ => rfl)) (qJ qH (pv 1) qB (fun _ _ => rfl))) (qW jP (qJ qH (pv 1) qB (fun _ _ => rfl)) (qJ qH (pv 0) qB (fun _ _ => rfl)))) (qA (qW jP (qJ qH (pv 0) qB (fun _ _ => rfl)) (qJ qH (pv 1) qB (fun _ _ => rfl))) qC))))), ?_⟩
  try dsimp only [jN, qg]
  refine (qY rfl h1 at0 (qY rfl h2 at1 ⟨_, _, rfl, rfl, bp.mul bs, ?_⟩))
  refine (qY rfl h2 at0 (qY rfl h1 at1 ⟨_, _, rfl, rfl, br.mul bq, _, _, rfl, rfl, ?_⟩))
  refine (qY rfl h1 at1 (qY rfl h2 at1 ⟨_, _, rfl, rfl, bq.mul bs, ?_⟩))
  exact ⟨_, _, rfl, Int.mul_ne_zero hq hs, bq.prod bs, k⟩
def qEy (K : W.Frag) : Sp := fun vs H Q _ => ∃ (x : V) (p q : Int), vs = [x] ∧ Pr K H x p q ∧ q ≠ 0 ∧ q.natAbs < 2 ^ 8000 ∧ Q (.int (p.fdiv q)) H
theorem kG (T : Tx K mg a) : FnOk P w K mg base CX0 1 a.a_floor_of a.f_floor_of ["one"] (qEy K) := by
  refine T.d_floor_of.F.ok qFv (fun vs H Q E h => ?_) (fun cdv A outer s H vs Q E hr h => ?_)
  · obtain ⟨x, p, q, rfl, _⟩ := h
    rfl
  obtain ⟨x, p, q, rfl, ⟨z1, rfl, h1⟩, hq, bq, k⟩ := h
  refine ⟨_, (qI (qN (qW qr (qJ qH (pv 0) qB (fun _ _ => rfl)) (qJ qH (pv 0) qB (fun _ _ => rfl))))), ?_⟩
  try dsimp only [jN, qg]
  exact (qY rfl h1 at0 (qY rfl h1 at1 ⟨_, _, rfl, rfl, ⟨hq, bq⟩, k⟩))
theorem nz {j : Int} (h : j ≠ 0 := by decide) : j ≠ 0 := h
theorem cdB {i j : Int} (h0 : j ≠ 0) (h : j.natAbs < 18446744073709551616) : CDivB i j :=
  ⟨h0, Nat.lt_of_lt_of_le h (Nat.le_trans (by decide : 18446744073709551616 ≤ 2 ^ 64) (Nat.pow_le_pow_right (by decide) (by decide)))⟩
theorem cmR {i j : Int} (h1 : -(18446744073709551616 : Int) < j) (h2 : j < 18446744073709551616) : CMulB i j := .inl (.inr ⟨h1, h2⟩)
theorem cmL {i j : Int} (h1 : -(18446744073709551616 : Int) < i) (h2 : i < 18446744073709551616) : CMulB i j := .inl (.inl ⟨h1, h2⟩)
theorem at3 {x y z : V} {i : Int} (h0 : 0 ≤ i) (h1 : i < 3) : ∃ v, atI [x, y, z] i = some v ∧ (v = x ∨ v = y ∨ v = z) := by
  have : i = 0 ∨ i = 1 ∨ i = 2 := by omega
  rcases this with rfl | rfl | rfl
  · exact ⟨x, rfl, .inl rfl⟩
  · exact ⟨y, rfl, .inr (.inl rfl)⟩
  · exact ⟨z, rfl, .inr (.inr rfl)⟩
theorem at2 {x y : V} {i : Int} (h0 : 0 ≤ i) (h1 : i < 2) : ∃ v, atI [x, y] i = some v ∧ (v = x ∨ v = y) := by
  have : i = 0 ∨ i = 1 := by omega
  rcases this with rfl | rfl
  · exact ⟨x, rfl, .inl rfl⟩
  · exact ⟨y, rfl, .inr rfl⟩
theorem fm (i : Int) {j : Int} (h : 0 < j) : 0 ≤ i.fmod j ∧ i.fmod j < j := ⟨Int.fmod_nonneg_of_pos i h, Int.fmod_lt_of_pos i h⟩
theorem cpw {n : Nat} (h : n ≤ 1000000) : qO2 10 (n : Int) := ⟨by omega, by omega, by decide⟩
def Good (n : Nat) (p q : Int) : Prop := 0 < q ∧ Int.gcd p q = 1 ∧ p.natAbs < 2 ^ n ∧ q.natAbs < 2 ^ n
theorem Good.mono {n m : Nat} {p q : Int} (h : Good n p q) (l : n ≤ m) : Good m p q := ⟨h.1, h.2.1, Nat.lt_of_lt_of_le h.2.2.1 (Nat.pow_le_pow_right (by decide) l), Nat.lt_of_lt_of_le h.2.2.2 (Nat.pow_le_pow_right (by decide) l)⟩
theorem Sm.of200 {i : Int} (h : i.natAbs < 2 ^ 200) : Sm i := Nat.lt_of_lt_of_le h (Nat.pow_le_pow_right (by decide) (by decide))
def qFr (K : W.Frag) : Sp := fun vs H Q _ => ∃ (x y : V) (p q r s : Int), vs = [x, y] ∧ Pr K H x p q ∧ Pr K H y r s ∧ q ≠ 0 ∧ s ≠ 0 ∧ Sm p ∧ Sm q ∧ Sm r ∧ Sm s ∧ qJj H Q (zR (p * r) (q * s)) (xZ (p * r) (q * s))
theorem qEp (T : Tx K mg a) : FnOk P w K mg base CX0 3 a.a_times_of a.f_times_of ["one", "other"] (qFr K) := by
  refine T.d_times_of.F.ok qFc (fun vs H Q E h => ?_) (fun cdv A outer s H vs Q E hr h => ?_)
  · obtain ⟨x, y, p, q, r, s, rfl, _⟩ := h
    rfl
  obtain ⟨x, y, p, q, r, s', rfl, ⟨z1, rfl, h1⟩, ⟨z2, rfl, h2⟩, hq, hs, bp, bq, br, bs, k⟩ := h
  refine ⟨_, (qI (qN (qK T.d_fraction (xY T) hr rfl (qA (qW jP (qJ qH (pv 0) qB (fun _ _ => rfl)) (qJ qH (pv 1) qB (fun _ _ => rfl))) (qA (qW jP (qJ qH (pv 0) qB (fun _ _ => rfl)) (qJ qH (pv 1) qB (fun _ _ => rfl))) qC))))), ?_⟩
  try dsimp only [jN, qg]
  refine (qY rfl h1 at0 (qY rfl h2 at0 ⟨_, _, rfl, rfl, bp.mul br, ?_⟩))
  refine (qY rfl h1 at1 (qY rfl h2 at1 ⟨_, _, rfl, rfl, bq.mul bs, ?_⟩))
  exact ⟨_, _, rfl, Int.mul_ne_zero hq hs, bq.prod bs, k⟩
def qHk (K : W.Frag) : Sp := fun vs H Q _ => ∃ (x y : V) (p q r s : Int), vs = [x, y] ∧ Pr K H x p q ∧ Pr K H y r s ∧ q ≠ 0 ∧ s ≠ 0 ∧ Sm p ∧ Sm q ∧ Sm r ∧ Sm s ∧ qJj H Q (zR (p * s - r * q) (q * s)) (xZ (p * s - r * q) (q * s))
theorem vk (T : Tx K mg a) : FnOk P w K mg base CX0 3 a.a_less_by a.f_less_by ["one", "other"] (qHk K) := by
  refine T.d_less_by.F.ok qHh (fun vs H Q E h => ?_) (fun cdv A outer s H vs Q E hr h => ?_)
  · obtain ⟨x, y, p, q, r, s, rfl, _⟩ := h
    rfl
  obtain ⟨x, y, p, q, r, s', rfl, ⟨z1, rfl, h1⟩, ⟨z2, rfl, h2⟩, hq, hs, bp, bq, br, bs, k⟩ := h
  refine ⟨_, (qI (qN (qK T.d_fraction (xY T) hr rfl (qA (qW jM (qW jP (qJ qH (pv 0) qB (fun _ _ => rfl)) (qJ qH (pv 1) qB (fun _ _ => rfl))) (qW jP (qJ qH (pv 1) qB (fun _ _ => rfl)) (qJ qH (pv 0) qB (fun _ _ => rfl)))) (qA (qW jP (qJ qH (pv 0) qB (fun _ _ => rfl)) (qJ qH (pv 1) qB (fun _ _ => rfl))) qC))))), ?_⟩
  try dsimp only [jN, qg]
  refine (qY rfl h1 at0 (qY rfl h2 at1 ⟨_, _, rfl, rfl, bp.mul bs, ?_⟩))
  refine (qY rfl h2 at0 (qY rfl h1 at1 ⟨_, _, rfl, rfl, br.mul bq, _, _, rfl, rfl, ?_⟩))
  refine (qY rfl h1 at1 (qY rfl h2 at1 ⟨_, _, rfl, rfl, bq.mul bs, ?_⟩))
  exact ⟨_, _, rfl, Int.mul_ne_zero hq hs, bq.prod bs, k⟩
def qFa (K : W.Frag) : Sp := fun vs H Q _ => ∃ (x y : V) (p q r s : Int), vs = [x, y] ∧ Pr K H x p q ∧ Pr K H y r s ∧ q ≠ 0 ∧ r ≠ 0 ∧ Sm p ∧ Sm q ∧ Sm r ∧ Sm s ∧ qJj H Q (zR (p * s) (q * r)) (xZ (p * s) (q * r))
theorem wt (T : Tx K mg a) : FnOk P w K mg base CX0 3 a.a_quotient a.f_quotient ["one", "other"] (qFa K) := by
  refine T.d_quotient.F.ok qFg (fun vs H Q E h => ?_) (fun cdv A outer s H vs Q E hr h => ?_)
  · obtain ⟨x, y, p, q, r, s, rfl, _⟩ := h
    rfl
  obtain ⟨x, y, p, q, r, s', rfl, ⟨z1, rfl, h1⟩, ⟨z2, rfl, h2⟩, hq, hr', bp, bq, br, bs, k⟩ := h
  refine ⟨_, (qI (qN (qK T.d_fraction (xY T) hr rfl (qA (qW jP (qJ qH (pv 0) qB (fun _ _ => rfl)) (qJ qH (pv 1) qB (fun _ _ => rfl))) (qA (qW jP (qJ qH (pv 0) qB (fun _ _ => rfl)) (qJ qH (pv 1) qB (fun _ _ => rfl))) qC))))), ?_⟩
  try dsimp only [jN, qg]
  refine (qY rfl h1 at0 (qY rfl h2 at1 ⟨_, _, rfl, rfl, bp.mul bs, ?_⟩))
  refine (qY rfl h1 at1 (qY rfl h2 at0 ⟨_, _, rfl, rfl, bq.mul br, ?_⟩))
  exact ⟨_, _, rfl, Int.mul_ne_zero hq hr', bq.prod br, k⟩
def qC8 (K : W.Frag) : Sp := fun vs H Q _ => ∃ (x y : V) (p q r s : Int), vs = [x, y] ∧ Pr K H x p q ∧ Pr K H y r s ∧ Sm p ∧ Sm q ∧ Sm r ∧ Sm s ∧ Q (.bl (decide (p * s < r * q))) H
theorem qC2 (T : Tx K mg a) : FnOk P w K mg base CX0 1 a.a_is_before a.f_is_before ["one", "other"] (qC8 K) := by
  refine T.d_is_before.F.ok qEk (fun vs H Q E h => ?_) (fun cdv A outer s H vs Q E hr h => ?_)
  · obtain ⟨x, y, p, q, r, s, rfl, _⟩ := h
    rfl
  obtain ⟨x, y, p, q, r, s', rfl, ⟨z1, rfl, h1⟩, ⟨z2, rfl, h2⟩, bp, bq, br, bs, k⟩ := h
  refine ⟨_, (qI (qN (j1 z9 (qW jP (qJ qH (pv 0) qB (fun _ _ => rfl)) (qJ qH (pv 1) qB (fun _ _ => rfl))) (qW jP (qJ qH (pv 1) qB (fun _ _ => rfl)) (qJ qH (pv 0) qB (fun _ _ => rfl))) (qS _)))), ?_⟩
  try dsimp only [jN, qg]
  refine (qY rfl h1 at0 (qY rfl h2 at1 ⟨_, _, rfl, rfl, bp.mul bs, ?_⟩))
  exact (qY rfl h2 at0 (qY rfl h1 at1 ⟨_, _, rfl, rfl, br.mul bq, _, _, rfl, rfl, k⟩))
def qA3 : Sp := fun vs H Q _ => ∃ (z : Addr) (p q : Int), vs = [.ref z] ∧ H z = some (.tup [.int p, .int q]) ∧ 1 ≤ q ∧ Int.gcd p q = 1 ∧ Q (.bl true) H
theorem vE (T : Tx K mg a) : FnOk P w K mg base CX0 2 a.a_is_fraction a.f_is_fraction ["x"] qA3 := by
  refine T.d_is_fraction.F.ok qA9 (fun vs H Q E h => ?_) (fun cdv A outer s H vs Q E hr h => ?_)
  · obtain ⟨z, p, q, rfl, _⟩ := h
    rfl
  obtain ⟨z, p, q, rfl, hz, hq, hg, k⟩ := h
  have h1 : SqT K H z [.int p, .int q] := SqT.of hz
  refine ⟨_, (qD (qc (PW.pt (xM (jZ (q9 (qf xS rfl T.b_isinstance rfl (qA (pv 0) (qA (qGy rfl T.b_tuple rfl) qC))))) (jR (qL zT (qf j9 rfl T.b_len rfl (qA (pv 0) qC)) qB (qS _))))) (qI (qN zh)) qO)
      (qD (qc (PW.pt (xM (jZ (q9 (qK T.d_is_whole (qv T) hr rfl (qA (qJ qH (pv 0) qB (fun _ _ => rfl)) qC)))) (jR (jZ (q9 (qK T.d_is_whole (qv T) hr rfl (qA (qJ qH (pv 0) qB (fun _ _ => rfl)) qC))))))) (qI (qN zh)) qO)
      (qI (qN (vL (j1 qD1 (qJ qH (pv 0) qB (fun _ _ => rfl)) qB (qS _)) (wA (j1 jD (qK T.d_common_divisor (zp T) hr rfl (qA (qJ qH (pv 0) qB (fun _ _ => rfl)) (qA (qJ qH (pv 0) qB (fun _ _ => rfl)) qC))) qB (qS _)))))))), ?_⟩
  try dsimp only [jN, qg]
  refine ⟨_, rfl, _, _, _, true, rfl, .tup hz, ⟨_, .inl ⟨rfl, rfl⟩⟩, true, rfl, qo ?_⟩
  refine ⟨_, rfl, _, _, rfl, .inr h1, rfl, _, rfl, qo ?_⟩
  refine (qY rfl h1 at0 ⟨p, rfl, true, rfl, qo ?_⟩)
  refine (qY rfl h1 at1 ⟨q, rfl, true, rfl, qo ?_⟩)
  refine (qY rfl h1 at1 ⟨_, _, rfl, rfl, true, ?_, j5 ?_⟩)
  · have : decide (1 ≤ q) = true := decide_eq_true hq
    rw [← this]
  refine (qY rfl h1 at0 (qY rfl h1 at1 ⟨p, q, rfl, rfl, ?_⟩))
  rw [hg]
  exact k
structure Cp (K : W.Frag) (H : Hp) (v : V) (n : Str) (p q r s len : Int) : Prop where
  ex : ∃ z z1 z2, v = .ref z ∧ SqT K H z [.str "clip", .str n, .ref z1, .ref z2, .int len] ∧ SqT K H z1 [.int p, .int q] ∧ SqT K H z2 [.int r, .int s]
theorem Cp.same {H H' : Hp} {v : V} {n : Str} {p q r s len : Int} (e : Same H H') (h : Cp K H v n p q r s len) : Cp K H' v n p q r s len :=
  let ⟨z, z1, z2, h1, h2, h3, h4⟩ := h.ex; ⟨z, z1, z2, h1, L3.Same.tup e h2, L3.Same.tup e h3, L3.Same.tup e h4⟩
theorem qHm {x0 x1 x2 x3 x4 : V} : atI [x0, x1, x2, x3, x4] 2 = some x2 := rfl
theorem qAn {x0 x1 x2 x3 x4 : V} : atI [x0, x1, x2, x3, x4] 3 = some x3 := rfl
theorem qJ5 {p q r s k : Int} (hq : 0 < q) (hs : 0 < s) :
    zR (p * xZ (k * r) (1 * s) + zR (k * r) (1 * s) * q) (q * xZ (k * r) (1 * s)) = zR (p * s + k * r * q) (q * s) ∧
    xZ (p * xZ (k * r) (1 * s) + zR (k * r) (1 * s) * q) (q * xZ (k * r) (1 * s)) = xZ (p * s + k * r * q) (q * s) := by
  rw [Int.one_mul]
  have c := vS (k * r) s
  have n0 := zj (t := k * r) (b := s) (by omega)
  generalize zR (k * r) s = m at c ⊢
  generalize xZ (k * r) s = n at c n0 ⊢
  have b1 : q * s ≠ 0 := Int.mul_ne_zero (by omega) (by omega)
  have b2 : q * n ≠ 0 := Int.mul_ne_zero (by omega) (by omega)
  refine qGh b2 (zj b1) (qIa b1) ?_
  have e := vS (p * s + k * r * q) (q * s)
  generalize zR (p * s + k * r * q) (q * s) = u at e ⊢
  generalize xZ (p * s + k * r * q) (q * s) = v at e ⊢
  have h : (u * (q * n)) * s = ((p * n + m * q) * v) * s := by
    calc (u * (q * n)) * s = (u * (q * s)) * n := by rw [Int.mul_assoc, Int.mul_assoc, Int.mul_assoc, Int.mul_assoc, Int.mul_comm n s]
      _ = ((p * s + k * r * q) * v) * n := by rw [e]
      _ = (p * n * s + (k * r * n) * q) * v := by
        have h1 : (p * s + k * r * q) * v * n = (p * s + k * r * q) * n * v := by rw [Int.mul_assoc, Int.mul_comm v n, ← Int.mul_assoc]
        have h2 : (p * s + k * r * q) * n = p * n * s + k * r * n * q := by
          rw [Int.add_mul, Int.mul_assoc p s n, Int.mul_comm s n, ← Int.mul_assoc, Int.mul_assoc (k * r) q n, Int.mul_comm q n, ← Int.mul_assoc]
        rw [h1, h2]
      _ = (p * n * s + (m * s) * q) * v := by rw [← c]
      _ = ((p * n + m * q) * v) * s := by
        have h3 : p * n * s + m * s * q = (p * n + m * q) * s := by rw [Int.add_mul, Int.mul_assoc m s q, Int.mul_comm s q, ← Int.mul_assoc]
        rw [h3, Int.mul_assoc, Int.mul_comm s v, ← Int.mul_assoc]
  exact Int.eq_of_mul_eq_mul_right (by omega) h
def Sm2 (i : Int) : Prop := i.natAbs < 2 ^ 700
theorem Sm2.sm {i : Int} (h : Sm2 i) : Sm i := Nat.lt_of_lt_of_le h (Nat.pow_le_pow_right (by decide) (by decide))
theorem jW {i j : Int} {n m : Nat} (h1 : i.natAbs < 2 ^ n) (h2 : j.natAbs < 2 ^ m) : (i * j).natAbs < 2 ^ (n + m) := by
  rw [Int.natAbs_mul, Nat.pow_add]
  exact Nat.mul_lt_mul'' h1 h2
def qEr (K : W.Frag) : Sp := fun vs H Q _ => ∃ (v : V) (n : Str) (p q r s len k : Int), vs = [v, .int k] ∧ Cp K H v n p q r s len ∧ 0 < q ∧ 0 < s ∧ Sm2 p ∧ Sm2 q ∧ Sm2 r ∧ Sm2 s ∧ Sm2 k ∧
  ∀ z H', Same H H' → H' z = some (.tup [.int (zR (p * s + k * r * q) (q * s)), .int (xZ (p * s + k * r * q) (q * s))]) → Q (.ref z) H'
theorem zP (T : Tx K mg a) : FnOk P w K mg base CX0 4 a.a_place_at a.f_place_at ["clip", "k"] (qEr K) := by
  refine T.d_place_at.F.ok qE1 (fun vs H Q E h => ?_) (fun cdv A outer s H vs Q E hr h => ?_)
  · obtain ⟨v, n, p, q, r, s, len, k, rfl, _⟩ := h
    rfl
  obtain ⟨v, n, p, q, r, s', len, k, rfl, ⟨z, z1, z2, rfl, hc, h1, h2⟩, hq, hs, bp, bq, br, bs, bk, kk⟩ := h
  refine ⟨_, (qI (qN (qK T.d_sum_of (qIg T) hr rfl (qA (qJ qH (pv 0) qB (fun _ _ => rfl)) (qA (qK T.d_times_of (qEp T) hr rfl (qA (qK T.d_fraction (xY T) hr rfl (qA (pv 1) (qA qB qC))) (qA (qJ qH (pv 0) qB (fun _ _ => rfl)) qC))) qC))))), ?_⟩
  try dsimp only [jN, qg]
  refine ⟨_, rfl, z, _, _, _, rfl, rfl, hc, qHm, _, rfl, k, 1, rfl, by decide, Nat.lt_of_lt_of_le (m := 2 ^ 1) (by decide) (Nat.pow_le_pow_right (by decide) (by decide)), fun y hy => ?_⟩
  have s1 := qF hy (.tup [.int (zR k 1), .int (xZ k 1)])
  obtain ⟨l1, l2⟩ := qGb (p := k) (q := 1) (by decide) (Int.gcd_one_right ..)
  refine ⟨_, rfl, z, _, _, _, rfl, rfl, L3.Same.tup s1 hc, qAn, ?_⟩
  have one : Sm 1 := Nat.lt_of_lt_of_le (m := 2 ^ 1) (by decide) (Nat.pow_le_pow_right (by decide) (by decide))
  refine ⟨_, _, k, 1, r, s', rfl, ⟨y, rfl, ?_⟩, ⟨z2, rfl, L3.Same.tup s1 h2⟩, by decide, by omega, bk.sm, one, br.sm, bs.sm, fun x hx => ?_⟩
  · have e : SqT K (upd H y (.tup [.int (zR k 1), .int (xZ k 1)])) y [.int (zR k 1), .int (xZ k 1)] := SqT.of qE
    rw [l1, l2] at e ⊢
    exact e
  have s2 := s1.trans (qF hx (.tup [.int (zR (k * r) (1 * s')), .int (xZ (k * r) (1 * s'))]))
  have b1 : (1 * s') ≠ 0 := by omega
  have n0 := zj (t := k * r) b1
  have bm : Sm (zR (k * r) (1 * s')) := by
    refine Nat.lt_of_le_of_lt (qBq b1) (Nat.lt_of_lt_of_le (jW bk br) (Nat.pow_le_pow_right (by decide) (by decide)))
  have bn : Sm (xZ (k * r) (1 * s')) := by
    refine Nat.lt_of_le_of_lt (kc b1) ?_
    rw [Int.one_mul]
    exact bs.sm
  refine ⟨_, _, p, q, _, _, rfl, ⟨z1, rfl, L3.Same.tup s2 h1⟩, ⟨x, rfl, SqT.of qE⟩, by omega, by omega, bp.sm, bq.sm, bm, bn, fun u hu => ?_⟩
  obtain ⟨e1, e2⟩ := qJ5 (p := p) (r := r) (k := k) hq hs
  refine kk u _ (s2.trans (qF hu _)) ?_
  rw [qE, e1, e2]
theorem qAe {t b : Int} (hb : 0 < b) : (zR t b).fdiv (xZ t b) = t.fdiv b := by
  have e1 := qJs t b
  have e2 := qIh t b
  have sp : 0 < sg t b := by
    have g := vm (t := t) (b := b) (by omega)
    unfold sg
    rw [if_neg (by omega)]
    omega
  have q0 := zj (t := t) (b := b) (by omega)
  obtain ⟨h1, h2⟩ := j7 (p := zR t b) q0
  obtain ⟨h3, h4⟩ := j7 (p := t) hb
  generalize (zR t b).fdiv (xZ t b) = f at h1 h2 ⊢
  generalize t.fdiv b = g at h3 h4 ⊢
  generalize zR t b = u at e1 h1 h2
  generalize xZ t b = v at e2 h1 h2 q0
  generalize sg t b = w at e1 e2 sp
  subst e1 e2
  have k1 : g * v ≤ u := by
    rw [← Int.mul_assoc] at h3
    exact Int.le_of_mul_le_mul_right h3 sp
  have k2 : u < (g + 1) * v := by
    rw [← Int.mul_assoc] at h4
    exact Int.lt_of_mul_lt_mul_right h4 (by omega)
  have k3 : f < g + 1 := Int.lt_of_mul_lt_mul_right (a := v) (by omega) (by omega)
  have k4 : g < f + 1 := Int.lt_of_mul_lt_mul_right (a := v) (by omega) (by omega)
  omega
def qCh (K : W.Frag) : Sp := fun vs H Q _ => ∃ (v : V) (n : Str) (p q r s len k : Int), vs = [v, .int k] ∧ Cp K H v n p q r s len ∧ 0 < q ∧ 0 < s ∧ Sm2 p ∧ Sm2 q ∧ Sm2 r ∧ Sm2 s ∧ Sm2 k ∧
  ∀ H', Same H H' → Q (.int ((p * s + k * r * q).fdiv (q * s))) H'
theorem vH (T : Tx K mg a) : FnOk P w K mg base CX0 5 a.a_picture_at a.f_picture_at ["clip", "k"] (qCh K) := by
  refine T.d_picture_at.F.ok qB0 (fun vs H Q E h => ?_) (fun cdv A outer s H vs Q E hr h => ?_)
  · obtain ⟨v, n, p, q, r, s, len, k, rfl, _⟩ := h
    rfl
  obtain ⟨v, n, p, q, r, s', len, k, rfl, hc, hq, hs, bp, bq, br, bs, bk, kk⟩ := h
  refine ⟨_, (qI (qN (qK T.d_floor_of (kG T) hr rfl (qA (qK T.d_place_at (zP T) hr rfl (qA (pv 0) (qA (pv 1) qC))) qC)))), ?_⟩
  try dsimp only [jN, qg]
  refine ⟨_, rfl, _, rfl, v, n, p, q, r, s', len, k, rfl, hc, hq, hs, bp, bq, br, bs, bk, fun z H' sH hz => ?_⟩
  have b1 : q * s' ≠ 0 := Int.mul_ne_zero (by omega) (by omega)
  refine ⟨_, _, _, rfl, ⟨z, rfl, SqT.of hz⟩, ?_, ?_, ?_⟩
  · have := zj (t := p * s' + k * r * q) b1; omega
  · exact Nat.lt_of_le_of_lt (kc b1) (Nat.lt_of_lt_of_le (jW bq bs) (Nat.pow_le_pow_right (by decide) (by decide)))
  · rw [qAe (Int.mul_pos hq hs)]
    exact kk H' sH
theorem qIc {x0 x1 x2 x3 x4 : V} : atI [x0, x1, x2, x3, x4] 0 = some x0 := rfl
theorem qB3 {x0 x1 x2 x3 x4 : V} : atI [x0, x1, x2, x3, x4] 1 = some x1 := rfl
theorem wI {x0 x1 x2 x3 x4 : V} : atI [x0, x1, x2, x3, x4] 4 = some x4 := rfl
theorem eq2 (a b c d : Int) : qBv [.int a, .int b] [.int c, .int d] = (a == c && b == d) := by
  simp [qBv, eqV, List.range_succ]
structure Bn (n : Nat) (p q r s : Int) : Prop where
  q0 : 0 < q
  s0 : 0 < s
  bp : p.natAbs < 2 ^ n
  bq : q.natAbs < 2 ^ n
  br : r.natAbs < 2 ^ n
  bs : s.natAbs < 2 ^ n
theorem xo {i : Int} {n m : Nat} (h : i.natAbs < 2 ^ n) (l : n ≤ m := by decide) : i.natAbs < 2 ^ m := Nat.lt_of_lt_of_le h (Nat.pow_le_pow_right (by decide) l)
theorem Bn.mono {n m : Nat} {p q r s : Int} (h : Bn n p q r s) (l : n ≤ m := by decide) : Bn m p q r s := ⟨h.q0, h.s0, xo h.bp l, xo h.bq l, xo h.br l, xo h.bs l⟩
theorem Bn.part {p q r s k : Int} (h : Bn 110 p q r s) (hk : k.natAbs < 2 ^ 30) : Bn 340 (plP p q r s k) (plQ p q r s k) r s := by
  obtain ⟨hq, hs, bp, bq, br, bs⟩ := h
  refine ⟨qMy hq hs, hs, Nat.lt_of_le_of_lt (qMh hq hs) ?_, Nat.lt_of_le_of_lt (qMg hq hs) (xo (jW bq bs)), xo br, xo bs⟩
  have h1 := jW bp bs
  have h2 := jW (jW hk br) bq
  have e : (2 : Nat) ^ (110 + 110) + 2 ^ (30 + 110 + 110) ≤ 2 ^ 340 := by decide
  omega
theorem qIz {i : Int} {n : Nat} (h : i.natAbs < 2 ^ n) (l : n ≤ 8000 := by decide) : i.natAbs < 2 ^ 8000 := xo h l
def qAc (K : W.Frag) : Sp := fun vs H Q _ => ∃ (z : Addr) (ns : List Int) (i : Int), vs = [.ref z, .int i] ∧ SqL K H z (ns.map V.int) ∧ ns.length ≤ 63 ∧ 0 ≤ i ∧ ∀ c : Int, Q (.int c) H
theorem wX (T : Tx K mg a) : FnOk P w K mg base CX0 1 a.a__law_cell_at a.f__law_cell_at ["_law_script", "_law_k"] (qAc K) := by
  refine T.d__law_cell_at.F.ok wW (fun vs H Q E h => ?_) (fun cdv A outer s H vs Q E hr h => ?_)
  · obtain ⟨z, ns, i, rfl, _⟩ := h
    rfl
  obtain ⟨z, ns, i, rfl, hS, hl, h0, k⟩ := h
  refine ⟨_, (qD (qc (qL z9 (pv 1) (qf j9 rfl T.b_len rfl (qA (pv 0) qC)) (qS _)) (qI (qN (qJ qm (pv 0) (pv 1) (fun _ _ => rfl)))) qO)
      (qI (qN qB))), ?_⟩
  try dsimp only [jN, qg]
  have hml : (ns.map V.int).length = ns.length := List.length_map _
  refine ⟨_, rfl, _, rfl, z, _, rfl, .inl hS, _, _, rfl, rfl, _, rfl, ?_⟩
  refine xN (fun c => ?_) (fun _ => ?_)
  · have c' : i < ((ns.map V.int).length : Int) := of_decide_eq_true c
    rw [hml] at c'
    have hi : i.toNat < ns.length := by omega
    have e : i = ((i.toNat : Nat) : Int) := by omega
    have hat : atI (ns.map V.int) ((i.toNat : Nat) : Int) = some (.int ns[i.toNat]) := qq (by rw [List.getElem?_map, List.getElem?_eq_getElem hi]; rfl)
    rw [← e] at hat
    exact ⟨_, rfl, _, rfl, z, _, _, .int ns[i.toNat], rfl, rfl, hS, hat, k _⟩
  · exact k 0
def thB (i m : Int) : Bool := decide (0 ≤ i) && decide (i < m)
theorem qJf {N D m : Int} (hD : 0 < D) : thB (N.fdiv D) m = true ↔ InR N D m := by
  rw [qLj hD]
  simp [thB]
def qEt : Sp := fun vs H Q _ => ∃ i m : Int, vs = [.int i, .int m] ∧ Q (.bl (thB i m)) H
theorem vF (T : Tx K mg a) : FnOk P w K mg base CX0 1 a.a_is_there a.f_is_there ["picture", "many"] qEt := by
  refine T.d_is_there.F.ok qEz (fun vs H Q E h => ?_) (fun cdv A outer s H vs Q E hr h => ?_)
  · obtain ⟨i, m, rfl, _⟩ := h
    rfl
  obtain ⟨i, m, rfl, q⟩ := h
  refine ⟨_, (qI (qN (vL (j1 qKn qB (pv 0) (qS _)) (wA (j1 z9 (pv 0) (pv 1) (qS _)))))), ?_⟩
  try dsimp only [jN, qg]
  refine ⟨_, rfl, _, _, rfl, rfl, _, rfl, ?_⟩
  unfold thB at q
  by_cases h0 : 0 ≤ i
  · rw [decide_eq_true h0] at q ⊢
    exact j5 ⟨_, rfl, _, rfl, _, _, rfl, rfl, q⟩
  · rw [decide_eq_false h0] at q ⊢
    exact qo q
def qN0 (c : Nat) : Bool := !(Builtin.Str.occurrences "abcdefghijklmnopqrstuvwxyz" ⟨#[c]⟩ 0 ("abcdefghijklmnopqrstuvwxyz" : Str).length 1).isEmpty
def qAq (z : Str) : Bool := decide (1 ≤ z.length ∧ z.length ≤ 8) && z.cps.toList.all qN0
def qHg : Sp := fun vs H Q _ => ∃ z : Str, vs = [.str z] ∧ z.length ≤ 1000 ∧ ∀ H', Same H H' → Q (.bl (qAq z)) H'
theorem qBe (T : Tx K mg a) : FnOk P w K mg base CX0 1 a.a_is_name a.f_is_name ["thing"] qHg := by
  refine T.d_is_name.F.ok qG9 (fun vs H Q E h => ?_) (fun cdv A outer s H vs Q E hr h => ?_)
  · obtain ⟨z, rfl, _⟩ := h
    rfl
  obtain ⟨z, rfl, hz, kk⟩ := h
  refine ⟨_, (qD (qc (jZ (q9 (qf xS rfl T.b_isinstance rfl (qA (pv 0) (qA (qGy rfl T.b_str rfl) qC))))) (qI (qN zh)) qO)
      (qD (qc (PW.pt (xM (qL z9 (qf vx rfl T.b_len rfl (qA (pv 0) qC)) qB (qS _)) (jR (qL qA5 (qf vx rfl T.b_len rfl (qA (pv 0) qC)) (xO (v := .int 8) rfl T.g_LONGEST_NAME ⟨_, rfl⟩) (qS _))))) (qI (qN zh)) qO)
      (qI (qN (qf (qI1 rfl) rfl T.b_all rfl (qA (ve [] [] rfl (qMt (pv 0)) (fun _ _ _ _ => (j1 qNf (pv 0) (xO (v := .str "abcdefghijklmnopqrstuvwxyz") rfl T.g_LETTERS ⟨_, rfl⟩) rfl))) qC)))))), ?_⟩
  try dsimp only [jN, qg]
  have hsz : z.length ≤ sizeLine := Nat.le_of_lt (qd hz)
  refine ⟨_, rfl, _, _, _, true, rfl, .str z, ⟨_, .inl ⟨rfl, by kernel_rfl⟩⟩, true, rfl, qo ?_⟩
  refine ⟨_, rfl, z, rfl, hsz, _, _, rfl, rfl, _, rfl, ?_⟩
  by_cases h1 : (z.length : Int) < 1
  · rw [decide_eq_true h1]
    have e : qAq z = false := by unfold qAq; rw [decide_eq_false (by omega)]; rfl
    have := kk H (Same.refl _)
    rw [e] at this
    exact j5 (j5 this)
  rw [decide_eq_false h1]
  refine qo ⟨_, rfl, z, rfl, hsz, _, _, rfl, rfl, _, rfl, ?_⟩
  by_cases h2 : (8 : Int) < (z.length : Int)
  · rw [decide_eq_true h2]
    have e : qAq z = false := by unfold qAq; rw [decide_eq_false (by omega)]; rfl
    have := kk H (Same.refl _)
    rw [e] at this
    exact j5 this
  rw [decide_eq_false h2]
  refine qo ?_
  refine ⟨_, rfl, z, rfl, qJu (fun i acc H' => H' = H ∧ acc = ((z.cps.toList.take i).map qN0).map V.bl) ⟨rfl, rfl⟩ ?_ ?_ ?_⟩
  · rintro i acc H' hi ⟨_, rfl⟩
    rw [List.length_map, List.length_map, List.length_take]
    exact qd (by have : z.cps.size = z.length := rfl; omega)
  · rintro i c acc H' hi hc ⟨rfl, rfl⟩
    refine ⟨_, rfl, _, _, rfl, rfl, Nxt.mk hi ⟨rfl, ?_⟩⟩
    have hc' : z.cps.toList[i]? = some c := by simpa using hc
    rw [List.take_succ, hc', List.map_append, List.map_append]
    rfl
  · rintro acc H' ⟨rfl, rfl⟩ D hD
    refine ⟨D, _, rfl, SqL.of qE, ?_⟩
    have e : ((z.cps.toList.take z.cps.size).map qN0).all id = qAq z := by
      rw [List.take_of_length_le (by simp)]
      unfold qAq
      rw [decide_eq_true (by omega : 1 ≤ z.length ∧ z.length ≤ 8), Bool.true_and, List.all_map]
      rfl
    rw [e]
    exact kk _ (qF hD _)
theorem qB9 {c d : Int} (hd : 0 < d) (g : Int.gcd c d = 1) : zR (0 * d - c * 1) (1 * d) = -c ∧ xZ (0 * d - c * 1) (1 * d) = d := by
  refine qGh (by omega) hd (by rw [Int.neg_gcd]; exact g) ?_
  grind
def wB (K : W.Frag) : Sp := fun vs H Q _ => ∃ (x y : V) (A B c d m : Int), vs = [x, y, .int m] ∧ Pr K H x A B ∧ Pr K H y c d ∧ 0 < B ∧ 0 < d ∧ Int.gcd c d = 1 ∧ A.natAbs < 2 ^ 700 ∧ B.natAbs < 2 ^ 700 ∧ c.natAbs < 2 ^ 700 ∧ d.natAbs < 2 ^ 700 ∧ m.natAbs < 2 ^ 700 ∧
  ∀ H', Same H H' → Q (.int (qAu (A * d) (c * B) (B * d) m)) H'
theorem kK (T : Tx K mg a) : FnOk P w K mg base CX0 4 a.a_moments_there a.f_moments_there ["first", "step", "many"] (wB K) := by
  refine T.d_moments_there.F.ok sc_moments_there (fun vs H Q E h => ?_) (fun cdv A outer s H vs Q E hr h => ?_)
  · obtain ⟨x, y, A, B, c, d, m, rfl, _⟩ := h
    rfl
  obtain ⟨x, y, A', B, c, d, m, rfl, ⟨z1, rfl, h1⟩, ⟨z2, rfl, h2⟩, hB, hd, hg, bA, bB, bc, bd, bm, kk⟩ := h
  have hu := hr.units0
  refine ⟨_, (qD (qc (qL (qK0 hu) (pv 1) (xO (v := .ref a.n_NOUGHT) rfl T.g_NOUGHT rfl) (qS _)) (qI (qN (xO (v := .int 1000000) rfl T.g_MOST_ROOM ⟨_, rfl⟩))) qO)
      (qD (qc (jZ (q9 (qK T.d_is_there (vF T) hr rfl (qA (qK T.d_floor_of (kG T) hr rfl (qA (pv 0) qC)) (qA (pv 2) qC))))) (qI (qN qB)) qO)
      (qD (zZ (qc (q9 (qK T.d_is_before (qC2 T) hr rfl (qA (pv 1) (qA (xO (v := .ref a.n_NOUGHT) rfl T.g_NOUGHT rfl) qC)))) (qI (qU (i := 3) sc_moments_there.nd rfl (Or.inl rfl) (qW qj (qK T.d_floor_of (kG T) hr rfl (qA (qK T.d_quotient (wt T) hr rfl (qA (pv 0) (qA (qK T.d_less_by (vk T) hr rfl (qA (xO (v := .ref a.n_NOUGHT) rfl T.g_NOUGHT rfl) (qA (pv 1) qC))) qC))) qC)) qB))) (qI (qU (i := 3) sc_moments_there.nd rfl (Or.inl rfl) (zM jn (qK T.d_floor_of (kG T) hr rfl (qA (qK T.d_quotient (wt T) hr rfl (qA (qK T.d_less_by (vk T) hr rfl (qA (pv 0) (qA (qK T.d_fraction (xY T) hr rfl (qA (pv 2) (qA qB qC))) qC))) (qA (pv 1) qC))) qC)))))))
      (qI (qN (qf (zN rfl) rfl T.b_min rfl (qA (pv 3) (qA (xO (v := .int 1000000) rfl T.g_MOST_ROOM ⟨_, rfl⟩) qC)))))))), ?_⟩
  try dsimp only [jN, qg]
  have S : ∀ {i : Int}, i.natAbs < 2 ^ 700 → Sm i := fun h => xo h
  have one : Sm 1 := Sm.of200 (by decide)
  have nul : Sm 0 := Sm.of200 (by decide)
  have hBd := Int.mul_pos hB hd
  have H1 : ∀ {H' : Hp}, Same H H' → SqT K H' z1 [.int A', .int B] := fun e => L3.Same.tup e h1
  have H2 : ∀ {H' : Hp}, Same H H' → SqT K H' z2 [.int c, .int d] := fun e => L3.Same.tup e h2
  refine ⟨_, rfl, _, _, _, _, rfl, rfl, h2, T.sq_NOUGHT _, rfl, rfl, _, rfl, ?_⟩
  rw [if_neg (by decide : ¬ (false = true)), eq2]
  by_cases hc : c = 0
  · have d1 : d = 1 := by
      subst hc
      rw [Int.gcd_zero_left] at hg
      omega
    rw [show (c == 0 && d == 1) = true by simp [hc, d1]]
    refine j5 ?_
    have := kk H (Same.refl _)
    unfold qAu at this
    rw [if_pos (by rw [hc, Int.zero_mul])] at this
    exact this
  rw [show (c == 0 && d == 1) = false by simp [hc]]
  refine qo ?_
  have hcB : ¬ (c * B = 0) := Int.mul_ne_zero hc (by omega)
  have ef : A'.fdiv B = (A' * d).fdiv (B * d) := qBk hB hBd (by grind)
  refine ⟨_, rfl, _, A', B, rfl, ⟨z1, rfl, h1⟩, by omega, qIz bB, _, rfl, _, _, rfl, _, rfl, ?_⟩
  by_cases ht : 0 ≤ A'.fdiv B ∧ A'.fdiv B < m
  rotate_left
  · rw [show thB (A'.fdiv B) m = false by unfold thB; rw [Bool.eq_false_iff]; simpa using ht]
    refine j5 ?_
    have := kk H (Same.refl _)
    unfold qAu at this
    rw [if_neg hcB, if_pos (by rw [← ef]; exact ht)] at this
    exact this
  rw [show thB (A'.fdiv B) m = true by simp [thB, ht]]
  refine qo ?_
  have res : ∀ H', Same H H' → Q (.int (if 1000000 < (if c * B < 0 then (A' * d).fdiv (-(c * B)) + 1 else -((A' * d - m * (B * d)).fdiv (c * B))) then 1000000 else (if c * B < 0 then (A' * d).fdiv (-(c * B)) + 1 else -((A' * d - m * (B * d)).fdiv (c * B))))) H' := fun H' e => by
    have := kk H' e
    unfold qAu at this
    rw [if_neg hcB, if_neg (by rw [← ef]; simpa using ht)] at this
    exact this
  generalize hgg : (if c * B < 0 then (A' * d).fdiv (-(c * B)) + 1 else -((A' * d - m * (B * d)).fdiv (c * B))) = g at res
  refine ⟨fun σ' H' => σ' = [some (.ref z1), some (.ref z2), some (.int m), some (.int g)] ∧ Same H H', ?_, ?_⟩
  · refine ⟨_, rfl, _, _, c, d, 0, 1, rfl, ⟨z2, rfl, h2⟩, ⟨_, rfl, T.sq_NOUGHT _⟩, S bc, S bd, nul, one, _, rfl, ?_⟩
    by_cases hn : c * 1 < 0 * d
    · rw [decide_eq_true hn]
      refine j5 ?_
      have c0 : c < 0 := by omega
      refine ⟨_, rfl, _, rfl, _, _, 0, 1, c, d, rfl, ⟨_, rfl, T.sq_NOUGHT _⟩, ⟨z2, rfl, h2⟩, by decide, by omega, nul, one, S bc, S bd, fun u hu' => ?_⟩
      rw [(qB9 hd hg).1, (qB9 hd hg).2]
      have w1 := qF hu' (.tup [.int (-c), .int d])
      have bnc : (-c).natAbs < 2 ^ 700 := by rw [Int.natAbs_neg]; exact bc
      have hpos : 0 < B * (-c) := Int.mul_pos hB (by omega)
      refine ⟨_, _, A', B, -c, d, rfl, ⟨z1, rfl, H1 w1⟩, ⟨u, rfl, SqT.of qE⟩, by omega, by omega, S bA, S bB, S bnc, S bd, fun v hv => ?_⟩
      have w2 := w1.trans (qF hv (.tup [.int (zR (A' * d) (B * (-c))), .int (xZ (A' * d) (B * (-c)))]))
      have lq := zj (t := A' * d) (b := B * (-c)) (by omega)
      refine ⟨_, _, _, rfl, ⟨v, rfl, SqT.of qE⟩, by omega, Nat.lt_of_le_of_lt (kc (by omega)) (qIz (jW bB bnc)), ?_⟩
      rw [qAe hpos]
      refine ⟨_, _, rfl, rfl, ?_, w2⟩
      have e : g = (A' * d).fdiv (B * -c) + 1 := by
        rw [← hgg, if_pos (by have := Int.mul_neg_of_neg_of_pos c0 hB; exact this)]
        rw [show -(c * B) = B * -c by grind]
      rw [e]
      rfl
    · rw [decide_eq_false hn]
      refine qo ?_
      have c0 : 0 < c := by omega
      obtain ⟨l1, l2⟩ := qGb (p := m) (q := 1) (by decide) (Int.gcd_one_right ..)
      refine ⟨_, rfl, _, rfl, m, 1, rfl, by decide, qIz (n := 1) (by decide), fun u hu' => ?_⟩
      rw [l1, l2]
      have w1 := qF hu' (.tup [.int m, .int 1])
      refine ⟨_, _, A', B, m, 1, rfl, ⟨z1, rfl, H1 w1⟩, ⟨u, rfl, SqT.of qE⟩, by omega, by decide, S bA, S bB, S bm, one, fun v hv => ?_⟩
      have hb1 : B * 1 ≠ 0 := by omega
      have cr := vS (A' * 1 - m * B) (B * 1)
      have lq := zj (t := A' * 1 - m * B) hb1
      have aP := qBq (t := A' * 1 - m * B) hb1
      have aQ := kc (t := A' * 1 - m * B) hb1
      have w2 := w1.trans (qF hv (.tup [.int (zR (A' * 1 - m * B) (B * 1)), .int (xZ (A' * 1 - m * B) (B * 1))]))
      have ev := qE (H := upd H u (.tup [.int m, .int 1])) (a := v) (o := .tup [.int (zR (A' * 1 - m * B) (B * 1)), .int (xZ (A' * 1 - m * B) (B * 1))])
      generalize upd (upd H u (.tup [.int m, .int 1])) v (.tup [.int (zR (A' * 1 - m * B) (B * 1)), .int (xZ (A' * 1 - m * B) (B * 1))]) = H3 at w2 ev ⊢
      generalize zR (A' * 1 - m * B) (B * 1) = P' at cr aP ev ⊢
      generalize xZ (A' * 1 - m * B) (B * 1) = Q' at cr aQ lq ev ⊢
      have sP : Sm P' := by
        have t := jW bm bB
        have : (A' * 1 - m * B).natAbs < 2 ^ 1500 := by
          have e : (2 : Nat) ^ 700 + 2 ^ (700 + 700) ≤ 2 ^ 1500 := by decide
          omega
        exact Nat.lt_of_le_of_lt aP (xo this)
      have bQ : Q'.natAbs < 2 ^ 700 := by rw [Int.mul_one] at aQ; omega
      refine ⟨_, rfl, _, _, P', Q', c, d, rfl, ⟨v, rfl, SqT.of ev⟩, ⟨z2, rfl, H2 w2⟩, by omega, hc, sP, S bQ, S bc, S bd, fun x hx => ?_⟩
      have hpos : 0 < Q' * c := Int.mul_pos lq c0
      have w3 := w2.trans (qF hx (.tup [.int (zR (P' * d) (Q' * c)), .int (xZ (P' * d) (Q' * c))]))
      have lq2 := zj (t := P' * d) (b := Q' * c) (by omega)
      refine ⟨_, _, _, rfl, ⟨x, rfl, SqT.of qE⟩, by omega, Nat.lt_of_le_of_lt (kc (by omega)) (qIz (jW bQ bc)), ?_⟩
      rw [qAe hpos]
      refine ⟨_, rfl, ?_, w3⟩
      have e : g = -(P' * d).fdiv (Q' * c) := by
        have hcB' := Int.mul_pos c0 hB
        rw [← hgg, if_neg (by omega)]
        rw [qBk hcB' hpos (by grind : (A' * d - m * (B * d)) * (Q' * c) = P' * d * (c * B))]
      rw [e]
      rfl
  rintro σ' H' ⟨rfl, sH⟩
  exact ⟨_, rfl, _, _, rfl, res H' sH⟩
theorem kB {H H' : Hp} (e : Same H H') {a : Addr} {u : HO} (h : Rd H a u) : Rd H' a u := by
  rcases h with h | ⟨o, h⟩
  · exact .inl (e _ _ h)
  · exact .inr ⟨o, e _ _ h⟩
def Reel (H : Hp) (rd : Addr) (n : Str) (m : Int) : Prop := ∃ kvs, Rd H rd (.dK kvs) ∧ qE3 kvs (Sum.inr n) = some (.int m)
theorem Reel.same {H H' : Hp} {rd : Addr} {n : Str} {m : Int} (e : Same H H') (h : Reel H rd n m) : Reel H' rd n m := let ⟨k, h1, h2⟩ := h; ⟨k, kB e h1, h2⟩
theorem Reel.get {H : Hp} {rd : Addr} {n : Str} {m : Int} (h : Reel H rd n m) : DGet H rd (.str n) (some (.int m)) := let ⟨k, h1, h2⟩ := h; .inl ⟨k, Sum.inr n, h1, rfl, h2.symm⟩
def Vk (p q r s k : Int) : Int := p * s + k * r * q
structure Ch (H : Hp) (z : Addr) (n : Str) (p q r s len : Int) : Prop where
  ex : ∃ z1 z2, H z = some (.tup [.str "clip", .str n, .ref z1, .ref z2, .int len]) ∧ H z1 = some (.tup [.int p, .int q]) ∧ H z2 = some (.tup [.int r, .int s])
theorem Ch.same {H H' : Hp} {z : Addr} {n : Str} {p q r s len : Int} (e : Same H H') (h : Ch H z n p q r s len) : Ch H' z n p q r s len := let ⟨z1, z2, h1, h2, h3⟩ := h.ex; ⟨z1, z2, e _ _ h1, e _ _ h2, e _ _ h3⟩
theorem Ch.cp {H : Hp} {z : Addr} {n : Str} {p q r s len : Int} (h : Ch H z n p q r s len) : Cp K H (.ref z) n p q r s len := let ⟨z1, z2, h1, h2, h3⟩ := h.ex; ⟨z, z1, z2, rfl, SqT.of h1, SqT.of h2, SqT.of h3⟩
def qCw (K : W.Frag) : Sp := fun vs H Q _ => ∃ (v : V) (n : Str) (p q r s len m : Int) (rd : Addr), vs = [v, .ref rd] ∧ Cp K H v n p q r s len ∧ Good 110 p q ∧ Good 110 r s ∧ Reel H rd n m ∧ m.natAbs < 2 ^ 700 ∧
  ∀ H', Same H H' → Q (.int (qAu (plP p q r s (-1) * s) (-1 * r * plQ p q r s (-1)) (plQ p q r s (-1) * s) m)) H'
theorem kT (T : Tx K mg a) : FnOk P w K mg base CX0 5 a.a_head_room a.f_head_room ["clip", "reels"] (qCw K) := by
  refine T.d_head_room.F.ok qDh (fun vs H Q E h => ?_) (fun cdv A outer s H vs Q E hr h => ?_)
  · obtain ⟨v, n, p, q, r, s, len, m, rd, rfl, _⟩ := h
    rfl
  obtain ⟨v, n, p, q, r, s', len, m, rd, rfl, hc, g1, g2, hrd, bm, kk⟩ := h
  have hu1 := qIe hr
  refine ⟨_, (qI (qN (qK T.d_moments_there (kK T) hr rfl (qA (qK T.d_place_at (zP T) hr rfl (qA (pv 0) (qA (zM jn qB) qC))) (qA (qK T.d_less_by (vk T) hr rfl (qA (xO (v := .ref a.n_NOUGHT) rfl T.g_NOUGHT rfl) (qA (qJ qH (pv 0) qB (fun _ _ => rfl)) qC))) (qA (qEu hu1 (pv 1) (qJ qH (pv 0) qB (fun _ _ => rfl)) (fun _ _ => rfl)) qC)))))), ?_⟩
  try dsimp only [jN, qg]
  have hb : Bn 110 p q r s' := ⟨g1.1, g2.1, g1.2.2.1, g1.2.2.2, g2.2.2.1, g2.2.2.2⟩
  have hb7 := hb.mono (m := 700)
  have hp := (hb.part (k := -1) (by decide)).mono (m := 700)
  refine ⟨_, rfl, _, rfl, v, n, p, q, r, s', len, -1, rfl, hc, hb7.q0, hb7.s0, hb7.bp, hb7.bq, hb7.br, hb7.bs, xo (n := 30) (by decide), fun y H1 s1 e1 => ?_⟩
  obtain ⟨z, z1, z2, e, h0, h1, h2⟩ := (hc.same s1).ex
  subst e
  have S : ∀ {i : Int}, i.natAbs < 2 ^ 700 → Sm i := fun h => xo h
  refine (qY rfl h0 qAn ?_)
  refine ⟨_, _, 0, 1, r, s', rfl, ⟨_, rfl, T.sq_NOUGHT _⟩, ⟨z2, rfl, h2⟩, by decide, by have := hb.s0; omega, Sm.of200 (by decide), Sm.of200 (by decide), S hb7.br, S hb7.bs, fun u hu' => ?_⟩
  rw [(qB9 hb.s0 g2.2.1).1, (qB9 hb.s0 g2.2.1).2]
  have w1 := qF hu' (.tup [.int (-r), .int s'])
  refine ⟨_, rfl, _, rfl, z, _, _, _, rfl, rfl, L3.Same.tup w1 h0, qB3, rd, _, rfl, (hrd.same (s1.trans w1)).get, ?_⟩
  refine ⟨_, _, _, _, -r, s', m, rfl, ⟨y, rfl, SqT.of (w1 _ _ e1)⟩, ⟨u, rfl, SqT.of qE⟩, hp.q0, hb.s0, by rw [Int.neg_gcd]; exact g2.2.1, hp.bp, hp.bq, by rw [Int.natAbs_neg]; exact hb7.br, hb7.bs, bm, fun H' sH => ?_⟩
  have := kk H' (s1.trans (w1.trans sH))
  rw [show -1 * r * plQ p q r s' (-1) = -r * plQ p q r s' (-1) by grind] at this
  exact this
def qEa (K : W.Frag) : Sp := fun vs H Q _ => ∃ (v : V) (n : Str) (p q r s len m : Int) (rd : Addr), vs = [v, .ref rd] ∧ Cp K H v n p q r s len ∧ Good 110 p q ∧ Good 110 r s ∧ len.natAbs < 2 ^ 30 ∧ Reel H rd n m ∧ m.natAbs < 2 ^ 700 ∧
  ∀ H', Same H H' → Q (.int (qAu (plP p q r s len * s) (1 * r * plQ p q r s len) (plQ p q r s len * s) m)) H'
theorem kL (T : Tx K mg a) : FnOk P w K mg base CX0 5 a.a_tail_room a.f_tail_room ["clip", "reels"] (qEa K) := by
  refine T.d_tail_room.F.ok qD4 (fun vs H Q E h => ?_) (fun cdv A outer s H vs Q E hr h => ?_)
  · obtain ⟨v, n, p, q, r, s, len, m, rd, rfl, _⟩ := h
    rfl
  obtain ⟨v, n, p, q, r, s', len, m, rd, rfl, hc, g1, g2, bl, hrd, bm, kk⟩ := h
  have hu1 := qIe hr
  refine ⟨_, (qI (qN (qK T.d_moments_there (kK T) hr rfl (qA (qK T.d_place_at (zP T) hr rfl (qA (pv 0) (qA (qJ qH (pv 0) qB (fun _ _ => rfl)) qC))) (qA (qJ qH (pv 0) qB (fun _ _ => rfl)) (qA (qEu hu1 (pv 1) (qJ qH (pv 0) qB (fun _ _ => rfl)) (fun _ _ => rfl)) qC)))))), ?_⟩
  try dsimp only [jN, qg]
  have hb : Bn 110 p q r s' := ⟨g1.1, g2.1, g1.2.2.1, g1.2.2.2, g2.2.2.1, g2.2.2.2⟩
  have hb7 := hb.mono (m := 700)
  have hp := (hb.part (k := len) bl).mono (m := 700)
  have hc0 := hc
  obtain ⟨z, z1, z2, e, h0, h1, h2⟩ := hc0.ex
  subst e
  refine ⟨_, rfl, qY rfl h0 wI ⟨_, n, p, q, r, s', len, len, rfl, hc, hb7.q0, hb7.s0, hb7.bp, hb7.bq, hb7.br, hb7.bs, xo bl, fun y H1 s1 e1 => ?_⟩⟩
  refine ⟨_, rfl, z, _, _, _, rfl, rfl, L3.Same.tup s1 h0, qAn, ?_⟩
  refine ⟨_, rfl, _, rfl, z, _, _, _, rfl, rfl, L3.Same.tup s1 h0, qB3, rd, _, rfl, (hrd.same s1).get, ?_⟩
  refine ⟨_, _, _, _, r, s', m, rfl, ⟨y, rfl, SqT.of e1⟩, ⟨z2, rfl, L3.Same.tup s1 h2⟩, hp.q0, hb.s0, g2.2.1, hp.bp, hp.bq, hb7.br, hb7.bs, bm, fun H' sH => ?_⟩
  have := kk H' (s1.trans sH)
  rw [Int.one_mul] at this
  exact this
def wM : Sp := fun vs H Q _ => ∃ (z : Addr) (n : Str) (p q r s len : Int), vs = [.ref z] ∧ Ch H z n p q r s len ∧ qAq n = true ∧ n.length ≤ 1000 ∧ 1 ≤ q ∧ Int.gcd p q = 1 ∧ 1 ≤ s ∧ Int.gcd r s = 1 ∧ 1 ≤ len ∧ ∀ H', Same H H' → Q (.bl true) H'
theorem wL (T : Tx K mg a) : FnOk P w K mg base CX0 3 a.a_has_clip_form a.f_has_clip_form ["item"] wM := by
  refine T.d_has_clip_form.F.ok wH (fun vs H Q E h => ?_) (fun cdv A outer s H vs Q E hr h => ?_)
  · obtain ⟨z, n, p, q, r, s, len, rfl, _⟩ := h
    rfl
  obtain ⟨z, n, p, q, r, s', len, rfl, ⟨z1, z2, e0, e1, e2⟩, hn, hl, hq, gq, hs, gs, l1, kk⟩ := h
  refine ⟨_, (qD (qc (PW.pt (xM (jZ (q9 (qf xS rfl T.b_isinstance rfl (qA (pv 0) (qA (qGy rfl T.b_tuple rfl) qC))))) (jR (qL zT (qf j9 rfl T.b_len rfl (qA (pv 0) qC)) qB (qS _))))) (qI (qN zh)) qO)
      (qD (qc (PW.pt (xM (qL zT (qJ qH (pv 0) qB (fun _ _ => rfl)) qM (qS _)) (jR (jZ (q9 (qK T.d_is_name (qBe T) hr rfl (qA (qJ qH (pv 0) qB (fun _ _ => rfl)) qC))))))) (qI (qN zh)) qO)
      (qD (qc (PW.pt (xM (jZ (q9 (qK T.d_is_fraction (vE T) hr rfl (qA (qJ qH (pv 0) qB (fun _ _ => rfl)) qC)))) (jR (jZ (q9 (qK T.d_is_fraction (vE T) hr rfl (qA (qJ qH (pv 0) qB (fun _ _ => rfl)) qC))))))) (qI (qN zh)) qO)
      (qI (qN (vL (qK T.d_is_whole (qv T) hr rfl (qA (qJ qH (pv 0) qB (fun _ _ => rfl)) qC)) (wA (j1 qD1 (qJ qH (pv 0) qB (fun _ _ => rfl)) qB (qS _))))))))), ?_⟩
  try dsimp only [jN, qg]
  have h0 : ∀ {H' : Hp}, Same H H' → SqT K H' z [.str "clip", .str n, .ref z1, .ref z2, .int len] := fun e => SqT.of (e _ _ e0)
  refine ⟨_, rfl, _, _, _, true, rfl, .tup e0, ⟨_, .inl ⟨rfl, by kernel_rfl⟩⟩, true, rfl, qo ?_⟩
  refine ⟨_, rfl, _, _, rfl, .inr (h0 (Same.refl _)), rfl, _, rfl, qo ?_⟩
  refine ⟨_, rfl, _, _, _, _, rfl, rfl, h0 (Same.refl _), qIc, rfl, _, rfl, qH8 rfl ?_⟩
  refine ⟨_, rfl, _, _, _, _, rfl, rfl, h0 (Same.refl _), qB3, n, rfl, hl, fun H1 s1 => ?_⟩
  rw [hn]
  refine ⟨true, rfl, qo ?_⟩
  refine ⟨_, rfl, _, _, _, _, rfl, rfl, h0 s1, qHm, z1, p, q, rfl, s1 _ _ e1, hq, gq, true, rfl, qo ?_⟩
  refine ⟨_, rfl, _, _, _, _, rfl, rfl, h0 s1, qAn, z2, r, s', rfl, s1 _ _ e2, hs, gs, true, rfl, qo ?_⟩
  refine ⟨_, rfl, _, _, _, _, rfl, rfl, h0 s1, wI, len, rfl, true, rfl, j5 ?_⟩
  refine ⟨_, rfl, _, _, _, _, rfl, rfl, h0 s1, wI, _, _, rfl, rfl, ?_⟩
  have z := kk H1 s1
  rw [← decide_eq_true l1] at z
  exact z
def qAy : Sp := fun vs H Q _ => ∃ c n : Int, vs = [.int c, .int n] ∧ 0 ≤ n ∧ n ≤ 400 ∧
  ∀ (z : Addr) (xs : List Int) (H' : Hp), Same H H' → H z = none → H' z = some (.lst (xs.map V.int)) → xs.length = n.toNat → (∀ x ∈ xs, 0 ≤ x ∧ x < 10000000019) → Q (.ref z) H'
theorem vA (T : Tx K mg a) : FnOk P w K mg base CX0 1 a.a__law_stream a.f__law_stream ["_law_cell", "_law_size"] qAy := by
  refine T.d__law_stream.F.ok sc__law_stream (fun vs H Q E h => ?_) (fun cdv A outer s H vs Q E hr h => ?_)
  · obtain ⟨c, n, rfl, _⟩ := h
    rfl
  obtain ⟨c, n, rfl, n0, n1, kk⟩ := h
  refine ⟨_, (qD (qU (i := 2) sc__law_stream.nd rfl (Or.inl rfl) (qh qC))
      (qD (qc (qL qD1 (pv 0) (qW qMz qB qB) (qS _)) (qD (qU (i := 3) sc__law_stream.nd rfl (Or.inl rfl) (qW qr (pv 0) qB))
      (qD (xp PassesOwn.never rfl (qAm rfl T.b_range (qA (pv 1) qC)) (jL (i := 4) sc__law_stream.nd rfl (Or.inl rfl)) (qD (qx (vj F.plainAttrs_list F.slot_list_append F.type_list_append jl (pv 2) (qA (qW jX (pv 3) qB) qC)))
      (qI (qU (i := 3) sc__law_stream.nd rfl (Or.inl rfl) (qW qr (pv 3) qB)))))
      (qI (qN (qNa (pv 2)))))) qO)
      (qD (qU (i := 5) sc__law_stream.nd rfl (Or.inl rfl) (qW jX (qW jP (qW qj (qW jX (pv 0) qB) qB) qB) qB))
      (qD (xp PassesOwn.never rfl (qAm rfl T.b_range (qA (pv 1) qC)) (jL (i := 4) sc__law_stream.nd rfl (Or.inl rfl)) (qD (qU (i := 5) sc__law_stream.nd rfl (Or.inl rfl) (qW qj (qW qj (qW jX (qW jP (pv 5) (qW qj (qW qr (pv 5) qB) qB)) qB) (pv 4)) qB))
      (qI (qx (vj F.plainAttrs_list F.slot_list_append F.type_list_append jl (pv 2) (qA (pv 5) qC))))))
      (qI (qN (pv 2))))))), ?_⟩
  try dsimp only [jN, qg]
  refine ⟨sL0, fun z hz => ?_⟩
  have wz : ∀ (xs : List Int), Same H (upd H z (.lst (xs.map V.int))) := fun xs => qF hz _
  refine ⟨_, rfl, _, _, rfl, rfl, cpw (n := 40) (by decide), _, _, rfl, rfl, _, rfl, xN (fun _ => ?_) (fun _ => ?_)⟩
  · refine ⟨_, rfl, _, _, rfl, rfl, cdB (by decide) (by decide), ?_⟩
    refine ⟨_, rfl, n, rfl, by omega, by omega, qDi (n := n.toNat) (fun i σ H' => ∃ (xs : List Int) (r : Int) (o p : Option V), σ = [some (.int c), some (.int n), some (.ref z), some (.int r), o, p] ∧ H' = upd H z (.lst (xs.map V.int)) ∧ xs.length = i ∧ (∀ x ∈ xs, 0 ≤ x ∧ x < 10000000019))
      ⟨[], _, none, none, rfl, rfl, rfl, (by simp)⟩ ?_ ?_⟩
    · rintro i σ H' hi ⟨xs, r, o, p, rfl, rfl, hl, hx⟩
      have f := fm r (show (0 : Int) < 10000000019 by decide)
      refine ⟨_, rfl, .inl ⟨rfl, _, SqL.of qE⟩, _, rfl, _, _, rfl, rfl, nz, z, _, _, rfl, rfl, qE, (by rw [List.length_map]; exact qd (by omega)), ?_⟩
      refine ⟨_, rfl, _, _, rfl, rfl, cdB (by decide) (by decide), xs ++ [r.fmod 10000000019], _, _, _, rfl, ?_, ?_, ?_⟩
      · rw [qFj, List.map_append]; rfl
      · rw [List.length_append, hl]; rfl
      · intro y hy
        rcases List.mem_append.mp hy with hy | hy
        · exact hx y hy
        · have e : y = r.fmod 10000000019 := by simpa using hy
          rw [e]; exact f
    · rintro σ H' ⟨xs, r, o, p, rfl, rfl, hl, hx⟩
      refine ⟨_, rfl, z, _, rfl, SqL.of qE, fun y hy => ?_⟩
      rw [← List.map_reverse]
      exact kk y xs.reverse _ ((wz xs).trans (qF hy _)) ((wz xs).free hy) qE (by rw [List.length_reverse]; exact hl) (fun x hx' => hx x (List.mem_reverse.mp hx'))
  · have f0 := fm c (show (0 : Int) < 2147483647 by decide)
    refine ⟨_, rfl, _, _, rfl, rfl, nz, _, _, rfl, rfl, _, _, rfl, rfl, cmR (by decide) (by decide), _, _, rfl, rfl, nz, ?_⟩
    have f1 := fm ((c.fmod 2147483647 + 1) * 48271) (show (0 : Int) < 2147483647 by decide)
    refine ⟨_, rfl, n, rfl, by omega, by omega, qDi (n := n.toNat) (fun i σ H' => ∃ (xs : List Int) (r : Int) (o p : Option V), σ = [some (.int c), some (.int n), some (.ref z), o, p, some (.int r)] ∧ H' = upd H z (.lst (xs.map V.int)) ∧ xs.length = i ∧ (∀ x ∈ xs, 0 ≤ x ∧ x < 10000000019) ∧ 0 ≤ r ∧ r < 2147484647)
      ⟨[], _, none, none, rfl, rfl, rfl, (by simp), f1.1, by omega⟩ ?_ ?_⟩
    · rintro i σ H' hi ⟨xs, r, o, p, rfl, rfl, hl, hx, r0, r1⟩
      have f := fm (r * (r.fdiv 1009 + 69621)) (show (0 : Int) < 2147483647 by decide)
      refine ⟨_, rfl, _, rfl, _, _, rfl, rfl, cdB (by decide) (by decide), _, _, rfl, rfl, _, _, rfl, rfl, cmL (by omega) (by omega), _, _, rfl, rfl, nz, _, rfl, _, _, rfl, rfl, _, _, rfl, rfl, ?_⟩
      refine ⟨_, rfl, .inl ⟨rfl, _, SqL.of qE⟩, _, rfl, z, _, _, rfl, rfl, qE, (by rw [List.length_map]; exact qd (by omega)), ?_⟩
      refine ⟨xs ++ [(r * (r.fdiv 1009 + 69621)).fmod 2147483647 + (0 + (i : Int)) + 1], _, _, _, rfl, ?_, ?_, ?_, by omega, by omega⟩
      · rw [qFj, List.map_append]; rfl
      · rw [List.length_append, hl]; rfl
      · intro y hy
        rcases List.mem_append.mp hy with hy | hy
        · exact hx y hy
        · have e : y = (r * (r.fdiv 1009 + 69621)).fmod 2147483647 + (0 + (i : Int)) + 1 := by simpa using hy
          rw [e]; omega
    · rintro σ H' ⟨xs, r, o, p, rfl, rfl, hl, hx, _, _⟩
      exact ⟨_, rfl, kk z xs _ (wz xs) hz qE hl hx⟩
theorem qKe (ns : List Int) (lo hi : Option Int) : ∃ ms : List Int, zd (ns.map V.int) lo hi = ms.map V.int ∧ ms.length ≤ ns.length := by
  refine ⟨(ns.drop (HT.sIx (ns.map V.int).length 0 lo)).take (HT.sIx (ns.map V.int).length (ns.map V.int).length hi - HT.sIx (ns.map V.int).length 0 lo), ?_, ?_⟩
  · unfold zd
    rw [List.map_take, List.map_drop]
  · rw [List.length_take, List.length_drop]; omega
inductive Im where
  | clip (n : Str) (p q r s l : Int)
  | nest (n : Str) (b l : Int)
  | gap (l : Int)
  | mix (l : Int)
def Im.d : Im → D
  | .clip n p q r s l => .tup [.leaf (.str "clip"), .leaf (.str n), .tup [.leaf (.int p), .leaf (.int q)], .tup [.leaf (.int r), .leaf (.int s)], .leaf (.int l)]
  | .nest n b l => .tup [.leaf (.str "nest"), .leaf (.str n), .leaf (.int b), .leaf (.int l)]
  | .gap l => .tup [.leaf (.str "gap"), .leaf (.int l)]
  | .mix l => .tup [.leaf (.str "mix"), .leaf (.int l)]
def Im.wd : Im → Str
  | .clip .. => "clip"
  | .nest .. => "nest"
  | .gap _ => "gap"
  | .mix _ => "mix"
def Im.l : Im → Int
  | .clip _ _ _ _ _ l => l
  | .nest _ _ l => l
  | .gap l => l
  | .mix l => l
def TS (H H' : Hp) : Prop := ∀ b xs, H b = some (.tup xs) → H' b = some (.tup xs)
theorem TS.refl (H : Hp) : TS H H := fun _ _ h => h
theorem TS.trans {H H1 H2 : Hp} (a : TS H H1) (b : TS H1 H2) : TS H H2 := fun c o h => b c o (a c o h)
theorem qV {H H' : Hp} (e : Same H H') : TS H H' := fun _ _ h => e _ _ h
theorem jm {H : Hp} {l : Addr} {xs : List V} {o : HO} (h : H l = some (.lst xs)) : TS H (upd H l o) := fun b ys hb => by
  rw [qi (qM4 hb h (by intro z; cases z))]; exact hb
theorem q8 {H H' : Hp} {y : Addr} {o : HO} (e : Same H H') (h : H y = none) : Same H (upd H' y o) := fun b u hb => by
  rw [qi (ql hb h)]; exact e b u hb
def IsI (H : Hp) : Im → V → Prop
  | .clip n p q r s l, v => ∃ z x y : Addr, v = .ref z ∧ H z = some (.tup [.str "clip", .str n, .ref x, .ref y, .int l]) ∧ H x = some (.tup [.int p, .int q]) ∧ H y = some (.tup [.int r, .int s])
  | .nest n b l, v => ∃ z : Addr, v = .ref z ∧ H z = some (.tup [.str "nest", .str n, .int b, .int l])
  | .gap l, v => ∃ z : Addr, v = .ref z ∧ H z = some (.tup [.str "gap", .int l])
  | .mix l, v => ∃ z : Addr, v = .ref z ∧ H z = some (.tup [.str "mix", .int l])
theorem isG {H : Hp} {z : Addr} {l : Int} (h : H z = some (.tup [.str "gap", .int l])) : IsI H (.gap l) (.ref z) := ⟨z, rfl, h⟩
theorem isM {H : Hp} {z : Addr} {l : Int} (h : H z = some (.tup [.str "mix", .int l])) : IsI H (.mix l) (.ref z) := ⟨z, rfl, h⟩
theorem isN {H : Hp} {z : Addr} {n : Str} {b l : Int} (h : H z = some (.tup [.str "nest", .str n, .int b, .int l])) : IsI H (.nest n b l) (.ref z) := ⟨z, rfl, h⟩
theorem IsI.ts {H H' : Hp} (e : TS H H') : ∀ {m : Im} {v : V}, IsI H m v → IsI H' m v
  | .clip .., _, ⟨z, x, y, h, hz, hx, hy⟩ => ⟨z, x, y, h, e _ _ hz, e _ _ hx, e _ _ hy⟩
  | .nest .., _, ⟨z, h, hz⟩ => ⟨z, h, e _ _ hz⟩
  | .gap _, _, ⟨z, h, hz⟩ => ⟨z, h, e _ _ hz⟩
  | .mix _, _, ⟨z, h, hz⟩ => ⟨z, h, e _ _ hz⟩
theorem IsI.opn {H : Hp} {m : Im} {v : V} (h : IsI H m v) : ∃ (z : Addr) (xs : List V), v = .ref z ∧ H z = some (.tup xs) ∧ atI xs 0 = some (.str m.wd) ∧ atI xs (-1) = some (.int m.l) := by
  cases m with
  | clip n p q r s l => obtain ⟨z, x, y, h, hz, _⟩ := h; exact ⟨z, _, h, hz, rfl, rfl⟩
  | nest n b l => obtain ⟨z, h, hz⟩ := h; exact ⟨z, _, h, hz, rfl, rfl⟩
  | gap l => obtain ⟨z, h, hz⟩ := h; exact ⟨z, _, h, hz, rfl, rfl⟩
  | mix l => obtain ⟨z, h, hz⟩ := h; exact ⟨z, _, h, hz, rfl, rfl⟩
theorem qCq {H : Hp} : ∀ {xs : List V}, xs.all zL = true → Reps K H (xs.map D.leaf) xs
  | [], _ => by simp [Reps]
  | x :: xs, h => by
    rw [List.all_cons, Bool.and_eq_true] at h
    rw [List.map_cons]; unfold Reps Rep
    exact ⟨⟨rfl, h.1⟩, qCq h.2⟩
theorem kC {H : Hp} {z : Addr} {xs : List V} (hz : H z = some (.tup xs)) (h : xs.all zL = true) : Rep K H (.tup (xs.map D.leaf)) (.ref z) := by
  unfold Rep
  exact ⟨z, xs, rfl, SqT.of hz, qCq h⟩
theorem IsI.rep {H : Hp} : ∀ {m : Im} {v : V}, IsI H m v → Rep K H m.d v
  | .clip n p q r s l, _, ⟨z, x, y, h, hz, hx, hy⟩ => by
    subst h
    have h1 : Rep K H (.tup [.leaf (.int p), .leaf (.int q)]) (.ref x) := kC hx rfl
    have h2 : Rep K H (.tup [.leaf (.int r), .leaf (.int s)]) (.ref y) := kC hy rfl
    unfold Im.d Rep
    refine ⟨z, _, rfl, SqT.of hz, ?_⟩
    unfold Reps Reps Reps Reps Reps Reps
    refine ⟨?_, ?_, h1, h2, ?_, trivial⟩
    · unfold Rep; exact ⟨rfl, rfl⟩
    · unfold Rep; exact ⟨rfl, rfl⟩
    · unfold Rep; exact ⟨rfl, rfl⟩
  | .nest n b l, _, ⟨z, h, hz⟩ => by subst h; exact kC hz rfl
  | .gap l, _, ⟨z, h, hz⟩ => by subst h; exact kC hz rfl
  | .mix l, _, ⟨z, h, hz⟩ => by subst h; exact kC hz rfl
theorem qKm (m : Im) : eqD m.d m.d = true := by
  cases m <;> simp [Im.d, eqD, v8, eqV]
theorem qN6 (m : Im) : dep m.d ≤ 2 := by
  cases m <;> simp [Im.d, dep, deps]
def IsIs (H : Hp) : List Im → List V → Prop
  | [], [] => True
  | m :: ms, v :: vs => IsI H m v ∧ IsIs H ms vs
  | _, _ => False
theorem IsIs.len {H : Hp} : ∀ {ms : List Im} {vs : List V}, IsIs H ms vs → vs.length = ms.length
  | [], [], _ => rfl
  | _ :: _, _ :: _, h => by rw [List.length_cons, List.length_cons, IsIs.len h.2]
  | [], _ :: _, h => h.elim
  | _ :: _, [], h => h.elim
theorem IsIs.ts {H H' : Hp} (e : TS H H') : ∀ {ms : List Im} {vs : List V}, IsIs H ms vs → IsIs H' ms vs
  | [], [], _ => trivial
  | _ :: _, _ :: _, h => ⟨IsI.ts e h.1, IsIs.ts e h.2⟩
  | [], _ :: _, h => h.elim
  | _ :: _, [], h => h.elim
theorem IsIs.get {H : Hp} : ∀ {ms : List Im} {vs : List V} {i : Nat} {v : V}, IsIs H ms vs → vs[i]? = some v → ∃ m, ms[i]? = some m ∧ IsI H m v
  | [], [], _, _, _, h => by simp at h
  | m :: _, x :: _, 0, v, h, e => by
    have e' : x = v := by simpa using e
    subst e'
    exact ⟨m, rfl, h.1⟩
  | _ :: ms, _ :: vs, i + 1, v, h, e => by
    obtain ⟨m, h1, h2⟩ := IsIs.get (i := i) h.2 (by simpa using e)
    exact ⟨m, by simpa using h1, h2⟩
  | [], _ :: _, _, _, h, _ => h.elim
  | _ :: _, [], _, _, h, _ => h.elim
theorem IsIs.get' {H : Hp} {ms : List Im} {vs : List V} {i : Nat} {m : Im} (h : IsIs H ms vs) (e : ms[i]? = some m) : ∃ v, vs[i]? = some v ∧ IsI H m v := by
  have hi : i < vs.length := by rw [h.len]; exact (glt e)
  have ev : vs[i]? = some vs[i] := List.getElem?_eq_getElem hi
  obtain ⟨m', h1, h2⟩ := h.get ev
  rw [e] at h1
  cases h1
  exact ⟨_, ev, h2⟩
theorem IsIs.app {H : Hp} : ∀ {ms : List Im} {vs : List V} {ms' : List Im} {vs' : List V}, IsIs H ms vs → IsIs H ms' vs' → IsIs H (ms ++ ms') (vs ++ vs')
  | [], [], _, _, _, h' => h'
  | _ :: _, _ :: _, _, _, h, h' => ⟨h.1, h.2.app h'⟩
  | [], _ :: _, _, _, h, _ => h.elim
  | _ :: _, [], _, _, h, _ => h.elim
theorem IsIs.one {H : Hp} {m : Im} {v : V} (h : IsI H m v) : IsIs H [m] [v] := ⟨h, trivial⟩
theorem IsIs.rep {H : Hp} : ∀ {ms : List Im} {vs : List V}, IsIs H ms vs → Reps K H (ms.map Im.d) vs
  | [], [], _ => by unfold List.map Reps; trivial
  | _ :: _, _ :: _, h => by unfold List.map Reps; exact ⟨h.1.rep, h.2.rep⟩
  | [], _ :: _, h => h.elim
  | _ :: _, [], h => h.elim
def Tr (H : Hp) (z : Addr) (ms : List Im) : Prop := ∃ vs, H z = some (.lst vs) ∧ IsIs H ms vs
theorem Tr.same {H H' : Hp} {z : Addr} {ms : List Im} (e : Same H H') (h : Tr H z ms) : Tr H' z ms := let ⟨vs, h1, h2⟩ := h; ⟨vs, e _ _ h1, h2.ts (qV e)⟩
theorem Tr.rep {H : Hp} {z : Addr} {ms : List Im} (h : Tr H z ms) : Rep K H (.lst (ms.map Im.d)) (.ref z) := by
  obtain ⟨vs, h1, h2⟩ := h
  unfold Rep
  exact ⟨z, vs, rfl, SqL.of h1, h2.rep⟩
theorem qKc {H : Hp} {x : Addr} {ns : List Int} (h : H x = some (.lst (ns.map V.int))) : Rep K H (.lst ((ns.map V.int).map D.leaf)) (.ref x) := by
  unfold Rep
  exact ⟨x, _, rfl, SqL.of h, qCq (by rw [List.all_map, List.all_eq_true]; intro _ _; rfl)⟩
theorem IsIs.dl {H : Hp} : ∀ {ms : List Im} {vs : List V}, IsIs H ms vs → IsIs H ms.dropLast vs.dropLast
  | [], [], _ => trivial
  | [_], [_], _ => trivial
  | _ :: _ :: _, _ :: _ :: _, h => ⟨h.1, IsIs.dl h.2⟩
  | [], _ :: _, h => h.elim
  | _ :: _, [], h => h.elim
  | [_], _ :: _ :: _, h => h.2.elim
  | _ :: _ :: _, [_], h => h.2.elim
theorem IsIs.last {H : Hp} {ms : List Im} {vs : List V} (h : IsIs H ms vs) (hne : ms ≠ []) : ∃ v m, vs[vs.length - 1]? = some v ∧ ms.getLast? = some m ∧ m ∈ ms ∧ IsI H m v := by
  have hl : 0 < ms.length := List.length_pos_iff.mpr hne
  have hi : vs.length - 1 < vs.length := by rw [h.len]; omega
  have ev : vs[vs.length - 1]? = some vs[vs.length - 1] := List.getElem?_eq_getElem hi
  obtain ⟨m, h1, h2⟩ := h.get ev
  refine ⟨_, m, ev, ?_, List.mem_of_getElem? h1, h2⟩
  rw [h.len] at h1
  rw [List.getLast?_eq_getElem?]
  exact h1
theorem qN9 {m : Im} (h : m.wd = "gap") : ∃ l, m = .gap l := by
  cases m with
  | gap l => exact ⟨l, rfl⟩
  | clip => exact absurd (show ("clip" : Str) = "gap" from h) (by decide +kernel)
  | nest => exact absurd (show ("nest" : Str) = "gap" from h) (by decide +kernel)
  | mix => exact absurd (show ("mix" : Str) = "gap" from h) (by decide +kernel)
def qDn : Int → List Im → List Im
  | _, [] => []
  | w, .gap l :: ms => qDn (w + l) ms
  | w, .clip n p q r s l :: ms => if 0 < w then .gap w :: .clip n p q r s l :: qDn 0 ms else .clip n p q r s l :: qDn 0 ms
  | w, .nest n b l :: ms => if 0 < w then .gap w :: .nest n b l :: qDn 0 ms else .nest n b l :: qDn 0 ms
  | w, .mix l :: ms => if 0 < w then .gap w :: .mix l :: qDn 0 ms else .mix l :: qDn 0 ms
theorem qG2 {m : Im} (h : m.wd ≠ "gap") (w : Int) (ms : List Im) : qDn w (m :: ms) = if 0 < w then .gap w :: m :: qDn 0 ms else m :: qDn 0 ms := by
  cases m with
  | gap l => exact absurd rfl h
  | _ => rw [qDn]
def qFd : Sp := fun vs H Q _ => ∃ (z : Addr) (ms : List Im), vs = [.ref z] ∧ Tr H z ms ∧ ms.length ≤ 300 ∧ ∀ (y : Addr) (H' : Hp), Same H H' → H y = none → Tr H' y (qDn 0 ms) → Q (.ref y) H'
theorem qFl (T : Tx K mg a) : FnOk P w K mg base CX0 1 a.a_one_form a.f_one_form ["some"] qFd := by
  refine T.d_one_form.F.ok sc_one_form (fun vs H Q E h => ?_) (fun cdv A outer s H vs Q E hr h => ?_)
  · obtain ⟨z, ms, rfl, _⟩ := h
    rfl
  obtain ⟨z, ms, rfl, ⟨xs, hz, his⟩, hl, kk⟩ := h
  refine ⟨_, (qD (qU (i := 1) sc_one_form.nd rfl (Or.inl rfl) (qh qC))
      (qD (qU (i := 2) sc_one_form.nd rfl (Or.inl rfl) qB)
      (qD (xp PassesOwn.never rfl (jC (pv 0)) (jL (i := 3) sc_one_form.nd rfl (Or.inl rfl)) (qI (qc (qL jD (qJ qH (pv 3) qB (fun _ _ => rfl)) qM (qS _)) (qI (qU (i := 2) sc_one_form.nd rfl (Or.inl rfl) (qW qj (pv 2) (qJ qH (pv 3) qB (fun _ _ => rfl))))) (qD (qc (qL qA5 (pv 2) qB (qS _)) (qI (qx (vj F.plainAttrs_list F.slot_list_append F.type_list_append jl (pv 1) (qA (qX (qA qM (qA (pv 2) qC))) qC)))) qO)
      (qD (qU (i := 2) sc_one_form.nd rfl (Or.inl rfl) qB)
      (qI (qx (vj F.plainAttrs_list F.slot_list_append F.type_list_append jl (pv 1) (qA (pv 3) qC)))))))))
      (qI (qN (pv 1)))))), ?_⟩
  try dsimp only [jN, qg]
  refine ⟨sL0, fun y hy => ?_⟩
  refine ⟨_, rfl, z, rfl, ⟨_, SqL.of ((qF hy _) _ _ hz)⟩, jk (K := K) (a := z) (xs := xs) (fun i σ H' => ∃ (w : Int) (as : List Im) (o : Option V) (vs : List V), σ = [some (.ref z), some (.ref y), some (.int w), o] ∧ H' y = some (.lst vs) ∧ IsIs H' as vs ∧ as.length ≤ 2 * i ∧ as ++ qDn w (ms.drop i) = qDn 0 ms ∧ Same H H')
    ⟨0, [], none, [], rfl, qE, trivial, by simp, rfl, qF hy _⟩ ?_ ?_ ?_⟩
  · rintro i σ H' hi ⟨w, as, o, vs, rfl, _, _, _, _, e⟩
    exact SqL.of (e _ _ hz)
  · rintro i x σ H' hx ⟨w, as, o, vs, rfl, hv, hiv, hal, hap, e⟩
    obtain ⟨m, hm, hIx⟩ := his.get hx
    have hI := hIx.ts (qV e)
    have hi : i < ms.length := (glt hm)
    have hd : ms.drop i = m :: ms.drop (i + 1) := by
      rw [List.drop_eq_getElem_cons hi]
      rw [List.getElem?_eq_getElem hi] at hm
      cases hm
      rfl
    have hvl : vs.length ≤ 2 * i := by rw [hiv.len]; exact hal
    obtain ⟨zi, xi, rfl, hzi, h0, h1⟩ := hI.opn
    refine ⟨_, rfl, zi, xi, _, _, rfl, rfl, SqT.of hzi, h0, rfl, _, rfl, xN (fun c => ?_) (fun c => ?_)⟩
    · obtain ⟨l, rfl⟩ := qN9 (by simpa using c)
      obtain ⟨z2, e2, hz2⟩ := hI
      cases e2
      refine ⟨_, rfl, qY rfl (SqT.of hz2) at1 ⟨_, _, rfl, rfl, w + l, as, _, vs, rfl, hv, hiv, by omega, ?_, e⟩⟩
      rw [hd, qDn] at hap
      exact hap
    · have hne : m.wd ≠ "gap" := by simpa using c
      rw [hd, qG2 hne] at hap
      refine ⟨_, rfl, _, _, rfl, rfl, _, rfl, xN (fun c => ?_) (fun c => ?_)⟩
      · have c' : 0 < w := by simpa using c
        rw [if_pos c'] at hap
        refine ⟨_, rfl, .inl ⟨rfl, _, SqL.of hv⟩, _, rfl, sL2, fun g hg => ?_⟩
        have w1 := qF hg (.tup [.str "gap", .int w])
        refine ⟨y, _, _, rfl, rfl, w1 _ _ hv, qd (by omega), ?_⟩
        have t2 : TS (upd H' g (.tup [.str "gap", .int w])) (upd (upd H' g (.tup [.str "gap", .int w])) y (.lst (vs ++ [.ref g]))) := jm (w1 _ _ hv)
        have k2 : IsIs (upd (upd H' g (.tup [.str "gap", .int w])) y (.lst (vs ++ [.ref g]))) (as ++ [.gap w]) (vs ++ [.ref g]) := ((hiv.ts (qV w1)).app (.one (isG qE))).ts t2
        have k1 : IsI (upd (upd H' g (.tup [.str "gap", .int w])) y (.lst (vs ++ [.ref g]))) m (.ref zi) := (hI.ts (qV w1)).ts t2
        have e2 : Same H (upd (upd H' g (.tup [.str "gap", .int w])) y (.lst (vs ++ [.ref g]))) := q8 (e.trans w1) hy
        have hv2 : (upd (upd H' g (.tup [.str "gap", .int w])) y (.lst (vs ++ [.ref g]))) y = some (.lst (vs ++ [.ref g])) := qE
        generalize upd (upd H' g (.tup [.str "gap", .int w])) y (.lst (vs ++ [.ref g])) = H2 at k1 k2 e2 hv2 ⊢
        refine ⟨_, rfl, .inl ⟨rfl, _, SqL.of hv2⟩, _, rfl, y, _, _, rfl, rfl, hv2, qd (by rw [List.length_append]; simp; omega), ?_⟩
        refine ⟨0, as ++ [.gap w] ++ [m], _, _, rfl, qE, (k2.app (.one k1)).ts (jm hv2), by simp; omega, ?_, q8 e2 hy⟩
        rw [← hap]; simp
      · have c' : ¬ 0 < w := by simpa using c
        rw [if_neg c'] at hap
        refine ⟨_, rfl, .inl ⟨rfl, _, SqL.of hv⟩, _, rfl, y, _, _, rfl, rfl, hv, qd (by omega), ?_⟩
        refine ⟨0, as ++ [m], _, _, rfl, qE, (hiv.app (.one hI)).ts (jm hv), by simp; omega, ?_, q8 e hy⟩
        rw [← hap]; simp
  · rintro σ H' ⟨w, as, o, vs, rfl, hv, hiv, _, hap, e⟩
    refine ⟨_, rfl, kk y H' e hy ⟨vs, hv, ?_⟩⟩
    rw [his.len, List.drop_length, qDn, List.append_nil] at hap
    rw [← hap]
    exact hiv
def Im.mo : Im → Int
  | .mix _ => 0
  | .clip _ _ _ _ _ l => l
  | .nest _ _ l => l
  | .gap l => l
theorem qOe {m : Im} (h : m.wd = "mix") : ∃ l, m = .mix l := by
  cases m with
  | mix l => exact ⟨l, rfl⟩
  | clip => exact absurd (show ("clip" : Str) = "mix" from h) (by decide +kernel)
  | nest => exact absurd (show ("nest" : Str) = "mix" from h) (by decide +kernel)
  | gap => exact absurd (show ("gap" : Str) = "mix" from h) (by decide +kernel)
theorem qMm {m : Im} (h : m.wd ≠ "mix") : m.mo = m.l := by
  cases m with
  | mix l => exact absurd rfl h
  | _ => rfl
def qCm : Sp := fun vs H Q _ => ∃ (v : V) (m : Im), vs = [v] ∧ IsI H m v ∧ Q (.int m.mo) H
theorem jK (T : Tx K mg a) : FnOk P w K mg base CX0 1 a.a_moments_of a.f_moments_of ["item"] qCm := by
  refine T.d_moments_of.F.ok qBo (fun vs H Q E h => ?_) (fun cdv A outer s H vs Q E hr h => ?_)
  · obtain ⟨v, m, rfl, _⟩ := h
    rfl
  obtain ⟨v, m, rfl, hI, kk⟩ := h
  refine ⟨_, (qI (qN (zY (qL jD (qJ qH (pv 0) qB (fun _ _ => rfl)) qM (qS _)) qB (qJ qH (pv 0) (zM jn qB) (fun _ _ => rfl))))), ?_⟩
  try dsimp only [jN, qg]
  obtain ⟨z, xs, rfl, hz, h0, h1⟩ := hI.opn
  refine ⟨_, rfl, z, xs, _, _, rfl, rfl, SqT.of hz, h0, rfl, _, rfl, xN (fun c => ?_) (fun c => ?_)⟩
  · obtain ⟨l, rfl⟩ := qOe (by simpa using c)
    exact kk
  · rw [qMm (by simpa using c)] at kk
    exact ⟨_, rfl, _, rfl, z, xs, _, _, rfl, rfl, SqT.of hz, h1, kk⟩
def qD9 : Sp := fun vs H Q _ => ∃ (z : Addr) (ms : List Im), vs = [.ref z] ∧ Tr H z ms ∧ ms.length ≤ 300 ∧ ∀ H', Same H H' → Q (.int (ms.map Im.mo).sum) H'
theorem vv (T : Tx K mg a) : FnOk P w K mg base CX0 3 a.a_length_of a.f_length_of ["track"] qD9 := by
  refine T.d_length_of.F.ok qDx (fun vs H Q E h => ?_) (fun cdv A outer s H vs Q E hr h => ?_)
  · obtain ⟨z, ms, rfl, _⟩ := h
    rfl
  obtain ⟨z, ms, rfl, ⟨xs, hz, his⟩, hl, kk⟩ := h
  refine ⟨_, (qI (qN (qf (qDm rfl) rfl T.b_sum rfl (qA (ve [] [] rfl (jC (pv 0)) (fun _ _ _ _ => (qK T.d_moments_of (jK T) hr rfl (qA (pv 0) qC)))) qC)))), ?_⟩
  try dsimp only [jN, qg]
  refine ⟨_, rfl, z, rfl, ⟨_, SqL.of hz⟩, zt (K := K) (a := z) (xs := xs) (fun i acc H' => H' = H ∧ acc = ((ms.take i).map Im.mo).map V.int) ⟨rfl, rfl⟩ ?_ ?_ ?_⟩
  · rintro i acc H' hi ⟨rfl, rfl⟩
    exact ⟨SqL.of hz, qd (by simp; omega)⟩
  · rintro i x acc H' hi hx ⟨rfl, rfl⟩
    obtain ⟨m, hm, hI⟩ := his.get hx
    refine ⟨_, rfl, x, m, rfl, hI, Nxt.mk hi ⟨rfl, ?_⟩⟩
    rw [List.take_add_one, hm]
    simp
  · rintro acc H' ⟨rfl, rfl⟩ d hd
    refine ⟨d, (ms.map Im.mo), rfl, ?_, kk _ (qF hd _)⟩
    rw [his.len, List.take_length]
    exact SqL.of qE
def xy : Int → Nat → List Im → Int → Option (Nat × Int)
  | _, _, [], _ => none
  | b, i, m :: ms, t => if b ≤ t ∧ t < b + m.mo then some (i, t - b) else xy (b + m.mo) (i + 1) ms t
def AtR (H : Hp) (Q : VK) (r : Option (Nat × Int)) : Prop := match r with
  | none => ∀ H', Same H H' → Q .non H'
  | some (i, d) => ∀ (p : Addr) (H' : Hp), Same H H' → H' p = some (.tup [.int (i : Int), .int d]) → Q (.ref p) H'
theorem j3 {α : Type} {xs : List α} {i : Nat} {x : α} (h : xs[i]? = some x) : xs.drop i = x :: xs.drop (i + 1) := by
  have hi : i < xs.length := (glt h)
  rw [List.drop_eq_getElem_cons hi]
  rw [List.getElem?_eq_getElem hi] at h
  cases h
  rfl
def qHd : Sp := fun vs H Q _ => ∃ (z : Addr) (ms : List Im) (t : Int), vs = [.ref z, .int t] ∧ Tr H z ms ∧ AtR H Q (xy 0 0 ms t)
theorem vq (T : Tx K mg a) : FnOk P w K mg base CX0 3 a.a_item_at a.f_item_at ["track", "moment"] qHd := by
  refine T.d_item_at.F.ok sc_item_at (fun vs H Q E h => ?_) (fun cdv A outer s H vs Q E hr h => ?_)
  · obtain ⟨z, ms, t, rfl, _⟩ := h
    rfl
  obtain ⟨z, ms, t, rfl, ⟨xs, hz, his⟩, kk⟩ := h
  refine ⟨_, (qD (qU (i := 2) sc_item_at.nd rfl (Or.inl rfl) qB)
      (qD (xp PassesOwn.never rfl (qLm rfl T.b_enumerate (qA (pv 0) qC)) (qKv rfl (vI (jL (i := 3) sc_item_at.nd rfl (Or.inl rfl)) (vI (jL (i := 4) sc_item_at.nd rfl (Or.inl rfl)) qId))) (qD (qU (i := 5) sc_item_at.nd rfl (Or.inl rfl) (qW qj (pv 2) (qK T.d_moments_of (jK T) hr rfl (qA (pv 4) qC))))
      (qD (qc (PW.pt (zW (qL qKn (pv 2) (pv 1) (qS _)) (xw (qL z9 (pv 1) (pv 5) (qS _))))) (qI (qN (qX (qA (pv 3) (qA (qW jM (pv 1) (pv 2)) qC))))) qO)
      (qI (qU (i := 2) sc_item_at.nd rfl (Or.inl rfl) (pv 5))))))
      (qI (qN vy)))), ?_⟩
  try dsimp only [jN, qg]
  refine ⟨_, rfl, z, rfl, ⟨_, SqL.of hz⟩, qKi (K := K) (a := z) (xs := xs) (fun i σ H' => ∃ (b : Int) (o1 o2 o3 : Option V), σ = [some (.ref z), some (.int t), some (.int b), o1, o2, o3] ∧ xy b i (ms.drop i) t = xy 0 0 ms t ∧ Same H H')
    ⟨0, none, none, none, rfl, rfl, Same.refl _⟩ ?_ ?_ ?_⟩
  · rintro i σ H' hi ⟨b, o1, o2, o3, rfl, _, e⟩
    exact SqL.of (e _ _ hz)
  · rintro i x σ H' p hx ⟨b, o1, o2, o3, rfl, hap, e⟩ hp
    obtain ⟨m, hm, hIx⟩ := his.get hx
    have w1 := qF hp (.tup [.int (i : Int), x])
    have e1 := e.trans w1
    have hI := hIx.ts (qV e1)
    rw [j3 hm, xy] at hap
    refine ⟨p, _, rfl, SqT.of qE, rfl, _, _, rfl, _, _, rfl, rfl, ?_⟩
    generalize upd H' p (.tup [.int (i : Int), x]) = H1 at e1 hI ⊢
    refine ⟨_, rfl, _, rfl, x, m, rfl, hI, _, _, rfl, rfl, ?_⟩
    refine ⟨_, rfl, _, rfl, _, _, rfl, rfl, _, rfl, ?_⟩
    refine xN (fun c1 => ?_) (fun c1 => ?_)
    · refine ⟨_, rfl, _, rfl, _, _, rfl, rfl, _, rfl, ?_⟩
      refine xN (fun c2 => ?_) (fun c2 => ?_)
      · rw [if_pos ⟨by simpa using c1, by simpa using c2⟩] at hap
        rw [← hap] at kk
        refine ⟨_, rfl, _, rfl, _, rfl, _, _, rfl, rfl, sL2, fun q hq => ?_⟩
        exact kk q _ (e1.trans (qF hq _)) qE
      · rw [if_neg (fun c => c2 (by simpa using c.2))] at hap
        exact ⟨_, rfl, _, _, _, _, rfl, hap, e1⟩
    · rw [if_neg (fun c => c1 (by simpa using c.1))] at hap
      exact qo ⟨_, rfl, _, _, _, _, rfl, hap, e1⟩
  · rintro σ H' ⟨b, o1, o2, o3, rfl, hap, e⟩
    rw [his.len, List.drop_length, xy] at hap
    rw [← hap] at kk
    exact kk H' e
def xR (ms : List Im) (i : Int) : Str := if i < 0 then "" else match ms[i.toNat]? with
  | some m => m.wd
  | none => ""
theorem zO {ms : List Im} {i : Nat} {m : Im} (h : ms[i]? = some m) {k : Int} (hk : k = (i : Int)) : xR ms k = m.wd := by
  subst hk
  unfold xR
  rw [if_neg (by omega)]
  have e : ((i : Int)).toNat = i := by omega
  rw [e, h]
def qG6 : Sp := fun vs H Q _ => ∃ (z : Addr) (ms : List Im) (i : Int), vs = [.ref z, .int i] ∧ Tr H z ms ∧ Q (.str (xR ms i)) H
theorem jF (T : Tx K mg a) : FnOk P w K mg base CX0 1 a.a_kind_at a.f_kind_at ["track", "place"] qG6 := by
  refine T.d_kind_at.F.ok qG5 (fun vs H Q E h => ?_) (fun cdv A outer s H vs Q E hr h => ?_)
  · obtain ⟨z, ms, i, rfl, _⟩ := h
    rfl
  obtain ⟨z, ms, i, rfl, ⟨vs, hz, his⟩, q⟩ := h
  refine ⟨_, (qD (qc (PW.pt (xM (qL z9 (pv 1) qB (qS _)) (jR (qL qD1 (pv 1) (qf j9 rfl T.b_len rfl (qA (pv 0) qC)) (qS _))))) (qI (qN qM)) qO)
      (qI (qN (qJ qH (qJ qm (pv 0) (pv 1) (fun _ _ => rfl)) qB (fun _ _ => rfl))))), ?_⟩
  try dsimp only [jN, qg]
  have hl := his.len
  refine ⟨_, rfl, _, _, rfl, rfl, _, rfl, ?_⟩
  by_cases h0 : i < 0
  · rw [decide_eq_true h0]
    have e : xR ms i = "" := by unfold xR; rw [if_pos h0]
    rw [e] at q
    exact j5 (j5 q)
  rw [decide_eq_false h0]
  refine qo ⟨_, rfl, _, rfl, z, _, rfl, .inl (SqL.of hz), _, _, rfl, rfl, _, rfl, ?_⟩
  by_cases h1 : ((vs.length : Nat) : Int) ≤ i
  · rw [decide_eq_true (show i ≥ ((vs.length : Nat) : Int) from h1)]
    have e : xR ms i = "" := by
      unfold xR
      rw [if_neg h0, List.getElem?_eq_none (by omega)]
    rw [e] at q
    exact j5 q
  · rw [decide_eq_false (show ¬ i ≥ ((vs.length : Nat) : Int) from h1)]
    refine qo ?_
    have hi : i.toNat < ms.length := by omega
    have hm : ms[i.toNat]? = some ms[i.toNat] := List.getElem?_eq_getElem hi
    obtain ⟨v, hv, hI⟩ := his.get' hm
    obtain ⟨zi, xi, rfl, hzi, q0, _⟩ := hI.opn
    have ei : i = ((i.toNat : Nat) : Int) := by omega
    have hat : atI vs i = some (.ref zi) := by
      rw [ei]; exact qq hv
    have e : xR ms i = ms[i.toNat].wd := zO hm ei
    rw [e] at q
    exact ⟨_, rfl, _, rfl, z, _, _, _, rfl, rfl, SqL.of hz, hat, zi, xi, _, _, rfl, rfl, SqT.of hzi, q0, q⟩
def qEm (ms : List Im) (i : Nat) : Int := ((ms.take i).map Im.mo).sum
theorem v9 : ∀ (xs : List Im) (b : Int) (i0 : Nat) (m : Im) (ys : List Im), (∀ x ∈ xs, 0 ≤ x.mo) → 0 < m.mo → xy b i0 (xs ++ m :: ys) (b + (xs.map Im.mo).sum) = some (i0 + xs.length, 0)
  | [], b, i0, m, ys, _, hm => by
    rw [List.nil_append, xy, if_pos (by simp; omega)]
    simp
  | x :: xs, b, i0, m, ys, hx, hm => by
    have h0 := hx x (by simp)
    have hs : 0 ≤ (xs.map Im.mo).sum := by
      have : ∀ (zs : List Im), (∀ z ∈ zs, 0 ≤ z.mo) → 0 ≤ (zs.map Im.mo).sum := fun zs => by
        induction zs with
        | nil => intro _; simp
        | cons z zs ih => intro h; have := ih fun y hy => h y (by simp [hy]); have := h z (by simp); rw [List.map_cons, List.sum_cons]; omega
      exact this xs fun y hy => hx y (by simp [hy])
    have ih := v9 xs (b + x.mo) (i0 + 1) m ys (fun y hy => hx y (by simp [hy])) hm
    rw [List.cons_append, xy, List.map_cons, List.sum_cons, if_neg (by omega)]
    have e : b + (x.mo + (xs.map Im.mo).sum) = b + x.mo + (xs.map Im.mo).sum := by omega
    rw [e, ih, List.length_cons]
    congr 2
    omega
def qAw : Sp := fun vs H Q _ => ∃ (z : Addr) (ms : List Im) (i : Int), vs = [.ref z, .int i] ∧ Tr H z ms ∧ Q (.int (if xR ms (i - 1) = "mix" then i - 2 else i - 1)) H
theorem vB (T : Tx K mg a) : FnOk P w K mg base CX0 2 a.a_place_ahead a.f_place_ahead ["track", "place"] qAw := by
  refine T.d_place_ahead.F.ok qBa (fun vs H Q E h => ?_) (fun cdv A outer s H vs Q E hr h => ?_)
  · obtain ⟨z, ms, i, rfl, _⟩ := h
    rfl
  obtain ⟨z, ms, i, rfl, tT, q⟩ := h
  refine ⟨_, (qI (qN (zY (qL jD (qK T.d_kind_at (jF T) hr rfl (qA (pv 0) (qA (qW jM (pv 1) qB) qC))) qM (qS _)) (qW jM (pv 1) qB) (qW jM (pv 1) qB)))), ?_⟩
  try dsimp only [jN, qg]
  refine ⟨_, rfl, _, rfl, _, _, rfl, rfl, z, ms, _, rfl, tT, rfl, _, rfl, xN (fun c => ?_) (fun c => ?_)⟩
  · rw [if_pos (by simpa using c)] at q
    exact ⟨_, rfl, _, _, rfl, rfl, q⟩
  · rw [if_neg (by simpa using c)] at q
    exact ⟨_, rfl, _, _, rfl, rfl, q⟩
def nbF (ms : List Im) (t : Int) : Option (Int × Int) := match xy 0 0 ms t with
  | some (i, d) => if d ≠ 0 ∨ (i : Int) = 0 then none else some (if xR ms ((i : Int) - 1) = "mix" then (i : Int) - 2 else (i : Int) - 1, (i : Int))
  | none => none
def cbF (ms : List Im) (t : Int) : Option (Int × Int) := match nbF ms t with
  | some (i, j) => if xR ms i = "clip" ∧ xR ms j = "clip" then some (i, j) else none
  | none => none
def PrR (H : Hp) (Q : VK) (r : Option (Int × Int)) : Prop := match r with
  | none => ∀ H', Same H H' → Q .non H'
  | some (i, j) => ∀ (p : Addr) (H' : Hp), Same H H' → H' p = some (.tup [.int i, .int j]) → Q (.ref p) H'
def wK : Sp := fun vs H Q _ => ∃ (z : Addr) (ms : List Im) (t : Int), vs = [.ref z, .int t] ∧ Tr H z ms ∧ PrR H Q (nbF ms t)
theorem kH (T : Tx K mg a) : FnOk P w K mg base CX0 4 a.a_neighbours_at a.f_neighbours_at ["track", "moment"] wK := by
  refine T.d_neighbours_at.F.ok sc_neighbours_at (fun vs H Q E h => ?_) (fun cdv A outer s H vs Q E hr h => ?_)
  · obtain ⟨z, ms, t, rfl, _⟩ := h
    rfl
  obtain ⟨z, ms, t, rfl, tT, kk⟩ := h
  refine ⟨_, (qD (qU (i := 2) sc_neighbours_at.nd rfl (Or.inl rfl) (qK T.d_item_at (vq T) hr rfl (qA (pv 0) (qA (pv 1) qC))))
      (qD (qc (PW.pt (xM (vD (vR (pv 2))) (xM (qL zT (qJ qH (pv 2) qB (fun _ _ => rfl)) qB (qS _)) (jR (qL jD (qJ qH (pv 2) qB (fun _ _ => rfl)) qB (qS _)))))) (qI (qN vy)) qO)
      (qI (qN (qX (qA (qK T.d_place_ahead (vB T) hr rfl (qA (pv 0) (qA (qJ qH (pv 2) qB (fun _ _ => rfl)) qC))) (qA (qJ qH (pv 2) qB (fun _ _ => rfl)) qC))))))), ?_⟩
  try dsimp only [jN, qg]
  refine ⟨_, rfl, _, rfl, z, ms, _, rfl, tT, ?_⟩
  unfold nbF at kk
  cases hit : xy 0 0 ms t with
  | none =>
    rw [hit] at kk
    intro H1 e1
    exact ⟨_, rfl, _, rfl, j5 (kk H1 e1)⟩
  | some x =>
    obtain ⟨i, d⟩ := x
    rw [hit] at kk
    dsimp only at kk
    intro p H1 e1 hp
    refine ⟨_, rfl, _, rfl, xN (fun c => absurd c (by simp)) (fun _ => ?_)⟩
    refine (qY rfl (SqT.of hp) at1 ?_)
    refine ⟨rfl, _, rfl, xN (fun c => ?_) (fun c => ?_)⟩
    · rw [if_pos (.inl (by simpa using c))] at kk
      exact kk H1 e1
    · refine (qY rfl (SqT.of hp) at0 ?_)
      refine ⟨rfl, _, rfl, xN (fun c2 => ?_) (fun c2 => ?_)⟩
      · rw [if_pos (.inr (by simpa using c2))] at kk
        exact kk H1 e1
      · rw [if_neg (fun z => z.elim (fun z => c (by simpa using z)) (fun z => c2 (by simpa using z)))] at kk
        refine ⟨_, rfl, qY rfl (SqT.of hp) at0 ⟨z, ms, _, rfl, tT.same e1, ?_⟩⟩
        refine (qY rfl (SqT.of hp) at0 ⟨sL2, fun q hq => ?_⟩)
        exact kk q _ (e1.trans (qF hq _)) qE
def vM : Sp := fun vs H Q _ => ∃ (z : Addr) (ms : List Im) (t : Int), vs = [.ref z, .int t] ∧ Tr H z ms ∧ PrR H Q (cbF ms t)
theorem jJ (T : Tx K mg a) : FnOk P w K mg base CX0 5 a.a_clips_at_border a.f_clips_at_border ["track", "moment"] vM := by
  refine T.d_clips_at_border.F.ok sc_clips_at_border (fun vs H Q E h => ?_) (fun cdv A outer s H vs Q E hr h => ?_)
  · obtain ⟨z, ms, t, rfl, _⟩ := h
    rfl
  obtain ⟨z, ms, t, rfl, tT, kk⟩ := h
  refine ⟨_, (qD (qU (i := 2) sc_clips_at_border.nd rfl (Or.inl rfl) (qK T.d_neighbours_at (kH T) hr rfl (qA (pv 0) (qA (pv 1) qC))))
      (qD (qc (PW.pt (xM (vD (vR (pv 2))) (xM (qL zT (qK T.d_kind_at (jF T) hr rfl (qA (pv 0) (qA (qJ qH (pv 2) qB (fun _ _ => rfl)) qC))) qM (qS _)) (jR (qL zT (qK T.d_kind_at (jF T) hr rfl (qA (pv 0) (qA (qJ qH (pv 2) qB (fun _ _ => rfl)) qC))) qM (qS _)))))) (qI (qN vy)) qO)
      (qI (qN (pv 2))))), ?_⟩
  try dsimp only [jN, qg]
  refine ⟨_, rfl, _, rfl, z, ms, _, rfl, tT, ?_⟩
  unfold cbF at kk
  cases hit : nbF ms t with
  | none =>
    rw [hit] at kk
    intro H1 e1
    exact ⟨_, rfl, _, rfl, j5 (kk H1 e1)⟩
  | some x =>
    obtain ⟨i, j⟩ := x
    rw [hit] at kk
    dsimp only at kk
    intro p H1 e1 hp
    refine ⟨_, rfl, _, rfl, xN (fun c => absurd c (by simp)) (fun _ => ?_)⟩
    refine ⟨_, rfl, qY rfl (SqT.of hp) at0 ⟨z, ms, _, rfl, tT.same e1, ?_⟩⟩
    refine ⟨rfl, _, rfl, xN (fun c => ?_) (fun c => ?_)⟩
    · rw [if_neg (fun z => absurd c (by simpa using z.1))] at kk
      exact kk H1 e1
    · refine ⟨_, rfl, qY rfl (SqT.of hp) at1 ⟨z, ms, _, rfl, tT.same e1, ?_⟩⟩
      refine ⟨rfl, _, rfl, xN (fun c2 => ?_) (fun c2 => ?_)⟩
      · rw [if_neg (fun z => absurd c2 (by simpa using z.2))] at kk
        exact kk H1 e1
      · rw [if_pos ⟨by simpa using c, by simpa using c2⟩] at kk
        exact ⟨_, rfl, kk p H1 e1 hp⟩
def TrsAt (H : Hp) : List (List Im) → List V → Prop
  | [], [] => True
  | ms :: r, v :: vs => (∃ z : Addr, v = .ref z ∧ Tr H z ms) ∧ TrsAt H r vs
  | _, _ => False
theorem TrsAt.same {H H' : Hp} (e : Same H H') : ∀ {ts : List (List Im)} {vs : List V}, TrsAt H ts vs → TrsAt H' ts vs
  | [], [], _ => trivial
  | _ :: _, _ :: _, ⟨⟨z, h1, h2⟩, h⟩ => ⟨⟨z, h1, h2.same e⟩, TrsAt.same e h⟩
  | [], _ :: _, h => h.elim
  | _ :: _, [], h => h.elim
theorem TrsAt.len {H : Hp} : ∀ {ts : List (List Im)} {vs : List V}, TrsAt H ts vs → vs.length = ts.length
  | [], [], _ => rfl
  | _ :: _, _ :: _, h => by rw [List.length_cons, List.length_cons, TrsAt.len h.2]
  | [], _ :: _, h => h.elim
  | _ :: _, [], h => h.elim
theorem TrsAt.get {H : Hp} : ∀ {ts : List (List Im)} {vs : List V} {i : Nat} {v : V}, TrsAt H ts vs → vs[i]? = some v → ∃ (ms : List Im) (z : Addr), ts[i]? = some ms ∧ v = .ref z ∧ Tr H z ms
  | [], [], _, _, _, h => by simp at h
  | ms :: _, u :: _, 0, v, h, e => by
    have e' : u = v := by simpa using e
    subst e'
    obtain ⟨⟨z, h1, h2⟩, _⟩ := h
    exact ⟨ms, z, rfl, h1, h2⟩
  | _ :: _, _ :: _, i + 1, v, h, e => by
    obtain ⟨ms, z, h1, h2⟩ := TrsAt.get (i := i) h.2 (by simpa using e)
    exact ⟨ms, z, by simpa using h1, h2⟩
  | [], _ :: _, _, _, h, _ => h.elim
  | _ :: _, [], _, _, h, _ => h.elim
def TabAt (H : Hp) (v : V) (ts : List (List Im)) : Prop := ∃ (tt tl ti : Addr) (zs : List V), v = .ref tt ∧ H tt = some (.tup [.ref tl, .ref ti]) ∧ H tl = some (.lst zs) ∧ TrsAt H ts zs
theorem TabAt.same {H H' : Hp} (e : Same H H') {v : V} {ts : List (List Im)} (h : TabAt H v ts) : TabAt H' v ts :=
  let ⟨tt, tl, ti, zs, h1, h2, h3, h4⟩ := h; ⟨tt, tl, ti, zs, h1, e _ _ h2, e _ _ h3, h4.same e⟩
theorem qCe {H : Hp} {v : V} {n : Str} {p q r s l : Int} (h : IsI H (.clip n p q r s l) v) : Cp K H v n p q r s l := by
  obtain ⟨z, x, y, h0, hz, hx, hy⟩ := h
  exact ⟨z, x, y, h0, SqT.of hz, SqT.of hx, SqT.of hy⟩
def TabF (H : Hp) (v : V) (ts : List (List Im)) (tie : List Int) : Prop := ∃ (tt tl ti : Addr) (zs : List V), v = .ref tt ∧ H tt = some (.tup [.ref tl, .ref ti]) ∧ H tl = some (.lst zs) ∧ TrsAt H ts zs ∧ H ti = some (.lst (tie.map V.int))
theorem TabF.tab {H : Hp} {v : V} {ts : List (List Im)} {tie : List Int} (h : TabF H v ts tie) : TabAt H v ts := let ⟨tt, tl, ti, zs, h1, h2, h3, h4, _⟩ := h; ⟨tt, tl, ti, zs, h1, h2, h3, h4⟩
theorem TabF.same {H H' : Hp} (e : Same H H') {v : V} {ts : List (List Im)} {tie : List Int} (h : TabF H v ts tie) : TabF H' v ts tie :=
  let ⟨tt, tl, ti, zs, h1, h2, h3, h4, h5⟩ := h; ⟨tt, tl, ti, zs, h1, e _ _ h2, e _ _ h3, h4.same e, e _ _ h5⟩
def qO8 (ts : List (List Im)) (tie : List Int) : D := .tup [.lst (ts.map fun ms => .lst (ms.map Im.d)), .lst ((tie.map V.int).map D.leaf)]
theorem TrsAt.rep {H : Hp} : ∀ {ts : List (List Im)} {vs : List V}, TrsAt H ts vs → Reps K H (ts.map fun ms => .lst (ms.map Im.d)) vs
  | [], [], _ => by unfold List.map Reps; trivial
  | _ :: _, _ :: _, ⟨⟨z, h1, h2⟩, r⟩ => by unfold List.map Reps; subst h1; exact ⟨h2.rep, r.rep⟩
  | [], _ :: _, h => h.elim
  | _ :: _, [], h => h.elim
theorem TabF.rep {H : Hp} {v : V} {ts : List (List Im)} {tie : List Int} (h : TabF H v ts tie) : Rep K H (qO8 ts tie) v := by
  obtain ⟨tt, tl, ti, zs, rfl, h2, h3, h4, h5⟩ := h
  unfold qO8 Rep
  refine ⟨tt, _, rfl, SqT.of h2, ?_⟩
  unfold Reps Reps Reps
  refine ⟨?_, qKc h5, trivial⟩
  unfold Rep
  exact ⟨tl, zs, rfl, SqL.of h3, h4.rep⟩
theorem qI5 {H : Hp} : ∀ {ts : List (List Im)} {vs : List V} {ms : List Im} {z : Addr}, TrsAt H ts vs → Tr H z ms → TrsAt H (ts ++ [ms]) (vs ++ [.ref z])
  | [], [], _, z, _, h => ⟨⟨z, rfl, h⟩, trivial⟩
  | _ :: _, _ :: _, _, _, ⟨h1, h2⟩, h => ⟨h1, qI5 h2 h⟩
  | [], _ :: _, _, _, h, _ => h.elim
  | _ :: _, [], _, _, h, _ => h.elim
abbrev Rls := Str → Option Int
def ReelsAt (H : Hp) (rd : Addr) (rl : Rls) : Prop := ∀ n N, rl n = some N → Reel H rd n N
theorem ReelsAt.same {H H' : Hp} {rd : Addr} {rl : Rls} (e : Same H H') (h : ReelsAt H rd rl) : ReelsAt H' rd rl := fun n N q => (h n N q).same e
theorem qCf (T : Tx K mg a) : FnOk P w K mg base CX0 1 a.fi_Short a.gi_Short ["self", "most"] (qFf a.k_Short) := by
  refine T.i_Short.ok qIr (fun vs H Q E h => ?_) (fun cdv A outer s H vs Q E hr h => ?_)
  · obtain ⟨e, v, rfl, _⟩ := h
    rfl
  obtain ⟨e, v, rfl, he, kk⟩ := h
  refine ⟨_, qI (qLd (pv 0) (pv 1)), ?_⟩
  exact ⟨_, rfl, _, rfl, e, _, _, rfl, he, T.m_Short.ov, T.m_Short.hd, T.m_Short.sa, T.tk_Short, kk⟩
def qA0 : Sp := fun vs H Q _ => ∃ (tz tl td : Addr) (zs : List V) (n t : Int), vs = [.ref tz, .int n, .int t] ∧ H tz = some (.tup [.ref tl, .ref td]) ∧ H tl = some (.lst zs) ∧ 0 ≤ n ∧ n < zs.length ∧ 0 ≤ t ∧ Q .non H
theorem kx (T : Tx K mg a) : FnOk P w K mg base CX0 2 a.a_check_place a.f_check_place ["table", "number", "moment"] qA0 := by
  refine T.d_check_place.F.ok qA2 (fun vs H Q E h => ?_) (fun cdv A outer s H vs Q E hr h => ?_)
  · obtain ⟨tz, tl, td, zs, n, t, rfl, _⟩ := h
    rfl
  obtain ⟨tz, tl, td, zs, n, t, rfl, htz, htl, h0, h1, h2, q⟩ := h
  refine ⟨_, (qD (qc (PW.pt (xM (jZ (q9 (qK T.d_is_whole (qv T) hr rfl (qA (pv 1) qC)))) (xM (qL z9 (pv 1) qB (qS _)) (jR (qL qD1 (pv 1) (qf j9 rfl T.b_len rfl (qA (qJ qH (pv 0) qB (fun _ _ => rfl)) qC)) (qS _)))))) qp qO)
      (qI (qc (PW.pt (xM (jZ (q9 (qK T.d_is_whole (qv T) hr rfl (qA (pv 2) qC)))) (jR (qL z9 (pv 2) qB (qS _))))) qp qO))), ?_⟩
  try dsimp only [jN, qg]
  refine ⟨_, rfl, n, rfl, true, rfl, qo ?_⟩
  refine ⟨_, rfl, _, _, rfl, rfl, _, rfl, ?_⟩
  rw [decide_eq_false (show ¬ n < 0 by omega)]
  refine qo ⟨_, rfl, qY rfl (SqT.of htz) at0 ⟨tl, _, rfl, .inl (SqL.of htl), _, _, rfl, rfl, _, rfl, ?_⟩⟩
  rw [decide_eq_false (show ¬ n ≥ ((zs.length : Nat) : Int) by omega)]
  refine qo ⟨_, rfl, t, rfl, true, rfl, qo ?_⟩
  refine ⟨_, rfl, _, _, rfl, rfl, _, rfl, ?_⟩
  rw [decide_eq_false (show ¬ t < 0 by omega)]
  exact qo q
def qE7 : Sp := fun vs H Q _ => ∃ b : Int, vs = [.int b] ∧ b.natAbs ≤ 1000000 ∧ Q .non H
theorem qFp (T : Tx K mg a) : FnOk P w K mg base CX0 2 a.a_check_by a.f_check_by ["by"] qE7 := by
  refine T.d_check_by.F.ok qFb (fun vs H Q E h => ?_) (fun cdv A outer s H vs Q E hr h => ?_)
  · obtain ⟨b, rfl, _⟩ := h
    rfl
  obtain ⟨b, rfl, h0, q⟩ := h
  refine ⟨_, (qI (qc (PW.pt (xM (jZ (q9 (qK T.d_is_whole (qv T) hr rfl (qA (pv 0) qC)))) (jR (qL qA5 (qf wR rfl T.b_abs rfl (qA (pv 0) qC)) (xO (v := .int 1000000) rfl T.g_MOST_BY ⟨_, rfl⟩) (qS _))))) qp qO)), ?_⟩
  try dsimp only [jN, qg]
  refine ⟨_, rfl, b, rfl, true, rfl, qo ?_⟩
  refine ⟨_, rfl, b, rfl, _, _, rfl, rfl, _, rfl, ?_⟩
  rw [decide_eq_false (show ¬ (if b < 0 then -b else b) > 1000000 by split <;> omega)]
  exact qo q
def qGk : Sp := fun vs H Q _ => ∃ (z : Addr) (ms : List Im) (i : Int), vs = [.ref z, .int i] ∧ Tr H z ms ∧ xR ms (i - 1) ≠ "mix" ∧ xR ms (i + 1) ≠ "mix" ∧ Q (.bl false) H
theorem qHb (T : Tx K mg a) : FnOk P w K mg base CX0 2 a.a_has_mix a.f_has_mix ["track", "place"] qGk := by
  refine T.d_has_mix.F.ok qHl (fun vs H Q E h => ?_) (fun cdv A outer s H vs Q E hr h => ?_)
  · obtain ⟨z, ms, i, rfl, _⟩ := h
    rfl
  obtain ⟨z, ms, i, rfl, tT, h1, h2, q⟩ := h
  refine ⟨_, (qI (qN (qOy (j1 jD (qK T.d_kind_at (jF T) hr rfl (qA (pv 0) (qA (qW jM (pv 1) qB) qC))) qM (qS _)) (wA (j1 jD (qK T.d_kind_at (jF T) hr rfl (qA (pv 0) (qA (qW qj (pv 1) qB) qC))) qM (qS _)))))), ?_⟩
  try dsimp only [jN, qg]
  refine ⟨_, rfl, _, rfl, _, _, rfl, rfl, z, ms, _, rfl, tT, rfl, _, rfl, ?_⟩
  rw [decide_eq_false (by simpa using h1)]
  refine qo ⟨_, rfl, _, rfl, _, _, rfl, rfl, z, ms, _, rfl, tT, rfl, ?_⟩
  rw [decide_eq_false (by simpa using h2)]
  exact q
def qEn (b : Int) : Int := if b < 0 then -b else b
def wn (S : Addr) : Sp := fun vs H Q E => ∃ m b : Int, vs = [.int m, .int b] ∧ (qEn b ≤ m → Q .non H) ∧ (¬ qEn b ≤ m → E (.ref S) none H)
theorem kR (T : Tx K mg a) : FnOk P w K mg base (CXR P w) 3 a.a_check_short a.f_check_short ["most", "by"] (wn a.k_Short) := by
  refine okX T.d_check_short.F qA8 (fun vs H Q E h => ?_) (fun cdv A outer s H vs Q E hr h => ?_)
  · obtain ⟨m, b, rfl, _⟩ := h
    rfl
  obtain ⟨m, b, rfl, kg, kb⟩ := h
  refine ⟨_, (qI (qc (qL qA5 (qf wR rfl T.b_abs rfl (qA (pv 1) qC)) (pv 0) (qS _)) (qI (qI7 T.m_Short (qCf T) T.ib_Short (hr.mono (by decide)) rfl rfl T.c_Short (qA (zY (qL qA5 (pv 1) qB (qS _)) (pv 0) (zM jn (pv 0))) qC))) qO)), ?_⟩
  try dsimp only [jN, qg]
  refine ⟨_, rfl, b, rfl, _, rfl, _, _, rfl, rfl, _, rfl, xN (fun c => ?_) (fun c => ?_)⟩
  · have c' : ¬ qEn b ≤ m := by
      have : (if b < 0 then -b else b) > m := by simpa using c
      unfold qEn
      omega
    refine ⟨_, rfl, _, _, rfl, rfl, _, rfl, xN (fun _ => ?_) (fun _ => ?_)⟩
    · exact ⟨_, rfl, ⟨_, rfl⟩, kb c'⟩
    · exact ⟨_, rfl, _, rfl, ⟨_, rfl⟩, kb c'⟩
  · refine kg ?_
    have : ¬ (if b < 0 then -b else b) > m := by simpa using c
    unfold qEn
    omega
def qDg (K : W.Frag) : Sp := fun vs H Q _ => ∃ (v : V) (n : Str) (p q r s len lo hi : Int), vs = [v, .int lo, .int hi] ∧ IsI H (.clip n p q r s len) v ∧ Bn 700 p q r s ∧ lo.natAbs < 2 ^ 700 ∧
  ∀ (u : V) (H' : Hp), Same H H' → IsI H' (.clip n (plP p q r s lo) (plQ p q r s lo) r s (hi - lo)) u → Q u H'
theorem zX (T : Tx K mg a) : FnOk P w K mg base CX0 5 a.a_clip_part a.f_clip_part ["clip", "low", "high"] (qDg K) := by
  refine T.d_clip_part.F.ok qD2 (fun vs H Q E h => ?_) (fun cdv A outer s H vs Q E hr h => ?_)
  · obtain ⟨v, n, p, q, r, s, len, lo, hi, rfl, _⟩ := h
    rfl
  obtain ⟨v, n, p, q, r, s', len, lo, hi, rfl, hI, ⟨hq, hs, bp, bq, br, bs⟩, bl, kk⟩ := h
  refine ⟨_, (qI (qN (qX (qA qM (qA (qJ qH (pv 0) qB (fun _ _ => rfl)) (qA (qK T.d_place_at (zP T) hr rfl (qA (pv 0) (qA (pv 1) qC))) (qA (qJ qH (pv 0) qB (fun _ _ => rfl)) (qA (qW jM (pv 2) (pv 1)) qC)))))))), ?_⟩
  try dsimp only [jN, qg]
  obtain ⟨z, z1, z2, rfl, h0, h1, h2⟩ := id hI
  refine (qY rfl (SqT.of h0) qB3 ⟨_, rfl, _, rfl, _, n, p, q, r, s', len, lo, rfl, qCe hI, hq, hs, bp, bq, br, bs, bl, fun y H1 s1 e1 => ?_⟩)
  refine (qY rfl (SqT.of (s1 _ _ h0)) qAn ⟨_, rfl, _, rfl, _, _, rfl, rfl, sL5, fun t ht => ?_⟩)
  have s2 := qF ht (.tup [.str "clip", .str n, .ref y, .ref z2, .int (hi - lo)])
  exact kk _ _ (s1.trans s2) ⟨t, y, z2, rfl, qE, s2 _ _ e1, s2 _ _ (s1 _ _ h2)⟩
def kA (p q r s l N : Int) : Int := qAu (plP p q r s l * s) (1 * r * plQ p q r s l) (plQ p q r s l * s) N
def z7 (p q r s N : Int) : Int := qAu (plP p q r s (-1) * s) (-1 * r * plQ p q r s (-1)) (plQ p q r s (-1) * s) N
structure Rc (n : Str) (p q r s l : Int) (rl : Rls) (N : Int) : Prop where
  g1 : Good 110 p q
  g2 : Good 110 r s
  bl : l.natAbs < 2 ^ 30
  l1 : 1 ≤ l
  rn : rl n = some N
  bN : N.natAbs < 2 ^ 700
theorem Rc.bn {n : Str} {p q r s l N : Int} {rl : Rls} (h : Rc n p q r s l rl N) : Bn 110 p q r s := ⟨h.g1.1, h.g2.1, h.g1.2.2.1, h.g1.2.2.2, h.g2.2.2.1, h.g2.2.2.2⟩
def qCu (b tl hd l l' : Int) : Int := if 0 < b then (if l' - 1 < tl then l' - 1 else tl) else (if hd < l - 1 then hd else l - 1)
def qC9 (K : W.Frag) : Sp := fun vs H Q _ => ∃ (v u : V) (b : Int) (rd : Addr) (rl : Rls) (n n' : Str) (p q r s l N p' q' r' s' l' N' : Int), vs = [v, u, .int b, .ref rd] ∧ IsI H (.clip n p q r s l) v ∧ IsI H (.clip n' p' q' r' s' l') u ∧
  Rc n p q r s l rl N ∧ Rc n' p' q' r' s' l' rl N' ∧ ReelsAt H rd rl ∧ ∀ H', Same H H' → Q (.int (qCu b (kA p q r s l N) (z7 p' q' r' s' N') l l')) H'
theorem qC5 (T : Tx K mg a) : FnOk P w K mg base CX0 6 a.a_most_roll a.f_most_roll ["left", "right", "by", "reels"] (qC9 K) := by
  refine T.d_most_roll.F.ok qC1 (fun vs H Q E h => ?_) (fun cdv A outer s H vs Q E hr h => ?_)
  · obtain ⟨v, u, b, rd, rl, n, n', p, q, r, s, l, N, p', q', r', s', l', N', rfl, _⟩ := h
    rfl
  obtain ⟨v, u, b, rd, rl, n, n', p, q, r, s1, l, N, p', q', r', s2, l', N', rfl, hv, hu, c1, c2, hrl, kk⟩ := h
  refine ⟨_, (qD (qc (qL qA5 (pv 2) qB (qS _)) (qI (qN (qf (zN rfl) rfl T.b_min rfl (qA (qK T.d_tail_room (kL T) hr rfl (qA (pv 0) (qA (pv 3) qC))) (qA (qW jM (qJ qH (pv 1) qB (fun _ _ => rfl)) qB) qC))))) qO)
      (qI (qN (qf (zN rfl) rfl T.b_min rfl (qA (qW jM (qJ qH (pv 0) qB (fun _ _ => rfl)) qB) (qA (qK T.d_head_room (kT T) hr rfl (qA (pv 1) (qA (pv 3) qC))) qC)))))), ?_⟩
  try dsimp only [jN, qg]
  unfold qCu at kk
  refine ⟨_, rfl, _, _, rfl, rfl, _, rfl, xN (fun c => ?_) (fun c => ?_)⟩
  · rw [if_pos (by simpa using c)] at kk
    obtain ⟨zu, xu, yu, rfl, hzu, _⟩ := id hu
    refine ⟨_, rfl, _, rfl, v, n, p, q, r, s1, l, N, rd, rfl, qCe hv, c1.g1, c1.g2, c1.bl, hrl _ _ c1.rn, c1.bN, fun H1 e1 => ?_⟩
    exact (qY rfl (SqT.of (e1 _ _ hzu)) wI ⟨_, _, rfl, rfl, _, _, rfl, kk H1 e1⟩)
  · rw [if_neg (by simpa using c)] at kk
    obtain ⟨zv, xv, yv, rfl, hzv, _⟩ := id hv
    refine (qY rfl (SqT.of hzv) wI ⟨_, _, rfl, rfl, ?_⟩)
    refine ⟨_, rfl, _, rfl, u, n', p', q', r', s2, l', N', rd, rfl, qCe hu, c2.g1, c2.g2, hrl _ _ c2.rn, c2.bN, fun H1 e1 => ?_⟩
    exact ⟨_, _, rfl, kk H1 e1⟩
theorem IsIs.set {H : Hp} : ∀ {ms : List Im} {vs : List V} {i : Nat} {m : Im} {v : V}, IsIs H ms vs → IsI H m v → IsIs H (ms.set i m) (vs.set i v)
  | [], [], _, _, _, _, _ => trivial
  | _ :: _, _ :: _, 0, _, _, h, h' => ⟨h', h.2⟩
  | _ :: _, _ :: _, _ + 1, _, _, h, h' => ⟨h.1, h.2.set h'⟩
  | [], _ :: _, _, _, _, h, _ => h.elim
  | _ :: _, [], _, _, _, h, _ => h.elim
theorem qCb {n i : Nat} (h : i < n) : ixN n (i : Int) = some i := by
  unfold ixN
  rw [if_pos (by omega), if_pos (by omega)]
  congr 1
def qL3 (ms : List Im) (i j : Nat) (b : Int) (n : Str) (p q r s l : Int) (n' : Str) (p' q' r' s' l' : Int) : List Im := (ms.set i (.clip n p q r s (l + b))).set j (.clip n' (plP p' q' r' s' b) (plQ p' q' r' s' b) r' s' (l' - b))
def km (S : Addr) : Sp := fun vs H Q E => ∃ (z rd : Addr) (ms : List Im) (i j : Nat) (b : Int) (rl : Rls) (n n' : Str) (p q r s l N p' q' r' s' l' N' : Int), vs = [.ref z, .int (i : Int), .int (j : Int), .int b, .ref rd] ∧ Tr H z ms ∧ ms.length ≤ 300 ∧
  ms[i]? = some (.clip n p q r s l) ∧ ms[j]? = some (.clip n' p' q' r' s' l') ∧ Rc n p q r s l rl N ∧ Rc n' p' q' r' s' l' rl N' ∧ ReelsAt H rd rl ∧ b.natAbs ≤ 1000000 ∧
  (qEn b ≤ qCu b (kA p q r s l N) (z7 p' q' r' s' N') l l' → ∀ (y : Addr) (H' : Hp), Same H H' → H y = none → Tr H' y (qL3 ms i j b n p q r s l n' p' q' r' s' l') → Q (.ref y) H') ∧
  (¬ qEn b ≤ qCu b (kA p q r s l N) (z7 p' q' r' s' N') l l' → ∀ H', Same H H' → E (.ref S) none H')
theorem kj (T : Tx K mg a) : FnOk P w K mg base (CXR P w) 7 a.a_with_rolled_ends a.f_with_rolled_ends ["track", "first", "last", "by", "reels"] (km a.k_Short) := by
  refine okX T.d_with_rolled_ends.F sc_with_rolled_ends (fun vs H Q E h => ?_) (fun cdv A outer s H vs Q E hr h => ?_)
  · obtain ⟨z, rd, ms, i, j, b, rl, n, n', p, q, r, s, l, N, p', q', r', s', l', N', rfl, _⟩ := h
    rfl
  obtain ⟨z, rd, ms, i, j, b, rl, n, n', p, q, r, s1, l, N, p', q', r', s2, l', N', rfl, tT, hln, hi, hj, c1, c2, hrl, hb, kg, kb⟩ := h
  refine ⟨_, (qD (qU (i := 5) sc_with_rolled_ends.nd rfl (Or.inl rfl) (qJ qm (pv 0) (pv 1) (fun _ _ => rfl)))
      (qD (qU (i := 6) sc_with_rolled_ends.nd rfl (Or.inl rfl) (qJ qm (pv 0) (pv 2) (fun _ _ => rfl)))
      (qD (qx (qCd T.d_check_short (kR T) hr rfl (qA (qK T.d_most_roll (qC5 T) hr rfl (qA (pv 5) (qA (pv 6) (qA (pv 3) (qA (pv 4) qC))))) (qA (pv 3) qC))))
      (qD (qU (i := 7) sc_with_rolled_ends.nd rfl (Or.inl rfl) (vT zV rfl T.b_list rfl (qA (pv 0) qC)))
      (qD (qBi (qK T.d_clip_part (zX T) hr rfl (qA (pv 5) (qA qB (qA (qW qj (qJ qH (pv 5) qB (fun _ _ => rfl)) (pv 3)) qC)))) (qEf (pv 7) (pv 1) vU))
      (qD (qBi (qK T.d_clip_part (zX T) hr rfl (qA (pv 6) (qA (pv 3) (qA (qJ qH (pv 6) qB (fun _ _ => rfl)) qC)))) (qEf (pv 7) (pv 2) vU))
      (qI (qN (pv 7))))))))), ?_⟩
  try dsimp only [jN, qg]
  obtain ⟨vs, hz, his⟩ := id tT
  obtain ⟨va, hva, Ia⟩ := his.get' hi
  obtain ⟨vb, hvb, Ib⟩ := his.get' hj
  have hlv := his.len
  have li : i < vs.length := (glt hva)
  have lj : j < vs.length := (glt hvb)
  refine ⟨_, rfl, _, rfl, z, _, _, _, rfl, rfl, SqL.of hz, qq hva, ?_⟩
  refine ⟨_, rfl, _, rfl, z, _, _, _, rfl, rfl, SqL.of hz, qq hvb, ?_⟩
  refine ⟨_, rfl, _, rfl, _, rfl, _, rfl, va, vb, b, rd, rl, n, n', p, q, r, s1, l, N, p', q', r', s2, l', N', rfl, Ia, Ib, c1, c2, hrl, fun H1 e1 => ?_⟩
  refine ⟨_, rfl, _, b, rfl, fun hc => ?_, fun hc => kb hc H1 e1⟩
  refine ⟨_, rfl, z, vs, rfl, .inl (SqL.of (e1 _ _ hz)), fun y hy => ?_⟩
  have w2 := qF hy (.lst vs)
  have e2 := e1.trans w2
  have hy0 : H y = none := by
    cases q0 : H y with
    | none => rfl
    | some o => rw [e1 _ _ q0] at hy; cases hy
  obtain ⟨za, xa, ya, rfl, hza, hxa, hya⟩ := id Ia
  have b1 := c1.bn.mono (m := 700)
  have b2 := c2.bn.mono (m := 700)
  have bb7 : b.natAbs < 2 ^ 700 := Nat.lt_of_le_of_lt hb (by decide)
  have hy2 : upd H1 y (.lst vs) y = some (.lst vs) := qE
  generalize upd H1 y (.lst vs) = H2 at w2 e2 hy2 ⊢
  refine ⟨_, rfl, qY rfl (SqT.of (e2 _ _ hza)) wI ⟨_, rfl, _, _, rfl, rfl, _, n, p, q, r, s1, l, 0, _, rfl, Ia.ts (qV e2), b1, by decide, fun u H3 e3 I3 => ?_⟩⟩
  rw [(qH6 c1.bn.q0 c1.bn.s0 c1.g1.2.1).1, (qH6 c1.bn.q0 c1.bn.s0 c1.g1.2.1).2, Int.sub_zero] at I3
  refine ⟨_, rfl, _, rfl, y, vs, _, i, rfl, rfl, e3 _ _ hy2, qCb li, ?_⟩
  have e4 : Same H (upd H3 y (.lst (vs.set i u))) := q8 (e2.trans e3) hy0
  have t4 : TS H3 (upd H3 y (.lst (vs.set i u))) := jm (e3 _ _ hy2)
  have hy4 : upd H3 y (.lst (vs.set i u)) y = some (.lst (vs.set i u)) := qE
  have I4 := I3.ts t4
  have is4 := (his.ts (qV e4)).set (i := i) I4
  generalize upd H3 y (.lst (vs.set i u)) = H4 at e4 hy4 I4 is4 ⊢
  obtain ⟨zb, xb, yb, rfl, hzb, hxb, hyb⟩ := id Ib
  refine ⟨_, rfl, _, rfl, qY rfl (SqT.of (e4 _ _ hzb)) wI ⟨_, n', p', q', r', s2, l', b, _, rfl, Ib.ts (qV e4), b2, bb7, fun u' H5 e5 I5 => ?_⟩⟩
  refine ⟨_, rfl, _, rfl, y, _, _, j, rfl, rfl, e5 _ _ hy4, qCb (by rw [List.length_set]; exact lj), ?_⟩
  have e6 : Same H (upd H5 y (.lst ((vs.set i u).set j u'))) := q8 (e4.trans e5) hy0
  have t6 : TS H5 (upd H5 y (.lst ((vs.set i u).set j u'))) := jm (e5 _ _ hy4)
  exact ⟨_, rfl, kg hc y _ e6 hy0 ⟨_, qE, ((is4.ts (qV e5)).ts t6).set (I5.ts t6)⟩⟩
structure NewTab (H H' : Hp) (t : Addr) (ts : List (List Im)) (tie : List Int) : Prop where
  ex : ∃ (tl ti : Addr) (zs : List V), H' t = some (.tup [.ref tl, .ref ti]) ∧ H' tl = some (.lst zs) ∧ TrsAt H' ts zs ∧ H' ti = some (.lst (tie.map V.int)) ∧ H tl = none ∧ H ti = none ∧ tl ≠ ti ∧ ∀ b, V.ref b ∈ zs → H b = none ∧ b ≠ tl ∧ b ≠ ti
theorem NewTab.tab {H H' : Hp} {t : Addr} {ts : List (List Im)} {tie : List Int} (h : NewTab H H' t ts tie) : TabF H' (.ref t) ts tie := let ⟨tl, ti, zs, h1, h2, h3, h4, _⟩ := h.ex; ⟨t, tl, ti, zs, rfl, h1, h2, h3, h4⟩
theorem TrsAt.set {H : Hp} : ∀ {ts : List (List Im)} {vs : List V} {i : Nat} {ms : List Im} {z : Addr}, TrsAt H ts vs → Tr H z ms → TrsAt H (ts.set i ms) (vs.set i (.ref z))
  | [], [], _, _, _, _, _ => trivial
  | _ :: _, _ :: _, 0, _, z, h, h' => ⟨⟨z, rfl, h'⟩, h.2⟩
  | _ :: _, _ :: _, _ + 1, _, _, h, h' => ⟨h.1, h.2.set h'⟩
  | [], _ :: _, _, _, _, h, _ => h.elim
  | _ :: _, [], _, _, _, h, _ => h.elim
theorem TrsAt.refs {H : Hp} : ∀ {ts : List (List Im)} {vs : List V} {b : Addr}, TrsAt H ts vs → V.ref b ∈ vs → ∃ xs, H b = some (.lst xs)
  | [], [], _, _, h => by simp at h
  | _ :: _, _ :: _, b, ⟨⟨z, h1, ⟨xs, h2, _⟩⟩, r⟩, h => by
    rcases List.mem_cons.mp h with h | h
    · rw [h1] at h
      cases h
      exact ⟨xs, h2⟩
    · exact TrsAt.refs r h
  | [], _ :: _, _, h, _ => h.elim
  | _ :: _, [], _, h, _ => h.elim
def qCa : Sp := fun vs H Q _ => ∃ (tz y : Addr) (n : Nat) (ts : List (List Im)) (tie : List Int) (ms : List Im), vs = [.ref tz, .int (n : Int), .ref y] ∧ TabF H (.ref tz) ts tie ∧ Tr H y ms ∧ n < ts.length ∧ ts.length ≤ 300 ∧
  ∀ (t : Addr) (H' : Hp), Same H H' → (∀ H0 : Hp, Same H0 H → H0 y = none → NewTab H0 H' t (ts.set n ms) tie) → Q (.ref t) H'
theorem jo (T : Tx K mg a) : FnOk P w K mg base CX0 1 a.a_table_with a.f_table_with ["table", "number", "track"] qCa := by
  refine T.d_table_with.F.ok sc_table_with (fun vs H Q E h => ?_) (fun cdv A outer s H vs Q E hr h => ?_)
  · obtain ⟨tz, y, n, ts, tie, ms, rfl, _⟩ := h
    rfl
  obtain ⟨tz, y, n, ts, tie, ms, rfl, ⟨tt, tl, ti, zs, e0, h2, h3, h4, h5⟩, hy, hn, hl, kk⟩ := h
  cases e0
  have hzl := h4.len
  refine ⟨_, (qD (qHr (i := 3) [] [] sc_table_with.nd rfl rfl rfl (jC (qJ qH (pv 0) qB (fun _ _ => rfl))) (fun _ _ _ _ => (vT (qBr (K := K) rfl) rfl T.b_list rfl (qA (pv 0) qC))))
      (qD (qBi (pv 2) (qEf (pv 3) (pv 1) vU))
      (qI (qN (qX (qA (pv 3) (qA (vT zV rfl T.b_list rfl (qA (qJ qH (pv 0) qB (fun _ _ => rfl)) qC)) qC))))))), ?_⟩
  try dsimp only [jN, qg]
  refine (qY rfl (SqT.of h2) at0 ⟨tl, rfl, ⟨_, SqL.of h3⟩, zt (K := K) (a := tl) (xs := zs) (fun j acc H2 => TrsAt H2 (ts.take j) acc ∧ Same H H2 ∧ ∀ b, V.ref b ∈ acc → H b = none) ⟨trivial, Same.refl _, fun b z => absurd z (by simp)⟩ ?_ ?_ ?_⟩)
  · rintro j acc H2 hj ⟨ht, e2, _⟩
    exact ⟨SqL.of (e2 _ _ h3), qd (by rw [ht.len, List.length_take]; omega)⟩
  · rintro j x acc H2 hj hx ⟨ht, e2, fr⟩
    obtain ⟨ms1, z, hms, rfl, us, hz, his⟩ := h4.get hx
    refine ⟨_, rfl, z, us, rfl, .inl (SqL.of (e2 _ _ hz)), fun l hl' => Nxt.mk hj ⟨?_, e2.trans (qF hl' _), fun b hb => ?_⟩⟩
    · have w3 := qF hl' (.lst us)
      have etk : ts.take (j + 1) = ts.take j ++ [ms1] := by rw [List.take_add_one, hms]; rfl
      rw [etk]
      exact qI5 (ht.same w3) ⟨us, qE, his.ts (qV (e2.trans w3))⟩
    · rcases List.mem_append.mp hb with hb | hb
      · exact fr b hb
      · have : b = l := by simpa using hb
        subst this
        cases q0 : H b with
        | none => rfl
        | some o => rw [e2 _ _ q0] at hl'; cases hl'
  rintro acc H2 ⟨ht, e2, fr⟩ d hd
  rw [hzl, List.take_length] at ht
  have hal := ht.len
  have w3 := qF hd (.lst acc)
  have e3 := e2.trans w3
  have hd0 : H d = none := by
    cases q0 : H d with
    | none => rfl
    | some o => rw [e2 _ _ q0] at hd; cases hd
  refine ⟨_, rfl, _, rfl, _, rfl, d, acc, _, n, rfl, rfl, qE, qCb (by rw [hal]; exact hn), ?_⟩
  have uu : upd (upd H2 d (.lst acc)) d (.lst (acc.set n (.ref y))) = upd H2 d (.lst (acc.set n (.ref y))) := by
    funext b
    by_cases hb : b = d
    · rw [hb, qE, qE]
    · rw [qi hb, qi hb, qi hb]
  rw [uu]
  have w4 := qF hd (.lst (acc.set n (.ref y)))
  have e4 := e2.trans w4
  have hd4 : upd H2 d (.lst (acc.set n (.ref y))) d = some (.lst (acc.set n (.ref y))) := qE
  have ht4 : TrsAt (upd H2 d (.lst (acc.set n (.ref y)))) (ts.set n ms) (acc.set n (.ref y)) := (ht.same w4).set (hy.same e4)
  have nd : ∀ b, V.ref b ∈ acc → b ≠ d := fun b hb z => by
    obtain ⟨xs, q0⟩ := ht.refs hb
    rw [z, hd] at q0; cases q0
  have ny : y ≠ d := fun z => by
    obtain ⟨us, q0, _⟩ := id hy
    rw [z, hd0] at q0; cases q0
  generalize upd H2 d (.lst (acc.set n (.ref y))) = H4 at w4 e4 hd4 ht4 ⊢
  refine ⟨_, rfl, qY rfl (SqT.of (e4 _ _ h2)) at1 ⟨ti, _, rfl, .inl (SqL.of (e4 _ _ h5)), fun l hl' => ?_⟩⟩
  have w5 := qF hl' (.lst (tie.map V.int))
  have e5 := e4.trans w5
  refine ⟨sL2, fun t ht' => ?_⟩
  have w6 := qF ht' (.tup [.ref d, .ref l])
  refine kk t _ (e5.trans w6) fun H0 s0 y0 => ?_
  have back : ∀ b, H b = none → H0 b = none := fun b hb => by
    cases q0 : H0 b with
    | none => rfl
    | some o => rw [s0 _ _ q0] at hb; cases hb
  have hl0 : H l = none := by
    cases q0 : H l with
    | none => rfl
    | some o => rw [e4 _ _ q0] at hl'; cases hl'
  have dl : d ≠ l := fun z => by rw [← z, hd4] at hl'; cases hl'
  refine ⟨d, l, _, qE, w6 _ _ (w5 _ _ hd4), (ht4.same w5).same w6, w6 _ _ qE, back _ hd0, back _ hl0, dl, fun b hb => ?_⟩
  obtain ⟨xs, q0⟩ := ht4.refs hb
  have bl : b ≠ l := fun z => by rw [z, hl'] at q0; cases q0
  rcases List.mem_or_eq_of_mem_set hb with hb | hb
  · exact ⟨back _ (fr b hb), nd b hb, bl⟩
  · cases hb
    exact ⟨y0, ny, bl⟩
theorem qPq {x0 x1 : V} : atI [x0, x1] (-1) = some x1 := rfl
theorem zU {x0 x1 x2 x3 : V} : atI [x0, x1, x2, x3] 0 = some x0 := rfl
theorem qAr {x0 x1 x2 x3 : V} : atI [x0, x1, x2, x3] 1 = some x1 := rfl
theorem vn {x0 x1 x2 x3 : V} : atI [x0, x1, x2, x3] 2 = some x2 := rfl
theorem xq {x0 x1 x2 x3 : V} : atI [x0, x1, x2, x3] 3 = some x3 := rfl
theorem qJ8 {ms : List Im} {Pm : Im → Prop} (h : ∀ m ∈ ms, Pm m) (k : Int) : xR ms k = "" ∨ ∃ m, Pm m ∧ xR ms k = m.wd := by
  unfold xR
  by_cases h0 : k < 0
  · rw [if_pos h0]; exact .inl rfl
  · rw [if_neg h0]
    cases hm : ms[k.toNat]? with
    | none => exact .inl rfl
    | some m => exact .inr ⟨m, h m (List.mem_of_getElem? hm), rfl⟩
def Pos (ms : List Im) : Prop := ∀ m ∈ ms, 0 < m.mo ∧ m.wd ≠ "mix"
theorem Pos.kind {ms : List Im} (h : Pos ms) (k : Int) : xR ms k ≠ "mix" := by
  rcases qJ8 h k with e | ⟨m, hm, e⟩
  · rw [e]; decide +kernel
  · rw [e]; exact hm.2
theorem qCy {ms : List Im} {i : Nat} {m : Im} (h : Pos ms) (hm : ms[i]? = some m) : xy 0 0 ms (qEm ms i) = some (i, 0) := by
  have hi : i < ms.length := (glt hm)
  have e : ms = ms.take i ++ m :: ms.drop (i + 1) := by
    conv => lhs; rw [← List.take_append_drop i ms, j3 hm]
  have := v9 (ms.take i) 0 0 m (ms.drop (i + 1)) (fun x hx => by have := (h x (List.mem_of_mem_take hx)).1; omega) (h m (List.mem_of_getElem? hm)).1
  rw [← e, Int.zero_add, Nat.zero_add, List.length_take, Nat.min_eq_left (by omega)] at this
  exact this
theorem qIj {ms : List Im} (h : Pos ms) (i : Nat) : 0 ≤ qEm ms i := by
  unfold qEm
  have : ∀ zs : List Im, (∀ z ∈ zs, 0 < z.mo) → 0 ≤ (zs.map Im.mo).sum := fun zs => by
    induction zs with
    | nil => intro _; simp
    | cons z zs ih => intro h; have := ih fun y hy => h y (by simp [hy]); have := h z (by simp); rw [List.map_cons, List.sum_cons]; omega
  exact this _ fun z hz => (h z (List.mem_of_mem_take hz)).1
theorem vi {x0 x1 x2 : V} : atI [x0, x1, x2] 0 = some x0 := rfl
theorem qM3 {x0 x1 x2 : V} : atI [x0, x1, x2] (-1) = some x2 := rfl
theorem qJ7 {x0 : V} : atI [x0] 0 = some x0 := rfl
def qAi : Sp := fun vs H Q _ => ∃ (z : Addr) (ms : List Im) (i : Int), vs = [.ref z, .int i] ∧ Tr H z ms ∧ Q (.int (if xR ms (i + 1) = "mix" then i + 2 else i + 1)) H
theorem qAb (T : Tx K mg a) : FnOk P w K mg base CX0 2 a.a_place_behind a.f_place_behind ["track", "place"] qAi := by
  refine T.d_place_behind.F.ok wx (fun vs H Q E h => ?_) (fun cdv A outer s H vs Q E hr h => ?_)
  · obtain ⟨z, ms, i, rfl, _⟩ := h
    rfl
  obtain ⟨z, ms, i, rfl, tT, q⟩ := h
  refine ⟨_, (qI (qN (zY (qL jD (qK T.d_kind_at (jF T) hr rfl (qA (pv 0) (qA (qW qj (pv 1) qB) qC))) qM (qS _)) (qW qj (pv 1) qB) (qW qj (pv 1) qB)))), ?_⟩
  try dsimp only [jN, qg]
  refine ⟨_, rfl, _, rfl, _, _, rfl, rfl, z, ms, _, rfl, tT, rfl, _, rfl, xN (fun c => ?_) (fun c => ?_)⟩
  · rw [if_pos (by simpa using c)] at q
    exact ⟨_, rfl, _, _, rfl, rfl, q⟩
  · rw [if_neg (by simpa using c)] at q
    exact ⟨_, rfl, _, _, rfl, rfl, q⟩
def qCs : Sp := fun vs H Q _ => ∃ (z : Addr) (ms : List Im) (t d : Int) (i : Nat), vs = [.ref z, .int t] ∧ Tr H z ms ∧ xy 0 0 ms t = some (i, d) ∧ xR ms (i : Int) = "clip" ∧ ∀ (p : Addr) (H' : Hp), Same H H' → H' p = some (.tup [.int (i : Int)]) → Q (.ref p) H'
theorem vQ (T : Tx K mg a) : FnOk P w K mg base CX0 4 a.a_clip_there a.f_clip_there ["track", "moment"] qCs := by
  refine T.d_clip_there.F.ok sc_clip_there (fun vs H Q E h => ?_) (fun cdv A outer s H vs Q E hr h => ?_)
  · obtain ⟨z, ms, t, d, i, rfl, _⟩ := h
    rfl
  obtain ⟨z, ms, t, d, i, rfl, tT, hit, hk, kk⟩ := h
  refine ⟨_, (qD (qU (i := 2) sc_clip_there.nd rfl (Or.inl rfl) (qK T.d_item_at (vq T) hr rfl (qA (pv 0) (qA (pv 1) qC))))
      (qD (qc (PW.pt (xM (vD (vR (pv 2))) (jR (qL zT (qK T.d_kind_at (jF T) hr rfl (qA (pv 0) (qA (qJ qH (pv 2) qB (fun _ _ => rfl)) qC))) qM (qS _))))) (qI (qN vy)) qO)
      (qI (qN (qX (qA (qJ qH (pv 2) qB (fun _ _ => rfl)) qC)))))), ?_⟩
  try dsimp only [jN, qg]
  refine ⟨_, rfl, _, rfl, z, ms, _, rfl, tT, ?_⟩
  rw [hit]
  intro p H1 e1 hp
  refine ⟨_, rfl, _, rfl, xN (fun c => absurd c (by simp)) (fun _ => ?_)⟩
  refine ⟨_, rfl, qY rfl (SqT.of hp) at0 ⟨z, ms, _, rfl, tT.same e1, ?_⟩⟩
  rw [hk]
  refine ⟨rfl, _, rfl, qH8 rfl ?_⟩
  refine (qY rfl (SqT.of hp) at0 ⟨sL1, fun q hq => ?_⟩)
  exact kk q _ (e1.trans (qF hq _)) qE
def vh : Sp := fun vs H Q _ => ∃ (z : Addr) (ms : List Im) (t d : Int) (i : Nat), vs = [.ref z, .int t] ∧ Tr H z ms ∧ Pos ms ∧ xy 0 0 ms t = some (i + 1, d) ∧ xR ms (i : Int) = "clip" ∧ xR ms ((i + 1 : Nat) : Int) = "clip" ∧ xR ms ((i + 2 : Nat) : Int) = "clip" ∧
  ∀ (p : Addr) (H' : Hp), Same H H' → H' p = some (.tup [.int (i : Int), .int ((i + 1 : Nat) : Int), .int ((i + 2 : Nat) : Int)]) → Q (.ref p) H'
theorem vW (T : Tx K mg a) : FnOk P w K mg base CX0 5 a.a_clip_and_sides a.f_clip_and_sides ["track", "moment"] vh := by
  refine T.d_clip_and_sides.F.ok sc_clip_and_sides (fun vs H Q E h => ?_) (fun cdv A outer s H vs Q E hr h => ?_)
  · obtain ⟨z, ms, t, d, i, rfl, _⟩ := h
    rfl
  obtain ⟨z, ms, t, d, i, rfl, tT, hp, hit, k0, k1, k2, kk⟩ := h
  refine ⟨_, (qD (qU (i := 2) sc_clip_and_sides.nd rfl (Or.inl rfl) (qK T.d_clip_there (vQ T) hr rfl (qA (pv 0) (qA (pv 1) qC))))
      (qD (qc (vD (vR (pv 2))) (qI (qN vy)) qO)
      (qD (qU (i := 3) sc_clip_and_sides.nd rfl (Or.inl rfl) (qK T.d_place_ahead (vB T) hr rfl (qA (pv 0) (qA (qJ qH (pv 2) qB (fun _ _ => rfl)) qC))))
      (qD (qU (i := 4) sc_clip_and_sides.nd rfl (Or.inl rfl) (qK T.d_place_behind (qAb T) hr rfl (qA (pv 0) (qA (qJ qH (pv 2) qB (fun _ _ => rfl)) qC))))
      (qD (qc (PW.pt (xM (qL zT (qK T.d_kind_at (jF T) hr rfl (qA (pv 0) (qA (pv 3) qC))) qM (qS _)) (jR (qL zT (qK T.d_kind_at (jF T) hr rfl (qA (pv 0) (qA (pv 4) qC))) qM (qS _))))) (qI (qN vy)) qO)
      (qI (qN (qX (qA (pv 3) (qA (qJ qH (pv 2) qB (fun _ _ => rfl)) (qA (pv 4) qC))))))))))), ?_⟩
  try dsimp only [jN, qg]
  refine ⟨_, rfl, _, rfl, z, ms, t, d, i + 1, rfl, tT, hit, k1, fun p H1 e1 hp1 => ?_⟩
  refine ⟨_, rfl, _, rfl, xN (fun c => absurd c (by simp)) (fun _ => ?_)⟩
  refine ⟨_, rfl, qY rfl (SqT.of hp1) qJ7 ⟨z, ms, _, rfl, tT.same e1, ?_⟩⟩
  rw [if_neg (hp.kind _)]
  refine ⟨_, rfl, qY rfl (SqT.of hp1) qJ7 ⟨z, ms, _, rfl, tT.same e1, ?_⟩⟩
  rw [if_neg (hp.kind _), show ((i + 1 : Nat) : Int) - 1 = (i : Int) by omega, show ((i + 1 : Nat) : Int) + 1 = ((i + 2 : Nat) : Int) by omega]
  refine ⟨_, rfl, _, rfl, z, ms, _, rfl, tT.same e1, ?_⟩
  rw [k0]
  refine ⟨rfl, _, rfl, qH8 rfl ?_⟩
  refine ⟨_, rfl, _, rfl, z, ms, _, rfl, tT.same e1, ?_⟩
  rw [k2]
  refine ⟨rfl, _, rfl, qH8 rfl ?_⟩
  refine ⟨_, rfl, qY rfl (SqT.of hp1) qJ7 ⟨_, rfl, sL3, fun q hq => ?_⟩⟩
  exact kk q _ (e1.trans (qF hq _)) qE
theorem qFk {ms : List Im} {i : Nat} {n n' : Str} {p q r s l p' q' r' s' l' : Int} (h : Pos ms) (h1 : ms[i]? = some (.clip n p q r s l)) (h2 : ms[i + 1]? = some (.clip n' p' q' r' s' l')) : cbF ms (qEm ms (i + 1)) = some ((i : Int), ((i + 1 : Nat) : Int)) := by
  have hn : nbF ms (qEm ms (i + 1)) = some ((i : Int), ((i + 1 : Nat) : Int)) := by
    unfold nbF
    rw [qCy h h2]
    dsimp only
    rw [if_neg (by omega), if_neg (h.kind _)]
    congr 2
    omega
  unfold cbF
  rw [hn]
  dsimp only
  rw [if_pos ⟨zO h1 rfl, zO h2 rfl⟩]
inductive Mv (rl : Rls) (ms : List Im) (t b : Int) : Str → List Int → List Im → Prop → Prop where
  | slip {i : Nat} {d : Int} {n : Str} {p q r s l N : Int} (ht : xy 0 0 ms t = some (i, d)) (hm : ms[i]? = some (.clip n p q r s l)) (hc : Rc n p q r s l rl N) :
    Mv rl ms t b "slip" [(i : Int)] (ms.set i (.clip n (plP p q r s b) (plQ p q r s b) r s l)) (qEn b ≤ if 0 < b then kA p q r s l N else z7 p q r s N)
  | roll {i : Nat} {n n' : Str} {p q r s l N p' q' r' s' l' N' : Int} (ht : t = qEm ms (i + 1)) (h1 : ms[i]? = some (.clip n p q r s l)) (h2 : ms[i + 1]? = some (.clip n' p' q' r' s' l')) (c1 : Rc n p q r s l rl N) (c2 : Rc n' p' q' r' s' l' rl N') :
    Mv rl ms t b "roll" [(i : Int), ((i + 1 : Nat) : Int)] (qL3 ms i (i + 1) b n p q r s l n' p' q' r' s' l') (qEn b ≤ qCu b (kA p q r s l N) (z7 p' q' r' s' N') l l')
  | slide {i : Nat} {d : Int} {n n' : Str} {p q r s l N p' q' r' s' l' N' : Int} (ht : xy 0 0 ms t = some (i + 1, d)) (h1 : ms[i]? = some (.clip n p q r s l)) (hk : xR ms ((i + 1 : Nat) : Int) = "clip") (h2 : ms[i + 2]? = some (.clip n' p' q' r' s' l')) (c1 : Rc n p q r s l rl N) (c2 : Rc n' p' q' r' s' l' rl N') :
    Mv rl ms t b "slide" [(i : Int), ((i + 1 : Nat) : Int), ((i + 2 : Nat) : Int)] (qL3 ms i (i + 2) b n p q r s l n' p' q' r' s' l') (qEn b ≤ qCu b (kA p q r s l N) (z7 p' q' r' s' N') l l')
def qAj : Sp := fun vs H Q _ => ∃ (z dz : Addr) (ms : List Im) (n b : V) (t by' : Int) (rl : Rls) (wd : Str) (is : List Int) (ms' : List Im) (c : Prop), vs = [.ref z, .ref dz] ∧ Tr H z ms ∧ Pos ms ∧ H dz = some (.tup [.str wd, n, .int t, b]) ∧ Mv rl ms t by' wd is ms' c ∧
  ∀ (p : Addr) (H' : Hp), Same H H' → H' p = some (.tup (is.map V.int)) → Q (.ref p) H'
theorem qAo (T : Tx K mg a) : FnOk P w K mg base CX0 6 a.a_places_named a.f_places_named ["track", "deed"] qAj := by
  refine T.d_places_named.F.ok qAk (fun vs H Q E h => ?_) (fun cdv A outer s H vs Q E hr h => ?_)
  · obtain ⟨z, dz, ms, n, b, t, by', rl, wd, is, ms', c, rfl, _⟩ := h
    rfl
  obtain ⟨z, dz, ms, n, b, t, by', rl, wd, is, ms', c, rfl, tT, hp, hd, hmv, kk⟩ := h
  refine ⟨_, (qD (qc (qL jD (qJ qH (pv 1) qB (fun _ _ => rfl)) qM (qS _)) (qI (qN (qK T.d_clips_at_border (jJ T) hr rfl (qA (pv 0) (qA (qJ qH (pv 1) qB (fun _ _ => rfl)) qC))))) qO)
      (qD (qc (qL jD (qJ qH (pv 1) qB (fun _ _ => rfl)) qM (qS _)) (qI (qN (qK T.d_clip_there (vQ T) hr rfl (qA (pv 0) (qA (qJ qH (pv 1) qB (fun _ _ => rfl)) qC))))) qO)
      (qD (qc (qL jD (qJ qH (pv 1) qB (fun _ _ => rfl)) qM (qS _)) (qI (qN (qK T.d_clip_and_sides (vW T) hr rfl (qA (pv 0) (qA (qJ qH (pv 1) qB (fun _ _ => rfl)) qC))))) qO)
      (qI (qN vy))))), ?_⟩
  try dsimp only [jN, qg]
  cases hmv with
  | roll ht h1 h2 c1 c2 =>
    refine (qY rfl (SqT.of hd) zU ⟨rfl, _, rfl, j5 ?_⟩)
    refine ⟨_, rfl, qY rfl (SqT.of hd) vn ⟨z, ms, t, rfl, tT, ?_⟩⟩
    rw [ht, qFk hp h1 h2]
    exact kk
  | slip ht hm hc =>
    refine (qY rfl (SqT.of hd) zU ⟨rfl, _, rfl, qo ?_⟩)
    refine (qY rfl (SqT.of hd) zU ⟨rfl, _, rfl, j5 ?_⟩)
    exact ⟨_, rfl, qY rfl (SqT.of hd) vn ⟨z, ms, t, _, _, rfl, tT, ht, zO hm rfl, kk⟩⟩
  | slide ht h1 hk h2 c1 c2 =>
    refine (qY rfl (SqT.of hd) zU ⟨rfl, _, rfl, qo ?_⟩)
    refine (qY rfl (SqT.of hd) zU ⟨rfl, _, rfl, qo ?_⟩)
    refine (qY rfl (SqT.of hd) zU ⟨rfl, _, rfl, j5 ?_⟩)
    exact ⟨_, rfl, qY rfl (SqT.of hd) vn ⟨z, ms, t, _, _, rfl, tT, hp, ht, zO h1 rfl, hk, zO h2 rfl, kk⟩⟩
def qDr (K : W.Frag) : Sp := fun vs H Q _ => ∃ (v : V) (b : Int) (rd : Addr) (rl : Rls) (n : Str) (p q r s l N : Int), vs = [v, .int b, .ref rd] ∧ IsI H (.clip n p q r s l) v ∧ Rc n p q r s l rl N ∧ ReelsAt H rd rl ∧ ∀ H', Same H H' → Q (.int (if 0 < b then kA p q r s l N else z7 p q r s N)) H'
theorem qDk (T : Tx K mg a) : FnOk P w K mg base CX0 6 a.a_most_slip a.f_most_slip ["clip", "by", "reels"] (qDr K) := by
  refine T.d_most_slip.F.ok qCv (fun vs H Q E h => ?_) (fun cdv A outer s H vs Q E hr h => ?_)
  · obtain ⟨v, b, rd, rl, n, p, q, r, s, l, N, rfl, _⟩ := h
    rfl
  obtain ⟨v, b, rd, rl, n, p, q, r, s1, l, N, rfl, hv, c1, hrl, kk⟩ := h
  refine ⟨_, (qI (qN (zY (qL qA5 (pv 1) qB (qS _)) (qK T.d_tail_room (kL T) hr rfl (qA (pv 0) (qA (pv 2) qC))) (qK T.d_head_room (kT T) hr rfl (qA (pv 0) (qA (pv 2) qC)))))), ?_⟩
  try dsimp only [jN, qg]
  refine ⟨_, rfl, _, _, rfl, rfl, _, rfl, xN (fun c => ?_) (fun c => ?_)⟩
  · refine ⟨_, rfl, _, rfl, v, n, p, q, r, s1, l, N, rd, rfl, qCe hv, c1.g1, c1.g2, c1.bl, hrl _ _ c1.rn, c1.bN, fun H1 e1 => ?_⟩
    have := kk H1 e1
    rw [if_pos (by simpa using c)] at this
    exact this
  · refine ⟨_, rfl, _, rfl, v, n, p, q, r, s1, l, N, rd, rfl, qCe hv, c1.g1, c1.g2, hrl _ _ c1.rn, c1.bN, fun H1 e1 => ?_⟩
    have := kk H1 e1
    rw [if_neg (by simpa using c)] at this
    exact this
def qEv (S : Addr) : Sp := fun vs H Q E => ∃ (z rd : Addr) (ms : List Im) (i : Nat) (b : Int) (rl : Rls) (n : Str) (p q r s l N : Int), vs = [.ref z, .int (i : Int), .int b, .ref rd] ∧ Tr H z ms ∧ ms.length ≤ 300 ∧
  ms[i]? = some (.clip n p q r s l) ∧ Rc n p q r s l rl N ∧ ReelsAt H rd rl ∧ b.natAbs ≤ 1000000 ∧
  (qEn b ≤ (if 0 < b then kA p q r s l N else z7 p q r s N) → ∀ (y : Addr) (H' : Hp), Same H H' → H y = none → Tr H' y (ms.set i (.clip n (plP p q r s b) (plQ p q r s b) r s l)) → Q (.ref y) H') ∧
  (¬ qEn b ≤ (if 0 < b then kA p q r s l N else z7 p q r s N) → ∀ H', Same H H' → E (.ref S) none H')
theorem qFi (T : Tx K mg a) : FnOk P w K mg base (CXR P w) 7 a.a_slipped a.f_slipped ["track", "place", "by", "reels"] (qEv a.k_Short) := by
  refine okX T.d_slipped.F sc_slipped (fun vs H Q E h => ?_) (fun cdv A outer s H vs Q E hr h => ?_)
  · obtain ⟨z, rd, ms, i, b, rl, n, p, q, r, s, l, N, rfl, _⟩ := h
    rfl
  obtain ⟨z, rd, ms, i, b, rl, n, p, q, r, s1, l, N, rfl, tT, hln, hi, c1, hrl, hb, kg, kb⟩ := h
  refine ⟨_, (qD (qU (i := 4) sc_slipped.nd rfl (Or.inl rfl) (qJ qm (pv 0) (pv 1) (fun _ _ => rfl)))
      (qD (qx (qCd T.d_check_short (kR T) hr rfl (qA (qK T.d_most_slip (qDk T) hr rfl (qA (pv 4) (qA (pv 2) (qA (pv 3) qC)))) (qA (pv 2) qC))))
      (qD (qU (i := 5) sc_slipped.nd rfl (Or.inl rfl) (vT zV rfl T.b_list rfl (qA (pv 0) qC)))
      (qD (qBi (qK T.d_clip_part (zX T) hr rfl (qA (pv 4) (qA (pv 2) (qA (qW qj (pv 2) (qJ qH (pv 4) qB (fun _ _ => rfl))) qC)))) (qEf (pv 5) (pv 1) vU))
      (qI (qN (pv 5))))))), ?_⟩
  try dsimp only [jN, qg]
  obtain ⟨vs, hz, his⟩ := id tT
  obtain ⟨va, hva, Ia⟩ := his.get' hi
  have hlv := his.len
  have li : i < vs.length := (glt hva)
  refine ⟨_, rfl, _, rfl, z, _, _, _, rfl, rfl, SqL.of hz, qq hva, ?_⟩
  refine ⟨_, rfl, _, rfl, _, rfl, va, b, rd, rl, n, p, q, r, s1, l, N, rfl, Ia, c1, hrl, fun H1 e1 => ?_⟩
  refine ⟨_, rfl, _, b, rfl, fun hc => ?_, fun hc => kb hc H1 e1⟩
  refine ⟨_, rfl, z, vs, rfl, .inl (SqL.of (e1 _ _ hz)), fun y hy => ?_⟩
  have w2 := qF hy (.lst vs)
  have e2 := e1.trans w2
  have hy0 : H y = none := e1.free hy
  obtain ⟨za, xa, ya, rfl, hza, hxa, hya⟩ := id Ia
  have b1 := c1.bn.mono (m := 700)
  have bb7 : b.natAbs < 2 ^ 700 := Nat.lt_of_le_of_lt hb (by decide)
  have hy2 : upd H1 y (.lst vs) y = some (.lst vs) := qE
  generalize upd H1 y (.lst vs) = H2 at w2 e2 hy2 ⊢
  refine ⟨_, rfl, _, rfl, _, rfl, qY rfl (SqT.of (e2 _ _ hza)) wI ⟨_, _, rfl, rfl, _, n, p, q, r, s1, l, b, _, rfl, Ia.ts (qV e2), b1, bb7, fun u H3 e3 I3 => ?_⟩⟩
  rw [show b + l - b = l by omega] at I3
  refine ⟨_, rfl, _, rfl, y, vs, _, i, rfl, rfl, e3 _ _ hy2, qCb li, ?_⟩
  have e4 : Same H (upd H3 y (.lst (vs.set i u))) := q8 (e2.trans e3) hy0
  have t4 : TS H3 (upd H3 y (.lst (vs.set i u))) := jm (e3 _ _ hy2)
  exact ⟨_, rfl, kg hc y _ e4 hy0 ⟨_, qE, (his.ts (qV e4)).set (i := i) (I3.ts t4)⟩⟩
def qBj (S : Addr) : Sp := fun vs H Q E => ∃ (tz dz rd : Addr) (ts : List (List Im)) (tie : List Int) (ms ms' : List Im) (nt : Nat) (t b : Int) (rl : Rls) (wd : Str) (is : List Int) (c : Prop), vs = [.ref tz, .ref dz, .ref rd] ∧ TabF H (.ref tz) ts tie ∧
  H dz = some (.tup [.str wd, .int (nt : Int), .int t, .int b]) ∧ ts[nt]? = some ms ∧ ts.length ≤ 300 ∧ ms.length ≤ 300 ∧ Pos ms ∧ 0 ≤ t ∧ Mv rl ms t b wd is ms' c ∧ ReelsAt H rd rl ∧ b.natAbs ≤ 1000000 ∧
  (c → ∀ (y : Addr) (H' : Hp), Same H H' → NewTab H H' y (ts.set nt ms') tie → Q (.ref y) H') ∧
  (¬ c → ∀ H', Same H H' → E (.ref S) none H')
theorem qC0 {S : Addr} {vs : List V} {H : Hp} {Q : VK} {E : XK} (h : qBj S vs H Q E) : vs.length = 3 := by
  obtain ⟨tz, dz, rd, ts, tie, ms, ms', nt, t, b, rl, wd, is, c, rfl, _⟩ := h
  rfl
theorem qNd {rl : Rls} {ms : List Im} {t b : Int} {wd : Str} {is : List Int} {ms' : List Im} {c : Prop} (h : Mv rl ms t b wd is ms' c) : is.length ≤ 3 := by
  cases h with
  | slip => show 1 ≤ 3; decide
  | roll => show 2 ≤ 3; decide
  | slide => show 3 ≤ 3; decide
theorem qGt (T : Tx K mg a) : FnOk P w K mg base (CXR P w) 8 a.a_rolled a.f_rolled ["table", "deed", "reels"] (qBj a.k_Short) := by
  refine okX T.d_rolled.F sc_rolled (fun vs H Q E h => qC0 h) (fun cdv A outer s H vs Q E hr h => ?_)
  obtain ⟨tz, dz, rd, ts, tie, ms, ms', nt, t, b, rl, wd, is, c, rfl, hT, hd, hms, htl, hml, hp, h0, hmv, hrl, hb, kg, kb⟩ := h
  refine ⟨_, (qD (qx (qK T.d_check_place (kx T) hr rfl (qA (pv 0) (qA (qJ qH (pv 1) qB (fun _ _ => rfl)) (qA (qJ qH (pv 1) qB (fun _ _ => rfl)) qC)))))
      (qD (qx (qK T.d_check_by (qFp T) hr rfl (qA (qJ qH (pv 1) qB (fun _ _ => rfl)) qC)))
      (qD (qU (i := 3) sc_rolled.nd rfl (Or.inr rfl) (qJ qm (qJ qH (pv 0) qB (fun _ _ => rfl)) (qJ qH (pv 1) qB (fun _ _ => rfl)) (fun _ _ => rfl)))
      (qD (qU (i := 4) sc_rolled.nd rfl (Or.inl rfl) (qK T.d_places_named (qAo T) hr rfl (qA (pv 3) (qA (pv 1) qC))))
      (qD (qc (vD (vR (pv 4))) (qI (qGd rfl rfl T.c_NoPlace T.x_NoPlace (qA qM qC))) qO)
      (qD (qc (q9 (qf (qH7 rfl) rfl T.b_any rfl (qA (ve ["track"] [3] rfl (qK6 (pv 4)) (fun _ _ _ _ => (qK T.d_has_mix (qHb T) hr rfl (qA (pv 1) (qA (pv 0) qC))))) qC))) (qI (qGd rfl rfl T.c_Mixed T.x_Mixed (qA qM qC))) qO)
      (qD (qc (qL jD (qJ qH (pv 1) qB (fun _ _ => rfl)) qM (qS _)) (qI (qN (qK T.d_table_with (jo T) hr rfl (qA (pv 0) (qA (qJ qH (pv 1) qB (fun _ _ => rfl)) (qA (qCd T.d_slipped (qFi T) hr rfl (qA (pv 3) (qA (qJ qH (pv 4) qB (fun _ _ => rfl)) (qA (qJ qH (pv 1) qB (fun _ _ => rfl)) (qA (pv 2) qC))))) qC)))))) qO)
      (qI (qN (qK T.d_table_with (jo T) hr rfl (qA (pv 0) (qA (qJ qH (pv 1) qB (fun _ _ => rfl)) (qA (qCd T.d_with_rolled_ends (kj T) hr rfl (qA (pv 3) (qA (qJ qH (pv 4) qB (fun _ _ => rfl)) (qA (qJ qH (pv 4) (zM jn qB) (fun _ _ => rfl)) (qA (qJ qH (pv 1) qB (fun _ _ => rfl)) (qA (pv 2) qC)))))) qC))))))))))))), ?_⟩
  try dsimp only [jN, qg]
  obtain ⟨tt, tl, ti, zs, e0, g2, g3, g4, g5⟩ := id hT
  cases e0
  have hzl := g4.len
  have hnt : nt < ts.length := (glt hms)
  have ez : zs[nt]? = some zs[nt] := List.getElem?_eq_getElem (by omega)
  obtain ⟨ms1, z, hms1, ezz, tT⟩ := g4.get ez
  rw [hms] at hms1
  cases hms1
  rw [ezz] at ez
  refine ⟨_, rfl, qY rfl (SqT.of hd) qAr (qY rfl (SqT.of hd) vn ⟨tz, tl, ti, zs, nt, _, rfl, g2, g3, by omega, by omega, h0, ?_⟩)⟩
  refine (qY rfl (SqT.of hd) xq ⟨b, rfl, hb, ?_⟩)
  refine (qY rfl (SqT.of g2) at0 (qY rfl (SqT.of hd) qAr ⟨tl, _, _, _, rfl, rfl, SqL.of g3, qq ez, ?_⟩))
  refine ⟨_, rfl, _, rfl, z, dz, ms, _, _, _, b, rl, wd, is, ms', c, rfl, tT, hp, hd, hmv, fun pz H1 e1 hpz => ?_⟩
  refine ⟨_, rfl, _, rfl, xN (fun c => absurd c (by simp)) (fun _ => ?_)⟩
  have hisl := qNd hmv
  refine ⟨_, rfl, pz, rfl, ⟨_, SqT.of hpz⟩, qKq (K := K) (a := pz) (xs := is.map V.int) (fun j acc H2 => acc = (List.replicate j false).map V.bl ∧ H2 = H1) ⟨rfl, rfl⟩ ?_ ?_ ?_⟩
  · rintro j acc H2 hj ⟨rfl, rfl⟩
    rw [List.length_map] at hj
    exact ⟨SqT.of hpz, by rw [List.length_map, List.length_replicate]; exact qd (by omega)⟩
  · rintro j x acc H2 hj hx ⟨rfl, rfl⟩
    obtain ⟨k, rfl⟩ : ∃ k : Int, x = .int k := by
      rw [List.getElem?_map] at hx
      cases hq : is[j]? with
      | none => rw [hq] at hx; cases hx
      | some k => rw [hq] at hx; cases hx; exact ⟨k, rfl⟩
    refine ⟨_, rfl, _, rfl, z, ms, k, rfl, tT.same e1, hp.kind _, hp.kind _, Nxt.mk hj ⟨?_, rfl⟩⟩
    rw [List.replicate_succ', List.map_append]
    rfl
  rintro acc H2 ⟨rfl, rfl⟩ d hd'
  have w2 := qF hd' (.lst ((List.replicate (is.map V.int).length false).map V.bl))
  have e2 := e1.trans w2
  have hany : (List.replicate (is.map V.int).length false).any id = false := by simp
  refine ⟨d, List.replicate (is.map V.int).length false, rfl, SqL.of qE, ?_⟩
  rw [hany]
  refine ⟨false, rfl, qo ?_⟩
  have hpz2 := w2 _ _ hpz
  generalize upd H2 d (.lst ((List.replicate (is.map V.int).length false).map V.bl)) = H3 at w2 e2 hpz2 ⊢
  have hd3 := e2 _ _ hd
  cases hmv with
  | slip ht hm hc =>
    refine (qY rfl (SqT.of hd3) zU ⟨rfl, _, rfl, j5 ?_⟩)
    refine ⟨_, rfl, qY rfl (SqT.of hd3) qAr ?_⟩
    refine ⟨_, rfl, qY rfl (SqT.of hpz2) qJ7 (qY rfl (SqT.of hd3) xq ⟨_, rfl, ?_⟩)⟩
    refine ⟨z, rd, ms, _, b, rl, _, _, _, _, _, _, _, rfl, tT.same e2, hml, hm, hc, hrl.same e2, hb, fun hc y H4 e4 hy tY => ?_, fun hc H4 e4 => kb hc H4 (e2.trans e4)⟩
    refine ⟨tz, y, nt, ts, tie, _, rfl, hT.same (e2.trans e4), tY, hnt, htl, fun t H5 e5 hN => ?_⟩
    exact kg hc t H5 ((e2.trans e4).trans e5) (hN H (e2.trans e4) (e2.free hy))
  | roll ht h1 h2 c1 c2 =>
    refine (qY rfl (SqT.of hd3) zU ⟨rfl, _, rfl, qo ?_⟩)
    refine ⟨_, rfl, qY rfl (SqT.of hd3) qAr ?_⟩
    refine ⟨_, rfl, qY rfl (SqT.of hpz2) at0 ⟨_, rfl, 1, rfl, pz, _, _, _, rfl, rfl, SqT.of hpz2, qPq, qY rfl (SqT.of hd3) xq ⟨_, rfl, ?_⟩⟩⟩
    refine ⟨z, rd, ms, _, _, b, rl, _, _, _, _, _, _, _, _, _, _, _, _, _, _, rfl, tT.same e2, hml, h1, h2, c1, c2, hrl.same e2, hb, fun hc y H4 e4 hy tY => ?_, fun hc H4 e4 => kb hc H4 (e2.trans e4)⟩
    refine ⟨tz, y, nt, ts, tie, _, rfl, hT.same (e2.trans e4), tY, hnt, htl, fun t H5 e5 hN => ?_⟩
    exact kg hc t H5 ((e2.trans e4).trans e5) (hN H (e2.trans e4) (e2.free hy))
  | slide ht h1 hk h2 c1 c2 =>
    refine (qY rfl (SqT.of hd3) zU ⟨rfl, _, rfl, qo ?_⟩)
    refine ⟨_, rfl, qY rfl (SqT.of hd3) qAr ?_⟩
    refine ⟨_, rfl, qY rfl (SqT.of hpz2) vi ⟨_, rfl, 1, rfl, pz, _, _, _, rfl, rfl, SqT.of hpz2, qM3, qY rfl (SqT.of hd3) xq ⟨_, rfl, ?_⟩⟩⟩
    refine ⟨z, rd, ms, _, _, b, rl, _, _, _, _, _, _, _, _, _, _, _, _, _, _, rfl, tT.same e2, hml, h1, h2, c1, c2, hrl.same e2, hb, fun hc y H4 e4 hy tY => ?_, fun hc H4 e4 => kb hc H4 (e2.trans e4)⟩
    refine ⟨tz, y, nt, ts, tie, _, rfl, hT.same (e2.trans e4), tY, hnt, htl, fun t H5 e5 hN => ?_⟩
    exact kg hc t H5 ((e2.trans e4).trans e5) (hN H (e2.trans e4) (e2.free hy))
theorem qOn {P : Program} {w : World} {K : W.Frag} {mg : Str → Option Value} {base : Heap} {k : Nat} {f : Addr} {fd : FuncData} {ps : List Str} {sp : Sp} (F : FnOk P w K mg base (CXR P w) k f fd ps sp) : FnOk P w K mg base CX0 k f fd ps (fun vs H Q _ => sp vs H Q fun _ _ _ => False) := by
  refine ⟨fun vs H Q E h => F.len _ _ _ _ h, fun A outer s H args us vs Q E hr he hb hv hs => codeAny_mono (F.run A outer s H args us vs Q (fun _ _ _ => False) hr he hb hv hs) fun r s' hq => ?_⟩
  cases r with
  | error e =>
    obtain ⟨_, _, _, _, _, _, _, _, _, q⟩ := hq
    exact q.elim
  | ok fl => cases fl <;> exact hq
def qH9 : Sp := fun vs H Q _ => ∃ (tz dz rd : Addr) (ts : List (List Im)) (tie : List Int) (ms ms' : List Im) (nt : Nat) (t b : Int) (rl : Rls) (wd : Str) (is : List Int) (c : Prop), vs = [.ref tz, .ref dz, .ref rd] ∧ TabF H (.ref tz) ts tie ∧
  H dz = some (.tup [.str wd, .int (nt : Int), .int t, .int b]) ∧ ts[nt]? = some ms ∧ ts.length ≤ 300 ∧ ms.length ≤ 300 ∧ Pos ms ∧ 0 ≤ t ∧ Mv rl ms t b wd is ms' c ∧ ReelsAt H rd rl ∧ b.natAbs ≤ 1000000 ∧ c ∧
  ∀ (v : V) (H' : Hp), Same H H' → Q v H'
theorem qI8 (T : Tx K mg a) : FnOk P w K mg base CX0 8 a.a_rolled a.f_rolled ["table", "deed", "reels"] qH9 := by
  refine (qOn (qGt T)).imp fun vs H Q E h => ?_
  obtain ⟨tz, dz, rd, ts, tie, ms, ms', nt, t, b, rl, wd, is, c, rfl, h1, h2, h3, h4, h5, h6, h7, h8, h9, h10, hc, kk⟩ := h
  exact ⟨tz, dz, rd, ts, tie, ms, ms', nt, t, b, rl, wd, is, c, rfl, h1, h2, h3, h4, h5, h6, h7, h8, h9, h10, fun _ y H' e _ => kk _ H' e, fun hn => absurd hc hn⟩
def qN4 : Im → Bool
  | .nest .. => true
  | _ => false
def qNh : Im → Prop
  | .clip .. => True
  | .nest n b l => qAq n = true ∧ n.length ≤ 1000 ∧ 0 ≤ b ∧ 1 ≤ l
  | .gap _ => False
  | .mix _ => False
def qEe : Sp := fun vs H Q _ => ∃ i : Int, vs = [.int i] ∧ 1 ≤ i ∧ Q (.bl true) H
theorem vz (T : Tx K mg a) : FnOk P w K mg base CX0 2 a.a_is_length a.f_is_length ["thing"] qEe := by
  refine T.d_is_length.F.ok qDc (fun vs H Q E h => ?_) (fun cdv A outer s H vs Q E hr h => ?_)
  · obtain ⟨i, rfl, _⟩ := h
    rfl
  obtain ⟨i, rfl, i1, q⟩ := h
  refine ⟨_, (qI (qN (vL (qK T.d_is_whole (qv T) hr rfl (qA (pv 0) qC)) (wA (j1 qD1 (pv 0) qB (qS _)))))), ?_⟩
  try dsimp only [jN, qg]
  rw [← decide_eq_true i1] at q
  exact ⟨_, rfl, i, rfl, true, rfl, j5 ⟨_, rfl, _, _, rfl, rfl, q⟩⟩
def wJ : Sp := fun vs H Q _ => ∃ (v : V) (m : Im), vs = [v] ∧ IsI H m v ∧ qNh m ∧ ∀ H', Same H H' → Q (.bl (qN4 m)) H'
theorem wO (T : Tx K mg a) : FnOk P w K mg base CX0 3 a.a_has_nest_form a.f_has_nest_form ["item"] wJ := by
  refine T.d_has_nest_form.F.ok wC (fun vs H Q E h => ?_) (fun cdv A outer s H vs Q E hr h => ?_)
  · obtain ⟨v, m, rfl, _⟩ := h
    rfl
  obtain ⟨v, m, rfl, hI, hn, kk⟩ := h
  refine ⟨_, (qD (qc (PW.pt (xM (jZ (q9 (qf xS rfl T.b_isinstance rfl (qA (pv 0) (qA (qGy rfl T.b_tuple rfl) qC))))) (jR (qL zT (qf j9 rfl T.b_len rfl (qA (pv 0) qC)) qB (qS _))))) (qI (qN zh)) qO)
      (qD (qc (PW.pt (xM (qL zT (qJ qH (pv 0) qB (fun _ _ => rfl)) qM (qS _)) (jR (jZ (q9 (qK T.d_is_name (qBe T) hr rfl (qA (qJ qH (pv 0) qB (fun _ _ => rfl)) qC))))))) (qI (qN zh)) qO)
      (qI (qN (vL (qK T.d_is_whole (qv T) hr rfl (qA (qJ qH (pv 0) qB (fun _ _ => rfl)) qC)) (vL (j1 qD1 (qJ qH (pv 0) qB (fun _ _ => rfl)) qB (qS _)) (wA (qK T.d_is_length (vz T) hr rfl (qA (qJ qH (pv 0) qB (fun _ _ => rfl)) qC))))))))), ?_⟩
  try dsimp only [jN, qg]
  cases m with
  | gap l => exact hn.elim
  | mix l => exact hn.elim
  | clip n p q r s l =>
    obtain ⟨z, x, y, rfl, hz, _⟩ := hI
    refine ⟨_, rfl, _, _, _, true, rfl, .tup hz, ⟨_, .inl ⟨rfl, rfl⟩⟩, true, rfl, qo ?_⟩
    exact ⟨_, rfl, _, _, rfl, .inr (SqT.of hz), rfl, _, rfl, j5 (kk H (Same.refl _))⟩
  | nest n b l =>
    obtain ⟨z, rfl, hz⟩ := hI
    obtain ⟨h1, h2, h3, h4⟩ := hn
    have a0 : atI [V.str "nest", .str n, .int b, .int l] 0 = some (.str "nest") := rfl
    have a1 : atI [V.str "nest", .str n, .int b, .int l] 1 = some (.str n) := rfl
    have a2 : atI [V.str "nest", .str n, .int b, .int l] 2 = some (.int b) := rfl
    have a3 : atI [V.str "nest", .str n, .int b, .int l] 3 = some (.int l) := rfl
    refine ⟨_, rfl, _, _, _, true, rfl, .tup hz, ⟨_, .inl ⟨rfl, rfl⟩⟩, true, rfl, qo ?_⟩
    refine ⟨_, rfl, _, _, rfl, .inr (SqT.of hz), rfl, _, rfl, qo ?_⟩
    refine (qY rfl (SqT.of hz) a0 ⟨rfl, _, rfl, qH8 rfl ?_⟩)
    refine (qY rfl (SqT.of hz) a1 ⟨n, rfl, h2, fun H1 s1 => ?_⟩)
    rw [h1]
    have hz1 := s1 _ _ hz
    refine ⟨true, rfl, qo ?_⟩
    refine (qY rfl (SqT.of hz1) a2 ⟨b, rfl, true, rfl, j5 ?_⟩)
    refine (qY rfl (SqT.of hz1) a2 ⟨_, _, rfl, rfl, true, congrArg V.bl (decide_eq_true h3), j5 ?_⟩)
    exact (qY rfl (SqT.of hz1) a3 ⟨l, rfl, h4, kk H1 s1⟩)
theorem qKs {w : Str} : inV (.str w) [.str "clip", .str "nest"] = (decide (w = "clip") || decide (w = "nest")) := by
  unfold inV
  rw [Bool.eq_iff_iff]
  simp [eqV]
  constructor
  · rintro (h | h)
    · exact .inl h.symm
    · exact .inr h.symm
  · rintro (h | h)
    · exact .inl h.symm
    · exact .inr h.symm
def zg (ms : List Im) (t : Int) : Bool := match xy 0 0 ms t with
  | some (i, d) => decide (d > 0) && (decide (xR ms (i : Int) = "clip") || decide (xR ms (i : Int) = "nest"))
  | none => false
def qAv : Sp := fun vs H Q _ => ∃ (z : Addr) (ms : List Im) (t : Int), vs = [.ref z, .int t] ∧ Tr H z ms ∧ ∀ H', Same H H' → Q (.bl (zg ms t)) H'
theorem vC (T : Tx K mg a) : FnOk P w K mg base CX0 4 a.a_lies_within a.f_lies_within ["track", "moment"] qAv := by
  refine T.d_lies_within.F.ok sc_lies_within (fun vs H Q E h => ?_) (fun cdv A outer s H vs Q E hr h => ?_)
  · obtain ⟨z, ms, t, rfl, _⟩ := h
    rfl
  obtain ⟨z, ms, t, rfl, tT, kk⟩ := h
  refine ⟨_, (qD (qU (i := 2) sc_lies_within.nd rfl (Or.inl rfl) (qK T.d_item_at (vq T) hr rfl (qA (pv 0) (qA (pv 1) qC))))
      (qI (qN (vL (qMx (qL2 (pv 2))) (vL (j1 qA5 (qJ qH (pv 2) qB (fun _ _ => rfl)) qB (qS _)) (wA (j1 ja (qK T.d_kind_at (jF T) hr rfl (qA (pv 0) (qA (qJ qH (pv 2) qB (fun _ _ => rfl)) qC))) (qX (qA qM (qA qM qC))) rfl))))))), ?_⟩
  try dsimp only [jN, qg]
  refine ⟨_, rfl, _, rfl, z, ms, _, rfl, tT, ?_⟩
  unfold zg at kk
  cases hit : xy 0 0 ms t with
  | none =>
    rw [hit] at kk
    intro H1 e1
    exact ⟨_, rfl, _, rfl, qo (kk H1 e1)⟩
  | some x =>
    obtain ⟨i, d⟩ := x
    rw [hit] at kk
    dsimp only at kk
    intro p H1 e1 hp
    refine ⟨_, rfl, _, rfl, j5 ?_⟩
    refine (qY rfl (SqT.of hp) at1 ⟨_, _, rfl, rfl, _, rfl, xN (fun c => ?_) (fun c => ?_)⟩)
    · have hd : d > 0 := by simpa using c
      rw [decide_eq_true hd, Bool.true_and] at kk
      refine ⟨_, rfl, qY rfl (SqT.of hp) at0 ⟨z, ms, _, rfl, tT.same e1, sL2, fun q hq => ?_⟩⟩
      have := kk _ (e1.trans (qF hq (.tup [.str "clip", .str "nest"])))
      rw [← qKs] at this
      exact ⟨q, _, rfl, .inr (SqT.of qE), rfl, rfl, this⟩
    · have hd : ¬ d > 0 := by simpa using c
      rw [decide_eq_false hd, Bool.false_and] at kk
      exact kk H1 e1
def qCr : Im → Int → Int → Im
  | .clip n p q r s _, lo, hi => .clip n (plP p q r s lo) (plQ p q r s lo) r s (hi - lo)
  | .nest n b _, lo, hi => .nest n (b + lo) (hi - lo)
  | .gap _, lo, hi => .gap (hi - lo)
  | .mix _, lo, hi => .gap (hi - lo)
def ImB (m : Im) : Prop := match m with
  | .clip _ p q r s _ => Bn 700 p q r s
  | _ => True
def qEb : Sp := fun vs H Q _ => ∃ (v : V) (m : Im) (lo hi : Int), vs = [v, .int lo, .int hi] ∧ IsI H m v ∧ ImB m ∧ lo.natAbs < 2 ^ 700 ∧ m.wd ≠ "mix" ∧ ∀ (u : V) (H' : Hp), Same H H' → IsI H' (qCr m lo hi) u → Q u H'
theorem qDs (T : Tx K mg a) : FnOk P w K mg base CX0 6 a.a_item_part a.f_item_part ["item", "low", "high"] qEb := by
  refine T.d_item_part.F.ok qDu (fun vs H Q E h => ?_) (fun cdv A outer s H vs Q E hr h => ?_)
  · obtain ⟨v, m, lo, hi, rfl, _⟩ := h
    rfl
  obtain ⟨v, m, lo, hi, rfl, hI, hB, bl, hnm, kk⟩ := h
  refine ⟨_, (qD (qc (qL jD (qJ qH (pv 0) qB (fun _ _ => rfl)) qM (qS _)) (qI (qN (qK T.d_clip_part (zX T) hr rfl (qA (pv 0) (qA (pv 1) (qA (pv 2) qC)))))) qO)
      (qD (qc (qL jD (qJ qH (pv 0) qB (fun _ _ => rfl)) qM (qS _)) (qI (qN (qX (qA qM (qA (qJ qH (pv 0) qB (fun _ _ => rfl)) (qA (qW qj (qJ qH (pv 0) qB (fun _ _ => rfl)) (pv 1)) (qA (qW jM (pv 2) (pv 1)) qC))))))) qO)
      (qI (qN (qX (qA qM (qA (qW jM (pv 2) (pv 1)) qC))))))), ?_⟩
  try dsimp only [jN, qg]
  cases m with
  | mix l => exact absurd rfl hnm
  | clip n p q r s1 l =>
    obtain ⟨z, x, y, rfl, hz, hx, hy⟩ := id hI
    refine (qY rfl (SqT.of hz) qIc ⟨rfl, _, rfl, j5 ?_⟩)
    exact ⟨_, rfl, _, rfl, _, rfl, _, n, p, q, r, s1, l, lo, hi, rfl, hI, hB, bl, kk⟩
  | nest n b l =>
    obtain ⟨z, rfl, hz⟩ := id hI
    have a0 : atI [V.str "nest", .str n, .int b, .int l] 0 = some (.str "nest") := rfl
    have a1 : atI [V.str "nest", .str n, .int b, .int l] 1 = some (.str n) := rfl
    have a2 : atI [V.str "nest", .str n, .int b, .int l] 2 = some (.int b) := rfl
    refine (qY rfl (SqT.of hz) a0 ⟨rfl, _, rfl, qo ?_⟩)
    refine (qY rfl (SqT.of hz) a0 ⟨rfl, _, rfl, j5 ?_⟩)
    refine (qY rfl (SqT.of hz) a1 (qY rfl (SqT.of hz) a2 ⟨_, rfl, _, _, rfl, rfl, _, rfl, _, rfl, _, _, rfl, rfl, sL4, fun t ht => ?_⟩))
    exact kk _ _ (qF ht _) (isN qE)
  | gap l =>
    obtain ⟨z, rfl, hz⟩ := id hI
    refine (qY rfl (SqT.of hz) at0 ⟨rfl, _, rfl, qo ?_⟩)
    refine (qY rfl (SqT.of hz) at0 ⟨rfl, _, rfl, qo ?_⟩)
    refine ⟨_, rfl, _, rfl, _, _, rfl, rfl, sL2, fun t ht => ?_⟩
    exact kk _ _ (qF ht _) (isG qE)
def ze (i j : Int) : Int := if j > i then j else i
def vG (i j : Int) : Int := if j < i then j else i
def zS (lo hi : Int) : Int → List Im → List Im
  | _, [] => []
  | b, m :: r => (if m.wd = "mix" then (if lo < b ∧ b < hi then [m] else []) else if ze lo b < vG hi (b + m.mo) then [qCr m (ze lo b - b) (vG hi (b + m.mo) - b)] else []) ++ zS lo hi (b + m.mo) r
theorem kP (lo hi : Int) : ∀ (b : Int) (ms : List Im), (zS lo hi b ms).length ≤ ms.length
  | _, [] => by simp [zS]
  | b, m :: r => by
    have := kP lo hi (b + m.mo) r
    rw [zS, List.length_append, List.length_cons]
    split <;> split <;> simp <;> omega
def MsB (ms : List Im) : Prop := (∀ m ∈ ms, ImB m ∧ 0 ≤ m.mo) ∧ ms.length ≤ 300
def wD : Sp := fun vs H Q _ => ∃ (z : Addr) (ms : List Im) (lo hi : Int), vs = [.ref z, .int lo, .int hi] ∧ Tr H z ms ∧ MsB ms ∧ 0 ≤ lo ∧ lo ≤ 2 ^ 500 ∧ ∀ (y : Addr) (H' : Hp), Same H H' → H y = none → Tr H' y (zS lo hi 0 ms) → Q (.ref y) H'
theorem xx (T : Tx K mg a) : FnOk P w K mg base CX0 7 a.a_part_of_track a.f_part_of_track ["track", "low", "high"] wD := by
  refine T.d_part_of_track.F.ok sc_part_of_track (fun vs H Q E h => ?_) (fun cdv A outer s H vs Q E hr h => ?_)
  · obtain ⟨z, ms, lo, hi, rfl, _⟩ := h
    rfl
  obtain ⟨z, ms, lo, hi, rfl, ⟨vs, hz, his⟩, ⟨hB, hln⟩, h0, h1, kk⟩ := h
  refine ⟨_, (qD (qU (i := 3) sc_part_of_track.nd rfl (Or.inl rfl) (qh qC))
      (qD (qU (i := 4) sc_part_of_track.nd rfl (Or.inl rfl) qB)
      (qD (xp PassesOwn.never rfl (jC (pv 0)) (jL (i := 5) sc_part_of_track.nd rfl (Or.inl rfl)) (qD (qU (i := 6) sc_part_of_track.nd rfl (Or.inl rfl) (qW qj (pv 4) (qK T.d_moments_of (jK T) hr rfl (qA (pv 5) qC))))
      (qD (qU (i := 7) sc_part_of_track.nd rfl (Or.inl rfl) (qf (kQ rfl) rfl T.b_max rfl (qA (pv 1) (qA (pv 4) qC))))
      (qD (qU (i := 8) sc_part_of_track.nd rfl (Or.inl rfl) (qf (zN rfl) rfl T.b_min rfl (qA (pv 2) (qA (pv 6) qC))))
      (qD (qc (qL jD (qJ qH (pv 5) qB (fun _ _ => rfl)) qM (qS _)) (qI (qc (PW.pt (zW (qL z9 (pv 1) (pv 4) (qS _)) (xw (qL z9 (pv 4) (pv 2) (qS _))))) (qI (qx (vj F.plainAttrs_list F.slot_list_append F.type_list_append jl (pv 3) (qA (pv 5) qC)))) qO)) (qI (qc (qL z9 (pv 7) (pv 8) (qS _)) (qI (qx (vj F.plainAttrs_list F.slot_list_append F.type_list_append jl (pv 3) (qA (qK T.d_item_part (qDs T) hr rfl (qA (pv 5) (qA (qW jM (pv 7) (pv 4)) (qA (qW jM (pv 8) (pv 4)) qC)))) qC)))) qO)))
      (qI (qU (i := 4) sc_part_of_track.nd rfl (Or.inl rfl) (pv 6))))))))
      (qI (qN (pv 3)))))), ?_⟩
  try dsimp only [jN, qg]
  refine ⟨sL0, fun y hy => ?_⟩
  have w0 := qF hy (.lst [])
  have hvl := his.len
  refine ⟨_, rfl, z, rfl, ⟨_, SqL.of (w0 _ _ hz)⟩, jk (K := K) (a := z) (xs := vs) (fun i σ H' => ∃ (o1 o2 o3 o4 : Option V) (b : Int) (ps : List Im), σ = [some (.ref z), some (.int lo), some (.int hi), some (.ref y), some (.int b), o1, o2, o3, o4] ∧ Tr H' y ps ∧ ps ++ zS lo hi b (ms.drop i) = zS lo hi 0 ms ∧ ps.length ≤ i ∧ 0 ≤ b ∧ Same H H')
    ⟨none, none, none, none, 0, [], rfl, ⟨[], qE, trivial⟩, rfl, Nat.le_refl _, by decide, w0⟩ ?_ ?_ ?_⟩
  · rintro i σ H' hi' ⟨o1, o2, o3, o4, b, ps, rfl, _, _, _, _, e⟩
    exact SqL.of (e _ _ hz)
  · rintro i x σ H' hx ⟨o1, o2, o3, o4, b, ps, rfl, tP, hap, hpl, b0, e⟩
    obtain ⟨m, hm, hIx⟩ := his.get hx
    have hI := hIx.ts (qV e)
    have hin : i < ms.length := (glt hm)
    obtain ⟨hBm, hmo⟩ := hB m (List.mem_of_getElem? hm)
    obtain ⟨us, hyu, hisP⟩ := tP
    have hul := hisP.len
    rw [j3 hm, zS] at hap
    refine ⟨_, rfl, _, rfl, x, m, rfl, hI, _, _, rfl, rfl, ?_⟩
    refine ⟨_, rfl, _, rfl, _, _, rfl, ?_⟩
    refine ⟨_, rfl, _, rfl, _, _, rfl, ?_⟩
    dsimp only
    change qPb _ _ _ _ _
    obtain ⟨zi, xi, rfl, hzi, a0, _⟩ := hI.opn
    have skip : ∀ (q : List Im), ps ++ ([] ++ q) = ps ++ q := fun q => by simp
    refine ⟨_, rfl, zi, xi, _, _, rfl, rfl, SqT.of hzi, a0, rfl, _, rfl, xN (fun c => ?_) (fun c => ?_)⟩
    · have hw : m.wd = "mix" := by simpa using c
      rw [if_pos hw] at hap
      refine ⟨_, rfl, _, rfl, _, _, rfl, rfl, _, rfl, xN (fun c1 => ?_) (fun c1 => ?_)⟩
      · refine ⟨_, rfl, _, rfl, _, _, rfl, rfl, _, rfl, xN (fun c2 => ?_) (fun c2 => ?_)⟩
        · rw [if_pos ⟨by simpa using c1, by simpa using c2⟩] at hap
          refine ⟨_, rfl, .inl ⟨rfl, _, SqL.of hyu⟩, _, rfl, y, _, _, rfl, rfl, hyu, qd (by omega), ?_⟩
          exact ⟨_, rfl, _, _, _, _, _, ps ++ [m], rfl, ⟨_, qE, (hisP.app (.one hI)).ts (jm hyu)⟩, by rw [List.append_assoc]; exact hap, by rw [List.length_append]; show ps.length + 1 ≤ i + 1; omega, by omega, q8 e hy⟩
        · rw [if_neg (fun z => c2 (by simpa using z.2)), skip] at hap
          exact ⟨_, rfl, _, _, _, _, _, ps, rfl, ⟨_, hyu, hisP⟩, hap, by omega, by omega, e⟩
      · rw [if_neg (fun z => c1 (by simpa using z.1)), skip] at hap
        exact qo ⟨_, rfl, _, _, _, _, _, ps, rfl, ⟨_, hyu, hisP⟩, hap, by omega, by omega, e⟩
    · have hw : m.wd ≠ "mix" := by simpa using c
      rw [if_neg hw] at hap
      refine ⟨_, rfl, _, rfl, _, _, rfl, rfl, _, rfl, xN (fun c1 => ?_) (fun c1 => ?_)⟩
      · rw [if_pos (of_decide_eq_true (show decide (ze lo b < vG hi (b + m.mo)) = true from c1))] at hap
        refine ⟨_, rfl, .inl ⟨rfl, _, SqL.of hyu⟩, _, rfl, _, rfl, _, rfl, _, _, rfl, rfl, _, rfl, _, rfl, _, _, rfl, rfl, _, m, ze lo b - b, vG hi (b + m.mo) - b, rfl, hI, hBm, ?_, hw, fun u H5 e5 hI5 => ?_⟩
        · have : (ze lo b - b).natAbs ≤ (2 ^ 500 : Nat) := by
            have h1' : lo.natAbs ≤ 2 ^ 500 := by
              have := Int.natAbs_of_nonneg h0
              have h1'' : ((lo.natAbs : Nat) : Int) ≤ ((2 ^ 500 : Nat) : Int) := by rw [this]; exact_mod_cast h1
              exact_mod_cast h1''
            refine Nat.le_trans ?_ h1'
            unfold ze
            split <;> omega
          exact Nat.lt_of_le_of_lt this (Nat.pow_lt_pow_right (by decide) (by decide))
        refine ⟨y, _, _, rfl, rfl, e5 _ _ hyu, qd (by omega), ?_⟩
        exact ⟨_, rfl, _, _, _, _, _, ps ++ [qCr m (ze lo b - b) (vG hi (b + m.mo) - b)], rfl, ⟨_, qE, ((hisP.ts (qV e5)).app (.one hI5)).ts (jm (e5 _ _ hyu))⟩, by rw [List.append_assoc]; exact hap, by rw [List.length_append]; show ps.length + 1 ≤ i + 1; omega, by omega, q8 (e.trans e5) hy⟩
      · rw [if_neg (fun z => c1 (show decide (ze lo b < vG hi (b + m.mo)) = true from decide_eq_true z)), skip] at hap
        exact ⟨_, rfl, _, _, _, _, _, ps, rfl, ⟨_, hyu, hisP⟩, hap, by omega, by omega, e⟩
  · rintro σ H' ⟨o1, o2, o3, o4, b, ps, rfl, tP, hap, hpl, b0, e⟩
    rw [hvl, List.drop_length, zS, List.append_nil] at hap
    rw [hap] at tP
    exact ⟨_, rfl, kk y H' e hy tP⟩
inductive Dk where
  | cut (t : Int)
  | hel (t : Int)
  | opn (t l : Int)
  | cls (t u : Int)
  | lft (t u : Int)
  | lin (t : Int) (m : Im)
  | lov (t : Int) (m : Im)
def Dk.wd : Dk → Str
  | .cut _ => "cut"
  | .hel _ => "heal"
  | .opn .. => "open"
  | .cls .. => "close"
  | .lft .. => "lift"
  | .lin .. => "lay_in"
  | .lov .. => "lay_over"
def Dk.t : Dk → Int
  | .cut t => t
  | .hel t => t
  | .opn t _ => t
  | .cls t _ => t
  | .lft t _ => t
  | .lin t _ => t
  | .lov t _ => t
def Dk.hi : Dk → Int
  | .cut t => t
  | .hel t => t
  | .opn t _ => t
  | .cls _ u => u
  | .lft _ u => u
  | .lin t _ => t
  | .lov t m => t + m.mo
def Dk.laid : Dk → List Im
  | .opn _ l => [.gap l]
  | .lft t u => [.gap (u - t)]
  | .lin _ m => [m]
  | .lov _ m => [m]
  | _ => []
def Dk.push : Dk → Bool
  | .opn .. => true
  | .cls .. => true
  | .lin .. => true
  | _ => false
def DAt (H : Hp) (dz : Addr) (n : Int) : Dk → Prop
  | .cut t => H dz = some (.tup [.str "cut", .int n, .int t])
  | .hel t => H dz = some (.tup [.str "heal", .int n, .int t])
  | .opn t l => H dz = some (.tup [.str "open", .int n, .int t, .int l])
  | .cls t u => H dz = some (.tup [.str "close", .int n, .int t, .int u])
  | .lft t u => H dz = some (.tup [.str "lift", .int n, .int t, .int u])
  | .lin t m => ∃ v, H dz = some (.tup [.str "lay_in", .int n, .int t, v]) ∧ IsI H m v
  | .lov t m => ∃ v, H dz = some (.tup [.str "lay_over", .int n, .int t, v]) ∧ IsI H m v
theorem DAt.same {H H' : Hp} {dz : Addr} {n : Int} {d : Dk} (e : Same H H') (h : DAt H dz n d) : DAt H' dz n d := by
  cases d with
  | lin t m => obtain ⟨v, h1, h2⟩ := h; exact ⟨v, e _ _ h1, h2.ts (qV e)⟩
  | lov t m => obtain ⟨v, h1, h2⟩ := h; exact ⟨v, e _ _ h1, h2.ts (qV e)⟩
  | _ => exact e _ _ h
theorem DAt.opn {H : Hp} {dz : Addr} {n : Int} {d : Dk} (h : DAt H dz n d) : ∃ xs, H dz = some (.tup xs) ∧ atI xs 0 = some (.str d.wd) ∧ atI xs 1 = some (.int n) ∧ atI xs 2 = some (.int d.t) := by
  cases d with
  | lin t m => obtain ⟨v, h1, _⟩ := h; exact ⟨_, h1, rfl, rfl, rfl⟩
  | lov t m => obtain ⟨v, h1, _⟩ := h; exact ⟨_, h1, rfl, rfl, rfl⟩
  | _ => exact ⟨_, h, rfl, rfl, rfl⟩
theorem x8 {w : Str} {ws : List V} {b : Bool} (h : inV (.str w) ws = b) : V.bl (if false = true then !inV (.str w) ws else inV (.str w) ws) = V.bl b := by
  rw [if_neg (by decide), h]
theorem qK5 {w : Str} {ws : List V} {b : Bool} (h : inV (.str w) ws = b) : V.bl (if true = true then !inV (.str w) ws else inV (.str w) ws) = V.bl (!b) := by
  rw [if_pos rfl, h]
def qCc : Sp := fun vs H Q _ => ∃ (dz : Addr) (n : Int) (d : Dk), vs = [.ref dz] ∧ DAt H dz n d ∧ ∀ (p : Addr) (H' : Hp), Same H H' → H' p = some (.tup [.int d.t, .int d.hi]) → Q (.ref p) H'
theorem z8 (T : Tx K mg a) : FnOk P w K mg base CX0 2 a.a_stretch_of a.f_stretch_of ["deed"] qCc := by
  refine T.d_stretch_of.F.ok qBs (fun vs H Q E h => ?_) (fun cdv A outer s H vs Q E hr h => ?_)
  · obtain ⟨dz, n, d, rfl, _⟩ := h
    rfl
  obtain ⟨dz, n, d, rfl, hD, kk⟩ := h
  refine ⟨_, (qD (qc (qL ja (qJ qH (pv 0) qB (fun _ _ => rfl)) (qX (qA qM (qA qM qC))) rfl) (qI (qN (qX (qA (qJ qH (pv 0) qB (fun _ _ => rfl)) (qA (qJ qH (pv 0) qB (fun _ _ => rfl)) qC))))) qO)
      (qD (qc (qL jD (qJ qH (pv 0) qB (fun _ _ => rfl)) qM (qS _)) (qI (qN (qX (qA (qJ qH (pv 0) qB (fun _ _ => rfl)) (qA (qW qj (qJ qH (pv 0) qB (fun _ _ => rfl)) (qK T.d_moments_of (jK T) hr rfl (qA (qJ qH (pv 0) qB (fun _ _ => rfl)) qC))) qC))))) qO)
      (qI (qN (qX (qA (qJ qH (pv 0) qB (fun _ _ => rfl)) (qA (qJ qH (pv 0) qB (fun _ _ => rfl)) qC))))))), ?_⟩
  try dsimp only [jN, qg]
  obtain ⟨xs, hd, a0, a1, a2⟩ := hD.opn
  have two : (2 : Nat) ≤ sizeLine := by decide
  refine (qY rfl (SqT.of hd) a0 ⟨two, fun q hq => ?_⟩)
  have w1 := qF hq (.tup [.str "close", .str "lift"])
  have hd1 := w1 _ _ hd
  cases d with
  | cls t u =>
    refine ⟨q, _, rfl, .inr (SqT.of qE), rfl, rfl, true, (x8 (w := "close") (by decide +kernel)), j5 ?_⟩
    exact (qY rfl (SqT.of (w1 _ _ hD)) vn (qY rfl (SqT.of (w1 _ _ hD)) xq ⟨two, fun p hp => kk p _ (w1.trans (qF hp _)) qE⟩))
  | lft t u =>
    refine ⟨q, _, rfl, .inr (SqT.of qE), rfl, rfl, true, (x8 (w := "lift") (by decide +kernel)), j5 ?_⟩
    exact (qY rfl (SqT.of (w1 _ _ hD)) vn (qY rfl (SqT.of (w1 _ _ hD)) xq ⟨two, fun p hp => kk p _ (w1.trans (qF hp _)) qE⟩))
  | lov t m =>
    obtain ⟨v, hv, hI⟩ := hD
    refine ⟨q, _, rfl, .inr (SqT.of qE), rfl, rfl, false, (x8 (w := "lay_over") (by decide +kernel)), qo ?_⟩
    refine (qY rfl (SqT.of hd1) a0 ⟨rfl, _, rfl, j5 ?_⟩)
    exact (qY rfl (SqT.of hd1) a2 (qY rfl (SqT.of hd1) a2 (qY rfl (SqT.of (w1 _ _ hv)) xq ⟨v, m, rfl, hI.ts (qV w1), _, _, rfl, rfl, two, fun p hp => kk p _ (w1.trans (qF hp _)) qE⟩)))
  | cut t =>
    refine ⟨q, _, rfl, .inr (SqT.of qE), rfl, rfl, false, (x8 (w := "cut") (by decide +kernel)), qo ?_⟩
    refine (qY rfl (SqT.of hd1) a0 ⟨rfl, _, rfl, qo ?_⟩)
    exact (qY rfl (SqT.of hd1) a2 (qY rfl (SqT.of hd1) a2 ⟨two, fun p hp => kk p _ (w1.trans (qF hp _)) qE⟩))
  | hel t =>
    refine ⟨q, _, rfl, .inr (SqT.of qE), rfl, rfl, false, (x8 (w := "heal") (by decide +kernel)), qo ?_⟩
    refine (qY rfl (SqT.of hd1) a0 ⟨rfl, _, rfl, qo ?_⟩)
    exact (qY rfl (SqT.of hd1) a2 (qY rfl (SqT.of hd1) a2 ⟨two, fun p hp => kk p _ (w1.trans (qF hp _)) qE⟩))
  | opn t l =>
    refine ⟨q, _, rfl, .inr (SqT.of qE), rfl, rfl, false, (x8 (w := "open") (by decide +kernel)), qo ?_⟩
    refine (qY rfl (SqT.of hd1) a0 ⟨rfl, _, rfl, qo ?_⟩)
    exact (qY rfl (SqT.of hd1) a2 (qY rfl (SqT.of hd1) a2 ⟨two, fun p hp => kk p _ (w1.trans (qF hp _)) qE⟩))
  | lin t m =>
    refine ⟨q, _, rfl, .inr (SqT.of qE), rfl, rfl, false, (x8 (w := "lay_in") (by decide +kernel)), qo ?_⟩
    refine (qY rfl (SqT.of hd1) a0 ⟨rfl, _, rfl, qo ?_⟩)
    exact (qY rfl (SqT.of hd1) a2 (qY rfl (SqT.of hd1) a2 ⟨two, fun p hp => kk p _ (w1.trans (qF hp _)) qE⟩))
def qGq : Sp := fun vs H Q _ => ∃ (dz : Addr) (n : Int) (d : Dk), vs = [.ref dz] ∧ DAt H dz n d ∧ ∀ (y : Addr) (H' : Hp), Same H H' → H y = none → Tr H' y d.laid → Q (.ref y) H'
theorem qBm (T : Tx K mg a) : FnOk P w K mg base CX0 1 a.a_laid_by a.f_laid_by ["deed"] qGq := by
  refine T.d_laid_by.F.ok qGo (fun vs H Q E h => ?_) (fun cdv A outer s H vs Q E hr h => ?_)
  · obtain ⟨dz, n, d, rfl, _⟩ := h
    rfl
  obtain ⟨dz, n, d, rfl, hD, kk⟩ := h
  refine ⟨_, (qD (qc (qL ja (qJ qH (pv 0) qB (fun _ _ => rfl)) (xO (v := .ref a.n_LAYS) rfl T.g_LAYS rfl) rfl) (qI (qN (qh (qA (qJ qH (pv 0) qB (fun _ _ => rfl)) qC)))) qO)
      (qD (qc (qL jD (qJ qH (pv 0) qB (fun _ _ => rfl)) qM (qS _)) (qI (qN (qh (qA (qX (qA qM (qA (qJ qH (pv 0) qB (fun _ _ => rfl)) qC))) qC)))) qO)
      (qD (qc (qL jD (qJ qH (pv 0) qB (fun _ _ => rfl)) qM (qS _)) (qI (qN (qh (qA (qX (qA qM (qA (qW jM (qJ qH (pv 0) qB (fun _ _ => rfl)) (qJ qH (pv 0) qB (fun _ _ => rfl))) qC))) qC)))) qO)
      (qI (qN (qh qC)))))), ?_⟩
  try dsimp only [jN, qg]
  obtain ⟨xs, hd, a0, a1, a2⟩ := hD.opn
  have one : (1 : Nat) ≤ sizeLine := by decide
  have two : (2 : Nat) ≤ sizeLine := by decide
  have zero : (0 : Nat) ≤ sizeLine := by decide
  refine (qY rfl (SqT.of hd) a0 ⟨a.n_LAYS, _, rfl, .inr (T.sq_LAYS _), rfl, rfl, ?_⟩)
  cases d with
  | lin t m =>
    obtain ⟨v, hv, hI⟩ := hD
    refine ⟨true, (x8 (w := "lay_in") (by decide +kernel)), j5 (qY rfl (SqT.of hv) xq ⟨one, fun p hp => ?_⟩)⟩
    exact kk p _ (qF hp _) hp ⟨_, qE, hI.ts (qV (qF hp _)), trivial⟩
  | lov t m =>
    obtain ⟨v, hv, hI⟩ := hD
    refine ⟨true, (x8 (w := "lay_over") (by decide +kernel)), j5 (qY rfl (SqT.of hv) xq ⟨one, fun p hp => ?_⟩)⟩
    exact kk p _ (qF hp _) hp ⟨_, qE, hI.ts (qV (qF hp _)), trivial⟩
  | opn t l =>
    refine ⟨false, (x8 (w := "open") (by decide +kernel)), qo ?_⟩
    refine (qY rfl (SqT.of hd) a0 ⟨rfl, _, rfl, j5 ?_⟩)
    refine (qY rfl (SqT.of hD) xq ⟨two, fun g hg => ⟨one, fun p hp => ?_⟩⟩)
    exact kk p _ ((qF hg _).trans (qF hp _)) ((qF hg _).free hp) ⟨_, qE, isG ((qF hp _) _ _ qE), trivial⟩
  | lft t u =>
    refine ⟨false, (x8 (w := "lift") (by decide +kernel)), qo ?_⟩
    refine (qY rfl (SqT.of hd) a0 ⟨rfl, _, rfl, qo ?_⟩)
    refine (qY rfl (SqT.of hd) a0 ⟨rfl, _, rfl, j5 ?_⟩)
    refine (qY rfl (SqT.of hD) xq (qY rfl (SqT.of hD) vn ⟨_, _, rfl, rfl, two, fun g hg => ⟨one, fun p hp => ?_⟩⟩))
    exact kk p _ ((qF hg _).trans (qF hp _)) ((qF hg _).free hp) ⟨_, qE, isG ((qF hp _) _ _ qE), trivial⟩
  | cut t =>
    refine ⟨false, (x8 (w := "cut") (by decide +kernel)), qo ?_⟩
    refine (qY rfl (SqT.of hd) a0 ⟨rfl, _, rfl, qo ?_⟩)
    refine (qY rfl (SqT.of hd) a0 ⟨rfl, _, rfl, qo ?_⟩)
    exact ⟨zero, fun p hp => kk p _ (qF hp _) hp ⟨[], qE, trivial⟩⟩
  | hel t =>
    refine ⟨false, (x8 (w := "heal") (by decide +kernel)), qo ?_⟩
    refine (qY rfl (SqT.of hd) a0 ⟨rfl, _, rfl, qo ?_⟩)
    refine (qY rfl (SqT.of hd) a0 ⟨rfl, _, rfl, qo ?_⟩)
    exact ⟨zero, fun p hp => kk p _ (qF hp _) hp ⟨[], qE, trivial⟩⟩
  | cls t u =>
    refine ⟨false, (x8 (w := "close") (by decide +kernel)), qo ?_⟩
    refine (qY rfl (SqT.of hd) a0 ⟨rfl, _, rfl, qo ?_⟩)
    refine (qY rfl (SqT.of hd) a0 ⟨rfl, _, rfl, qo ?_⟩)
    exact ⟨zero, fun p hp => kk p _ (qF hp _) hp ⟨[], qE, trivial⟩⟩
def chF (tie : List Int) (n : Int) (push : Bool) : List Int := if push = true ∧ n ∈ tie then n :: tie.filter (fun x => decide (x ≠ n)) else [n]
theorem qF5 {i : Int} {ps : List Int} : inV (.int i) (ps.map V.int) = decide (i ∈ ps) := by
  unfold inV
  rw [Bool.eq_iff_iff]
  simp [eqV]
theorem qBc (ps : List Int) : (ps.map V.int).all zL = true := by
  rw [List.all_map, List.all_eq_true]
  intro _ _
  rfl
theorem Dk.push_in (d : Dk) : inV (.str d.wd) [.str "lay_in", .str "open", .str "close"] = d.push := by
  cases d with
  | cut t => show inV (.str "cut") _ = false; decide +kernel
  | hel t => show inV (.str "heal") _ = false; decide +kernel
  | opn t l => show inV (.str "open") _ = true; decide +kernel
  | cls t u => show inV (.str "close") _ = true; decide +kernel
  | lft t u => show inV (.str "lift") _ = false; decide +kernel
  | lin t m => show inV (.str "lay_in") _ = true; decide +kernel
  | lov t m => show inV (.str "lay_over") _ = false; decide +kernel
def wu : Sp := fun vs H Q _ => ∃ (dz : Addr) (n : Int) (d : Dk), vs = [.ref dz] ∧ DAt H dz n d ∧ ∀ (y : Addr) (H' : Hp), Same H H' → H y = none → Tr H' y (d.laid.map fun m => .gap m.mo) → Q (.ref y) H'
theorem Dk.laid_len (d : Dk) : d.laid.length ≤ 1 := by cases d <;> simp [Dk.laid]
theorem qAa (T : Tx K mg a) : FnOk P w K mg base CX0 2 a.a_laid_on_tied a.f_laid_on_tied ["deed"] wu := by
  refine T.d_laid_on_tied.F.ok wZ (fun vs H Q E h => ?_) (fun cdv A outer s H vs Q E hr h => ?_)
  · obtain ⟨dz, n, d, rfl, _⟩ := h
    rfl
  obtain ⟨dz, n, d, rfl, hD, kk⟩ := h
  refine ⟨_, (qI (qN (ve [] [] rfl (jC (qK T.d_laid_by (qBm T) hr rfl (qA (pv 0) qC))) (fun _ _ _ _ => (qX (qA qM (qA (qK T.d_moments_of (jK T) hr rfl (qA (pv 0) qC)) qC))))))), ?_⟩
  try dsimp only [jN, qg]
  refine ⟨_, rfl, dz, n, d, rfl, hD, fun l H1 e1 hl ⟨us, hlu, his⟩ => ?_⟩
  have hll := d.laid_len
  have hul := his.len
  refine ⟨l, rfl, ⟨_, SqL.of hlu⟩, zt (K := K) (a := l) (xs := us) (fun j acc H2 => IsIs H2 ((d.laid.take j).map fun m => .gap m.mo) acc ∧ Same H1 H2) ⟨trivial, Same.refl _⟩ ?_ ?_ ?_⟩
  · rintro j acc H2 hj ⟨ht, e2⟩
    exact ⟨SqL.of (e2 _ _ hlu), qd (by rw [ht.len, List.length_map, List.length_take]; omega)⟩
  · rintro j x acc H2 hj hx ⟨ht, e2⟩
    obtain ⟨m, hm, hI⟩ := his.get hx
    refine ⟨_, rfl, x, m, rfl, hI.ts (qV e2), sL2, fun g hg => Nxt.mk hj ⟨?_, e2.trans (qF hg _)⟩⟩
    rw [List.take_add_one, hm, List.map_append]
    exact (ht.ts (qV (qF hg _))).app (.one (isG qE))
  rintro acc H2 ⟨ht, e2⟩ y hy
  rw [hul, List.take_length] at ht
  exact kk y _ ((e1.trans e2).trans (qF hy _)) ((e1.trans e2).free hy) ⟨_, qE, ht.ts (qV (qF hy _))⟩
def vt : Sp := fun vs H Q _ => ∃ (tz tl ti dz : Addr) (tie : List Int) (n : Int) (d : Dk), vs = [.ref tz, .ref dz] ∧ H tz = some (.tup [.ref tl, .ref ti]) ∧ H ti = some (.lst (tie.map V.int)) ∧ tie.length ≤ 300 ∧ DAt H dz n d ∧
  ∀ (y : Addr) (H' : Hp), Same H H' → H y = none → H' y = some (.lst ((chF tie n d.push).map V.int)) → Q (.ref y) H'
theorem jq (T : Tx K mg a) : FnOk P w K mg base CX0 1 a.a_tracks_changed a.f_tracks_changed ["table", "deed"] vt := by
  refine T.d_tracks_changed.F.ok vc (fun vs H Q E h => ?_) (fun cdv A outer s H vs Q E hr h => ?_)
  · obtain ⟨tz, tl, ti, dz, tie, n, d, rfl, _⟩ := h
    rfl
  obtain ⟨tz, tl, ti, dz, tie, n, d, rfl, htz, hti, htl, hD, kk⟩ := h
  refine ⟨_, (qD (qc (PW.pt (xM (qL kM (qJ qH (pv 1) qB (fun _ _ => rfl)) (xO (v := .ref a.n_PUSHES) rfl T.g_PUSHES rfl) rfl) (jR (qL kM (qJ qH (pv 1) qB (fun _ _ => rfl)) (qJ qH (pv 0) qB (fun _ _ => rfl)) rfl)))) (qI (qN (qh (qA (qJ qH (pv 1) qB (fun _ _ => rfl)) qC)))) qO)
      (qI (qN (qW j8 (qh (qA (qJ qH (pv 1) qB (fun _ _ => rfl)) qC)) (qB5 ["deed"] [1] rfl (jC (qJ qH (pv 0) qB (fun _ _ => rfl))) (fun _ _ _ _ => (qL zT (pv 0) (qJ (qBp (K := K) rfl) (pv 1) qB (fun _ _ => rfl)) (qS _))) (fun _ _ _ _ => (pv 0))))))), ?_⟩
  try dsimp only [jN, qg]
  obtain ⟨xs, hd, a0, a1, a2⟩ := hD.opn
  have one : (1 : Nat) ≤ sizeLine := by decide
  have fin1 : ¬ (d.push = true ∧ n ∈ tie) → ∀ p, H p = none → Q (.ref p) (upd H p (.lst [.int n])) := fun hc p hp => by
    refine kk p _ (qF hp _) hp ?_
    unfold chF
    rw [if_neg hc, qE]
    rfl
  refine (qY rfl (SqT.of hd) a0 ⟨a.n_PUSHES, _, rfl, .inr (T.sq_PUSHES _), rfl, rfl, !d.push, qK5 d.push_in, ?_⟩)
  cases hp : d.push with
  | false =>
    refine j5 (j5 (qY rfl (SqT.of hd) a1 ⟨one, fun p hp' => fin1 (fun z => ?_) p hp'⟩))
    rw [hp] at z
    exact absurd z.1 (by simp)
  | true =>
    refine qo (qY rfl (SqT.of hd) a1 (qY rfl (SqT.of htz) at1 ⟨ti, _, rfl, .inl (SqL.of hti), rfl, qBc tie, !decide (n ∈ tie), ?_, ?_⟩))
    · show V.bl (!inV (.int n) (tie.map V.int)) = _
      rw [qF5]
    by_cases hm : n ∈ tie
    · rw [decide_eq_true hm]
      refine qo (qY rfl (SqT.of hd) a1 ⟨one, fun l1 hl1 => ?_⟩)
      have w1 := qF hl1 (.lst [.int n])
      have k1 : upd H l1 (.lst [.int n]) l1 = some (.lst [.int n]) := qE
      have hl10 := hl1
      change _
      generalize upd H l1 (.lst [.int n]) = H1 at w1 k1
      refine (qY rfl (SqT.of (w1 _ _ htz)) at1 ⟨ti, rfl, ⟨_, SqL.of (w1 _ _ hti)⟩, kU (K := K) (a := ti) (xs := tie.map V.int) (fun j acc H2 => acc = ((tie.take j).filter (fun x => decide (x ≠ n))).map V.int ∧ H2 = H1) ⟨rfl, rfl⟩ ?_ ?_ ?_⟩)
      · rintro j acc H2 hj ⟨rfl, rfl⟩
        refine ⟨SqL.of (w1 _ _ hti), qd ?_⟩
        rw [List.length_map]
        have := List.length_filter_le (fun x => decide (x ≠ n)) (tie.take j)
        have := List.length_take_le j tie
        rw [List.length_take] at *
        omega
      · rintro j x acc H2 hj hx ⟨rfl, rfl⟩
        obtain ⟨xi, hxi, rfl⟩ : ∃ xi : Int, tie[j]? = some xi ∧ x = .int xi := by
          rw [List.getElem?_map] at hx
          cases hq : tie[j]? with
          | none => rw [hq] at hx; cases hx
          | some k => rw [hq] at hx; cases hx; exact ⟨k, rfl, rfl⟩
        have etk : tie.take (j + 1) = tie.take j ++ [xi] := by rw [List.take_add_one, hxi]; rfl
        refine ⟨_, rfl, qY rfl (SqT.of (w1 _ _ hd)) a1 ⟨rfl, _, rfl, xN (fun c => ?_) (fun c => ?_)⟩⟩
        · have hne : xi ≠ n := by simpa using c
          refine ⟨_, rfl, Nxt.mk hj ⟨?_, rfl⟩⟩
          rw [etk, List.filter_append, List.map_append]
          simp [hne]
        · have hne : xi = n := by simpa using c
          refine Nxt.mk hj ⟨?_, rfl⟩
          rw [etk, List.filter_append, List.map_append]
          simp [hne]
      rintro acc H2 ⟨rfl, rfl⟩ l2 hl2
      rw [List.length_map, List.take_length]
      have w2 := qF hl2 (.lst ((tie.filter (fun x => decide (x ≠ n))).map V.int))
      refine ⟨l1, l2, _, _, rfl, rfl, w2 _ _ k1, qE, ?_, fun y hy => ?_⟩
      · have := qd (n := 1 + ((tie.filter (fun x => decide (x ≠ n))).map V.int).length) (by
          rw [List.length_map]
          have := List.length_filter_le (fun x => decide (x ≠ n)) tie
          omega)
        show 1 + ((tie.filter (fun x => decide (x ≠ n))).map V.int).length ≤ sizeLine
        omega
      refine kk y _ ((w1.trans w2).trans (qF hy _)) ((w1.trans w2).free hy) ?_
      unfold chF
      rw [if_pos ⟨hp, hm⟩, qE]
      rfl
    · rw [decide_eq_false hm]
      exact j5 (qY rfl (SqT.of hd) a1 ⟨one, fun p hp' => fin1 (fun z => hm z.2) p hp'⟩)
def wE : Sp := fun vs H Q _ => ∃ (dz : Addr) (xs : List V) (w : Str), vs = [.ref dz] ∧ H dz = some (.tup xs) ∧ atI xs 0 = some (.str w) ∧ (inV (.str w) [.str "open", .str "mix"] = true → ∃ l, 1 ≤ l ∧ atI xs 3 = some (.int l)) ∧
  (inV (.str w) [.str "close", .str "lift"] = true → ∃ t u, t < u ∧ atI xs 2 = some (.int t) ∧ atI xs 3 = some (.int u)) ∧ ∀ H', Same H H' → Q .non H'
theorem wG (T : Tx K mg a) : FnOk P w K mg base CX0 3 a.a_check_numbers a.f_check_numbers ["deed"] wE := by
  refine T.d_check_numbers.F.ok wN (fun vs H Q E h => ?_) (fun cdv A outer s H vs Q E hr h => ?_)
  · obtain ⟨dz, xs, w, rfl, _⟩ := h
    rfl
  obtain ⟨dz, xs, w, rfl, hd, a0, h1, h2, kk⟩ := h
  refine ⟨_, (qD (qc (PW.pt (zW (qL ja (qJ qH (pv 0) qB (fun _ _ => rfl)) (qX (qA qM (qA qM qC))) rfl) (xw (jZ (q9 (qK T.d_is_length (vz T) hr rfl (qA (qJ qH (pv 0) qB (fun _ _ => rfl)) qC))))))) qp qO)
      (qI (qc (PW.pt (zW (qL ja (qJ qH (pv 0) qB (fun _ _ => rfl)) (qX (qA qM (qA qM qC))) rfl) (xw (PW.pt (xM (jZ (q9 (qK T.d_is_whole (qv T) hr rfl (qA (qJ qH (pv 0) qB (fun _ _ => rfl)) qC)))) (jR (qL qD1 (qJ qH (pv 0) qB (fun _ _ => rfl)) (qJ qH (pv 0) qB (fun _ _ => rfl)) (qS _)))))))) qp qO))), ?_⟩
  try dsimp only [jN, qg]
  have two : (2 : Nat) ≤ sizeLine := by decide
  refine (qY rfl (SqT.of hd) a0 ⟨two, fun q hq => ⟨q, _, rfl, .inr (SqT.of qE), rfl, rfl, ?_⟩⟩)
  have w1 := qF hq (.tup [.str "open", .str "mix"])
  have hd1 := w1 _ _ hd
  cases hw : inV (.str w) [.str "open", .str "mix"] with
  | true =>
    obtain ⟨l, hl, a3⟩ := h1 hw
    refine ⟨true, rfl, j5 (qY rfl (SqT.of hd1) a3 ⟨l, rfl, hl, true, rfl, qo ?_⟩)⟩
    generalize upd H q (.tup [.str "open", .str "mix"]) = H2 at w1 hd1
    refine (qY rfl (SqT.of hd1) a0 ⟨two, fun q2 hq2 => ⟨q2, _, rfl, .inr (SqT.of qE), rfl, rfl, ?_⟩⟩)
    have w2 := qF hq2 (.tup [.str "close", .str "lift"])
    cases hw2 : inV (.str w) [.str "close", .str "lift"] with
    | true =>
      obtain ⟨t, u, htu, b2, b3⟩ := h2 hw2
      refine ⟨true, rfl, j5 ⟨_, rfl, dz, _, _, _, rfl, rfl, SqT.of (w2 _ _ hd1), b3, u, rfl, true, rfl, qo ?_⟩⟩
      refine ⟨_, rfl, dz, _, _, _, rfl, rfl, SqT.of (w2 _ _ hd1), b2, _, rfl, dz, _, _, _, rfl, rfl, SqT.of (w2 _ _ hd1), b3, _, _, rfl, rfl, _, rfl, ?_⟩
      rw [decide_eq_false (show ¬ t ≥ u by omega)]
      exact qo (kk _ (w1.trans w2))
    | false => exact ⟨false, rfl, qo (qo (kk _ (w1.trans w2)))⟩
  | false =>
    refine ⟨false, rfl, qo (qo ?_)⟩
    generalize upd H q (.tup [.str "open", .str "mix"]) = H2 at w1 hd1
    refine (qY rfl (SqT.of hd1) a0 ⟨two, fun q2 hq2 => ⟨q2, _, rfl, .inr (SqT.of qE), rfl, rfl, ?_⟩⟩)
    have w2 := qF hq2 (.tup [.str "close", .str "lift"])
    cases hw2 : inV (.str w) [.str "close", .str "lift"] with
    | true =>
      obtain ⟨t, u, htu, b2, b3⟩ := h2 hw2
      refine ⟨true, rfl, j5 ⟨_, rfl, dz, _, _, _, rfl, rfl, SqT.of (w2 _ _ hd1), b3, u, rfl, true, rfl, qo ?_⟩⟩
      refine ⟨_, rfl, dz, _, _, _, rfl, rfl, SqT.of (w2 _ _ hd1), b2, _, rfl, dz, _, _, _, rfl, rfl, SqT.of (w2 _ _ hd1), b3, _, _, rfl, rfl, _, rfl, ?_⟩
      rw [decide_eq_false (show ¬ t ≥ u by omega)]
      exact qo (kk _ (w1.trans w2))
    | false => exact ⟨false, rfl, qo (qo (kk _ (w1.trans w2)))⟩
def qDj : Sp := fun vs H Q _ => ∃ (z : Addr) (ms : List Im), vs = [.ref z] ∧ Tr H z ms ∧ Pos ms ∧ ∀ (y : Addr) (H' : Hp), Same H H' → H y = none → H' y = some (.lst []) → Q (.ref y) H'
theorem qEh (T : Tx K mg a) : FnOk P w K mg base CX0 2 a.a_mix_spans a.f_mix_spans ["track"] qDj := by
  refine T.d_mix_spans.F.ok sc_mix_spans (fun vs H Q E h => ?_) (fun cdv A outer s H vs Q E hr h => ?_)
  · obtain ⟨z, ms, rfl, _⟩ := h
    rfl
  obtain ⟨z, ms, rfl, ⟨vs, hz, his⟩, hp, kk⟩ := h
  refine ⟨_, (qD (qU (i := 1) sc_mix_spans.nd rfl (Or.inl rfl) (qh qC))
      (qD (qU (i := 2) sc_mix_spans.nd rfl (Or.inl rfl) qB)
      (qD (xp PassesOwn.never rfl (jC (pv 0)) (jL (i := 3) sc_mix_spans.nd rfl (Or.inl rfl)) (qD (qc (qL jD (qJ qH (pv 3) qB (fun _ _ => rfl)) qM (qS _)) qp qO)
      (qI (qU (i := 2) sc_mix_spans.nd rfl (Or.inl rfl) (qW qj (pv 2) (qK T.d_moments_of (jK T) hr rfl (qA (pv 3) qC)))))))
      (qI (qN (pv 1)))))), ?_⟩
  try dsimp only [jN, qg]
  refine ⟨sL0, fun y hy => ?_⟩
  have w0 := qF hy (.lst [])
  refine ⟨_, rfl, z, rfl, ⟨_, SqL.of (w0 _ _ hz)⟩, jk (K := K) (a := z) (xs := vs) (fun i σ H' => ∃ (o : Option V) (b : Int), σ = [some (.ref z), some (.ref y), some (.int b), o] ∧ H' = upd H y (.lst [])) ⟨none, _, rfl, rfl⟩ ?_ ?_ ?_⟩
  · rintro i σ H' hi ⟨o, b, rfl, rfl⟩
    exact SqL.of (w0 _ _ hz)
  · rintro i x σ H' hx ⟨o, b, rfl, rfl⟩
    obtain ⟨m, hm, hIx⟩ := his.get hx
    have hI := hIx.ts (qV w0)
    obtain ⟨zi, xi, rfl, hzi, a0, _⟩ := hI.opn
    have hw := (hp m (List.mem_of_getElem? hm)).2
    refine ⟨_, rfl, zi, xi, _, _, rfl, rfl, SqT.of hzi, a0, rfl, _, rfl, ?_⟩
    rw [decide_eq_false (by simpa using hw)]
    exact qo ⟨_, rfl, _, rfl, _, m, rfl, hI, _, _, rfl, rfl, _, _, rfl, rfl⟩
  · rintro σ H' ⟨o, b, rfl, rfl⟩
    exact ⟨_, rfl, kk y _ w0 hy qE⟩
def qBb : Sp := fun vs H Q _ => ∃ (z : Addr) (ms : List Im) (lo hi : Int), vs = [.ref z, .int lo, .int hi] ∧ Tr H z ms ∧ Pos ms ∧ ∀ H', Same H H' → Q (.bl false) H'
theorem qA6 (T : Tx K mg a) : FnOk P w K mg base CX0 3 a.a_touches_mix a.f_touches_mix ["track", "low", "high"] qBb := by
  refine T.d_touches_mix.F.ok sc_touches_mix (fun vs H Q E h => ?_) (fun cdv A outer s H vs Q E hr h => ?_)
  · obtain ⟨z, ms, lo, hi, rfl, _⟩ := h
    rfl
  obtain ⟨z, ms, lo, hi, rfl, tT, hp, kk⟩ := h
  refine ⟨_, (qD (xp PassesOwn.never rfl (jC (qK T.d_mix_spans (qEh T) hr rfl (qA (pv 0) qC))) (jL (i := 3) sc_touches_mix.nd rfl (Or.inl rfl)) (qI (qc (PW.pt (xM (PW.pt (zW (qL z9 (qJ qH (pv 3) qB (fun _ _ => rfl)) (pv 2) (qS _)) (xw (qL z9 (pv 1) (qJ qH (pv 3) qB (fun _ _ => rfl)) (qS _))))) (jR (PW.pt (zW (qL qKn (pv 1) (qJ qH (pv 3) qB (fun _ _ => rfl)) (qS _)) (xw (qL qKn (qJ qH (pv 3) qB (fun _ _ => rfl)) (pv 2) (qS _)))))))) (qI (qN zh)) qO)))
      (qI (qN zh))), ?_⟩
  try dsimp only [jN, qg]
  refine ⟨_, rfl, z, ms, rfl, tT, hp, fun y H1 e1 hy hy1 => ?_⟩
  refine ⟨y, rfl, ⟨_, SqL.of hy1⟩, jk (K := K) (a := y) (xs := []) (fun i σ H' => H' = H1) rfl ?_ ?_ ?_⟩
  · rintro i σ H' hi rfl
    exact SqL.of hy1
  · rintro i x σ H' hx rfl
    simp at hx
  · rintro σ H' rfl
    exact kk H' e1
structure TabP (H : Hp) (tz : Addr) (ts : List (List Im)) (tie : List Int) (n : Nat) : Prop where
  tab : TabF H (.ref tz) ts tie
  pos : ∀ ms ∈ ts, Pos ms ∧ MsB ms ∧ ms.length ≤ 100
  nt : n < ts.length
  len : ts.length ≤ 8
  tl : tie.length ≤ 8
  tin : ∀ x ∈ tie, ∃ k : Nat, x = (k : Int) ∧ k < ts.length
theorem TabP.same {H H' : Hp} {tz : Addr} {ts : List (List Im)} {tie : List Int} {n : Nat} (e : Same H H') (h : TabP H tz ts tie n) : TabP H' tz ts tie n := ⟨h.tab.same e, h.pos, h.nt, h.len, h.tl, h.tin⟩
theorem TabP.ch {H : Hp} {tz : Addr} {ts : List (List Im)} {tie : List Int} {n : Nat} (h : TabP H tz ts tie n) (push : Bool) : (chF tie (n : Int) push).length ≤ 10 ∧ ∀ x ∈ chF tie (n : Int) push, ∃ k : Nat, x = (k : Int) ∧ k < ts.length := by
  unfold chF
  split
  · refine ⟨?_, fun x hx => ?_⟩
    · rw [List.length_cons]
      have := List.length_filter_le (fun x => decide (x ≠ (n : Int))) tie
      have := h.tl
      omega
    · rcases List.mem_cons.mp hx with rfl | hx
      · exact ⟨n, rfl, h.nt⟩
      · exact h.tin x (List.mem_filter.mp hx).1
  · refine ⟨by show 1 ≤ 10; decide, fun x hx => ?_⟩
    have : x = (n : Int) := by simpa using hx
    exact ⟨n, this, h.nt⟩
def qA1 : Sp := fun vs H Q _ => ∃ (tz dz : Addr) (ts : List (List Im)) (tie : List Int) (n : Nat) (d : Dk), vs = [.ref tz, .ref dz] ∧ TabP H tz ts tie n ∧ DAt H dz (n : Int) d ∧ ∀ H', Same H H' → Q .non H'
theorem kz (T : Tx K mg a) : FnOk P w K mg base CX0 4 a.a_check_mixes a.f_check_mixes ["table", "deed"] qA1 := by
  refine T.d_check_mixes.F.ok sc_check_mixes (fun vs H Q E h => ?_) (fun cdv A outer s H vs Q E hr h => ?_)
  · obtain ⟨tz, dz, ts, tie, n, d, rfl, _⟩ := h
    rfl
  obtain ⟨tz, dz, ts, tie, n, d, rfl, hP, hD, kk⟩ := h
  refine ⟨_, (qD (qU (i := 2) sc_check_mixes.nd rfl (Or.inl rfl) (qK T.d_stretch_of (z8 T) hr rfl (qA (pv 1) qC)))
      (qI (xp PassesOwn.never rfl (jC (qK T.d_tracks_changed (jq T) hr rfl (qA (pv 0) (qA (pv 1) qC)))) (jL (i := 3) sc_check_mixes.nd rfl (Or.inl rfl)) (qI (qc (q9 (qK T.d_touches_mix (qA6 T) hr rfl (qA (qJ qm (qJ qH (pv 0) qB (fun _ _ => rfl)) (pv 3) (fun _ _ => rfl)) (qA (qJ qH (pv 2) qB (fun _ _ => rfl)) (qA (qJ qH (pv 2) qB (fun _ _ => rfl)) qC))))) qp qO))))), ?_⟩
  try dsimp only [jN, qg]
  obtain ⟨tt, tl, ti, zs, e0, g2, g3, g4, g5⟩ := id hP.tab
  cases e0
  have hzl := g4.len
  obtain ⟨hcl, hch⟩ := hP.ch d.push
  refine ⟨_, rfl, dz, _, d, rfl, hD, fun p H1 e1 hp => ?_⟩
  refine ⟨_, rfl, _, rfl, tz, tl, ti, dz, tie, _, d, rfl, e1 _ _ g2, e1 _ _ g5, by have := hP.tl; omega, hD.same e1, fun y H2 e2 hy hy2 => ?_⟩
  refine ⟨y, rfl, ⟨_, SqL.of hy2⟩, jk (K := K) (a := y) (xs := (chF tie (n : Int) d.push).map V.int) (fun i σ H' => ∃ o : Option V, σ = [some (.ref tz), some (.ref dz), some (.ref p), o] ∧ Same H2 H') ⟨none, rfl, Same.refl _⟩ ?_ ?_ ?_⟩
  · rintro i σ H' hi ⟨o, rfl, e⟩
    exact SqL.of (e _ _ hy2)
  · rintro i x σ H' hx ⟨o, rfl, e⟩
    obtain ⟨xi, hxi, rfl⟩ : ∃ xi : Int, (chF tie (n : Int) d.push)[i]? = some xi ∧ x = .int xi := by
      rw [List.getElem?_map] at hx
      cases hq : (chF tie (n : Int) d.push)[i]? with
      | none => rw [hq] at hx; cases hx
      | some k => rw [hq] at hx; cases hx; exact ⟨k, rfl, rfl⟩
    obtain ⟨k, rfl, hk⟩ := hch xi (List.mem_of_getElem? hxi)
    have e02 := e1.trans (e2.trans e)
    have ez : zs[k]? = some zs[k] := List.getElem?_eq_getElem (by omega)
    obtain ⟨ms, z, hms, ezz, tT⟩ := g4.get ez
    rw [ezz] at ez
    refine (qY rfl (SqT.of (e02 _ _ g2)) at0 ⟨_, rfl, tl, _, _, _, rfl, rfl, SqL.of (e02 _ _ g3), qq ez, qY rfl (SqT.of ((e2.trans e) _ _ hp)) at0 (qY rfl (SqT.of ((e2.trans e) _ _ hp)) at1 ⟨z, ms, _, _, rfl, tT.same e02, (hP.pos ms (List.mem_of_getElem? hms)).1, fun H3 e3 => ?_⟩)⟩)
    exact ⟨false, rfl, qo ⟨_, rfl, e.trans e3⟩⟩
  · rintro σ H' ⟨o, rfl, e⟩
    exact kk H' (e1.trans (e2.trans e))
def qKu (ms : List Im) : Int := (ms.map Im.mo).sum
def qPt (ms : List Im) (lo hi : Int) (ls : List Im) : List Im := qDn 0 (zS 0 lo 0 ms ++ [.gap (ze (lo - qKu ms) 0)] ++ ls ++ zS hi (qKu ms) 0 ms)
def qIt : Sp := fun vs H Q _ => ∃ (z l : Addr) (ms ls : List Im) (lo hi : Int), vs = [.ref z, .int lo, .int hi, .ref l] ∧ Tr H z ms ∧ Tr H l ls ∧ MsB ms ∧ ms.length ≤ 100 ∧ ls.length ≤ 10 ∧ 0 ≤ hi ∧ hi ≤ 2 ^ 500 ∧ ∀ (y : Addr) (H' : Hp), Same H H' → H y = none → Tr H' y (qPt ms lo hi ls) → Q (.ref y) H'
theorem qIv (T : Tx K mg a) : FnOk P w K mg base CX0 8 a.a_relaid a.f_relaid ["track", "low", "high", "laid"] qIt := by
  refine T.d_relaid.F.ok sc_relaid (fun vs H Q E h => ?_) (fun cdv A outer s H vs Q E hr h => ?_)
  · obtain ⟨z, l, ms, ls, lo, hi, rfl, _⟩ := h
    rfl
  obtain ⟨z, l, ms, ls, lo, hi, rfl, tT, tL, hB, hl1, hl2, h0, h1, kk⟩ := h
  refine ⟨_, (qD (qU (i := 4) sc_relaid.nd rfl (Or.inl rfl) (qX (qA qM (qA (qf (kQ rfl) rfl T.b_max rfl (qA (qW jM (pv 1) (qK T.d_length_of (vv T) hr rfl (qA (pv 0) qC))) (qA qB qC))) qC))))
      (qI (qN (qK T.d_one_form (qFl T) hr rfl (qA (qW j8 (qW j8 (qW j8 (qK T.d_part_of_track (xx T) hr rfl (qA (pv 0) (qA qB (qA (pv 1) qC)))) (qh (qA (pv 4) qC))) (pv 3)) (qK T.d_part_of_track (xx T) hr rfl (qA (pv 0) (qA (pv 2) (qA (qK T.d_length_of (vv T) hr rfl (qA (pv 0) qC)) qC))))) qC))))), ?_⟩
  try dsimp only [jN, qg]
  have two : (2 : Nat) ≤ sizeLine := by decide
  have one : (1 : Nat) ≤ sizeLine := by decide
  have sm : ∀ j : Nat, j ≤ 1000 → j ≤ sizeLine := fun j h => by have := qd (n := j) (by omega); omega
  refine ⟨_, rfl, _, rfl, z, ms, rfl, tT, by omega, fun H1 e1 => ?_⟩
  refine ⟨_, _, rfl, rfl, _, _, rfl, two, fun g hg => ?_⟩
  have w2 := qF hg (.tup [.str "gap", .int (if (0 : Int) > lo - (ms.map Im.mo).sum then 0 else lo - (ms.map Im.mo).sum)])
  have kg : upd H1 g (.tup [.str "gap", .int (if (0 : Int) > lo - (ms.map Im.mo).sum then 0 else lo - (ms.map Im.mo).sum)]) g = some (.tup [.str "gap", .int (ze (lo - qKu ms) 0)]) := qE
  have e2 := e1.trans w2
  change _
  generalize upd H1 g (.tup [.str "gap", .int (if (0 : Int) > lo - (ms.map Im.mo).sum then 0 else lo - (ms.map Im.mo).sum)]) = H2 at w2 kg e2
  refine ⟨_, rfl, _, rfl, z, ms, 0, lo, rfl, tT.same e2, hB, by decide, by decide, fun y1 H3 e3 hy1 ⟨us1, k1, i1⟩ => ?_⟩
  have n1 := i1.len
  have n1' := kP 0 lo 0 ms
  refine ⟨_, rfl, one, fun l2 hl2 => ?_⟩
  have w4 := qF hl2 (.lst [.ref g])
  refine ⟨y1, l2, _, _, rfl, rfl, w4 _ _ k1, qE, sm _ (by show us1.length + 1 ≤ 1000; omega), fun y2 hy2 => ?_⟩
  have w5 := qF hy2 (.lst (us1 ++ [.ref g]))
  have w45 := w4.trans w5
  have e5 := (e2.trans e3).trans w45
  have k2 : (upd (upd H3 l2 (.lst [.ref g])) y2 (.lst (us1 ++ [.ref g]))) y2 = some (.lst (us1 ++ [.ref g])) := qE
  have i2 : IsIs (upd (upd H3 l2 (.lst [.ref g])) y2 (.lst (us1 ++ [.ref g]))) (zS 0 lo 0 ms ++ [.gap (ze (lo - qKu ms) 0)]) (us1 ++ [.ref g]) := (i1.ts (qV w45)).app (.one (isG ((e3.trans w45) _ _ kg)))
  change _
  generalize upd (upd H3 l2 (.lst [.ref g])) y2 (.lst (us1 ++ [.ref g])) = H5 at w45 e5 k2 i2
  obtain ⟨ul, kl, il⟩ := tL.same e5
  have nl := il.len
  have n2 := i2.len
  rw [List.length_append, List.length_append] at n2
  refine ⟨_, rfl, y2, l, _, _, rfl, rfl, k2, kl, sm _ (by rw [List.length_append]; show us1.length + 1 + ul.length ≤ 1000; omega), fun y3 hy3 => ?_⟩
  have w6 := qF hy3 (.lst (us1 ++ [.ref g] ++ ul))
  have e6 := e5.trans w6
  have k3 : (upd H5 y3 (.lst (us1 ++ [.ref g] ++ ul))) y3 = some (.lst (us1 ++ [.ref g] ++ ul)) := qE
  have i3 : IsIs (upd H5 y3 (.lst (us1 ++ [.ref g] ++ ul))) (zS 0 lo 0 ms ++ [.gap (ze (lo - qKu ms) 0)] ++ ls) (us1 ++ [.ref g] ++ ul) := (i2.app il).ts (qV w6)
  change _
  generalize upd H5 y3 (.lst (us1 ++ [.ref g] ++ ul)) = H6 at w6 e6 k3 i3
  refine ⟨_, rfl, _, rfl, _, rfl, z, ms, rfl, tT.same e6, by omega, fun H7 e7 => ?_⟩
  refine ⟨z, ms, hi, qKu ms, rfl, tT.same (e6.trans e7), hB, h0, h1, fun y4 H8 e8 hy4 ⟨us4, k4, i4⟩ => ?_⟩
  have n4 := i4.len
  have n4' := kP hi (qKu ms) 0 ms
  have e78 := e7.trans e8
  have hlen : (us1 ++ [V.ref g] ++ ul).length = us1.length + 1 + ul.length := by rw [List.length_append, List.length_append]; rfl
  refine ⟨y3, y4, _, _, rfl, rfl, e78 _ _ k3, k4, sm _ (by omega), fun y5 hy5 => ?_⟩
  have w9 := qF hy5 (.lst (us1 ++ [.ref g] ++ ul ++ us4))
  have e9 := (e6.trans e78).trans w9
  refine ⟨y5, _, rfl, ⟨_, qE, ((i3.ts (qV e78)).app i4).ts (qV w9)⟩, ?_, fun y H10 e10 hy tY => kk y H10 (e9.trans e10) (e9.free hy) tY⟩
  rw [List.length_append, List.length_append, List.length_append]
  show (zS 0 lo 0 ms).length + 1 + ls.length + (zS hi (qKu ms) 0 ms).length ≤ 300
  omega
def LayOk (H : Hp) (rd : Addr) : Im → Prop
  | .clip n p q r s l => ∃ N, Reel H rd n N ∧ qAq n = true ∧ n.length ≤ 1000 ∧ Bn 700 p q r s ∧ Int.gcd p q = 1 ∧ Int.gcd r s = 1 ∧ 1 ≤ l ∧ l.natAbs < 2 ^ 600 ∧ InR (Vk p q r s 0) (q * s) N ∧ InR (Vk p q r s (l - 1)) (q * s) N
  | .nest n b l => qAq n = true ∧ n.length ≤ 1000 ∧ 0 ≤ b ∧ 1 ≤ l
  | _ => False
theorem LayOk.same {H H' : Hp} {rd : Addr} {m : Im} (e : Same H H') (h : LayOk H rd m) : LayOk H' rd m := by
  cases m with
  | clip n p q r s l => obtain ⟨N, h1, h2⟩ := h; exact ⟨N, h1.same e, h2⟩
  | nest n b l => exact h
  | gap => exact h
  | mix => exact h
theorem LayOk.nice {H : Hp} {rd : Addr} {m : Im} (h : LayOk H rd m) : qNh m := by
  cases m with
  | clip n p q r s l => exact trivial
  | nest n b l => exact h
  | gap => exact h.elim
  | mix => exact h.elim
def DOk (H : Hp) (rd : Addr) (ms : List Im) : Dk → Prop
  | .cut t => 0 ≤ t ∧ t ≤ 2 ^ 400 ∧ zg ms t = true
  | .hel _ => False
  | .opn t l => 0 ≤ t ∧ t ≤ 2 ^ 400 ∧ 1 ≤ l
  | .cls t u => 0 ≤ t ∧ t < u ∧ u ≤ 2 ^ 400
  | .lft t u => 0 ≤ t ∧ t < u ∧ u ≤ 2 ^ 400
  | .lin t m => 0 ≤ t ∧ t ≤ 2 ^ 400 ∧ LayOk H rd m
  | .lov t m => 0 ≤ t ∧ t ≤ 2 ^ 400 ∧ LayOk H rd m ∧ 0 ≤ m.mo ∧ m.mo ≤ 2 ^ 400
theorem DOk.same {H H' : Hp} {rd : Addr} {ms : List Im} {d : Dk} (e : Same H H') (h : DOk H rd ms d) : DOk H' rd ms d := by
  cases d with
  | lin t m => exact ⟨h.1, h.2.1, h.2.2.same e⟩
  | lov t m => exact ⟨h.1, h.2.1, h.2.2.1.same e, h.2.2.2⟩
  | _ => exact h
def qB4 : Sp := fun vs H Q _ => ∃ (v : V) (rd : Addr) (n : Str) (p q r s l : Int), vs = [v, .ref rd] ∧ IsI H (.clip n p q r s l) v ∧ LayOk H rd (.clip n p q r s l) ∧ ∀ H', Same H H' → Q .non H'
theorem qCp (T : Tx K mg a) : FnOk P w K mg base CX0 6 a.a_check_clip a.f_check_clip ["item", "reels"] qB4 := by
  refine T.d_check_clip.F.ok sc_check_clip (fun vs H Q E h => ?_) (fun cdv A outer s H vs Q E hr h => ?_)
  · obtain ⟨v, rd, n, p, q, r, s, l, rfl, _⟩ := h
    rfl
  obtain ⟨v, rd, n, p, q, r, s', len, rfl, ⟨z, z1', z2', rfl, hz, hz1, hz2⟩, ⟨m, hrd, hn, hl, hb, gq, gs, l1, bl, i0, i1⟩, kg⟩ := h
  have hc : Ch H z n p q r s' len := ⟨z1', z2', hz, hz1, hz2⟩
  have hu1 := qIe hr
  refine ⟨_, (qD (qc (jZ (q9 (qK T.d_has_clip_form (wL T) hr rfl (qA (pv 0) qC)))) qp qO)
      (qD (qc (vD (qIy hu1 (qJ qH (pv 0) qB (fun _ _ => rfl)) (pv 1))) qp qO)
      (qD (qU (i := 2) sc_check_clip.nd rfl (Or.inl rfl) (qEu hu1 (pv 1) (qJ qH (pv 0) qB (fun _ _ => rfl)) (fun _ _ => rfl)))
      (qI (qc (PW.pt (xM (jZ (q9 (qK T.d_is_there (vF T) hr rfl (qA (qK T.d_picture_at (vH T) hr rfl (qA (pv 0) (qA qB qC))) (qA (pv 2) qC))))) (jR (jZ (q9 (qK T.d_is_there (vF T) hr rfl (qA (qK T.d_picture_at (vH T) hr rfl (qA (pv 0) (qA (qW jM (qJ qH (pv 0) qB (fun _ _ => rfl)) qB) qC))) (qA (pv 2) qC)))))))) qp qO))))), ?_⟩
  try dsimp only [jN, qg]
  have hqs := Int.mul_pos hb.q0 hb.s0
  have h0 : ∀ {H' : Hp}, Same H H' → ∃ z1 z2, SqT K H' z [.str "clip", .str n, .ref z1, .ref z2, .int len] := fun e => let ⟨z1, z2, h1, _, _⟩ := (hc.same e).ex; ⟨z1, z2, SqT.of h1⟩
  refine ⟨_, rfl, z, n, p, q, r, s', len, rfl, hc, hn, hl, hb.q0, gq, hb.s0, gs, l1, fun H1 s1 => ⟨true, rfl, qo ?_⟩⟩
  obtain ⟨z1, z2, t1⟩ := h0 s1
  refine ⟨_, rfl, z, _, _, _, rfl, rfl, t1, qB3, _, rfl, rd, _, rfl, (hrd.same s1).get, _, rfl, qo ?_⟩
  refine ⟨_, rfl, _, rfl, z, _, _, _, rfl, rfl, t1, qB3, rd, _, rfl, (hrd.same s1).get, ?_⟩
  refine ⟨_, rfl, _, n, p, q, r, s', len, 0, rfl, (hc.same s1).cp, hb.q0, hb.s0, hb.bp, hb.bq, hb.br, hb.bs, xo (n := 30) (by decide), fun H2 s2 => ?_⟩
  have s2 := s1.trans s2
  refine ⟨_, rfl, _, m, rfl, _, rfl, ?_⟩
  have e : thB ((p * s' + 0 * r * q).fdiv (q * s')) m = true := (qJf hqs).mpr i0
  rw [e]
  refine qo ?_
  obtain ⟨z1, z2, t2⟩ := h0 s2
  have bl1 : (len - 1).natAbs < 2 ^ 700 := by
    have e : (2 : Nat) ^ 600 ≤ 2 ^ 700 := Nat.pow_le_pow_right (by decide) (by decide)
    omega
  refine ⟨_, rfl, _, rfl, z, _, _, _, rfl, rfl, t2, wI, _, _, rfl, rfl, _, n, p, q, r, s', len, len - 1, rfl, (hc.same s2).cp, hb.q0, hb.s0, hb.bp, hb.bq, hb.br, hb.bs, bl1, fun H3 s3 => ?_⟩
  have s3 := s2.trans s3
  refine ⟨_, rfl, _, m, rfl, _, rfl, ?_⟩
  have e : thB ((p * s' + (len - 1) * r * q).fdiv (q * s')) m = true := (qJf hqs).mpr i1
  rw [e]
  exact qo (kg H3 s3)
theorem Dk.cut_wd {d : Dk} (h : d.wd = "cut") : ∃ t, d = .cut t := by
  cases d with
  | cut t => exact ⟨t, rfl⟩
  | hel t => exact absurd (show ("heal" : Str) = "cut" from h) (by decide +kernel)
  | opn t l => exact absurd (show ("open" : Str) = "cut" from h) (by decide +kernel)
  | cls t u => exact absurd (show ("close" : Str) = "cut" from h) (by decide +kernel)
  | lft t u => exact absurd (show ("lift" : Str) = "cut" from h) (by decide +kernel)
  | lin t m => exact absurd (show ("lay_in" : Str) = "cut" from h) (by decide +kernel)
  | lov t m => exact absurd (show ("lay_over" : Str) = "cut" from h) (by decide +kernel)
def Dk.lay : Dk → Option Im
  | .lin _ m => some m
  | .lov _ m => some m
  | _ => none
theorem Dk.lay_in (d : Dk) : inV (.str d.wd) [.str "lay_in", .str "lay_over"] = d.lay.isSome := by
  cases d with
  | cut t => show inV (.str "cut") _ = false; decide +kernel
  | hel t => show inV (.str "heal") _ = false; decide +kernel
  | opn t l => show inV (.str "open") _ = false; decide +kernel
  | cls t u => show inV (.str "close") _ = false; decide +kernel
  | lft t u => show inV (.str "lift") _ = false; decide +kernel
  | lin t m => show inV (.str "lay_in") _ = true; decide +kernel
  | lov t m => show inV (.str "lay_over") _ = true; decide +kernel
theorem DAt.lay {H : Hp} {dz : Addr} {n : Int} {d : Dk} {m : Im} (h : DAt H dz n d) (hl : d.lay = some m) : ∃ xs v, H dz = some (.tup xs) ∧ atI xs 3 = some v ∧ IsI H m v := by
  cases d with
  | lin t m' => cases hl; obtain ⟨v, h1, h2⟩ := h; exact ⟨_, v, h1, rfl, h2⟩
  | lov t m' => cases hl; obtain ⟨v, h1, h2⟩ := h; exact ⟨_, v, h1, rfl, h2⟩
  | _ => cases hl
theorem DOk.lay {H : Hp} {rd : Addr} {ms : List Im} {d : Dk} {m : Im} (h : DOk H rd ms d) (hl : d.lay = some m) : LayOk H rd m := by
  cases d with
  | lin t m' => cases hl; exact h.2.2
  | lov t m' => cases hl; exact h.2.2.1
  | _ => cases hl
theorem DOk.ch {H : Hp} {rd : Addr} {ms : List Im} {d : Dk} (h : DOk H rd ms d) : inV (.str d.wd) [.str "cut", .str "lay_in", .str "open", .str "close", .str "lift", .str "lay_over"] = true := by
  cases d with
  | cut t => show inV (.str "cut") _ = true; decide +kernel
  | hel t => exact h.elim
  | opn t l => show inV (.str "open") _ = true; decide +kernel
  | cls t u => show inV (.str "close") _ = true; decide +kernel
  | lft t u => show inV (.str "lift") _ = true; decide +kernel
  | lin t m => show inV (.str "lay_in") _ = true; decide +kernel
  | lov t m => show inV (.str "lay_over") _ = true; decide +kernel
def wp : Sp := fun vs H Q _ => ∃ (tz dz rd : Addr) (ts : List (List Im)) (tie : List Int) (n : Nat) (d : Dk) (ms : List Im), vs = [.ref tz, .ref dz, .ref rd] ∧ TabP H tz ts tie n ∧ DAt H dz (n : Int) d ∧ ts[n]? = some ms ∧ DOk H rd ms d ∧ ∀ H', Same H H' → Q .non H'
theorem qAd (T : Tx K mg a) : FnOk P w K mg base CX0 7 a.a_check_change a.f_check_change ["table", "deed", "reels"] wp := by
  refine T.d_check_change.F.ok we (fun vs H Q E h => ?_) (fun cdv A outer s H vs Q E hr h => ?_)
  · obtain ⟨tz, dz, rd, ts, tie, n, d, ms, rfl, _⟩ := h
    rfl
  obtain ⟨tz, dz, rd, ts, tie, n, d, ms, rfl, hP, hD, hms, hO, kk⟩ := h
  refine ⟨_, (qD (qc (qL kM (qJ qH (pv 1) qB (fun _ _ => rfl)) (xO (v := .ref a.n_CHANGES) rfl T.g_CHANGES rfl) rfl) qp qO)
      (qD (zZ (qc (PW.pt (zW (qL jD (qJ qH (pv 1) qB (fun _ _ => rfl)) qM (qS _)) (xw (jZ (q9 (qK T.d_lies_within (vC T) hr rfl (qA (qJ qm (qJ qH (pv 0) qB (fun _ _ => rfl)) (qJ qH (pv 1) qB (fun _ _ => rfl)) (fun _ _ => rfl)) (qA (qJ qH (pv 1) qB (fun _ _ => rfl)) qC)))))))) qp qO))
      (qD (zZ (qc (PW.pt (zW (qL ja (qJ qH (pv 1) qB (fun _ _ => rfl)) (xO (v := .ref a.n_LAYS) rfl T.g_LAYS rfl) rfl) (xw (jZ (q9 (qK T.d_has_nest_form (wO T) hr rfl (qA (qJ qH (pv 1) qB (fun _ _ => rfl)) qC))))))) (qI (qx (qK T.d_check_clip (qCp T) hr rfl (qA (qJ qH (pv 1) qB (fun _ _ => rfl)) (qA (pv 2) qC))))) qO))
      (qI (qx (qK T.d_check_mixes (kz T) hr rfl (qA (pv 0) (qA (pv 1) qC)))))))), ?_⟩
  try dsimp only [jN, qg]
  obtain ⟨xs, hd, a0, a1, a2⟩ := hD.opn
  obtain ⟨tt, tl, ti, zs, e0, g2, g3, g4, g5⟩ := id hP.tab
  cases e0
  have hzl := g4.len
  have hnt := hP.nt
  have ez : zs[n]? = some (zs[n]'(by omega)) := List.getElem?_eq_getElem (by omega)
  obtain ⟨ms', z, hms', ezz, tT⟩ := g4.get ez
  rw [hms] at hms'
  cases hms'
  rw [ezz] at ez
  refine (qY rfl (SqT.of hd) a0 ⟨a.n_CHANGES, _, rfl, .inr (T.sq_CHANGES _), rfl, rfl, false, qK5 hO.ch, qo ?_⟩)
  refine ⟨fun σ H1 => σ = [some (.ref tz), some (.ref dz), some (.ref rd)] ∧ Same H H1, ?_, ?_⟩
  · refine (qY rfl (SqT.of hd) a0 ⟨rfl, _, rfl, xN (fun c => ?_) (fun c => qo ⟨rfl, Same.refl _⟩)⟩)
    obtain ⟨t, rfl⟩ := Dk.cut_wd (by simpa using c)
    refine (qY rfl (SqT.of g2) at0 (qY rfl (SqT.of hd) a1 ⟨tl, _, _, _, rfl, rfl, SqL.of g3, qq ez, qY rfl (SqT.of hd) a2 ⟨z, ms, t, rfl, tT, fun H1 e1 => ?_⟩⟩))
    rw [hO.2.2]
    exact ⟨true, rfl, qo ⟨rfl, e1⟩⟩
  rintro σ H1 ⟨rfl, e1⟩
  refine ⟨fun σ H2 => σ = [some (.ref tz), some (.ref dz), some (.ref rd)] ∧ Same H H2, ?_, ?_⟩
  · refine (qY rfl (SqT.of (e1 _ _ hd)) a0 ⟨a.n_LAYS, _, rfl, .inr (T.sq_LAYS _), rfl, rfl, d.lay.isSome, x8 d.lay_in, ?_⟩)
    cases hl : d.lay with
    | none => exact qo (qo ⟨rfl, e1⟩)
    | some m =>
      obtain ⟨xs', v, hd', a3, hI⟩ := (hD.same e1).lay hl
      have hL := (hO.lay hl).same e1
      refine j5 (qY rfl (SqT.of hd') a3 ⟨v, m, rfl, hI, hL.nice, fun H2 e2 => ?_⟩)
      cases m with
      | nest n b l => exact ⟨true, rfl, qo ⟨rfl, e1.trans e2⟩⟩
      | gap l => exact hL.elim
      | mix l => exact hL.elim
      | clip n p q r s1 l =>
        refine ⟨false, rfl, j5 (qY rfl (SqT.of (e2 _ _ hd')) a3 ⟨_, rfl, v, rd, n, p, q, r, s1, l, rfl, hI.ts (qV e2), hL.same e2, fun H3 e3 => ?_⟩)⟩
        exact ⟨rfl, (e1.trans e2).trans e3⟩
  rintro σ H2 ⟨rfl, e2⟩
  exact ⟨_, rfl, _, rfl, tz, dz, ts, tie, n, d, rfl, hP.same e2, hD.same e2, fun H3 e3 => kk H3 (e2.trans e3)⟩
def qG3 : Sp := fun vs H Q _ => ∃ (tz dz rd : Addr) (ts : List (List Im)) (tie : List Int) (n : Nat) (d : Dk) (ms : List Im), vs = [.ref tz, .ref dz] ∧ TabP H tz ts tie n ∧ DAt H dz (n : Int) d ∧ DOk H rd ms d ∧ ∀ (v : V) (H' : Hp), Same H H' → Q v H'
theorem DOk.hi {H : Hp} {rd : Addr} {ms : List Im} {d : Dk} (h : DOk H rd ms d) : 0 ≤ d.t ∧ 0 ≤ d.hi ∧ d.hi ≤ 2 ^ 500 := by
  have e : (2 : Int) ^ 400 + 2 ^ 400 ≤ 2 ^ 500 := by decide
  have e2 : (0 : Int) ≤ 2 ^ 400 := by decide
  generalize (2 : Int) ^ 500 = B at e ⊢
  cases d with
  | cut t => obtain ⟨h1, h2, _⟩ := h; exact ⟨h1, h1, by show t ≤ B; omega⟩
  | hel t => exact h.elim
  | opn t l => obtain ⟨h1, h2, _⟩ := h; exact ⟨h1, h1, by show t ≤ B; omega⟩
  | cls t u => obtain ⟨h1, h2, h3⟩ := h; exact ⟨h1, by show 0 ≤ u; omega, by show u ≤ B; omega⟩
  | lft t u => obtain ⟨h1, h2, h3⟩ := h; exact ⟨h1, by show 0 ≤ u; omega, by show u ≤ B; omega⟩
  | lin t m => obtain ⟨h1, h2, _⟩ := h; exact ⟨h1, h1, by show t ≤ B; omega⟩
  | lov t m => obtain ⟨h1, h2, h3, h4, h5⟩ := h; exact ⟨h1, by show 0 ≤ t + m.mo; omega, by show t + m.mo ≤ B; omega⟩
theorem qHo (T : Tx K mg a) : FnOk P w K mg base CX0 9 a.a_changed a.f_changed ["table", "deed"] qG3 := by
  refine T.d_changed.F.ok sc_changed (fun vs H Q E h => ?_) (fun cdv A outer s H vs Q E hr h => ?_)
  · obtain ⟨tz, dz, rd, ts, tie, n, d, ms, rfl, _⟩ := h
    rfl
  obtain ⟨tz, dz, rd, ts, tie, n, d, ms, rfl, hP, hD, hO, kk⟩ := h
  refine ⟨_, (qD (qU (i := 2) sc_changed.nd rfl (Or.inl rfl) (qK T.d_stretch_of (z8 T) hr rfl (qA (pv 1) qC)))
      (qD (qU (i := 3) sc_changed.nd rfl (Or.inl rfl) (pv 0))
      (qD (xp PassesOwn.never rfl (jC (qK T.d_tracks_changed (jq T) hr rfl (qA (pv 0) (qA (pv 1) qC)))) (jL (i := 4) sc_changed.nd rfl (Or.inl rfl)) (qD (zZ (qU (i := 5) sc_changed.nd rfl (Or.inl rfl) (zY (qL jD (pv 4) (qJ qH (pv 1) qB (fun _ _ => rfl)) (qS _)) (qK T.d_laid_by (qBm T) hr rfl (qA (pv 1) qC)) (qK T.d_laid_on_tied (qAa T) hr rfl (qA (pv 1) qC)))))
      (qI (qU (i := 3) sc_changed.nd rfl (Or.inl rfl) (qK T.d_table_with (jo T) hr rfl (qA (pv 3) (qA (pv 4) (qA (qK T.d_relaid (qIv T) hr rfl (qA (qJ qm (qJ qH (pv 0) qB (fun _ _ => rfl)) (pv 4) (fun _ _ => rfl)) (qA (qJ qH (pv 2) qB (fun _ _ => rfl)) (qA (qJ qH (pv 2) qB (fun _ _ => rfl)) (qA (pv 5) qC))))) qC))))))))
      (qI (qN (pv 3)))))), ?_⟩
  try dsimp only [jN, qg]
  obtain ⟨tt, tl, ti, zs, e0, g2, g3, g4, g5⟩ := id hP.tab
  cases e0
  have hzl := g4.len
  obtain ⟨hcl, hch⟩ := hP.ch d.push
  obtain ⟨xs, hd, a0, a1, a2⟩ := hD.opn
  obtain ⟨ht0, hh0, hh1⟩ := hO.hi
  refine ⟨_, rfl, dz, _, d, rfl, hD, fun p H1 e1 hp => ?_⟩
  refine ⟨_, rfl, _, rfl, _, rfl, tz, tl, ti, dz, tie, _, d, rfl, e1 _ _ g2, e1 _ _ g5, by have := hP.tl; omega, hD.same e1, fun y H2 e2 hy hy2 => ?_⟩
  refine ⟨y, rfl, ⟨_, SqL.of hy2⟩, jk (K := K) (a := y) (xs := (chF tie (n : Int) d.push).map V.int) (fun i σ H' => ∃ (o1 o2 : Option V) (tt' : Addr) (ts' : List (List Im)), σ = [some (.ref tz), some (.ref dz), some (.ref p), some (.ref tt'), o1, o2] ∧ TabF H' (.ref tt') ts' tie ∧ ts'.length = ts.length ∧ Same H2 H') ⟨none, none, tz, ts, rfl, (hP.tab.same e1).same e2, rfl, Same.refl _⟩ ?_ ?_ ?_⟩
  · rintro i σ H' hi ⟨o1, o2, tt', ts', rfl, _, _, e⟩
    exact SqL.of (e _ _ hy2)
  · rintro i x σ H' hx ⟨o1, o2, tt', ts', rfl, hT', hl', e⟩
    obtain ⟨xi, hxi, rfl⟩ : ∃ xi : Int, (chF tie (n : Int) d.push)[i]? = some xi ∧ x = .int xi := by
      rw [List.getElem?_map] at hx
      cases hq : (chF tie (n : Int) d.push)[i]? with
      | none => rw [hq] at hx; cases hx
      | some k => rw [hq] at hx; cases hx; exact ⟨k, rfl, rfl⟩
    obtain ⟨k, rfl, hk⟩ := hch xi (List.mem_of_getElem? hxi)
    have e02 := e1.trans (e2.trans e)
    have ez : zs[k]? = some (zs[k]'(by omega)) := List.getElem?_eq_getElem (by omega)
    obtain ⟨ms1, z, hms, ezz, tT⟩ := g4.get ez
    rw [ezz] at ez
    obtain ⟨_, hMB, hM1⟩ := hP.pos ms1 (List.mem_of_getElem? hms)
    have dl := d.laid_len
    refine ⟨fun σ H3 => ∃ (l : Addr) (ls : List Im), σ = [some (.ref tz), some (.ref dz), some (.ref p), some (.ref tt'), some (.int (k : Int)), some (.ref l)] ∧ Same H' H3 ∧ Tr H3 l ls ∧ ls.length ≤ 10, ?_, ?_⟩
    · refine ⟨_, rfl, qY rfl (SqT.of (e02 _ _ hd)) a1 ⟨rfl, _, rfl, xN (fun _ => ?_) (fun _ => ?_)⟩⟩
      · exact ⟨_, rfl, dz, _, d, rfl, hD.same e02, fun l H3 e3 hl tL => ⟨l, _, rfl, e3, tL, by omega⟩⟩
      · exact ⟨_, rfl, dz, _, d, rfl, hD.same e02, fun l H3 e3 hl tL => ⟨l, _, rfl, e3, tL, by rw [List.length_map]; omega⟩⟩
    rintro σ H3 ⟨l, ls, rfl, e3, tL, hls⟩
    have e03 := e02.trans e3
    refine ⟨_, rfl, _, rfl, qY rfl (SqT.of (e03 _ _ g2)) at0 ⟨_, rfl, tl, _, _, _, rfl, rfl, SqL.of (e03 _ _ g3), qq ez, qY rfl (SqT.of ((e2.trans (e.trans e3)) _ _ hp)) at0 (qY rfl (SqT.of ((e2.trans (e.trans e3)) _ _ hp)) at1 ⟨_, rfl, z, l, ms1, ls, _, _, rfl, tT.same e03, tL, hMB, hM1, hls, hh0, hh1, fun yy H4 e4 hyy tY => ?_⟩)⟩⟩
    refine ⟨tt', yy, k, ts', tie, _, rfl, (hT'.same e3).same e4, tY, by omega, by have := hP.len; omega, fun t H5 e5 hN => ?_⟩
    exact ⟨_, _, t, _, rfl, (hN H3 e4 hyy).tab, by rw [List.length_set]; exact hl', ((e.trans e3).trans e4).trans e5⟩
  · rintro σ H' ⟨o1, o2, tt', ts', rfl, _, _, e⟩
    exact ⟨_, rfl, kk _ H' (e1.trans (e2.trans e))⟩
theorem wS (vs : List V) (i : Nat) : zd vs none (some (i : Int)) = vs.take i := by
  unfold zd
  rw [HT.sIx_none, HT.sIx_nat, List.drop_zero, Nat.sub_zero]
  by_cases h : i ≤ vs.length
  · rw [Nat.min_eq_left h]
  · rw [Nat.min_eq_right (by omega), List.take_of_length_le (Nat.le_refl _), List.take_of_length_le (by omega)]
theorem vK (vs : List V) (i : Nat) : zd vs (some (i : Int)) none = vs.drop i := by
  unfold zd
  rw [HT.sIx_none, HT.sIx_nat]
  by_cases h : i ≤ vs.length
  · rw [Nat.min_eq_left h, List.take_of_length_le (by rw [List.length_drop]; omega)]
  · rw [Nat.min_eq_right (by omega), List.drop_of_length_le (by omega), List.drop_of_length_le (by omega)]
    simp
theorem IsIs.take {H : Hp} : ∀ {ms : List Im} {vs : List V} {i : Nat}, IsIs H ms vs → IsIs H (ms.take i) (vs.take i)
  | [], [], _, _ => by simp [IsIs]
  | _ :: _, _ :: _, 0, _ => trivial
  | _ :: _, _ :: _, _ + 1, h => ⟨h.1, h.2.take⟩
  | [], _ :: _, _, h => h.elim
  | _ :: _, [], _, h => h.elim
theorem IsIs.drop {H : Hp} : ∀ {ms : List Im} {vs : List V} {i : Nat}, IsIs H ms vs → IsIs H (ms.drop i) (vs.drop i)
  | [], [], _, _ => by simp [IsIs]
  | _ :: _, _ :: _, 0, h => h
  | _ :: _, _ :: _, _ + 1, h => h.2.drop (i := _)
  | [], _ :: _, _, h => h.elim
  | _ :: _, [], _, h => h.elim
structure PossR (p q r s l N p' q' r' s' l' N' b : Int) : Prop where
  l0 : 0 < l + b
  l1 : ∀ k, 0 ≤ k → k < l + b → InR (Vk p q r s k) (q * s) N
  r0 : 0 < l' - b
  r1 : ∀ k, 0 ≤ k → k < l' - b → InR (Vk (plP p' q' r' s' b) (plQ p' q' r' s' b) r' s' k) (plQ p' q' r' s' b * s') N'
def goB (n n' : Str) (p q r s len p' q' r' s' : Int) : Bool := decide (n = n') && ((r == r' && s == s') && (p' == plP p q r s len && q' == plQ p q r s len))
def qG0 (K : W.Frag) : Sp := fun vs H Q _ => ∃ (v u : V) (n n' : Str) (p q r s len p' q' r' s' len' : Int), vs = [v, u] ∧ Cp K H v n p q r s len ∧ Cp K H u n' p' q' r' s' len' ∧ Bn 700 p q r s ∧ len.natAbs < 2 ^ 700 ∧
  ∀ H', Same H H' → Q (.bl (goB n n' p q r s len p' q' r' s')) H'
theorem qHn (T : Tx K mg a) : FnOk P w K mg base CX0 5 a.a_goes_on a.f_goes_on ["one", "other"] (qG0 K) := by
  refine T.d_goes_on.F.ok qGl (fun vs H Q E h => ?_) (fun cdv A outer s H vs Q E hr h => ?_)
  · obtain ⟨v, u, n, n', p, q, r, s, len, p', q', r', s', len', rfl, _⟩ := h
    rfl
  obtain ⟨v, u, n, n', p, q, r, s, len, p', q', r', s', len', rfl, hc, hd, ⟨hq, hs, bp, bq, br, bs⟩, bl, kk⟩ := h
  have hu := hr.units0
  refine ⟨_, (qD (qc (PW.pt (xM (qL zT (qJ qH (pv 0) qB (fun _ _ => rfl)) (qJ qH (pv 1) qB (fun _ _ => rfl)) (qS _)) (jR (qL (qNc hu) (qJ qH (pv 0) qB (fun _ _ => rfl)) (qJ qH (pv 1) qB (fun _ _ => rfl)) (qS _))))) (qI (qN zh)) qO)
      (qI (qN (j1 (qK0 hu) (qJ qH (pv 1) qB (fun _ _ => rfl)) (qK T.d_place_at (zP T) hr rfl (qA (pv 0) (qA (qJ qH (pv 0) qB (fun _ _ => rfl)) qC))) (qS _))))), ?_⟩
  try dsimp only [jN, qg]
  have hc0 := hc
  obtain ⟨z, z1, z2, e, h0, h1, h2⟩ := hc0.ex
  subst e
  obtain ⟨y, y1, y2, e, d0, d1, d2⟩ := hd.ex
  subst e
  refine (qY rfl h0 qB3 ⟨_, rfl, y, _, _, _, rfl, rfl, d0, qB3, rfl, _, rfl, ?_⟩)
  by_cases en : n = n'
  rotate_left
  · have e : (!decide (V.str n = V.str n')) = true := by simp [en]
    rw [e]
    refine j5 (j5 ?_)
    have g : goB n n' p q r s len p' q' r' s' = false := by simp [goB, en]
    have := kk H (Same.refl _)
    rw [g] at this
    exact this
  have e : (!decide (V.str n = V.str n')) = false := by simp [en]
  rw [e]
  refine qo ?_
  refine (qY rfl h0 qAn ⟨_, rfl, y, _, _, _, rfl, rfl, d0, qAn, _, _, _, _, rfl, rfl, h2, d2, rfl, rfl, _, rfl, ?_⟩)
  rw [eq2]
  by_cases er : (r == r' && s == s') = true
  rotate_left
  · have er' : (r == r' && s == s') = false := by simpa using er
    rw [er']
    refine j5 ?_
    have g : goB n n' p q r s len p' q' r' s' = false := by unfold goB; rw [er']; simp
    have := kk H (Same.refl _)
    rw [g] at this
    exact this
  rw [er]
  refine qo ?_
  refine ⟨_, rfl, y, _, _, _, rfl, rfl, d0, qHm, _, rfl, qY rfl h0 wI ⟨_, n, p, q, r, s, len, len, rfl, hc, hq, hs, bp, bq, br, bs, bl, fun x H1 s1 e1 => ?_⟩⟩
  refine ⟨_, _, _, _, rfl, rfl, L3.Same.tup s1 d1, SqT.of e1, rfl, rfl, ?_⟩
  have g : goB n n' p q r s len p' q' r' s' = (if false = true then !qBv [.int p', .int q'] [.int (zR (p * s + len * r * q) (q * s)), .int (xZ (p * s + len * r * q) (q * s))] else qBv [.int p', .int q'] [.int (zR (p * s + len * r * q) (q * s)), .int (xZ (p * s + len * r * q) (q * s))]) := by
    rw [if_neg (by decide), eq2]
    unfold goB
    rw [er]
    simp [en, plP, plQ]
  rw [← g]
  exact kk H1 s1
theorem qLc {ms : List Im} {i : Nat} {m : Im} (h : Pos ms) (h2 : ms[i + 1]? = some m) : nbF ms (qEm ms (i + 1)) = some ((i : Int), ((i + 1 : Nat) : Int)) := by
  unfold nbF
  rw [qCy h h2]
  dsimp only
  rw [if_neg (by omega), if_neg (h.kind _)]
  congr 2
  omega
def qFn : Sp := fun vs H Q _ => ∃ (z pz : Addr) (ms : List Im) (i j : Nat) (n n' : Str) (p q r s l p' q' r' s' l' : Int), vs = [.ref z, .ref pz] ∧ Tr H z ms ∧ H pz = some (.tup [.int (i : Int), .int (j : Int)]) ∧ ms[i]? = some (.clip n p q r s l) ∧ ms[j]? = some (.clip n' p' q' r' s' l') ∧ Bn 700 p q r s ∧ l.natAbs < 2 ^ 700 ∧
  goB n n' p q r s l p' q' r' s' = true ∧ ∀ H', Same H H' → Q (.bl true) H'
theorem qE2 (T : Tx K mg a) : FnOk P w K mg base CX0 6 a.a_can_heal a.f_can_heal ["track", "places"] qFn := by
  refine T.d_can_heal.F.ok sc_can_heal (fun vs H Q E h => ?_) (fun cdv A outer s H vs Q E hr h => ?_)
  · obtain ⟨z, pz, ms, i, j, n, n', p, q, r, s, l, p', q', r', s', l', rfl, _⟩ := h
    rfl
  obtain ⟨z, pz, ms, i, j, n, n', p, q, r, s1, l, p', q', r', s2, l', rfl, ⟨vs, hz, his⟩, hp, hi, hj, hb, bl, hg, kk⟩ := h
  refine ⟨_, (qD (qc (vD (vR (pv 1))) (qI (qN zh)) qO)
      (qD (qU (i := 2) sc_can_heal.nd rfl (Or.inl rfl) (qJ qm (pv 0) (qJ qH (pv 1) qB (fun _ _ => rfl)) (fun _ _ => rfl)))
      (qD (qU (i := 3) sc_can_heal.nd rfl (Or.inl rfl) (qJ qm (pv 0) (qJ qH (pv 1) qB (fun _ _ => rfl)) (fun _ _ => rfl)))
      (qD (qc (PW.pt (zW (qL jD (qJ qH (pv 2) qB (fun _ _ => rfl)) qM (qS _)) (xw (qL jD (qJ qH (pv 3) qB (fun _ _ => rfl)) qM (qS _))))) (qI (qN (qK T.d_goes_on (qHn T) hr rfl (qA (pv 2) (qA (pv 3) qC))))) qO)
      qp)))), ?_⟩
  try dsimp only [jN, qg]
  obtain ⟨va, hva, Ia⟩ := his.get' hi
  obtain ⟨vb, hvb, Ib⟩ := his.get' hj
  obtain ⟨za, xa, ya, rfl, hza, _⟩ := id Ia
  obtain ⟨zb, xb, yb, rfl, hzb, _⟩ := id Ib
  refine ⟨_, rfl, _, rfl, xN (fun c => absurd c (by simp)) (fun _ => ?_)⟩
  refine ⟨_, rfl, qY rfl (SqT.of hp) at0 ⟨z, _, _, _, rfl, rfl, SqL.of hz, qq hva, ?_⟩⟩
  refine ⟨_, rfl, qY rfl (SqT.of hp) at1 ⟨z, _, _, _, rfl, rfl, SqL.of hz, qq hvb, ?_⟩⟩
  refine (qY rfl (SqT.of hza) qIc ⟨rfl, _, rfl, j5 ?_⟩)
  refine (qY rfl (SqT.of hzb) qIc ⟨rfl, _, rfl, j5 ?_⟩)
  refine ⟨_, rfl, _, rfl, _, _, n, n', p, q, r, s1, l, p', q', r', s2, l', rfl, qCe Ia, qCe Ib, hb, bl, fun H1 e1 => ?_⟩
  rw [hg]
  exact kk H1 e1
theorem qPs : ¬ (HT.sIx 5 0 none = 0 ∧ HT.sIx 5 5 (some (-1)) = 5) := by decide
def qJb : Sp := fun vs H Q _ => ∃ (tz dz : Addr) (ts : List (List Im)) (tie : List Int) (n0 : Nat) (ms : List Im) (i : Nat) (n n' : Str) (p q r s l p' q' r' s' l' : Int), vs = [.ref tz, .ref dz] ∧ TabP H tz ts tie n0 ∧ ts[n0]? = some ms ∧ DAt H dz (n0 : Int) (.hel (qEm ms (i + 1))) ∧
  ms[i]? = some (.clip n p q r s l) ∧ ms[i + 1]? = some (.clip n' p' q' r' s' l') ∧ Bn 700 p q r s ∧ l.natAbs < 2 ^ 700 ∧ goB n n' p q r s l p' q' r' s' = true ∧ ∀ (v : V) (H' : Hp), Same H H' → Q v H'
theorem qHw (T : Tx K mg a) : FnOk P w K mg base CX0 7 a.a_healed a.f_healed ["table", "deed"] qJb := by
  refine T.d_healed.F.ok sc_healed (fun vs H Q E h => ?_) (fun cdv A outer s H vs Q E hr h => ?_)
  · obtain ⟨tz, dz, ts, tie, n0, ms, i, n, n', p, q, r, s, l, p', q', r', s', l', rfl, _⟩ := h
    rfl
  obtain ⟨tz, dz, ts, tie, n0, ms, i, n, n', p, q, r, s1, l, p', q', r', s2, l', rfl, hP, hms, hD, hi, hj, hb, bl, hg, kk⟩ := h
  refine ⟨_, (qD (qU (i := 2) sc_healed.nd rfl (Or.inl rfl) (qJ qm (qJ qH (pv 0) qB (fun _ _ => rfl)) (qJ qH (pv 1) qB (fun _ _ => rfl)) (fun _ _ => rfl)))
      (qD (qU (i := 3) sc_healed.nd rfl (Or.inl rfl) (qK T.d_neighbours_at (kH T) hr rfl (qA (pv 2) (qA (qJ qH (pv 1) qB (fun _ _ => rfl)) qC))))
      (qD (qc (jZ (q9 (qK T.d_can_heal (qE2 T) hr rfl (qA (pv 2) (qA (pv 3) qC))))) qp qO)
      (qD (qx (qK T.d_check_mixes (kz T) hr rfl (qA (pv 0) (qA (pv 1) qC))))
      (qD (qU (i := 4) sc_healed.nd rfl (Or.inl rfl) (qJ qm (pv 2) (qJ qH (pv 3) qB (fun _ _ => rfl)) (fun _ _ => rfl)))
      (qD (qU (i := 5) sc_healed.nd rfl (Or.inl rfl) (qW qL1 (j6 qKw (pv 4) x6 (xn (zM jn qB))) (qX (qA (qW qj (qJ qH (pv 4) (zM jn qB) (fun _ _ => rfl)) (qJ qH (qJ qm (pv 2) (qJ qH (pv 3) qB (fun _ _ => rfl)) (fun _ _ => rfl)) (zM jn qB) (fun _ _ => rfl))) qC))))
      (qI (qN (qK T.d_table_with (jo T) hr rfl (qA (pv 0) (qA (qJ qH (pv 1) qB (fun _ _ => rfl)) (qA (qW j8 (qW j8 (j6 zf (pv 2) x6 (xn (qJ qH (pv 3) qB (fun _ _ => rfl)))) (qh (qA (pv 5) qC))) (j6 zf (pv 2) (xn (qW qj (qJ qH (pv 3) qB (fun _ _ => rfl)) qB)) x6)) qC)))))))))))), ?_⟩
  try dsimp only [jN, qg]
  obtain ⟨xs, hd, a0, a1, a2⟩ := hD.opn
  obtain ⟨tt, tl, ti, zs, e0, g2, g3, g4, g5⟩ := id hP.tab
  cases e0
  have hzl := g4.len
  have hnt := hP.nt
  have ez : zs[n0]? = some (zs[n0]'(by omega)) := List.getElem?_eq_getElem (by omega)
  obtain ⟨ms', z, hms', ezz, tT⟩ := g4.get ez
  rw [hms] at hms'
  cases hms'
  rw [ezz] at ez
  obtain ⟨hpos, hMB, hM1⟩ := hP.pos ms (List.mem_of_getElem? hms)
  have sm : ∀ j : Nat, j ≤ 1000 → j ≤ sizeLine := fun j h => by have := qd (n := j) (by omega); omega
  have one : (1 : Nat) ≤ sizeLine := by decide
  refine (qY rfl (SqT.of g2) at0 (qY rfl (SqT.of hd) a1 ⟨tl, _, _, _, rfl, rfl, SqL.of g3, qq ez, ?_⟩))
  refine ⟨_, rfl, qY rfl (SqT.of hd) a2 ⟨z, ms, _, rfl, tT, ?_⟩⟩
  rw [show (Dk.hel (qEm ms (i + 1))).t = qEm ms (i + 1) from rfl, qLc hpos hj]
  intro pz H1 e1 hpz
  refine ⟨_, rfl, _, rfl, z, pz, ms, i, i + 1, n, n', p, q, r, s1, l, p', q', r', s2, l', rfl, tT.same e1, hpz, hi, hj, hb, bl, hg, fun H2 e2 => ⟨true, rfl, qo ?_⟩⟩
  have e12 := e1.trans e2
  refine ⟨_, rfl, _, rfl, tz, dz, ts, tie, n0, _, rfl, hP.same e12, hD.same e12, fun H3 e3 => ?_⟩
  have e13 := e12.trans e3
  have hpz3 := (e2.trans e3) _ _ hpz
  obtain ⟨vs, hz, his⟩ := tT.same e13
  have hvl := his.len
  obtain ⟨va, hva, Ia⟩ := his.get' hi
  obtain ⟨vb, hvb, Ib⟩ := his.get' hj
  obtain ⟨za, xa, ya, rfl, hza, hxa, hya⟩ := id Ia
  obtain ⟨zb, xb, yb, rfl, hzb, hxb, hyb⟩ := id Ib
  refine ⟨_, rfl, qY rfl (SqT.of hpz3) at0 ⟨z, _, _, _, rfl, rfl, SqL.of hz, qq hva, ?_⟩⟩
  refine ⟨_, rfl, 1, rfl, _, rfl, za, _, rfl, SqT.of hza, qPs, fun t ht => ?_⟩
  have y1 := qF ht (.tup (zd [V.str "clip", .str n, .ref xa, .ref ya, .int l] none (some (-1))))
  have am1 : atI [V.str "clip", .str n, .ref xa, .ref ya, .int l] (-1) = some (.int l) := rfl
  have bm1 : atI [V.str "clip", .str n', .ref xb, .ref yb, .int l'] (-1) = some (.int l') := rfl
  refine ⟨_, rfl, 1, rfl, za, _, _, _, rfl, rfl, SqT.of (y1 _ _ hza), am1, _, rfl, qY rfl (SqT.of (y1 _ _ hpz3)) at1 ⟨z, _, _, _, rfl, rfl, SqL.of (y1 _ _ hz), qq hvb, 1, rfl, zb, _, _, _, rfl, rfl, SqT.of (y1 _ _ hzb), bm1, _, _, rfl, rfl, one, fun t2 ht2 => ?_⟩⟩
  have y2 := qF ht2 (.tup [.int (l + l')])
  refine ⟨t, t2, _, _, rfl, rfl, SqT.of (y2 _ _ qE), SqT.of qE, (List.cons_ne_nil _ _), (by show 4 + 1 ≤ sizeLine; decide), fun z => absurd z (by simp), fun _ t3 ht3 => ?_⟩
  have y3 := qF ht3 (.tup (zd [V.str "clip", .str n, .ref xa, .ref ya, .int l] none (some (-1)) ++ [.int (l + l')]))
  have y13 := (y1.trans y2).trans y3
  have IW : IsI (upd (upd (upd H3 t (.tup (zd [V.str "clip", .str n, .ref xa, .ref ya, .int l] none (some (-1))))) t2 (.tup [.int (l + l')])) t3 (.tup (zd [V.str "clip", .str n, .ref xa, .ref ya, .int l] none (some (-1)) ++ [.int (l + l')]))) (.clip n p q r s1 (l + l')) (.ref t3) := ⟨t3, xa, ya, rfl, qE, y13 _ _ hxa, y13 _ _ hya⟩
  change _
  generalize upd (upd (upd H3 t (.tup (zd [V.str "clip", .str n, .ref xa, .ref ya, .int l] none (some (-1))))) t2 (.tup [.int (l + l')])) t3 (.tup (zd [V.str "clip", .str n, .ref xa, .ref ya, .int l] none (some (-1)) ++ [.int (l + l')])) = H4 at y13 IW
  have e4 := e13.trans y13
  refine ⟨_, rfl, qY rfl (SqT.of (e4 _ _ hd)) a1 ?_⟩
  refine ⟨_, rfl, qY rfl (SqT.of (y13 _ _ hpz3)) at0 ⟨_, rfl, z, _, rfl, SqL.of (y13 _ _ hz), fun a1' ha1 => ?_⟩⟩
  have v1 := qF ha1 (.lst (zd vs none (some (i : Int))))
  refine ⟨_, rfl, one, fun a2' ha2 => ?_⟩
  have v2 := qF ha2 (.lst [.ref t3])
  have c1 := kF vs none (some (i : Int))
  have c2 := kF vs (some (((i + 1 : Nat) : Int) + 1)) none
  refine ⟨a1', a2', _, _, rfl, rfl, v2 _ _ qE, qE, sm _ (by show (zd vs none (some (i : Int))).length + 1 ≤ 1000; omega), fun a3 ha3 => ?_⟩
  have v3 := qF ha3 (.lst (zd vs none (some (i : Int)) ++ [.ref t3]))
  have v13 := (v1.trans v2).trans v3
  refine ⟨_, rfl, qY rfl (SqT.of ((y13.trans v13) _ _ hpz3)) at1 ⟨_, _, rfl, rfl, _, rfl, z, _, rfl, SqL.of ((y13.trans v13) _ _ hz), fun a4 ha4 => ?_⟩⟩
  have v4 := qF ha4 (.lst (zd vs (some (((i + 1 : Nat) : Int) + 1)) none))
  refine ⟨a3, a4, _, _, rfl, rfl, v4 _ _ qE, qE, sm _ (by rw [List.length_append]; show (zd vs none (some (i : Int))).length + 1 + _ ≤ 1000; omega), fun a5 ha5 => ?_⟩
  have v5 := qF ha5 (.lst (zd vs none (some (i : Int)) ++ [.ref t3] ++ zd vs (some (((i + 1 : Nat) : Int) + 1)) none))
  have v15 := (v13.trans v4).trans v5
  have e5 := e4.trans v15
  have ed : zd vs (some (((i + 1 : Nat) : Int) + 1)) none = vs.drop (i + 2) := by
    rw [show ((i + 1 : Nat) : Int) + 1 = ((i + 2 : Nat) : Int) by omega]
    exact vK vs (i + 2)
  have hisE := (his.ts (qV y13)).ts (qV v15)
  have IWE := IW.ts (qV v15)
  have kE : (upd (upd (upd (upd (upd H4 a1' (.lst (zd vs none (some (i : Int))))) a2' (.lst [.ref t3])) a3 (.lst (zd vs none (some (i : Int)) ++ [.ref t3]))) a4 (.lst (zd vs (some (((i + 1 : Nat) : Int) + 1)) none))) a5 (.lst (zd vs none (some (i : Int)) ++ [.ref t3] ++ zd vs (some (((i + 1 : Nat) : Int) + 1)) none))) a5 = some (.lst (zd vs none (some (i : Int)) ++ [.ref t3] ++ zd vs (some (((i + 1 : Nat) : Int) + 1)) none)) := qE
  change _
  generalize (upd (upd (upd (upd (upd H4 a1' (.lst (zd vs none (some (i : Int))))) a2' (.lst [.ref t3])) a3 (.lst (zd vs none (some (i : Int)) ++ [.ref t3]))) a4 (.lst (zd vs (some (((i + 1 : Nat) : Int) + 1)) none))) a5 (.lst (zd vs none (some (i : Int)) ++ [.ref t3] ++ zd vs (some (((i + 1 : Nat) : Int) + 1)) none))) = HB at e5 hisE IWE kE
  rw [wS, ed] at kE
  exact ⟨tz, a5, n0, ts, tie, ms.take i ++ [.clip n p q r s1 (l + l')] ++ ms.drop (i + 2), rfl, hP.tab.same e5, ⟨_, kE, (hisE.take.app (.one IWE)).app hisE.drop⟩, hnt, by have := hP.len; omega, fun t H6 e6 _ => kk _ H6 (e5.trans e6)⟩
def vY : Sp := fun vs H Q _ => ∃ (z : Addr) (ms : List Im) (k : Int), vs = [.ref z, .int k] ∧ Tr H z ms ∧ Pos ms ∧ Q (.int 0) H
theorem vp (T : Tx K mg a) : FnOk P w K mg base CX0 2 a.a_taken_at_begin a.f_taken_at_begin ["track", "place"] vY := by
  refine T.d_taken_at_begin.F.ok vX (fun vs H Q E h => ?_) (fun cdv A outer s H vs Q E hr h => ?_)
  · obtain ⟨z, ms, k, rfl, _⟩ := h
    rfl
  obtain ⟨z, ms, k, rfl, tT, hp, q⟩ := h
  refine ⟨_, (qD (qc (qL zT (qK T.d_kind_at (jF T) hr rfl (qA (pv 0) (qA (qW jM (pv 1) qB) qC))) qM (qS _)) (qI (qN qB)) qO)
      qp), ?_⟩
  try dsimp only [jN, qg]
  refine ⟨_, rfl, _, rfl, _, _, rfl, rfl, z, ms, _, rfl, tT, rfl, _, rfl, ?_⟩
  rw [decide_eq_false (by simpa using hp.kind _)]
  exact j5 q
def qAh : Sp := fun vs H Q _ => ∃ (z : Addr) (ms : List Im) (k : Int), vs = [.ref z, .int k] ∧ Tr H z ms ∧ Pos ms ∧ Q (.int 0) H
theorem qAs (T : Tx K mg a) : FnOk P w K mg base CX0 2 a.a_taken_at_end a.f_taken_at_end ["track", "place"] qAh := by
  refine T.d_taken_at_end.F.ok wk (fun vs H Q E h => ?_) (fun cdv A outer s H vs Q E hr h => ?_)
  · obtain ⟨z, ms, k, rfl, _⟩ := h
    rfl
  obtain ⟨z, ms, k, rfl, tT, hp, q⟩ := h
  refine ⟨_, (qD (qc (qL zT (qK T.d_kind_at (jF T) hr rfl (qA (pv 0) (qA (qW qj (pv 1) qB) qC))) qM (qS _)) (qI (qN qB)) qO)
      qp), ?_⟩
  try dsimp only [jN, qg]
  refine ⟨_, rfl, _, rfl, _, _, rfl, rfl, z, ms, _, rfl, tT, rfl, _, rfl, ?_⟩
  rw [decide_eq_false (by simpa using hp.kind _)]
  exact j5 q
def qEo : Sp := fun vs H Q _ => ∃ (z rd : Addr) (ms : List Im) (i : Nat) (rl : Rls) (n n' : Str) (p q r s l N p' q' r' s' l' N' : Int), vs = [.ref z, .int (qEm ms (i + 1)), .ref rd] ∧ Tr H z ms ∧ Pos ms ∧ ms[i]? = some (.clip n p q r s l) ∧ ms[i + 1]? = some (.clip n' p' q' r' s' l') ∧ Rc n p q r s l rl N ∧ Rc n' p' q' r' s' l' rl N' ∧ ReelsAt H rd rl ∧
  ∀ (M : Int) (H' : Hp), Same H H' → (∀ m : Int, 1 ≤ m → m.fdiv 2 ≤ l → m.fdiv 2 ≤ z7 p' q' r' s' N' → m - m.fdiv 2 ≤ l' → m - m.fdiv 2 ≤ kA p q r s l N → m ≤ M) → Q (.int M) H'
theorem qE6 (T : Tx K mg a) : FnOk P w K mg base CX0 6 a.a_most_mix a.f_most_mix ["track", "moment", "reels"] qEo := by
  refine T.d_most_mix.F.ok sc_most_mix (fun vs H Q E h => ?_) (fun cdv A outer s H vs Q E hr h => ?_)
  · obtain ⟨z, rd, ms, i, rl, n, n', p, q, r, s, l, N, p', q', r', s', l', N', rfl, _⟩ := h
    rfl
  obtain ⟨z, rd, ms, i, rl, n, n', p, q, r, s1, l, N, p', q', r', s2, l', N', rfl, tT, hp, hi, hj, c1, c2, hrl, kk⟩ := h
  refine ⟨_, (qD (qU (i := 3) sc_most_mix.nd rfl (Or.inl rfl) (zY (q9 (qK T.d_is_whole (qv T) hr rfl (qA (pv 1) qC))) (qK T.d_clips_at_border (jJ T) hr rfl (qA (pv 0) (qA (pv 1) qC))) vy))
      (qD (qc (vD (vR (pv 3))) qp qO)
      (qD (qU (i := 4) sc_most_mix.nd rfl (Or.inl rfl) (qJ qm (pv 0) (qJ qH (pv 3) qB (fun _ _ => rfl)) (fun _ _ => rfl)))
      (qD (qU (i := 5) sc_most_mix.nd rfl (Or.inl rfl) (qJ qm (pv 0) (qJ qH (pv 3) qB (fun _ _ => rfl)) (fun _ _ => rfl)))
      (qD (qU (i := 6) sc_most_mix.nd rfl (Or.inl rfl) (qf (zN rfl) rfl T.b_min rfl (qA (qW jM (qJ qH (pv 4) qB (fun _ _ => rfl)) (qK T.d_taken_at_begin (vp T) hr rfl (qA (pv 0) (qA (qJ qH (pv 3) qB (fun _ _ => rfl)) qC)))) (qA (qK T.d_head_room (kT T) hr rfl (qA (pv 5) (qA (pv 2) qC))) qC))))
      (qD (qU (i := 7) sc_most_mix.nd rfl (Or.inl rfl) (qf (zN rfl) rfl T.b_min rfl (qA (qW jM (qJ qH (pv 5) qB (fun _ _ => rfl)) (qK T.d_taken_at_end (qAs T) hr rfl (qA (pv 0) (qA (qJ qH (pv 3) qB (fun _ _ => rfl)) qC)))) (qA (qK T.d_tail_room (kL T) hr rfl (qA (pv 4) (qA (pv 2) qC))) qC))))
      (qD (qc (qL qA5 (pv 7) (pv 6) (qS _)) (qI (qN (qf (kQ rfl) rfl T.b_max rfl (qA (qW qj (qW jP qB (pv 6)) qB) (qA qB qC))))) qO)
      (qI (qN (qf (kQ rfl) rfl T.b_max rfl (qA (qW jP qB (pv 7)) (qA qB qC)))))))))))), ?_⟩
  try dsimp only [jN, qg]
  refine ⟨_, rfl, _, rfl, true, rfl, j5 ?_⟩
  refine ⟨_, rfl, _, rfl, z, ms, _, rfl, tT, ?_⟩
  rw [qFk hp hi hj]
  intro pp H1 e1 hpp
  refine ⟨_, rfl, _, rfl, xN (fun c => absurd c (by simp)) (fun _ => ?_)⟩
  obtain ⟨vs, hz, his⟩ := tT.same e1
  obtain ⟨va, hva, Ia⟩ := his.get' hi
  obtain ⟨vb, hvb, Ib⟩ := his.get' hj
  refine ⟨_, rfl, qY rfl (SqT.of hpp) at0 ⟨z, _, _, _, rfl, rfl, SqL.of hz, qq hva, ?_⟩⟩
  refine ⟨_, rfl, qY rfl (SqT.of hpp) at1 ⟨z, _, _, _, rfl, rfl, SqL.of hz, qq hvb, ?_⟩⟩
  obtain ⟨za, xa, ya, rfl, hza, hxa, hya⟩ := id Ia
  obtain ⟨zb, xb, yb, rfl, hzb, hxb, hyb⟩ := id Ib
  have tT1 : Tr H1 z ms := ⟨vs, hz, his⟩
  refine (qY rfl (SqT.of hza) wI ⟨_, rfl, qY rfl (SqT.of hpp) at0 ⟨z, ms, _, rfl, tT1, hp, _, _, rfl, rfl, ?_⟩⟩)
  refine ⟨_, rfl, _, rfl, _, n', p', q', r', s2, l', N', rd, rfl, qCe Ib, c2.g1, c2.g2, (hrl _ _ c2.rn).same e1, c2.bN, fun H2 e2 => ?_⟩
  refine ⟨_, _, rfl, ?_⟩
  refine (qY rfl (SqT.of (e2 _ _ hzb)) wI ⟨_, rfl, qY rfl (SqT.of (e2 _ _ hpp)) at1 ⟨z, ms, _, rfl, tT1.same e2, hp, _, _, rfl, rfl, ?_⟩⟩)
  refine ⟨_, rfl, _, rfl, _, n, p, q, r, s1, l, N, rd, rfl, qCe (Ia.ts (qV e2)), c1.g1, c1.g2, c1.bl, (hrl _ _ c1.rn).same (e1.trans e2), c1.bN, fun H3 e3 => ?_⟩
  refine ⟨_, _, rfl, ?_⟩
  have kk' := fun M => kk M H3 ((e1.trans e2).trans e3)
  unfold z7 kA at kk'
  generalize qAu (plP p' q' r' s2 (-1) * s2) (-1 * r' * plQ p' q' r' s2 (-1)) (plQ p' q' r' s2 (-1) * s2) N' = hd at kk' ⊢
  generalize qAu (plP p q r s1 l * s1) (1 * r * plQ p q r s1 l) (plQ p q r s1 l * s1) N = tl at kk' ⊢
  dsimp only
  have hA : ∀ m : Int, m.fdiv 2 ≤ l → m.fdiv 2 ≤ hd → m.fdiv 2 ≤ (if hd < l - 0 then hd else l - 0) := fun m h1 h2 => by split <;> omega
  have hB : ∀ m : Int, m - m.fdiv 2 ≤ l' → m - m.fdiv 2 ≤ tl → m - m.fdiv 2 ≤ (if tl < l' - 0 then tl else l' - 0) := fun m h1 h2 => by split <;> omega
  generalize (if hd < l - 0 then hd else l - 0) = MA at hA ⊢
  generalize (if tl < l' - 0 then tl else l' - 0) = MB at hB ⊢
  refine ⟨_, rfl, _, rfl, _, _, rfl, rfl, _, rfl, xN (fun c => ?_) (fun c => ?_)⟩
  · have c' : MB > MA := by simpa using c
    refine ⟨_, rfl, _, _, rfl, rfl, cmL (by decide) (by decide), _, _, rfl, rfl, _, _, rfl, kk' _ fun m m1 h1 h2 h3 h4 => ?_⟩
    have f := j7 (p := m) (q := 2) (by decide)
    have := hA m h1 h2
    split <;> omega
  · have c' : ¬ MB > MA := by simpa using c
    refine ⟨_, rfl, _, _, rfl, rfl, cmL (by decide) (by decide), _, _, rfl, kk' _ fun m m1 h1 h2 h3 h4 => ?_⟩
    have f := j7 (p := m) (q := 2) (by decide)
    have := hB m h3 h4
    split <;> omega
def qJt : Sp := fun vs H Q _ => ∃ (tz dz rd : Addr) (ts : List (List Im)) (tie : List Int) (n0 : Nat) (ms : List Im) (i : Nat) (m : Int) (rl : Rls) (n n' : Str) (p q r s l N p' q' r' s' l' N' : Int), vs = [.ref tz, .ref dz, .ref rd] ∧ TabP H tz ts tie n0 ∧ ts[n0]? = some ms ∧ H dz = some (.tup [.str "mix", .int (n0 : Int), .int (qEm ms (i + 1)), .int m]) ∧
  ms[i]? = some (.clip n p q r s l) ∧ ms[i + 1]? = some (.clip n' p' q' r' s' l') ∧ Rc n p q r s l rl N ∧ Rc n' p' q' r' s' l' rl N' ∧ ReelsAt H rd rl ∧ 1 ≤ m ∧ m.fdiv 2 ≤ l ∧ m.fdiv 2 ≤ z7 p' q' r' s' N' ∧ m - m.fdiv 2 ≤ l' ∧ m - m.fdiv 2 ≤ kA p q r s l N ∧ ∀ (v : V) (H' : Hp), Same H H' → Q v H'
theorem qJ0 (T : Tx K mg a) : FnOk P w K mg base CX0 7 a.a_mixed a.f_mixed ["table", "deed", "reels"] qJt := by
  refine T.d_mixed.F.ok sc_mixed (fun vs H Q E h => ?_) (fun cdv A outer s H vs Q E hr h => ?_)
  · obtain ⟨tz, dz, rd, ts, tie, n0, ms, i, m, rl, n, n', p, q, r, s, l, N, p', q', r', s', l', N', rfl, _⟩ := h
    rfl
  obtain ⟨tz, dz, rd, ts, tie, n0, ms, i, m, rl, n, n', p, q, r, s1, l, N, p', q', r', s2, l', N', rfl, hP, hms, hd, hi, hj, c1, c2, hrl, m1, m2, m3, m4, m5, kk⟩ := h
  refine ⟨_, (qD (qU (i := 3) sc_mixed.nd rfl (Or.inl rfl) (qJ qm (qJ qH (pv 0) qB (fun _ _ => rfl)) (qJ qH (pv 1) qB (fun _ _ => rfl)) (fun _ _ => rfl)))
      (qD (qU (i := 4) sc_mixed.nd rfl (Or.inl rfl) (qK T.d_clips_at_border (jJ T) hr rfl (qA (pv 3) (qA (qJ qH (pv 1) qB (fun _ _ => rfl)) qC))))
      (qD (qc (PW.pt (xM (vD (vR (pv 4))) (jR (qL zT (qJ qH (pv 4) qB (fun _ _ => rfl)) (qW qj (qJ qH (pv 4) qB (fun _ _ => rfl)) qB) (qS _))))) qp qO)
      (qD (qU (i := 5) sc_mixed.nd rfl (Or.inl rfl) (qK T.d_most_mix (qE6 T) hr rfl (qA (pv 3) (qA (qJ qH (pv 1) qB (fun _ _ => rfl)) (qA (pv 2) qC)))))
      (qD (qc (qL qA5 (qJ qH (pv 1) qB (fun _ _ => rfl)) (pv 5) (qS _)) qp qO)
      (qI (qN (qK T.d_table_with (jo T) hr rfl (qA (pv 0) (qA (qJ qH (pv 1) qB (fun _ _ => rfl)) (qA (qW j8 (qW j8 (j6 zf (pv 3) x6 (xn (qJ qH (pv 4) qB (fun _ _ => rfl)))) (qh (qA (qX (qA qM (qA (qJ qH (pv 1) qB (fun _ _ => rfl)) qC))) qC))) (j6 zf (pv 3) (xn (qJ qH (pv 4) qB (fun _ _ => rfl))) x6)) qC))))))))))), ?_⟩
  try dsimp only [jN, qg]
  obtain ⟨tt, tl, ti, zs, e0, g2, g3, g4, g5⟩ := id hP.tab
  cases e0
  have hzl := g4.len
  have hnt := hP.nt
  have ez : zs[n0]? = some (zs[n0]'(by omega)) := List.getElem?_eq_getElem (by omega)
  obtain ⟨ms', z, hms', ezz, tT⟩ := g4.get ez
  rw [hms] at hms'
  cases hms'
  rw [ezz] at ez
  obtain ⟨hpos, hMB, hM1⟩ := hP.pos ms (List.mem_of_getElem? hms)
  have sm : ∀ j : Nat, j ≤ 1000 → j ≤ sizeLine := fun j h => by have := qd (n := j) (by omega); omega
  refine (qY rfl (SqT.of g2) at0 (qY rfl (SqT.of hd) qAr ⟨tl, _, _, _, rfl, rfl, SqL.of g3, qq ez, ?_⟩))
  refine ⟨_, rfl, qY rfl (SqT.of hd) vn ⟨z, ms, _, rfl, tT, ?_⟩⟩
  rw [qFk hpos hi hj]
  intro pz H1 e1 hpz
  refine ⟨_, rfl, _, rfl, xN (fun c => absurd c (by simp)) (fun _ => ?_)⟩
  refine (qY rfl (SqT.of hpz) at1 (qY rfl (SqT.of hpz) at0 ⟨_, _, rfl, rfl, rfl, _, rfl, ?_⟩))
  have hne : (!decide (V.int ((i + 1 : Nat) : Int) = V.int ((i : Int) + 1))) = false := by
    have : ((i + 1 : Nat) : Int) = (i : Int) + 1 := by omega
    rw [this]; simp
  rw [show (!decide (V.int ((i + 1 : Nat) : Int) = (fun i j => V.int (i + j)) (i : Int) 1)) = false from hne]
  refine qo ⟨_, rfl, qY rfl (SqT.of (e1 _ _ hd)) vn ⟨_, rfl, z, rd, ms, i, rl, n, n', p, q, r, s1, l, N, p', q', r', s2, l', N', rfl, tT.same e1, hpos, hi, hj, c1, c2, hrl.same e1, fun M H2 e2 hM => ?_⟩⟩
  have e12 := e1.trans e2
  have hMm := hM m m1 m2 m3 m4 m5
  refine (qY rfl (SqT.of (e12 _ _ hd)) xq ⟨_, rfl, _, _, rfl, rfl, _, rfl, ?_⟩)
  rw [decide_eq_false (show ¬ m > M by omega)]
  refine qo ⟨_, rfl, qY rfl (SqT.of (e12 _ _ hd)) qAr ?_⟩
  obtain ⟨vs, hz, his⟩ := tT.same e12
  have hvl := his.len
  have hpz2 := e2 _ _ hpz
  refine ⟨_, rfl, qY rfl (SqT.of hpz2) at1 ⟨_, rfl, z, _, rfl, SqL.of hz, fun a1' ha1 => ?_⟩⟩
  rw [wS]
  have v1 := qF ha1 (.lst (vs.take (i + 1)))
  refine (qY rfl (SqT.of ((e12.trans v1) _ _ hd)) xq ⟨sL2, fun g hg => ⟨sL1, fun a2' ha2 => ?_⟩⟩)
  have vg := qF hg (.tup [.str "mix", .int m])
  have v2 := qF ha2 (.lst [.ref g])
  refine ⟨a1', a2', _, _, rfl, rfl, v2 _ _ (vg _ _ qE), qE, sm _ (by rw [List.length_take]; show min (i + 1) _ + 1 ≤ 1000; omega), fun a3 ha3 => ?_⟩
  have v3 := qF ha3 (.lst (vs.take (i + 1) ++ [.ref g]))
  have v13 := ((v1.trans vg).trans v2).trans v3
  have kg : (upd (upd (upd (upd H2 a1' (.lst (vs.take (i + 1)))) g (.tup [.str "mix", .int m])) a2' (.lst [.ref g])) a3 (.lst (vs.take (i + 1) ++ [.ref g]))) g = some (.tup [.str "mix", .int m]) := (v2.trans v3) _ _ qE
  have k3 : (upd (upd (upd (upd H2 a1' (.lst (vs.take (i + 1)))) g (.tup [.str "mix", .int m])) a2' (.lst [.ref g])) a3 (.lst (vs.take (i + 1) ++ [.ref g]))) a3 = some (.lst (vs.take (i + 1) ++ [.ref g])) := qE
  change _
  generalize upd (upd (upd (upd H2 a1' (.lst (vs.take (i + 1)))) g (.tup [.str "mix", .int m])) a2' (.lst [.ref g])) a3 (.lst (vs.take (i + 1) ++ [.ref g])) = H3 at v13 kg k3
  refine ⟨_, rfl, qY rfl (SqT.of (v13 _ _ hpz2)) at1 ⟨_, rfl, z, _, rfl, SqL.of (v13 _ _ hz), fun a4 ha4 => ?_⟩⟩
  rw [vK]
  have v4 := qF ha4 (.lst (vs.drop (i + 1)))
  refine ⟨a3, a4, _, _, rfl, rfl, v4 _ _ k3, qE, sm _ (by rw [List.length_append, List.length_take, List.length_drop]; show min (i + 1) _ + 1 + _ ≤ 1000; omega), fun a5 ha5 => ?_⟩
  have v5 := qF ha5 (.lst (vs.take (i + 1) ++ [.ref g] ++ vs.drop (i + 1)))
  have v45 := v4.trans v5
  have e5 := (e12.trans v13).trans v45
  have hisE := (his.ts (qV v13)).ts (qV v45)
  exact ⟨tz, a5, n0, ts, tie, ms.take (i + 1) ++ [.mix m] ++ ms.drop (i + 1), rfl, hP.tab.same e5, ⟨_, qE, (hisE.take.app (.one (isM (v45 _ _ kg)))).app hisE.drop⟩, hnt, by have := hP.len; omega, fun t H6 e6 _ => kk _ H6 (e5.trans e6)⟩
def qGm : Sp := fun vs H Q _ => ∃ (tz dz : Addr) (ts : List (List Im)) (tie : List Int) (n0 : Nat) (ms : List Im) (i : Nat) (t : Int), vs = [.ref tz, .ref dz] ∧ TabF H (.ref tz) ts tie ∧ ts.length ≤ 8 ∧ ts[n0]? = some ms ∧ ms.length ≤ 100 ∧ H dz = some (.tup [.str "unmix", .int (n0 : Int), .int t]) ∧ cbF ms t = some ((i : Int), ((i + 2 : Nat) : Int)) ∧ ∀ (v : V) (H' : Hp), Same H H' → Q v H'
theorem qEi {x0 x1 x2 : V} : atI [x0, x1, x2] 1 = some x1 := rfl
theorem qE9 {x0 x1 x2 : V} : atI [x0, x1, x2] 2 = some x2 := rfl
theorem qGn (T : Tx K mg a) : FnOk P w K mg base CX0 6 a.a_unmixed a.f_unmixed ["table", "deed"] qGm := by
  refine T.d_unmixed.F.ok sc_unmixed (fun vs H Q E h => ?_) (fun cdv A outer s H vs Q E hr h => ?_)
  · obtain ⟨tz, dz, ts, tie, n0, ms, i, t, rfl, _⟩ := h
    rfl
  obtain ⟨tz, dz, ts, tie, n0, ms, i, t, rfl, hT, hl8, hms, hml, hd, hcb, kk⟩ := h
  refine ⟨_, (qD (qU (i := 2) sc_unmixed.nd rfl (Or.inl rfl) (qJ qm (qJ qH (pv 0) qB (fun _ _ => rfl)) (qJ qH (pv 1) qB (fun _ _ => rfl)) (fun _ _ => rfl)))
      (qD (qU (i := 3) sc_unmixed.nd rfl (Or.inl rfl) (qK T.d_clips_at_border (jJ T) hr rfl (qA (pv 2) (qA (qJ qH (pv 1) qB (fun _ _ => rfl)) qC))))
      (qD (qc (PW.pt (xM (vD (vR (pv 3))) (jR (qL jD (qJ qH (pv 3) qB (fun _ _ => rfl)) (qW qj (qJ qH (pv 3) qB (fun _ _ => rfl)) qB) (qS _))))) qp qO)
      (qI (qN (qK T.d_table_with (jo T) hr rfl (qA (pv 0) (qA (qJ qH (pv 1) qB (fun _ _ => rfl)) (qA (qW j8 (j6 zf (pv 2) x6 (xn (qW qj (qJ qH (pv 3) qB (fun _ _ => rfl)) qB))) (j6 zf (pv 2) (xn (qJ qH (pv 3) qB (fun _ _ => rfl))) x6)) qC))))))))), ?_⟩
  try dsimp only [jN, qg]
  obtain ⟨tt, tl, ti, zs, e0, g2, g3, g4, g5⟩ := id hT
  cases e0
  have hzl := g4.len
  have hnt : n0 < ts.length := (glt hms)
  have ez : zs[n0]? = some (zs[n0]'(by omega)) := List.getElem?_eq_getElem (by omega)
  obtain ⟨ms', z, hms', ezz, tT⟩ := g4.get ez
  rw [hms] at hms'
  cases hms'
  rw [ezz] at ez
  have sm : ∀ j : Nat, j ≤ 1000 → j ≤ sizeLine := fun j h => by have := qd (n := j) (by omega); omega
  refine (qY rfl (SqT.of g2) at0 (qY rfl (SqT.of hd) qEi ⟨tl, _, _, _, rfl, rfl, SqL.of g3, qq ez, ?_⟩))
  refine ⟨_, rfl, qY rfl (SqT.of hd) qE9 ⟨z, ms, _, rfl, tT, ?_⟩⟩
  rw [hcb]
  intro pz H1 e1 hpz
  refine ⟨_, rfl, _, rfl, xN (fun c => absurd c (by simp)) (fun _ => ?_)⟩
  refine (qY rfl (SqT.of hpz) at1 (qY rfl (SqT.of hpz) at0 ⟨_, _, rfl, rfl, rfl, _, rfl, ?_⟩))
  rw [show decide (V.int ((i + 2 : Nat) : Int) = (fun i j => V.int (i + j)) (i : Int) 1) = false from decide_eq_false (by
    intro z
    have : ((i + 2 : Nat) : Int) = (i : Int) + 1 := V.int.inj z
    omega)]
  refine qo ⟨_, rfl, qY rfl (SqT.of (e1 _ _ hd)) qEi ?_⟩
  obtain ⟨vs, hz, his⟩ := tT.same e1
  have hvl := his.len
  refine ⟨_, rfl, qY rfl (SqT.of hpz) at0 ⟨_, _, rfl, rfl, _, rfl, z, _, rfl, SqL.of hz, fun a1' ha1 => ?_⟩⟩
  have ed : zd vs none (some ((i : Int) + 1)) = vs.take (i + 1) := by
    rw [show (i : Int) + 1 = ((i + 1 : Nat) : Int) by omega]
    exact wS vs (i + 1)
  rw [ed]
  have v1 := qF ha1 (.lst (vs.take (i + 1)))
  refine ⟨_, rfl, qY rfl (SqT.of (v1 _ _ hpz)) at1 ⟨_, rfl, z, _, rfl, SqL.of (v1 _ _ hz), fun a4 ha4 => ?_⟩⟩
  rw [vK]
  have v4 := qF ha4 (.lst (vs.drop (i + 2)))
  refine ⟨a1', a4, _, _, rfl, rfl, v4 _ _ qE, qE, sm _ (by rw [List.length_take, List.length_drop]; omega), fun a5 ha5 => ?_⟩
  have v5 := qF ha5 (.lst (vs.take (i + 1) ++ vs.drop (i + 2)))
  have v15 := (v1.trans v4).trans v5
  have e5 := e1.trans v15
  have hisE := his.ts (qV v15)
  exact ⟨tz, a5, n0, ts, tie, ms.take (i + 1) ++ ms.drop (i + 2), rfl, hT.same e5, ⟨_, qE, hisE.take.app hisE.drop⟩, hnt, by omega, fun t H6 e6 _ => kk _ H6 (e5.trans e6)⟩
theorem Dk.rolls (d : Dk) : inV (.str d.wd) [.str "roll", .str "slip", .str "slide"] = false := by
  cases d with
  | cut t => show inV (.str "cut") _ = false; decide +kernel
  | hel t => show inV (.str "heal") _ = false; decide +kernel
  | opn t l => show inV (.str "open") _ = false; decide +kernel
  | cls t u => show inV (.str "close") _ = false; decide +kernel
  | lft t u => show inV (.str "lift") _ = false; decide +kernel
  | lin t m => show inV (.str "lay_in") _ = false; decide +kernel
  | lov t m => show inV (.str "lay_over") _ = false; decide +kernel
theorem DOk.nw {H : Hp} {rd : Addr} {ms : List Im} {d : Dk} (h : DOk H rd ms d) : d.wd ≠ "heal" ∧ d.wd ≠ "mix" ∧ d.wd ≠ "unmix" := by
  cases d with
  | cut t => exact ⟨by show ("cut" : Str) ≠ _; decide +kernel, by show ("cut" : Str) ≠ _; decide +kernel, by show ("cut" : Str) ≠ _; decide +kernel⟩
  | hel t => exact h.elim
  | opn t l => exact ⟨by show ("open" : Str) ≠ _; decide +kernel, by show ("open" : Str) ≠ _; decide +kernel, by show ("open" : Str) ≠ _; decide +kernel⟩
  | cls t u => exact ⟨by show ("close" : Str) ≠ _; decide +kernel, by show ("close" : Str) ≠ _; decide +kernel, by show ("close" : Str) ≠ _; decide +kernel⟩
  | lft t u => exact ⟨by show ("lift" : Str) ≠ _; decide +kernel, by show ("lift" : Str) ≠ _; decide +kernel, by show ("lift" : Str) ≠ _; decide +kernel⟩
  | lin t m => exact ⟨by show ("lay_in" : Str) ≠ _; decide +kernel, by show ("lay_in" : Str) ≠ _; decide +kernel, by show ("lay_in" : Str) ≠ _; decide +kernel⟩
  | lov t m => exact ⟨by show ("lay_over" : Str) ≠ _; decide +kernel, by show ("lay_over" : Str) ≠ _; decide +kernel, by show ("lay_over" : Str) ≠ _; decide +kernel⟩
theorem DAt.nums {H : Hp} {dz : Addr} {n : Int} {d : Dk} {rd : Addr} {ms : List Im} (h : DAt H dz n d) (hO : DOk H rd ms d) : ∃ xs, H dz = some (.tup xs) ∧ atI xs 0 = some (.str d.wd) ∧ (inV (.str d.wd) [.str "open", .str "mix"] = true → ∃ l, 1 ≤ l ∧ atI xs 3 = some (.int l)) ∧
    (inV (.str d.wd) [.str "close", .str "lift"] = true → ∃ t u, t < u ∧ atI xs 2 = some (.int t) ∧ atI xs 3 = some (.int u)) := by
  cases d with
  | cut t => exact ⟨_, h, rfl, fun z => absurd z (by show ¬ inV (.str "cut") _ = true; decide +kernel), fun z => absurd z (by show ¬ inV (.str "cut") _ = true; decide +kernel)⟩
  | hel t => exact hO.elim
  | opn t l => exact ⟨_, h, rfl, fun _ => ⟨l, hO.2.2, rfl⟩, fun z => absurd z (by show ¬ inV (.str "open") _ = true; decide +kernel)⟩
  | cls t u => exact ⟨_, h, rfl, fun z => absurd z (by show ¬ inV (.str "close") _ = true; decide +kernel), fun _ => ⟨t, u, hO.2.1, rfl, rfl⟩⟩
  | lft t u => exact ⟨_, h, rfl, fun z => absurd z (by show ¬ inV (.str "lift") _ = true; decide +kernel), fun _ => ⟨t, u, hO.2.1, rfl, rfl⟩⟩
  | lin t m => obtain ⟨v, h1, h2⟩ := h; exact ⟨_, h1, rfl, fun z => absurd z (by show ¬ inV (.str "lay_in") _ = true; decide +kernel), fun z => absurd z (by show ¬ inV (.str "lay_in") _ = true; decide +kernel)⟩
  | lov t m => obtain ⟨v, h1, h2⟩ := h; exact ⟨_, h1, rfl, fun z => absurd z (by show ¬ inV (.str "lay_over") _ = true; decide +kernel), fun z => absurd z (by show ¬ inV (.str "lay_over") _ = true; decide +kernel)⟩
inductive qJl (H : Hp) (tz dz rd : Addr) : Prop where
  | dk {ts : List (List Im)} {tie : List Int} {n : Nat} {d : Dk} {ms : List Im} (hP : TabP H tz ts tie n) (hD : DAt H dz (n : Int) d) (hms : ts[n]? = some ms) (hO : DOk H rd ms d)
  | heal {ts : List (List Im)} {tie : List Int} {n0 : Nat} {ms : List Im} {i : Nat} {n n' : Str} {p q r s l p' q' r' s' l' : Int} (hP : TabP H tz ts tie n0) (hms : ts[n0]? = some ms) (hD : DAt H dz (n0 : Int) (.hel (qEm ms (i + 1)))) (hi : ms[i]? = some (.clip n p q r s l)) (hj : ms[i + 1]? = some (.clip n' p' q' r' s' l')) (hb : Bn 700 p q r s) (bl : l.natAbs < 2 ^ 700) (hg : goB n n' p q r s l p' q' r' s' = true)
  | mix {ts : List (List Im)} {tie : List Int} {n0 : Nat} {ms : List Im} {i : Nat} {m : Int} {rl : Rls} {n n' : Str} {p q r s l N p' q' r' s' l' N' : Int} (hP : TabP H tz ts tie n0) (hms : ts[n0]? = some ms) (hd : H dz = some (.tup [.str "mix", .int (n0 : Int), .int (qEm ms (i + 1)), .int m])) (hi : ms[i]? = some (.clip n p q r s l)) (hj : ms[i + 1]? = some (.clip n' p' q' r' s' l')) (c1 : Rc n p q r s l rl N) (c2 : Rc n' p' q' r' s' l' rl N') (hrl : ReelsAt H rd rl) (m1 : 1 ≤ m) (m2 : m.fdiv 2 ≤ l) (m3 : m.fdiv 2 ≤ z7 p' q' r' s' N') (m4 : m - m.fdiv 2 ≤ l') (m5 : m - m.fdiv 2 ≤ kA p q r s l N)
  | unmix {ts : List (List Im)} {tie : List Int} {n0 : Nat} {ms : List Im} {i : Nat} {t : Int} (hT : TabF H (.ref tz) ts tie) (hl8 : ts.length ≤ 8) (hms : ts[n0]? = some ms) (hml : ms.length ≤ 100) (hd : H dz = some (.tup [.str "unmix", .int (n0 : Int), .int t])) (h0 : 0 ≤ t) (hcb : cbF ms t = some ((i : Int), ((i + 2 : Nat) : Int)))
  | roll {ts : List (List Im)} {tie : List Int} {ms ms' : List Im} {nt : Nat} {t b : Int} {rl : Rls} {wd : Str} {is : List Int} {c : Prop} (hT : TabF H (.ref tz) ts tie) (hd : H dz = some (.tup [.str wd, .int (nt : Int), .int t, .int b])) (hms : ts[nt]? = some ms) (htl : ts.length ≤ 300) (hml : ms.length ≤ 300) (hp : Pos ms) (h0 : 0 ≤ t) (hmv : Mv rl ms t b wd is ms' c) (hrl : ReelsAt H rd rl) (hb : b.natAbs ≤ 1000000) (hc : c)
def qC7 : Sp := fun vs H Q _ => ∃ tz dz rd : Addr, vs = [.ref tz, .ref dz, .ref rd] ∧ qJl H tz dz rd ∧ ∀ (v : V) (H' : Hp), Same H H' → Q v H'
theorem qC4 (T : Tx K mg a) : FnOk P w K mg base CX0 10 a.a_deed_done a.f_deed_done ["table", "deed", "reels"] qC7 := by
  refine T.d_deed_done.F.ok qD3 (fun vs H Q E h => ?_) (fun cdv A outer s H vs Q E hr h => ?_)
  · obtain ⟨tz, dz, rd, rfl, _⟩ := h
    rfl
  obtain ⟨tz, dz, rd, rfl, hDn, kk⟩ := h
  refine ⟨_, (qD (qc (qL ja (qJ qH (pv 1) qB (fun _ _ => rfl)) (xO (v := .ref a.n_ROLLS) rfl T.g_ROLLS rfl) rfl) (qI (qN (qK T.d_rolled (qI8 T) hr rfl (qA (pv 0) (qA (pv 1) (qA (pv 2) qC)))))) qO)
      (qD (qx (qK T.d_check_place (kx T) hr rfl (qA (pv 0) (qA (qJ qH (pv 1) qB (fun _ _ => rfl)) (qA (qJ qH (pv 1) qB (fun _ _ => rfl)) qC)))))
      (qD (qx (qK T.d_check_numbers (wG T) hr rfl (qA (pv 1) qC)))
      (qD (qc (qL jD (qJ qH (pv 1) qB (fun _ _ => rfl)) qM (qS _)) (qI (qN (qK T.d_healed (qHw T) hr rfl (qA (pv 0) (qA (pv 1) qC))))) qO)
      (qD (qc (qL jD (qJ qH (pv 1) qB (fun _ _ => rfl)) qM (qS _)) (qI (qN (qK T.d_mixed (qJ0 T) hr rfl (qA (pv 0) (qA (pv 1) (qA (pv 2) qC)))))) qO)
      (qD (qc (qL jD (qJ qH (pv 1) qB (fun _ _ => rfl)) qM (qS _)) (qI (qN (qK T.d_unmixed (qGn T) hr rfl (qA (pv 0) (qA (pv 1) qC))))) qO)
      (qD (qx (qK T.d_check_change (qAd T) hr rfl (qA (pv 0) (qA (pv 1) (qA (pv 2) qC)))))
      (qI (qN (qK T.d_changed (qHo T) hr rfl (qA (pv 0) (qA (pv 1) qC)))))))))))), ?_⟩
  try dsimp only [jN, qg]
  cases hDn with
  | @roll ts tie ms ms' nt t b rl wd is c hT hd hms htl hml hp h0 hmv hrl hb hc =>
    have hw : inV (.str wd) [V.str "roll", .str "slip", .str "slide"] = true := by
      cases hmv with
      | slip => show inV (.str "slip") _ = true; decide +kernel
      | slide => show inV (.str "slide") _ = true; decide +kernel
      | roll => show inV (.str "roll") _ = true; decide +kernel
    refine (qY rfl (SqT.of hd) zU ⟨a.n_ROLLS, _, rfl, .inr (T.sq_ROLLS _), rfl, rfl, true, x8 hw, j5 ?_⟩)
    exact ⟨_, rfl, _, rfl, _, rfl, tz, dz, rd, _, _, _, _, _, _, _, _, _, _, _, rfl, hT, hd, hms, htl, hml, hp, h0, hmv, hrl, hb, hc, kk⟩
  | @dk ts tie n d ms hP hD hms hO =>
    obtain ⟨xs, hd, a0, a1, a2⟩ := hD.opn
    obtain ⟨tt, tl, ti, zs, e0, g2, g3, g4, g5⟩ := id hP.tab
    cases e0
    have hzl := g4.len
    have hnt := hP.nt
    obtain ⟨ht0, _⟩ := hO.hi
    obtain ⟨w1, w2, w3⟩ := hO.nw
    obtain ⟨ys, hd', b0, n1, n2⟩ := hD.nums hO
    refine (qY rfl (SqT.of hd) a0 ⟨a.n_ROLLS, _, rfl, .inr (T.sq_ROLLS _), rfl, rfl, false, x8 d.rolls, qo ?_⟩)
    refine ⟨_, rfl, qY rfl (SqT.of hd) a1 (qY rfl (SqT.of hd) a2 ⟨tz, tl, ti, zs, _, _, rfl, g2, g3, by omega, by omega, ht0, ?_⟩)⟩
    refine ⟨_, rfl, dz, ys, d.wd, rfl, hd', b0, n1, n2, fun H1 e1 => ?_⟩
    refine (qY rfl (SqT.of (e1 _ _ hd)) a0 ⟨rfl, _, rfl, ?_⟩)
    rw [decide_eq_false (by simpa using w1)]
    refine qo (qY rfl (SqT.of (e1 _ _ hd)) a0 ⟨rfl, _, rfl, ?_⟩)
    rw [decide_eq_false (by simpa using w2)]
    refine qo (qY rfl (SqT.of (e1 _ _ hd)) a0 ⟨rfl, _, rfl, ?_⟩)
    rw [decide_eq_false (by simpa using w3)]
    refine qo ⟨_, rfl, _, rfl, _, rfl, tz, dz, rd, ts, tie, n, d, ms, rfl, hP.same e1, hD.same e1, hms, hO.same e1, fun H2 e2 => ?_⟩
    exact ⟨_, rfl, _, rfl, tz, dz, rd, ts, tie, n, d, ms, rfl, hP.same (e1.trans e2), hD.same (e1.trans e2), hO.same (e1.trans e2), fun v H3 e3 => kk v H3 ((e1.trans e2).trans e3)⟩
  | @heal ts tie n0 ms i n n' p q r s l p' q' r' s' l' hP hms hD hi hj hb bl hg =>
    obtain ⟨tt, tl, ti, zs, e0, g2, g3, g4, g5⟩ := id hP.tab
    cases e0
    have hzl := g4.len
    have hnt := hP.nt
    have hb0 := qIj (hP.pos ms (List.mem_of_getElem? hms)).1 (i + 1)
    have hd : H dz = some (.tup [.str "heal", .int (n0 : Int), .int (qEm ms (i + 1))]) := hD
    refine (qY rfl (SqT.of hd) vi ⟨a.n_ROLLS, _, rfl, .inr (T.sq_ROLLS _), rfl, rfl, false, x8 (w := "heal") (by decide +kernel), qo ?_⟩)
    refine ⟨_, rfl, qY rfl (SqT.of hd) qEi (qY rfl (SqT.of hd) qE9 ⟨tz, tl, ti, zs, _, _, rfl, g2, g3, by omega, by omega, hb0, ?_⟩)⟩
    refine ⟨_, rfl, dz, _, "heal", rfl, hd, vi, fun z => absurd z (by decide +kernel), fun z => absurd z (by decide +kernel), fun H1 e1 => ?_⟩
    refine (qY rfl (SqT.of (e1 _ _ hd)) vi ⟨rfl, _, rfl, j5 ?_⟩)
    exact ⟨_, rfl, _, rfl, tz, dz, ts, tie, n0, ms, i, n, n', p, q, r, s, l, p', q', r', s', l', rfl, hP.same e1, hms, hD.same e1, hi, hj, hb, bl, hg, fun v H2 e2 => kk v H2 (e1.trans e2)⟩
  | @mix ts tie n0 ms i m rl n n' p q r s l N p' q' r' s' l' N' hP hms hd hi hj c1 c2 hrl m1 m2 m3 m4 m5 =>
    obtain ⟨tt, tl, ti, zs, e0, g2, g3, g4, g5⟩ := id hP.tab
    cases e0
    have hzl := g4.len
    have hnt := hP.nt
    have hb0 := qIj (hP.pos ms (List.mem_of_getElem? hms)).1 (i + 1)
    refine (qY rfl (SqT.of hd) zU ⟨a.n_ROLLS, _, rfl, .inr (T.sq_ROLLS _), rfl, rfl, false, x8 (w := "mix") (by decide +kernel), qo ?_⟩)
    refine ⟨_, rfl, qY rfl (SqT.of hd) qAr (qY rfl (SqT.of hd) vn ⟨tz, tl, ti, zs, _, _, rfl, g2, g3, by omega, by omega, hb0, ?_⟩)⟩
    refine ⟨_, rfl, dz, _, "mix", rfl, hd, zU, fun _ => ⟨m, m1, xq⟩, fun z => absurd z (by decide +kernel), fun H1 e1 => ?_⟩
    refine (qY rfl (SqT.of (e1 _ _ hd)) zU ⟨rfl, _, rfl, qo ?_⟩)
    refine (qY rfl (SqT.of (e1 _ _ hd)) zU ⟨rfl, _, rfl, j5 ?_⟩)
    exact ⟨_, rfl, _, rfl, _, rfl, tz, dz, rd, ts, tie, n0, ms, i, m, rl, n, n', p, q, r, s, l, N, p', q', r', s', l', N', rfl, hP.same e1, hms, e1 _ _ hd, hi, hj, c1, c2, hrl.same e1, m1, m2, m3, m4, m5, fun v H2 e2 => kk v H2 (e1.trans e2)⟩
  | @unmix ts tie n0 ms i t hT hl8 hms hml hd h0 hcb =>
    obtain ⟨tt, tl, ti, zs, e0, g2, g3, g4, g5⟩ := id hT
    cases e0
    have hzl := g4.len
    have hnt : n0 < ts.length := (glt hms)
    refine (qY rfl (SqT.of hd) vi ⟨a.n_ROLLS, _, rfl, .inr (T.sq_ROLLS _), rfl, rfl, false, x8 (w := "unmix") (by decide +kernel), qo ?_⟩)
    refine ⟨_, rfl, qY rfl (SqT.of hd) qEi (qY rfl (SqT.of hd) qE9 ⟨tz, tl, ti, zs, _, _, rfl, g2, g3, by omega, by omega, h0, ?_⟩)⟩
    refine ⟨_, rfl, dz, _, "unmix", rfl, hd, vi, fun z => absurd z (by decide +kernel), fun z => absurd z (by decide +kernel), fun H1 e1 => ?_⟩
    refine (qY rfl (SqT.of (e1 _ _ hd)) vi ⟨rfl, _, rfl, qo ?_⟩)
    refine (qY rfl (SqT.of (e1 _ _ hd)) vi ⟨rfl, _, rfl, qo ?_⟩)
    refine (qY rfl (SqT.of (e1 _ _ hd)) vi ⟨rfl, _, rfl, j5 ?_⟩)
    exact ⟨_, rfl, _, rfl, tz, dz, ts, tie, n0, ms, i, t, rfl, hT.same e1, hl8, hms, hml, e1 _ _ hd, hcb, fun v H2 e2 => kk v H2 (e1.trans e2)⟩
def SB (z : Addr) (H H' : Hp) : Prop := ∀ b u, b ≠ z → H b = some u → H' b = some u
theorem SB.refl (z : Addr) (H : Hp) : SB z H H := fun _ _ _ h => h
theorem SB.trans {z : Addr} {H H1 H2 : Hp} (a : SB z H H1) (b : SB z H1 H2) : SB z H H2 := fun c u n h => b c u n (a c u n h)
theorem wb {z : Addr} {H H' : Hp} (e : Same H H') : SB z H H' := fun b u _ h => e b u h
theorem qF8 {z : Addr} {H : Hp} {o : HO} : SB z H (upd H z o) := fun b u n h => by rw [qi n]; exact h
theorem SB.ts {z : Addr} {H H' : Hp} {xs : List V} (e : SB z H H') (h : H z = some (.lst xs)) : TS H H' := fun b ys hb => e b _ (qM4 hb h (by intro q; cases q)) hb
theorem SB.free {z : Addr} {H H' : Hp} (e : SB z H H') {y : Addr} (ny : y ≠ z) (h : H' y = none) : H y = none := by
  cases q : H y with
  | none => rfl
  | some u => rw [e y u ny q] at h; cases h
inductive Dy where
  | a3 (w : Str) (n t : Int)
  | a4 (w : Str) (n t u : Int)
  | aI (w : Str) (n t : Int) (m : Im)
def Dy.d : Dy → D
  | .a3 w n t => .tup [.leaf (.str w), .leaf (.int n), .leaf (.int t)]
  | .a4 w n t u => .tup [.leaf (.str w), .leaf (.int n), .leaf (.int t), .leaf (.int u)]
  | .aI w n t m => .tup [.leaf (.str w), .leaf (.int n), .leaf (.int t), m.d]
def IsDy (H : Hp) : Dy → V → Prop
  | .a3 w n t, v => ∃ z : Addr, v = .ref z ∧ H z = some (.tup [.str w, .int n, .int t])
  | .a4 w n t u, v => ∃ z : Addr, v = .ref z ∧ H z = some (.tup [.str w, .int n, .int t, .int u])
  | .aI w n t m, v => ∃ (z : Addr) (x : V), v = .ref z ∧ H z = some (.tup [.str w, .int n, .int t, x]) ∧ IsI H m x
theorem IsDy.ts {H H' : Hp} (e : TS H H') {d : Dy} {v : V} (h : IsDy H d v) : IsDy H' d v := by
  cases d with
  | a3 w n t => obtain ⟨z, h1, h2⟩ := h; exact ⟨z, h1, e _ _ h2⟩
  | a4 w n t u => obtain ⟨z, h1, h2⟩ := h; exact ⟨z, h1, e _ _ h2⟩
  | aI w n t m => obtain ⟨z, x, h1, h2, h3⟩ := h; exact ⟨z, x, h1, e _ _ h2, h3.ts e⟩
theorem IsDy.rep {H : Hp} {d : Dy} {v : V} (h : IsDy H d v) : Rep K H d.d v := by
  cases d with
  | a3 w n t => obtain ⟨z, rfl, h2⟩ := h; exact kC h2 rfl
  | a4 w n t u => obtain ⟨z, rfl, h2⟩ := h; exact kC h2 rfl
  | aI w n t m =>
    obtain ⟨z, x, rfl, h2, h3⟩ := h
    unfold Dy.d Rep
    refine ⟨z, _, rfl, SqT.of h2, ?_⟩
    unfold Reps Reps Reps Reps Reps
    refine ⟨?_, ?_, ?_, h3.rep, trivial⟩
    · unfold Rep; exact ⟨rfl, rfl⟩
    · unfold Rep; exact ⟨rfl, rfl⟩
    · unfold Rep; exact ⟨rfl, rfl⟩
theorem Dy.self (d : Dy) : eqD d.d d.d = true := by
  cases d with
  | a3 w n t => simp [Dy.d, eqD, v8, eqV]
  | a4 w n t u => simp [Dy.d, eqD, v8, eqV]
  | aI w n t m =>
    have := qKm m
    simp [Dy.d, eqD, v8, eqV, this]
theorem Dy.dep (d : Dy) : dep d.d ≤ 3 := by
  cases d with
  | a3 w n t => simp [Dy.d, L3.dep, L3.deps]
  | a4 w n t u => simp [Dy.d, L3.dep, L3.deps]
  | aI w n t m =>
    have := qN6 m
    simp [Dy.d, L3.dep, L3.deps]
    omega
def IsDys (H : Hp) : List Dy → List V → Prop
  | [], [] => True
  | d :: ds, v :: vs => IsDy H d v ∧ IsDys H ds vs
  | _, _ => False
theorem IsDys.len {H : Hp} : ∀ {ds : List Dy} {vs : List V}, IsDys H ds vs → vs.length = ds.length
  | [], [], _ => rfl
  | _ :: _, _ :: _, h => by rw [List.length_cons, List.length_cons, IsDys.len h.2]
  | [], _ :: _, h => h.elim
  | _ :: _, [], h => h.elim
theorem IsDys.ts {H H' : Hp} (e : TS H H') : ∀ {ds : List Dy} {vs : List V}, IsDys H ds vs → IsDys H' ds vs
  | [], [], _ => trivial
  | _ :: _, _ :: _, h => ⟨h.1.ts e, h.2.ts e⟩
  | [], _ :: _, h => h.elim
  | _ :: _, [], h => h.elim
theorem IsDys.app {H : Hp} : ∀ {ds : List Dy} {vs : List V} {ds' : List Dy} {vs' : List V}, IsDys H ds vs → IsDys H ds' vs' → IsDys H (ds ++ ds') (vs ++ vs')
  | [], [], _, _, _, h => h
  | _ :: _, _ :: _, _, _, h, h' => ⟨h.1, h.2.app h'⟩
  | [], _ :: _, _, _, h, _ => h.elim
  | _ :: _, [], _, _, h, _ => h.elim
theorem IsDys.one {H : Hp} {d : Dy} {v : V} (h : IsDy H d v) : IsDys H [d] [v] := ⟨h, trivial⟩
theorem IsDys.rep {H : Hp} : ∀ {ds : List Dy} {vs : List V}, IsDys H ds vs → Reps K H (ds.map Dy.d) vs
  | [], [], _ => by unfold List.map Reps; trivial
  | _ :: _, _ :: _, h => by unfold List.map Reps; exact ⟨h.1.rep, h.2.rep⟩
  | [], _ :: _, h => h.elim
  | _ :: _, [], h => h.elim
theorem qF2 : ∀ ds : List Dy, v8 (ds.map Dy.d) (ds.map Dy.d) = true
  | [] => by simp [v8]
  | d :: ds => by unfold List.map v8; rw [d.self, qF2 ds]; rfl
theorem qIi : ∀ ds : List Dy, deps (ds.map Dy.d) ≤ 3
  | [] => by simp [deps]
  | d :: ds => by
    have h1 := d.dep
    have h2 := qIi ds
    unfold List.map deps
    omega
def DL (H : Hp) (z : Addr) (ds : List Dy) : Prop := ∃ vs, H z = some (.lst vs) ∧ IsDys H ds vs
theorem DL.same {H H' : Hp} {z : Addr} {ds : List Dy} (e : Same H H') (h : DL H z ds) : DL H' z ds := let ⟨vs, h1, h2⟩ := h; ⟨vs, e _ _ h1, h2.ts (qV e)⟩
theorem DL.rep {H : Hp} {z : Addr} {ds : List Dy} (h : DL H z ds) : Rep K H (.lst (ds.map Dy.d)) (.ref z) := by
  obtain ⟨vs, h1, h2⟩ := h
  unfold Rep
  exact ⟨z, vs, rfl, SqL.of h1, h2.rep⟩
theorem qKy {b : Bool} {H : Hp} {x y : Addr} {ds : List Dy} {Q : VK} (h1 : DL H x ds) (h2 : DL H y ds) (q : Q (.bl (!b)) H) : qN7 K b (.ref x) (.ref y) H Q := by
  refine ⟨_, _, h1.rep, h2.rep, rfl, by have := qIi ds; unfold dep; omega, ?_⟩
  have e : eqD (.lst (ds.map Dy.d)) (.lst (ds.map Dy.d)) = true := by unfold eqD; exact qF2 ds
  rw [e]
  cases b <;> exact q
def j4 (ms : List Im) (n : Int) (ts : List Int) : List Dy := (ts.filter (zg ms)).map fun t => .a3 "heal" n t
def qJ2 : Sp := fun vs H Q _ => ∃ (tz tl ti mz z : Addr) (zs : List V) (n : Nat) (ms : List Im) (ts : List Int), vs = [.ref tz, .int (n : Int), .ref mz] ∧ H tz = some (.tup [.ref tl, .ref ti]) ∧ H tl = some (.lst zs) ∧ zs[n]? = some (.ref z) ∧ Tr H z ms ∧ H mz = some (.tup (ts.map V.int)) ∧ ts.length ≤ 10 ∧
  ∀ (y : Addr) (H' : Hp), Same H H' → H y = none → DL H' y (j4 ms n ts) → Q (.ref y) H'
theorem qF3 (T : Tx K mg a) : FnOk P w K mg base CX0 5 a.a_heals a.f_heals ["table", "number", "moments"] qJ2 := by
  refine T.d_heals.F.ok qKb (fun vs H Q E h => ?_) (fun cdv A outer s H vs Q E hr h => ?_)
  · obtain ⟨tz, tl, ti, mz, z, zs, n, ms, ts, rfl, _⟩ := h
    rfl
  obtain ⟨tz, tl, ti, mz, z, zs, n, ms, ts, rfl, htz, htl, hzn, tT, hmz, hlt, kk⟩ := h
  refine ⟨_, (qI (qN (qB5 ["table", "number"] [0, 1] rfl (qK6 (pv 2)) (fun _ _ _ _ => (q9 (qK T.d_lies_within (vC T) hr rfl (qA (qJ (qF9 (K := K) rfl) (qJ (qBp (K := K) rfl) (pv 1) qB (fun _ _ => rfl)) (pv 2) (fun _ _ => rfl)) (qA (pv 0) qC))))) (fun _ _ _ _ => (qX (qA qM (qA (pv 2) (qA (pv 0) qC)))))))), ?_⟩
  try dsimp only [jN, qg]
  refine ⟨_, rfl, mz, rfl, ⟨_, SqT.of hmz⟩, qH4 (K := K) (a := mz) (xs := ts.map V.int) (fun j acc H2 => IsDys H2 (j4 ms n (ts.take j)) acc ∧ Same H H2) ⟨trivial, Same.refl _⟩ ?_ ?_ ?_⟩
  · rintro j acc H2 hj ⟨ht, e2⟩
    rw [List.length_map] at hj
    refine ⟨SqT.of (e2 _ _ hmz), qd ?_⟩
    rw [ht.len]
    unfold j4
    rw [List.length_map]
    have := List.length_filter_le (zg ms) (ts.take j)
    rw [List.length_take] at this
    omega
  · rintro j x acc H2 hj hx ⟨ht, e2⟩
    obtain ⟨xi, hxi, rfl⟩ : ∃ xi : Int, ts[j]? = some xi ∧ x = .int xi := by
      rw [List.getElem?_map] at hx
      cases hq : ts[j]? with
      | none => rw [hq] at hx; cases hx
      | some k => rw [hq] at hx; cases hx; exact ⟨k, rfl, rfl⟩
    have etk : ts.take (j + 1) = ts.take j ++ [xi] := by rw [List.take_add_one, hxi]; rfl
    refine (qY rfl (SqT.of (e2 _ _ htz)) at0 ⟨_, rfl, tl, _, _, _, rfl, rfl, SqL.of (e2 _ _ htl), qq hzn, _, rfl, z, ms, xi, rfl, tT.same e2, fun H3 e3 => ?_⟩)
    cases hw : zg ms xi with
    | true =>
      refine ⟨true, rfl, j5 ⟨_, rfl, _, rfl, sL3, fun g hg => Nxt.mk hj ⟨?_, (e2.trans e3).trans (qF hg _)⟩⟩⟩
      unfold j4
      rw [etk, List.filter_append, List.map_append]
      have : ([xi].filter (zg ms)) = [xi] := by simp [hw]
      rw [this]
      exact (ht.ts (qV (e3.trans (qF hg _)))).app (.one ⟨g, rfl, qE⟩)
    | false =>
      refine ⟨false, rfl, qo (Nxt.mk hj ⟨?_, e2.trans e3⟩)⟩
      unfold j4
      rw [etk, List.filter_append, List.map_append]
      have : ([xi].filter (zg ms)) = [] := by simp [hw]
      rw [this, List.map_nil, List.append_nil]
      exact ht.ts (qV e3)
  rintro acc H2 ⟨ht, e2⟩ y hy
  rw [List.length_map, List.take_length] at ht
  exact kk y _ (e2.trans (qF hy _)) (e2.free hy) ⟨_, qE, ht.ts (qV (qF hy _))⟩
theorem jh {j : Nat} (h : j ≤ 1000) : j ≤ sizeLine := by have := qd (n := j) (by omega); omega
def qI9 (n : Int) : Int → List Im → List Dy
  | _, [] => []
  | t, m :: r => (if m.wd = "clip" ∨ m.wd = "nest" then [.aI "lay_over" n t m] else []) ++ qI9 n (t + m.mo) r
theorem qGe (n : Int) : ∀ (t : Int) (ms : List Im), (qI9 n t ms).length ≤ ms.length
  | _, [] => by simp [qI9]
  | t, m :: r => by
    have := qGe n (t + m.mo) r
    rw [qI9, List.length_append, List.length_cons]
    split <;> simp <;> omega
def kO (n lo hi : Int) (ms : List Im) : List Dy := qI9 n lo (zS lo hi 0 ms) ++ j4 ms n [lo, hi]
def qBt : Sp := fun vs H Q _ => ∃ (tz tl ti z : Addr) (zs : List V) (n : Nat) (ms : List Im) (lo hi : Int), vs = [.ref tz, .int (n : Int), .int lo, .int hi] ∧ H tz = some (.tup [.ref tl, .ref ti]) ∧ H tl = some (.lst zs) ∧ zs[n]? = some (.ref z) ∧ Tr H z ms ∧ MsB ms ∧ ms.length ≤ 100 ∧ 0 ≤ lo ∧ lo ≤ 2 ^ 500 ∧
  ∀ (y : Addr) (H' : Hp), Same H H' → H y = none → DL H' y (kO n lo hi ms) → Q (.ref y) H'
theorem qCn (T : Tx K mg a) : FnOk P w K mg base CX0 8 a.a_laid_again a.f_laid_again ["table", "number", "low", "high"] qBt := by
  refine T.d_laid_again.F.ok sc_laid_again (fun vs H Q E h => ?_) (fun cdv A outer s H vs Q E hr h => ?_)
  · obtain ⟨tz, tl, ti, z, zs, n, ms, lo, hi, rfl, _⟩ := h
    rfl
  obtain ⟨tz, tl, ti, z, zs, n, ms, lo, hi, rfl, htz, htl, hzn, tT, hB, hl1, h0, h1, kk⟩ := h
  refine ⟨_, (qD (qU (i := 4) sc_laid_again.nd rfl (Or.inl rfl) (qh qC))
      (qD (qU (i := 5) sc_laid_again.nd rfl (Or.inl rfl) (pv 2))
      (qD (xp PassesOwn.never rfl (jC (qK T.d_part_of_track (xx T) hr rfl (qA (qJ qm (qJ qH (pv 0) qB (fun _ _ => rfl)) (pv 1) (fun _ _ => rfl)) (qA (pv 2) (qA (pv 3) qC))))) (jL (i := 6) sc_laid_again.nd rfl (Or.inl rfl)) (qD (qc (qL ja (qJ qH (pv 6) qB (fun _ _ => rfl)) (qX (qA qM (qA qM qC))) rfl) (qI (qx (vj F.plainAttrs_list F.slot_list_append F.type_list_append jl (pv 4) (qA (qX (qA qM (qA (pv 1) (qA (pv 5) (qA (pv 6) qC))))) qC)))) qO)
      (qI (qU (i := 5) sc_laid_again.nd rfl (Or.inl rfl) (qW qj (pv 5) (qK T.d_moments_of (jK T) hr rfl (qA (pv 6) qC)))))))
      (qI (qN (qW j8 (pv 4) (qK T.d_heals (qF3 T) hr rfl (qA (pv 0) (qA (pv 1) (qA (qX (qA (pv 2) (qA (pv 3) qC))) qC)))))))))), ?_⟩
  try dsimp only [jN, qg]
  refine ⟨sL0, fun dy hdy => ?_⟩
  have w0 := qF hdy (.lst [])
  refine ⟨_, rfl, ?_⟩
  refine (qY rfl (SqT.of (w0 _ _ htz)) at0 ⟨_, rfl, tl, _, _, _, rfl, rfl, SqL.of (w0 _ _ htl), qq hzn, _, rfl, _, rfl, z, ms, lo, hi, rfl, tT.same w0, hB, h0, h1, fun pz H1 e1 hpz ⟨us, hpu, his⟩ => ?_⟩)
  have hul := his.len
  have hpl := kP lo hi 0 ms
  refine ⟨pz, rfl, ⟨_, SqL.of hpu⟩, jk (K := K) (a := pz) (xs := us) (fun i σ H' => ∃ (o : Option V) (t : Int) (ds : List Dy), σ = [some (.ref tz), some (.int (n : Int)), some (.int lo), some (.int hi), some (.ref dy), some (.int t), o] ∧ DL H' dy ds ∧ ds ++ qI9 n t ((zS lo hi 0 ms).drop i) = qI9 n lo (zS lo hi 0 ms) ∧ ds.length ≤ i ∧ Same H H' ∧ SB dy H1 H')
    ⟨none, lo, [], rfl, ⟨[], e1 _ _ qE, trivial⟩, rfl, Nat.le_refl _, w0.trans e1, SB.refl _ _⟩ ?_ ?_ ?_⟩
  · rintro i σ H' hi' ⟨o, t, ds, rfl, _, _, _, _, sb⟩
    exact SqL.of (sb _ _ (fun z => by rw [z] at hpz; rw [qE] at hpz; cases hpz) hpu)
  · rintro i x σ H' hx ⟨o, t, ds, rfl, ⟨us2, hdu, hDs⟩, hap, hdl, e, sb⟩
    obtain ⟨m, hm, hIx⟩ := his.get hx
    have hI := hIx.ts (sb.ts (e1 _ _ qE))
    have hil : i < (zS lo hi 0 ms).length := (glt hm)
    have hdul := hDs.len
    obtain ⟨zi, xi, rfl, hzi, a0, _⟩ := id hI.opn
    rw [j3 hm, qI9] at hap
    refine ⟨_, rfl, zi, xi, _, _, rfl, rfl, SqT.of hzi, a0, sL2, fun q hq => ?_⟩
    have wq := qF hq (.tup [.str "clip", .str "nest"])
    refine ⟨q, _, rfl, .inr (SqT.of qE), rfl, rfl, _, x8 qKs, xN (fun c => ?_) (fun c => ?_)⟩
    · have hw : m.wd = "clip" ∨ m.wd = "nest" := by simpa using c
      rw [if_pos hw] at hap
      refine ⟨_, rfl, .inl ⟨rfl, _, SqL.of (wq _ _ hdu)⟩, _, rfl, _, rfl, _, rfl, sL4, fun g hg => ?_⟩
      have wg := qF hg (.tup [.str "lay_over", .int (n : Int), .int t, .ref zi])
      refine ⟨dy, _, _, rfl, rfl, wg _ _ (wq _ _ hdu), qd (by omega), ?_⟩
      have ww := wq.trans wg
      have tl := jm (o := .lst (us2 ++ [.ref g])) (ww _ _ hdu)
      refine ⟨_, rfl, _, rfl, _, m, rfl, (hI.ts (qV ww)).ts tl, _, _, rfl, rfl, ?_⟩
      refine ⟨_, _, ds ++ [.aI "lay_over" n t m], rfl, ⟨_, qE, ((hDs.ts (qV ww)).app (.one (d := .aI "lay_over" n t m) ⟨g, _, rfl, qE, hI.ts (qV ww)⟩)).ts tl⟩, by rw [List.append_assoc]; exact hap, by rw [List.length_append]; show ds.length + 1 ≤ i + 1; omega, q8 (e.trans ww) hdy, (sb.trans (wb ww)).trans qF8⟩
    · have hw : ¬ (m.wd = "clip" ∨ m.wd = "nest") := by simpa using c
      rw [if_neg hw, List.nil_append] at hap
      exact ⟨_, rfl, _, rfl, _, m, rfl, hI.ts (qV wq), _, _, rfl, rfl, _, _, ds, rfl, ⟨_, wq _ _ hdu, hDs.ts (qV wq)⟩, hap, by omega, e.trans wq, sb.trans (wb wq)⟩
  · rintro σ H' ⟨o, t, ds, rfl, ⟨us2, hdu, hDs⟩, hap, hdl, e, sb⟩
    rw [hul, List.drop_length, qI9, List.append_nil] at hap
    refine ⟨_, rfl, _, rfl, _, rfl, _, rfl, _, rfl, sL2, fun g hg => ?_⟩
    have wg := qF hg (.tup [.int lo, .int hi])
    have eg := e.trans wg
    refine ⟨tz, tl, ti, g, z, zs, n, ms, [lo, hi], rfl, eg _ _ htz, eg _ _ htl, hzn, tT.same eg, qE, (by show 2 ≤ 10; decide), fun y H3 e3 hy ⟨us3, hyu, hD3⟩ => ?_⟩
    have l3 := hD3.len
    have l4 : (j4 ms n [lo, hi]).length ≤ 2 := by
      unfold j4
      rw [List.length_map]
      exact List.length_filter_le _ _
    have l2 := hDs.len
    refine ⟨dy, y, _, _, rfl, rfl, (wg.trans e3) _ _ hdu, hyu, jh (by omega), fun y2 hy2 => ?_⟩
    have w5 := qF hy2 (.lst (us2 ++ us3))
    refine kk y2 _ ((eg.trans e3).trans w5) ((eg.trans e3).free hy2) ⟨_, qE, ?_⟩
    unfold kO
    rw [← hap]
    exact (hDs.ts (qV ((wg.trans e3).trans w5))).app (hD3.ts (qV w5))
theorem qC6 {j : Nat} (h : j ≤ 1100) : j ≤ sizeLine := Nat.le_trans h (by decide)
def trk (ts : List (List Im)) (k : Int) : List Im := (ts[k.toNat]?).getD []
theorem zQ {ts : List (List Im)} {k : Nat} {ms : List Im} (h : ts[k]? = some ms) : trk ts (k : Int) = ms := by
  unfold trk
  rw [Int.toNat_natCast, h]
  rfl
theorem TabF.tr {H : Hp} {tz tl ti : Addr} {zs : List V} {ts : List (List Im)} (g : TrsAt H ts zs) {k : Nat} (hk : k < ts.length) : ∃ (z : Addr) (ms : List Im), zs[k]? = some (.ref z) ∧ ts[k]? = some ms ∧ Tr H z ms := by
  have hzl := g.len
  have ez : zs[k]? = some (zs[k]'(by omega)) := List.getElem?_eq_getElem (by omega)
  obtain ⟨ms, z, hms, ezz, tT⟩ := g.get ez
  rw [ezz] at ez
  exact ⟨z, ms, ez, hms, tT⟩
theorem ku {xs : List Int} {i : Nat} {x : V} (hx : (xs.map V.int)[i]? = some x) : ∃ xi : Int, xs[i]? = some xi ∧ x = .int xi := by
  rw [List.getElem?_map] at hx
  cases hq : xs[i]? with
  | none => rw [hq] at hx; cases hx
  | some k => rw [hq] at hx; cases hx; exact ⟨k, rfl, rfl⟩
def qAz : Sp := fun vs H Q _ => ∃ (tz dz : Addr) (n t l : Int), vs = [.ref tz, .ref dz] ∧
  (H dz = some (.tup [.str "mix", .int n, .int t, .int l]) ∧ (∀ (y : Addr) (H' : Hp), Same H H' → DL H' y [.a3 "unmix" n t] → Q (.ref y) H') ∨
   (∃ (ts : List (List Im)) (tie : List Int) (n0 : Nat) (ms : List Im) (i : Nat), n = (n0 : Int) ∧ H dz = some (.tup [.str "unmix", .int n, .int t]) ∧ TabF H (.ref tz) ts tie ∧ ts[n0]? = some ms ∧ cbF ms t = some ((i : Int), ((i + 2 : Nat) : Int)) ∧ ms[i + 1]? = some (.mix l) ∧
     ∀ (y : Addr) (H' : Hp), Same H H' → DL H' y [.a4 "mix" n t l] → Q (.ref y) H'))
theorem qA7 (T : Tx K mg a) : FnOk P w K mg base CX0 6 a.a_back_of_mix a.f_back_of_mix ["table", "deed"] qAz := by
  refine T.d_back_of_mix.F.ok sc_back_of_mix (fun vs H Q E h => ?_) (fun cdv A outer s H vs Q E hr h => ?_)
  · obtain ⟨tz, dz, n, t, l, rfl, _⟩ := h
    rfl
  obtain ⟨tz, dz, n, t, l, rfl, h⟩ := h
  refine ⟨_, (qD (qc (qL jD (qJ qH (pv 1) qB (fun _ _ => rfl)) qM (qS _)) (qI (qN (qh (qA (qX (qA qM (qA (qJ qH (pv 1) qB (fun _ _ => rfl)) (qA (qJ qH (pv 1) qB (fun _ _ => rfl)) qC)))) qC)))) qO)
      (qD (qU (i := 2) sc_back_of_mix.nd rfl (Or.inl rfl) (qJ qm (qJ qH (pv 0) qB (fun _ _ => rfl)) (qJ qH (pv 1) qB (fun _ _ => rfl)) (fun _ _ => rfl)))
      (qD (qU (i := 3) sc_back_of_mix.nd rfl (Or.inl rfl) (qK T.d_clips_at_border (jJ T) hr rfl (qA (pv 2) (qA (qJ qH (pv 1) qB (fun _ _ => rfl)) qC))))
      (qI (qN (qh (qA (qX (qA qM (qA (qJ qH (pv 1) qB (fun _ _ => rfl)) (qA (qJ qH (pv 1) qB (fun _ _ => rfl)) (qA (qJ qH (qJ qm (pv 2) (qW qj (qJ qH (pv 3) qB (fun _ _ => rfl)) qB) (fun _ _ => rfl)) qB (fun _ _ => rfl)) qC))))) qC))))))), ?_⟩
  try dsimp only [jN, qg]
  have one : (1 : Nat) ≤ sizeLine := by decide
  have three : (3 : Nat) ≤ sizeLine := by decide
  have four : (4 : Nat) ≤ sizeLine := by decide
  rcases h with ⟨hd, kk⟩ | ⟨ts, tie, n0, ms, i, rfl, hd, hT, hms, hcb, hm, kk⟩
  · refine (qY rfl (SqT.of hd) zU ⟨rfl, _, rfl, j5 ?_⟩)
    refine (qY rfl (SqT.of hd) qAr (qY rfl (SqT.of hd) vn ⟨three, fun g hg => ⟨one, fun y hy => ?_⟩⟩))
    exact kk y _ ((qF hg _).trans (qF hy _)) ⟨_, qE, ⟨g, rfl, qF hy _ _ _ qE⟩, trivial⟩
  · obtain ⟨tt, tl, ti, zs, e0, g2, g3, g4, g5⟩ := id hT
    cases e0
    obtain ⟨z, ms', ez, hms', tT⟩ := TabF.tr (tz := tz) (tl := tl) (ti := ti) g4 (glt hms)
    rw [hms] at hms'
    cases hms'
    refine (qY rfl (SqT.of hd) vi ⟨rfl, _, rfl, qo ?_⟩)
    refine (qY rfl (SqT.of g2) at0 (qY rfl (SqT.of hd) qEi ⟨tl, _, _, _, rfl, rfl, SqL.of g3, qq ez, ?_⟩))
    refine ⟨_, rfl, qY rfl (SqT.of hd) qE9 ⟨z, ms, t, rfl, tT, ?_⟩⟩
    rw [hcb]
    intro p H1 e1 hp
    obtain ⟨us, hzu, his⟩ := id (tT.same e1)
    obtain ⟨x, hx, hI⟩ := his.get' hm
    obtain ⟨zi, rfl, hzi⟩ := hI
    have hix : atI us ((i : Int) + 1) = some (.ref zi) := by
      have := qq hx
      rw [Int.natCast_succ] at this
      exact this
    refine (qY rfl (SqT.of (e1 _ _ hd)) qEi (qY rfl (SqT.of (e1 _ _ hd)) qE9 ?_))
    refine ⟨_, rfl, qY rfl (SqT.of hp) at0 ⟨_, _, rfl, rfl, z, _, _, _, rfl, rfl, SqL.of hzu, hix, ixT (SqT.of hzi) at1 ⟨four, fun g hg => ⟨one, fun y hy => ?_⟩⟩⟩⟩
    exact kk y _ (e1.trans ((qF hg _).trans (qF hy _))) ⟨_, qE, ⟨g, rfl, qF hy _ _ _ qE⟩, trivial⟩
def Dk.room : Dk → Option Int
  | .opn _ l => some l
  | .lin _ m => some m.mo
  | _ => none
def qKp (ts : List (List Im)) (tie : List Int) (n t len : Int) : List Dy := .a4 "close" n t (t + len) :: (chF tie n true).flatMap fun k => j4 (trk ts k) k [t]
theorem qNb (ms : List Im) (n t : Int) : (j4 ms n [t]).length ≤ 1 := by
  unfold j4
  rw [List.length_map]
  exact List.length_filter_le _ _
theorem qNg (ms : List Im) (n t u : Int) : (j4 ms n [t, u]).length ≤ 2 := by
  unfold j4
  rw [List.length_map]
  exact List.length_filter_le _ _
def qAf : Sp := fun vs H Q _ => ∃ (tz dz : Addr) (ts : List (List Im)) (tie : List Int) (n : Nat) (d : Dk) (len : Int), vs = [.ref tz, .ref dz] ∧ TabP H tz ts tie n ∧ DAt H dz (n : Int) d ∧ d.room = some len ∧
  ∀ (y : Addr) (H' : Hp), Same H H' → DL H' y (qKp ts tie n d.t len) → Q (.ref y) H'
theorem wV (T : Tx K mg a) : FnOk P w K mg base CX0 6 a.a_back_of_room a.f_back_of_room ["table", "deed"] qAf := by
  refine T.d_back_of_room.F.ok sc_back_of_room (fun vs H Q E h => ?_) (fun cdv A outer s H vs Q E hr h => ?_)
  · obtain ⟨tz, dz, ts, tie, n, d, len, rfl, _⟩ := h
    rfl
  obtain ⟨tz, dz, ts, tie, n, d, len, rfl, hP, hD, hrm, kk⟩ := h
  refine ⟨_, (qD (zZ (qU (i := 2) sc_back_of_room.nd rfl (Or.inl rfl) (zY (qL jD (qJ qH (pv 1) qB (fun _ _ => rfl)) qM (qS _)) (qJ qH (pv 1) qB (fun _ _ => rfl)) (qK T.d_moments_of (jK T) hr rfl (qA (qJ qH (pv 1) qB (fun _ _ => rfl)) qC)))))
      (qD (qU (i := 3) sc_back_of_room.nd rfl (Or.inl rfl) (qh (qA (qX (qA qM (qA (qJ qH (pv 1) qB (fun _ _ => rfl)) (qA (qJ qH (pv 1) qB (fun _ _ => rfl)) (qA (qW qj (qJ qH (pv 1) qB (fun _ _ => rfl)) (pv 2)) qC))))) qC)))
      (qD (xp PassesOwn.never rfl (jC (qK T.d_tracks_changed (jq T) hr rfl (qA (pv 0) (qA (pv 1) qC)))) (jL (i := 4) sc_back_of_room.nd rfl (Or.inl rfl)) (qI (qx (vj F.plainAttrs_list F.slot_list_extend F.type_list_extend qDw (pv 3) (qA (qK T.d_heals (qF3 T) hr rfl (qA (pv 0) (qA (pv 4) (qA (qX (qA (qJ qH (pv 1) qB (fun _ _ => rfl)) qC)) qC)))) qC)))))
      (qI (qN (pv 3)))))), ?_⟩
  try dsimp only [jN, qg]
  have one : (1 : Nat) ≤ sizeLine := by decide
  have four : (4 : Nat) ≤ sizeLine := by decide
  have hpu : d.push = true := by cases d <;> first | rfl | cases hrm
  obtain ⟨tt, tl, ti, zs, e0, g2, g3, g4, g5⟩ := id hP.tab
  cases e0
  obtain ⟨hcl, hch⟩ := hP.ch true
  obtain ⟨xs, hd, a0, a1, a2⟩ := hD.opn
  refine ⟨fun σ H3 => σ = [some (.ref tz), some (.ref dz), some (.int len), none, none] ∧ H3 = H, ?_, ?_⟩
  · cases d with
    | opn t l =>
      have hd' : H dz = some (.tup [.str "open", .int n, .int t, .int l]) := hD
      cases hrm
      exact (qY rfl (SqT.of hd') zU ⟨rfl, _, rfl, j5 (qY rfl (SqT.of hd') xq ⟨rfl, rfl⟩)⟩)
    | lin t m =>
      cases hrm
      obtain ⟨v, hd', hI⟩ := hD
      exact (qY rfl (SqT.of hd') zU ⟨rfl, _, rfl, qo (qY rfl (SqT.of hd') xq ⟨v, m, rfl, hI, rfl, rfl⟩)⟩)
    | _ => cases hrm
  rintro σ H3 ⟨rfl, rfl⟩
  refine (qY rfl (SqT.of hd) a1 (qY rfl (SqT.of hd) a2 ?_))
  refine (qY rfl (SqT.of hd) a2 ⟨_, rfl, _, _, rfl, rfl, four, fun g hg => ⟨one, fun dy hdy => ?_⟩⟩)
  have wg := qF hg (.tup [.str "close", .int n, .int d.t, .int (d.t + len)])
  have wd := qF hdy (.lst [.ref g])
  have w1 := wg.trans wd
  have hdn : H3 dy = none := wg.free hdy
  refine ⟨_, rfl, _, rfl, tz, tl, ti, dz, tie, _, d, rfl, w1 _ _ g2, w1 _ _ g5, by have := hP.tl; omega, hD.same w1, fun y H2 e2 hy hy2 => ?_⟩
  rw [hpu] at hy2
  have e12 := w1.trans e2
  refine ⟨y, rfl, ⟨_, SqL.of hy2⟩, jk (K := K) (a := y) (xs := (chF tie (n : Int) true).map V.int) (fun i σ H' => ∃ (o : Option V) (ds : List Dy), σ = [some (.ref tz), some (.ref dz), some (.int len), some (.ref dy), o] ∧ DL H' dy ds ∧ ds ++ (((chF tie (n : Int) true).drop i).flatMap fun k => j4 (trk ts k) k [d.t]) = qKp ts tie n d.t len ∧ ds.length ≤ 1 + i ∧ Same H3 H' ∧ SB dy H2 H')
    ⟨none, [.a4 "close" n d.t (d.t + len)], rfl, ⟨_, e2 _ _ qE, ⟨g, rfl, (wd.trans e2) _ _ qE⟩, trivial⟩, rfl, Nat.le_refl _, e12, SB.refl _ _⟩ ?_ ?_ ?_⟩
  · rintro i σ H' hi' ⟨o, ds, rfl, _, _, _, _, sb⟩
    exact SqL.of (sb _ _ (fun z => by rw [z] at hy; rw [qE] at hy; cases hy) hy2)
  · rintro i x σ H' hx ⟨o, ds, rfl, ⟨us2, hdu, hDs⟩, hap, hdl, e, sb⟩
    obtain ⟨xi, hxi, rfl⟩ := ku hx
    obtain ⟨k, rfl, hk⟩ := hch xi (List.mem_of_getElem? hxi)
    have hil := (glt hxi)
    obtain ⟨z, ms1, ez, hms, tT⟩ := TabF.tr (tz := tz) (tl := tl) (ti := ti) g4 hk
    have hdul := hDs.len
    rw [j3 hxi, List.flatMap_cons, zQ hms, ← List.append_assoc] at hap
    refine ⟨_, rfl, .inl ⟨rfl, _, SqL.of hdu⟩, _, rfl, _, rfl, qY rfl (SqT.of (e _ _ hd)) a2 ⟨one, fun q hq => ?_⟩⟩
    have wq := qF hq (.tup [.int d.t])
    have eq := e.trans wq
    refine ⟨tz, tl, ti, q, z, zs, k, ms1, [d.t], rfl, eq _ _ g2, eq _ _ g3, ez, tT.same eq, qE, (by show 1 ≤ 10; decide), fun y2 H4 e4 hy' ⟨us3, hyu, hD3⟩ => ?_⟩
    have l3 := hD3.len
    have l4 := qNb ms1 k d.t
    have wq4 := wq.trans e4
    refine ⟨dy, y2, _, _, rfl, rfl, wq4 _ _ hdu, hyu, jh (by omega), ?_⟩
    have tl' := jm (o := .lst (us2 ++ us3)) (wq4 _ _ hdu)
    exact ⟨_, _, rfl, ⟨_, qE, ((hDs.ts (qV wq4)).app hD3).ts tl'⟩, hap, by rw [List.length_append]; omega, q8 (e.trans wq4) hdn, (sb.trans (wb wq4)).trans qF8⟩
  · rintro σ H' ⟨o, ds, rfl, hDL, hap, hdl, e, sb⟩
    rw [List.length_map, List.drop_length, List.flatMap_nil, List.append_nil] at hap
    rw [hap] at hDL
    exact ⟨_, rfl, kk dy H' e hDL⟩
def Dk.hd (n : Int) : Dk → List Dy
  | .cls t u => [.a4 "open" n t (u - t)]
  | .lov t m => [.a4 "lift" n t (t + m.mo)]
  | _ => []
def qMl (ts : List (List Im)) (tie : List Int) (n : Int) (d : Dk) : List Dy := d.hd n ++ (chF tie n d.push).flatMap fun k => kO k d.t d.hi (trk ts k)
theorem wf (n lo hi : Int) (ms : List Im) : (kO n lo hi ms).length ≤ ms.length + 2 := by
  have h1 := qGe n lo (zS lo hi 0 ms)
  have h2 := kP lo hi 0 ms
  have h3 := qNg ms n lo hi
  unfold kO
  rw [List.length_append]
  omega
theorem Dk.cls_wd {d : Dk} : d.wd = "close" ↔ ∃ t u, d = .cls t u := by
  cases d with
  | cls t u => exact ⟨fun _ => ⟨t, u, rfl⟩, fun _ => rfl⟩
  | cut => exact ⟨fun z => absurd (show ("cut" : Str) = "close" from z) (by decide +kernel), fun ⟨_, _, z⟩ => by cases z⟩
  | hel => exact ⟨fun z => absurd (show ("heal" : Str) = "close" from z) (by decide +kernel), fun ⟨_, _, z⟩ => by cases z⟩
  | opn => exact ⟨fun z => absurd (show ("open" : Str) = "close" from z) (by decide +kernel), fun ⟨_, _, z⟩ => by cases z⟩
  | lft => exact ⟨fun z => absurd (show ("lift" : Str) = "close" from z) (by decide +kernel), fun ⟨_, _, z⟩ => by cases z⟩
  | lin => exact ⟨fun z => absurd (show ("lay_in" : Str) = "close" from z) (by decide +kernel), fun ⟨_, _, z⟩ => by cases z⟩
  | lov => exact ⟨fun z => absurd (show ("lay_over" : Str) = "close" from z) (by decide +kernel), fun ⟨_, _, z⟩ => by cases z⟩
theorem Dk.lov_wd {d : Dk} : d.wd = "lay_over" ↔ ∃ t m, d = .lov t m := by
  cases d with
  | lov t u => exact ⟨fun _ => ⟨t, u, rfl⟩, fun _ => rfl⟩
  | cut => exact ⟨fun z => absurd (show ("cut" : Str) = "lay_over" from z) (by decide +kernel), fun ⟨_, _, z⟩ => by cases z⟩
  | hel => exact ⟨fun z => absurd (show ("heal" : Str) = "lay_over" from z) (by decide +kernel), fun ⟨_, _, z⟩ => by cases z⟩
  | opn => exact ⟨fun z => absurd (show ("open" : Str) = "lay_over" from z) (by decide +kernel), fun ⟨_, _, z⟩ => by cases z⟩
  | lft => exact ⟨fun z => absurd (show ("lift" : Str) = "lay_over" from z) (by decide +kernel), fun ⟨_, _, z⟩ => by cases z⟩
  | lin => exact ⟨fun z => absurd (show ("lay_in" : Str) = "lay_over" from z) (by decide +kernel), fun ⟨_, _, z⟩ => by cases z⟩
  | cls => exact ⟨fun z => absurd (show ("close" : Str) = "lay_over" from z) (by decide +kernel), fun ⟨_, _, z⟩ => by cases z⟩
def vN : Sp := fun vs H Q _ => ∃ (tz dz : Addr) (ts : List (List Im)) (tie : List Int) (n : Nat) (d : Dk), vs = [.ref tz, .ref dz] ∧ TabP H tz ts tie n ∧ DAt H dz (n : Int) d ∧ 0 ≤ d.t ∧ d.t ≤ 2 ^ 500 ∧
  ∀ (y : Addr) (H' : Hp), Same H H' → DL H' y (qMl ts tie n d) → Q (.ref y) H'
theorem vO (T : Tx K mg a) : FnOk P w K mg base CX0 9 a.a_back_of_stretch a.f_back_of_stretch ["table", "deed"] vN := by
  refine T.d_back_of_stretch.F.ok sc_back_of_stretch (fun vs H Q E h => ?_) (fun cdv A outer s H vs Q E hr h => ?_)
  · obtain ⟨tz, dz, ts, tie, n, d, rfl, _⟩ := h
    rfl
  obtain ⟨tz, dz, ts, tie, n, d, rfl, hP, hD, h0, h1, kk⟩ := h
  refine ⟨_, (qD (qU (i := 2) sc_back_of_stretch.nd rfl (Or.inl rfl) (qK T.d_stretch_of (z8 T) hr rfl (qA (pv 1) qC)))
      (qD (qU (i := 3) sc_back_of_stretch.nd rfl (Or.inl rfl) (qh qC))
      (qD (zZ (qc (qL jD (qJ qH (pv 1) qB (fun _ _ => rfl)) qM (qS _)) (qI (qx (vj F.plainAttrs_list F.slot_list_append F.type_list_append jl (pv 3) (qA (qX (qA qM (qA (qJ qH (pv 1) qB (fun _ _ => rfl)) (qA (qJ qH (pv 2) qB (fun _ _ => rfl)) (qA (qW jM (qJ qH (pv 2) qB (fun _ _ => rfl)) (qJ qH (pv 2) qB (fun _ _ => rfl))) qC))))) qC)))) qO))
      (qD (zZ (qc (qL jD (qJ qH (pv 1) qB (fun _ _ => rfl)) qM (qS _)) (qI (qx (vj F.plainAttrs_list F.slot_list_append F.type_list_append jl (pv 3) (qA (qX (qA qM (qA (qJ qH (pv 1) qB (fun _ _ => rfl)) (qA (qJ qH (pv 2) qB (fun _ _ => rfl)) (qA (qJ qH (pv 2) qB (fun _ _ => rfl)) qC))))) qC)))) qO))
      (qD (xp PassesOwn.never rfl (jC (qK T.d_tracks_changed (jq T) hr rfl (qA (pv 0) (qA (pv 1) qC)))) (jL (i := 4) sc_back_of_stretch.nd rfl (Or.inl rfl)) (qI (qx (vj F.plainAttrs_list F.slot_list_extend F.type_list_extend qDw (pv 3) (qA (qK T.d_laid_again (qCn T) hr rfl (qA (pv 0) (qA (pv 4) (qA (qJ qH (pv 2) qB (fun _ _ => rfl)) (qA (qJ qH (pv 2) qB (fun _ _ => rfl)) qC))))) qC)))))
      (qI (qN (pv 3)))))))), ?_⟩
  try dsimp only [jN, qg]
  have four : (4 : Nat) ≤ sizeLine := by decide
  obtain ⟨tt, tl, ti, zs, e0, g2, g3, g4, g5⟩ := id hP.tab
  cases e0
  obtain ⟨hcl, hch⟩ := hP.ch d.push
  obtain ⟨xs, hd, a0, a1, a2⟩ := hD.opn
  refine ⟨_, rfl, dz, _, d, rfl, hD, fun p H1 e1 hp => ⟨sL0, fun dy hdy => ?_⟩⟩
  have w0 := qF hdy (.lst [])
  have e10 := e1.trans w0
  have hdn : H dy = none := e1.free hdy
  have hp0 := w0 _ _ hp
  generalize hH2 : upd H1 dy (.lst []) = H2 at w0 e10 hp0
  have hdy2 : H2 dy = some (.lst []) := by rw [← hH2]; exact qE
  refine ⟨fun σ H3 => σ = [some (.ref tz), some (.ref dz), some (.ref p), some (.ref dy), none] ∧ DL H3 dy (if d.wd = "close" then d.hd n else []) ∧ Same H H3 ∧ H3 p = some (.tup [.int d.t, .int d.hi]), ?_, ?_⟩
  · refine (qY rfl (SqT.of (e10 _ _ hd)) a0 ⟨rfl, _, rfl, xN (fun c => ?_) (fun c => ?_)⟩)
    · have hw : d.wd = "close" := by simpa using c
      rw [if_pos hw]
      obtain ⟨t, u, rfl⟩ := Dk.cls_wd.mp hw
      refine ⟨_, rfl, .inl ⟨rfl, _, SqL.of hdy2⟩, qY rfl (SqT.of (e10 _ _ hd)) a1 (qY rfl (SqT.of hp0) at0 ?_)⟩
      refine (qY rfl (SqT.of hp0) at1 (qY rfl (SqT.of hp0) at0 ⟨_, _, rfl, rfl, four, fun g hg => ?_⟩))
      have wg := qF hg (.tup [.str "open", .int n, .int t, .int (u - t)])
      refine ⟨dy, _, _, rfl, rfl, wg _ _ hdy2, (by show 0 < sizeLine; decide), ?_⟩
      have ts1 := jm (o := .lst ([] ++ [.ref g])) (wg _ _ hdy2)
      exact ⟨rfl, ⟨_, qE, ⟨g, rfl, ts1 _ _ qE⟩, trivial⟩, q8 (e10.trans wg) hdn, ts1 _ _ (wg _ _ hp0)⟩
    · have hw : d.wd ≠ "close" := by simpa using c
      rw [if_neg hw]
      exact ⟨rfl, ⟨_, hdy2, trivial⟩, e10, hp0⟩
  clear hH2 w0 hp0 hdy2 e10
  rintro σ H3 ⟨rfl, ⟨us1, hdu1, hDs1⟩, e3, hp3⟩
  refine ⟨fun σ H4 => σ = [some (.ref tz), some (.ref dz), some (.ref p), some (.ref dy), none] ∧ DL H4 dy (d.hd n) ∧ Same H H4 ∧ H4 p = some (.tup [.int d.t, .int d.hi]), ?_, ?_⟩
  · refine (qY rfl (SqT.of (e3 _ _ hd)) a0 ⟨rfl, _, rfl, xN (fun c => ?_) (fun c => ?_)⟩)
    · have hw : d.wd = "lay_over" := by simpa using c
      obtain ⟨t, m, rfl⟩ := Dk.lov_wd.mp hw
      rw [if_neg (show ¬ (Dk.lov t m).wd = "close" from show ¬ ("lay_over" : Str) = "close" by decide +kernel)] at hDs1
      have := hDs1.len
      obtain rfl : us1 = [] := List.eq_nil_of_length_eq_zero this
      refine ⟨_, rfl, .inl ⟨rfl, _, SqL.of hdu1⟩, qY rfl (SqT.of (e3 _ _ hd)) a1 (qY rfl (SqT.of hp3) at0 ?_)⟩
      refine (qY rfl (SqT.of hp3) at1 ⟨four, fun g hg => ?_⟩)
      have wg := qF hg (.tup [.str "lift", .int n, .int t, .int (t + m.mo)])
      refine ⟨dy, _, _, rfl, rfl, wg _ _ hdu1, (by show 0 < sizeLine; decide), ?_⟩
      have ts1 := jm (o := .lst ([] ++ [.ref g])) (wg _ _ hdu1)
      exact ⟨rfl, ⟨_, qE, ⟨g, rfl, ts1 _ _ qE⟩, trivial⟩, q8 (e3.trans wg) hdn, ts1 _ _ (wg _ _ hp3)⟩
    · have hw : d.wd ≠ "lay_over" := by simpa using c
      have : (if d.wd = "close" then d.hd n else []) = d.hd n := by
        split
        · rfl
        · rename_i hc
          cases d <;> first | rfl | exact absurd rfl hc | exact absurd rfl hw
      rw [this] at hDs1
      exact ⟨rfl, ⟨_, hdu1, hDs1⟩, e3, hp3⟩
  clear hdu1 hDs1 hp3 e3
  rintro σ H4 ⟨rfl, hDL4, e4, hp4⟩
  refine ⟨_, rfl, _, rfl, tz, tl, ti, dz, tie, _, d, rfl, e4 _ _ g2, e4 _ _ g5, by have := hP.tl; omega, hD.same e4, fun y H2 e2 hy hy2 => ?_⟩
  have ny : y ≠ dy := fun z => by obtain ⟨_, hh, _⟩ := hDL4; rw [z, hh] at hy; cases hy
  have npd : p ≠ dy := fun z => by obtain ⟨_, hh, _⟩ := hDL4; rw [z, hh] at hp4; cases hp4
  have hdlen : (d.hd n).length ≤ 1 := by cases d <;> simp [Dk.hd]
  refine ⟨y, rfl, ⟨_, SqL.of hy2⟩, jk (K := K) (a := y) (xs := (chF tie (n : Int) d.push).map V.int) (fun i σ H' => ∃ (o : Option V) (ds : List Dy), σ = [some (.ref tz), some (.ref dz), some (.ref p), some (.ref dy), o] ∧ DL H' dy ds ∧ ds ++ (((chF tie (n : Int) d.push).drop i).flatMap fun k => kO k d.t d.hi (trk ts k)) = qMl ts tie n d ∧ ds.length ≤ 1 + 102 * i ∧ Same H H' ∧ SB dy H2 H')
    ⟨none, d.hd n, rfl, hDL4.same e2, rfl, by omega, e4.trans e2, SB.refl _ _⟩ ?_ ?_ ?_⟩
  · rintro i σ H' hi' ⟨o, ds, rfl, _, _, _, _, sb⟩
    exact SqL.of (sb _ _ ny hy2)
  · rintro i x σ H' hx ⟨o, ds, rfl, ⟨us2, hdu, hDs⟩, hap, hdl, e, sb⟩
    obtain ⟨xi, hxi, rfl⟩ := ku hx
    obtain ⟨k, rfl, hk⟩ := hch xi (List.mem_of_getElem? hxi)
    have hil := (glt hxi)
    obtain ⟨z, ms1, ez, hms, tT⟩ := TabF.tr (tz := tz) (tl := tl) (ti := ti) g4 hk
    obtain ⟨_, hMB, hM1⟩ := hP.pos ms1 (List.mem_of_getElem? hms)
    have hdul := hDs.len
    have hp5 := sb _ _ npd (e2 _ _ hp4)
    rw [j3 hxi, List.flatMap_cons, zQ hms, ← List.append_assoc] at hap
    refine ⟨_, rfl, .inl ⟨rfl, _, SqL.of hdu⟩, _, rfl, _, rfl, qY rfl (SqT.of hp5) at0 (qY rfl (SqT.of hp5) at1 ?_)⟩
    refine ⟨tz, tl, ti, z, zs, k, ms1, d.t, d.hi, rfl, e _ _ g2, e _ _ g3, ez, tT.same e, hMB, hM1, h0, h1, fun y2 H4 e4 hy' ⟨us3, hyu, hD3⟩ => ?_⟩
    have l3 := hD3.len
    have l4 := wf k d.t d.hi ms1
    refine ⟨dy, y2, _, _, rfl, rfl, e4 _ _ hdu, hyu, qC6 (by omega), ?_⟩
    have tl' := jm (o := .lst (us2 ++ us3)) (e4 _ _ hdu)
    exact ⟨_, _, rfl, ⟨_, qE, ((hDs.ts (qV e4)).app hD3).ts tl'⟩, hap, by rw [List.length_append]; omega, q8 (e.trans e4) hdn, (sb.trans (wb e4)).trans qF8⟩
  · rintro σ H' ⟨o, ds, rfl, hDL, hap, hdl, e, sb⟩
    rw [List.length_map, List.drop_length, List.flatMap_nil, List.append_nil] at hap
    rw [hap] at hDL
    exact ⟨_, rfl, kk dy H' e hDL⟩
theorem qOa {w a b : Str} : inV (.str w) [.str a, .str b] = (decide (w = a) || decide (w = b)) := by
  unfold inV
  rw [Bool.eq_iff_iff]
  simp [eqV]
  constructor
  · rintro (h | h)
    · exact .inl h.symm
    · exact .inr h.symm
  · rintro (h | h)
    · exact .inl h.symm
    · exact .inr h.symm
def qPy (H : Hp) (tz dz : Addr) (ds : List Dy) : Prop := ∃ (n t l : Int),
  (H dz = some (.tup [.str "mix", .int n, .int t, .int l]) ∧ ds = [.a3 "unmix" n t]) ∨
  (∃ (ts : List (List Im)) (tie : List Int) (n0 : Nat) (ms : List Im) (i : Nat), n = (n0 : Int) ∧ H dz = some (.tup [.str "unmix", .int n, .int t]) ∧ TabF H (.ref tz) ts tie ∧ ts[n0]? = some ms ∧ cbF ms t = some ((i : Int), ((i + 2 : Nat) : Int)) ∧ ms[i + 1]? = some (.mix l) ∧ ds = [.a4 "mix" n t l])
def qMv (H : Hp) (tz dz : Addr) (ds : List Dy) : Prop := ∃ (ts : List (List Im)) (tie : List Int) (n : Nat) (d : Dk) (len : Int), TabP H tz ts tie n ∧ DAt H dz (n : Int) d ∧ d.room = some len ∧ ds = qKp ts tie n d.t len
def qO5 (H : Hp) (tz dz : Addr) (ds : List Dy) : Prop := ∃ (ts : List (List Im)) (tie : List Int) (n : Nat) (d : Dk), TabP H tz ts tie n ∧ DAt H dz (n : Int) d ∧ 0 ≤ d.t ∧ d.t ≤ 2 ^ 500 ∧ ds = qMl ts tie n d
def Ans (H : Hp) (tz dz : Addr) (w : Str) (ds : List Dy) : Prop :=
  if w = "cut" then ∃ n t : Int, H dz = some (.tup [.str w, .int n, .int t]) ∧ ds = [.a3 "heal" n t]
  else if w = "heal" then ∃ n t : Int, H dz = some (.tup [.str w, .int n, .int t]) ∧ ds = [.a3 "cut" n t]
  else if w = "mix" ∨ w = "unmix" then qPy H tz dz ds
  else if w = "lay_in" ∨ w = "open" then qMv H tz dz ds
  else if w = "slip" then ∃ n t b : Int, H dz = some (.tup [.str w, .int n, .int t, .int b]) ∧ ds = [.a4 "slip" n t (-b)]
  else if w = "roll" ∨ w = "slide" then ∃ n t b : Int, H dz = some (.tup [.str w, .int n, .int t, .int b]) ∧ ds = [.a4 w n (t + b) (-b)]
  else qO5 H tz dz ds
def qHa : Sp := fun vs H Q _ => ∃ (tz dz rd : Addr) (w : Str) (ds : List Dy) (xs : List V), vs = [.ref tz, .ref dz, .ref rd] ∧ qJl H tz dz rd ∧ H dz = some (.tup xs) ∧ atI xs 0 = some (.str w) ∧ Ans H tz dz w ds ∧
  ∀ (y : Addr) (H' : Hp), Same H H' → DL H' y ds → Q (.ref y) H'
theorem xI (T : Tx K mg a) : FnOk P w K mg base CX0 11 a.a_back_of a.f_back_of ["table", "deed", "reels"] qHa := by
  refine T.d_back_of.F.ok qGu (fun vs H Q E h => ?_) (fun cdv A outer s H vs Q E hr h => ?_)
  · obtain ⟨tz, dz, rd, w, ds, xs, rfl, _⟩ := h
    rfl
  obtain ⟨tz, dz, rd, w, ds, xs, rfl, hDn, hd, a0, hA, kk⟩ := h
  refine ⟨_, (qD (qx (qK T.d_deed_done (qC4 T) hr rfl (qA (pv 0) (qA (pv 1) (qA (pv 2) qC)))))
      (qD (qc (qL jD (qJ qH (pv 1) qB (fun _ _ => rfl)) qM (qS _)) (qI (qN (qh (qA (qX (qA qM (qA (qJ qH (pv 1) qB (fun _ _ => rfl)) (qA (qJ qH (pv 1) qB (fun _ _ => rfl)) qC)))) qC)))) qO)
      (qD (qc (qL jD (qJ qH (pv 1) qB (fun _ _ => rfl)) qM (qS _)) (qI (qN (qh (qA (qX (qA qM (qA (qJ qH (pv 1) qB (fun _ _ => rfl)) (qA (qJ qH (pv 1) qB (fun _ _ => rfl)) qC)))) qC)))) qO)
      (qD (qc (qL ja (qJ qH (pv 1) qB (fun _ _ => rfl)) (qX (qA qM (qA qM qC))) rfl) (qI (qN (qK T.d_back_of_mix (qA7 T) hr rfl (qA (pv 0) (qA (pv 1) qC))))) qO)
      (qD (qc (qL ja (qJ qH (pv 1) qB (fun _ _ => rfl)) (qX (qA qM (qA qM qC))) rfl) (qI (qN (qK T.d_back_of_room (wV T) hr rfl (qA (pv 0) (qA (pv 1) qC))))) qO)
      (qD (qc (qL jD (qJ qH (pv 1) qB (fun _ _ => rfl)) qM (qS _)) (qI (qN (qh (qA (qX (qA qM (qA (qJ qH (pv 1) qB (fun _ _ => rfl)) (qA (qJ qH (pv 1) qB (fun _ _ => rfl)) (qA (zM jn (qJ qH (pv 1) qB (fun _ _ => rfl))) qC))))) qC)))) qO)
      (qD (qc (qL ja (qJ qH (pv 1) qB (fun _ _ => rfl)) (qX (qA qM (qA qM qC))) rfl) (qI (qN (qh (qA (qX (qA (qJ qH (pv 1) qB (fun _ _ => rfl)) (qA (qJ qH (pv 1) qB (fun _ _ => rfl)) (qA (qW qj (qJ qH (pv 1) qB (fun _ _ => rfl)) (qJ qH (pv 1) qB (fun _ _ => rfl))) (qA (zM jn (qJ qH (pv 1) qB (fun _ _ => rfl))) qC))))) qC)))) qO)
      (qI (qN (qK T.d_back_of_stretch (vO T) hr rfl (qA (pv 0) (qA (pv 1) qC)))))))))))), ?_⟩
  try dsimp only [jN, qg]
  have one : (1 : Nat) ≤ sizeLine := by decide
  have two : (2 : Nat) ≤ sizeLine := by decide
  have three : (3 : Nat) ≤ sizeLine := by decide
  have four : (4 : Nat) ≤ sizeLine := by decide
  unfold Ans at hA
  refine ⟨_, rfl, _, rfl, _, rfl, tz, dz, rd, rfl, hDn, fun _ H1 e1 => ?_⟩
  refine (qY rfl (SqT.of (e1 _ _ hd)) a0 ⟨rfl, _, rfl, xN (fun c => ?_) (fun c => ?_)⟩)
  · rw [if_pos (by simpa using c)] at hA
    obtain ⟨n, t, hd', rfl⟩ := hA
    have hd1 := e1 _ _ hd'
    refine (qY rfl (SqT.of hd1) qEi (qY rfl (SqT.of hd1) qE9 ⟨three, fun g hg => ⟨one, fun y hy => ?_⟩⟩))
    exact kk y _ (e1.trans ((qF hg _).trans (qF hy _))) ⟨_, qE, ⟨g, rfl, qF hy _ _ _ qE⟩, trivial⟩
  rw [if_neg (by simpa using c)] at hA
  clear c
  refine (qY rfl (SqT.of (e1 _ _ hd)) a0 ⟨rfl, _, rfl, xN (fun c => ?_) (fun c => ?_)⟩)
  · rw [if_pos (by simpa using c)] at hA
    obtain ⟨n, t, hd', rfl⟩ := hA
    have hd1 := e1 _ _ hd'
    refine (qY rfl (SqT.of hd1) qEi (qY rfl (SqT.of hd1) qE9 ⟨three, fun g hg => ⟨one, fun y hy => ?_⟩⟩))
    exact kk y _ (e1.trans ((qF hg _).trans (qF hy _))) ⟨_, qE, ⟨g, rfl, qF hy _ _ _ qE⟩, trivial⟩
  rw [if_neg (by simpa using c)] at hA
  clear c
  refine (qY rfl (SqT.of (e1 _ _ hd)) a0 ⟨two, fun q hq => ?_⟩)
  have e2 := e1.trans (qF hq (.tup [.str "mix", .str "unmix"]))
  refine ⟨q, _, rfl, .inr (SqT.of qE), rfl, rfl, _, x8 qOa, ?_⟩
  generalize upd H1 q (.tup [.str "mix", .str "unmix"]) = H2 at e2
  refine xN (fun c => ?_) (fun c => ?_)
  · rw [if_pos (by simpa using c)] at hA
    obtain ⟨n, t, l, h⟩ := hA
    refine ⟨_, rfl, _, rfl, tz, dz, n, t, l, rfl, ?_⟩
    rcases h with ⟨h1, rfl⟩ | ⟨ts, tie, n0, ms, i, hn, h1, h2, h3, h4, h5, rfl⟩
    · exact .inl ⟨e2 _ _ h1, fun y H' e h => kk y H' (e2.trans e) h⟩
    · exact .inr ⟨ts, tie, n0, ms, i, hn, e2 _ _ h1, h2.same e2, h3, h4, h5, fun y H' e h => kk y H' (e2.trans e) h⟩
  rw [if_neg (by simpa using c)] at hA
  clear c
  refine (qY rfl (SqT.of (e2 _ _ hd)) a0 ⟨two, fun q hq => ?_⟩)
  have e3 := e2.trans (qF hq (.tup [.str "lay_in", .str "open"]))
  refine ⟨q, _, rfl, .inr (SqT.of qE), rfl, rfl, _, x8 qOa, ?_⟩
  generalize upd H2 q (.tup [.str "lay_in", .str "open"]) = H3 at e3
  refine xN (fun c => ?_) (fun c => ?_)
  · rw [if_pos (by simpa using c)] at hA
    obtain ⟨ts, tie, n, d, len, h1, h2, h3, rfl⟩ := hA
    exact ⟨_, rfl, _, rfl, tz, dz, ts, tie, n, d, len, rfl, h1.same e3, h2.same e3, h3, fun y H' e h => kk y H' (e3.trans e) h⟩
  rw [if_neg (by simpa using c)] at hA
  clear c
  refine (qY rfl (SqT.of (e3 _ _ hd)) a0 ⟨rfl, _, rfl, xN (fun c => ?_) (fun c => ?_)⟩)
  · rw [if_pos (by simpa using c)] at hA
    obtain ⟨n, t, b, hd', rfl⟩ := hA
    have hd1 := e3 _ _ hd'
    refine (qY rfl (SqT.of hd1) qAr (qY rfl (SqT.of hd1) vn (qY rfl (SqT.of hd1) xq ⟨_, rfl, four, fun g hg => ⟨one, fun y hy => ?_⟩⟩)))
    exact kk y _ (e3.trans ((qF hg _).trans (qF hy _))) ⟨_, qE, ⟨g, rfl, qF hy _ _ _ qE⟩, trivial⟩
  rw [if_neg (by simpa using c)] at hA
  clear c
  refine (qY rfl (SqT.of (e3 _ _ hd)) a0 ⟨two, fun q hq => ?_⟩)
  have e4 := e3.trans (qF hq (.tup [.str "roll", .str "slide"]))
  refine ⟨q, _, rfl, .inr (SqT.of qE), rfl, rfl, _, x8 qOa, ?_⟩
  generalize upd H3 q (.tup [.str "roll", .str "slide"]) = H4 at e4
  refine xN (fun c => ?_) (fun c => ?_)
  · rw [if_pos (by simpa using c)] at hA
    obtain ⟨n, t, b, hd', rfl⟩ := hA
    have hd1 := e4 _ _ hd'
    refine (qY rfl (SqT.of hd1) zU (qY rfl (SqT.of hd1) qAr (qY rfl (SqT.of hd1) vn ?_)))
    refine (qY rfl (SqT.of hd1) xq ⟨_, _, rfl, rfl, qY rfl (SqT.of hd1) xq ⟨_, rfl, four, fun g hg => ⟨one, fun y hy => ?_⟩⟩⟩)
    exact kk y _ (e4.trans ((qF hg _).trans (qF hy _))) ⟨_, qE, ⟨g, rfl, qF hy _ _ _ qE⟩, trivial⟩
  rw [if_neg (by simpa using c)] at hA
  obtain ⟨ts, tie, n, d, h1, h2, h3, h4, rfl⟩ := hA
  exact ⟨_, rfl, _, rfl, tz, dz, ts, tie, n, d, rfl, h1.same e4, h2.same e4, h3, h4, fun y H' e h => kk y H' (e4.trans e) h⟩
def Dr (H : Hp) (xz : Addr) (n : Nat) : Prop := ∃ xs : List Int, H xz = some (.lst (xs.map V.int)) ∧ n ≤ xs.length
theorem Dr.same {H H' : Hp} {xz : Addr} {n : Nat} (e : Same H H') (h : Dr H xz n) : Dr H' xz n := let ⟨xs, a, b⟩ := h; ⟨xs, e _ _ a, b⟩
theorem Dr.ty {H : Hp} {xz : Addr} {n : Nat} (h : Dr H xz n) : ∃ xs, SqL K H xz xs := let ⟨_, a, _⟩ := h; ⟨_, SqL.of a⟩
structure RX (xz : Addr) (H H' : Hp) : Prop where
  sb : SB xz H H'
  ts : TS H H'
theorem RX.refl (xz : Addr) (H : Hp) : RX xz H H := ⟨SB.refl _ _, fun _ _ h => h⟩
theorem RX.trans {xz : Addr} {H H1 H2 : Hp} (a : RX xz H H1) (b : RX xz H1 H2) : RX xz H H2 := ⟨a.sb.trans b.sb, fun c u h => b.ts c u (a.ts c u h)⟩
theorem qk {xz : Addr} {H H' : Hp} (e : Same H H') : RX xz H H' := ⟨wb e, qV e⟩
theorem Dr.pop {H : Hp} {xz : Addr} {n : Nat} {Q : VK} (h : Dr H xz (n + 1)) (q : ∀ (x : Int) (H' : Hp), RX xz H H' → Dr H' xz n → Q (.int x) H') : qO3 (.ref xz) [] H Q := by
  obtain ⟨xs, hx, hl⟩ := h
  have hne : xs ≠ [] := by intro q; rw [q] at hl; simp at hl
  obtain ⟨ys, x, rfl, hl'⟩ : ∃ ys x, xs = ys ++ [x] ∧ n ≤ ys.length := ⟨xs.dropLast, xs.getLast hne, (List.dropLast_concat_getLast hne).symm, by rw [List.length_dropLast]; omega⟩
  refine ⟨xz, _, .int x, rfl, rfl, hx, ?_, ?_⟩
  · rw [List.map_append, List.length_append, List.length_map]
    simp
  · have e : ((ys ++ [x]).map V.int).dropLast = ys.map V.int := by rw [List.map_append]; simp
    rw [e]
    exact q x _ ⟨qF8, jm hx⟩ ⟨ys, qE, hl'⟩
theorem Dr.ne {H : Hp} {xz z : Addr} {n : Nat} (h : Dr H xz n) (hz : H z = none) : z ≠ xz := fun e => by
  obtain ⟨_, a, _⟩ := h
  rw [e, a] at hz
  cases hz
theorem RX.updN {xz F : Addr} {H H' : Hp} {o : HO} (r : RX xz H H') (h : H F = none) : RX xz H (upd H' F o) := ⟨fun b u nb hb => by rw [qi (ql hb h)]; exact r.sb b u nb hb, fun b ys hb => by rw [qi (ql hb h)]; exact r.ts b ys hb⟩
theorem Dr.upd {xz F : Addr} {H : Hp} {n : Nat} {o : HO} (h : Dr H xz n) (ne : F ≠ xz) : Dr (upd H F o) xz n := let ⟨xs, a, b⟩ := h; ⟨xs, by rw [qi ne.symm]; exact a, b⟩
theorem qEj {H : Hp} {q1 q2 q3 : Addr} {n : Str} {p q r s l : Int} (h1 : H q1 = none) (h2 : upd H q1 (.tup [.int p, .int q]) q2 = none) (h3 : upd (upd H q1 (.tup [.int p, .int q])) q2 (.tup [.int r, .int s]) q3 = none) :
    ∃ H', upd (upd (upd H q1 (.tup [.int p, .int q])) q2 (.tup [.int r, .int s])) q3 (.tup [.str "clip", .str n, .ref q1, .ref q2, .int l]) = H' ∧ Same H H' ∧ IsI H' (.clip n p q r s l) (.ref q3) :=
  ⟨_, rfl, (qF h1 _).trans ((qF h2 _).trans (qF h3 _)), q3, q1, q2, rfl, qE, qF h3 _ _ _ (qF h2 _ _ _ qE), qF h3 _ _ _ qE⟩
theorem qOh {H : Hp} {q : Addr} {g : Int} (h : H q = none) : ∃ H', upd H q (.tup [.str "gap", .int g]) = H' ∧ Same H H' ∧ IsI H' (.gap g) (.ref q) := ⟨_, rfl, qF h _, isG qE⟩
theorem qM2 {H : Hp} {q : Addr} {n : Str} {b l : Int} (h : H q = none) : ∃ H', upd H q (.tup [.str "nest", .str n, .int b, .int l]) = H' ∧ Same H H' ∧ IsI H' (.nest n b l) (.ref q) := ⟨_, rfl, qF h _, isN qE⟩
theorem v6 {H : Hp} {q : Addr} {vs : List V} (h : H q = none) : ∃ H', upd H q (.lst vs) = H' ∧ Same H H' ∧ H' q = some (.lst vs) := ⟨_, rfl, qF h _, qE⟩
def TX (H : Hp) (xz z : Addr) (ms : List Im) : Prop := ∀ H', RX xz H H' → Tr H' z ms
theorem TX.mk {H : Hp} {xz z : Addr} {ms : List Im} {vs : List V} (hz : H z = some (.lst vs)) (hi : IsIs H ms vs) (ne : z ≠ xz) : TX H xz z ms := fun _ r => ⟨vs, r.sb _ _ ne hz, hi.ts r.ts⟩
theorem TX.rx {H H' : Hp} {xz z : Addr} {ms : List Im} (r : RX xz H H') (h : TX H xz z ms) : TX H' xz z ms := fun H2 r2 => h H2 (r.trans r2)
def c2p (o : Int) : Int := if o.fmod 2 = 0 then 300 + o.fdiv 2 else 600 + o
def c2q (o : Int) : Int := if o.fmod 2 = 0 then 1 else 2
def T1 (o u g : Int) : List Im := [.clip "a" 300 1 1 2 o, .clip "a" (c2p o) (c2q o) 1 2 u, .gap g, .nest "low" 3 6, .clip "a" 9 1 2 1 7]
def T2 (k : Int) : List Im := [.clip "a" 50 1 (-1) 1 k, .nest "low" 0 8, .gap 2, .clip "a" 70 1 0 1 9]
def T3 : List Im := [.gap 5, .clip "a" 80 3 1 3 12]
structure Lt (ts : List (List Im)) (tie : List Int) (o u : Int) : Prop where
  ts : ∃ g k t, ts = [T1 o u g, T2 k, t] ∧ 1 ≤ g ∧ g ≤ 5 ∧ 3 ≤ k ∧ k ≤ 11 ∧ (t = [] ∨ t = T3)
  o1 : 4 ≤ o
  o2 : o ≤ 12
  u1 : 4 ≤ u
  u2 : u ≤ 12
  ti : tie = [] ∨ tie = [0, 1] ∨ tie = [0, 1, 2]
def TabX (H : Hp) (xz tt : Addr) (ts : List (List Im)) (tie : List Int) : Prop := ∃ (tl ti : Addr) (zs : List V), tl ≠ xz ∧ ti ≠ xz ∧ H tt = some (.tup [.ref tl, .ref ti]) ∧ H tl = some (.lst zs) ∧ H ti = some (.lst (tie.map V.int)) ∧ ∀ H', RX xz H H' → TrsAt H' ts zs
theorem TabX.rx {H H' : Hp} {xz tt : Addr} {ts : List (List Im)} {tie : List Int} (r : RX xz H H') (h : TabX H xz tt ts tie) : TabX H' xz tt ts tie :=
  let ⟨tl, ti, zs, n1, n2, h1, h2, h3, h4⟩ := h
  ⟨tl, ti, zs, n1, n2, r.ts _ _ h1, r.sb _ _ n1 h2, r.sb _ _ n2 h3, fun H2 r2 => h4 H2 (r.trans r2)⟩
theorem TabX.tab {H : Hp} {xz tt : Addr} {ts : List (List Im)} {tie : List Int} (h : TabX H xz tt ts tie) : TabF H (.ref tt) ts tie :=
  let ⟨tl, ti, zs, _, _, h1, h2, h3, h4⟩ := h
  ⟨tt, tl, ti, zs, rfl, h1, h2, h4 H (RX.refl _ _), h3⟩
def qCl : Sp := fun vs H Q _ => ∃ (xz : Addr) (n : Nat), vs = [.ref xz] ∧ Dr H xz (n + 6) ∧ ∀ (tt : Addr) (H' : Hp) (ts : List (List Im)) (tie : List Int) (o u : Int), RX xz H H' → Dr H' xz n → TabX H' xz tt ts tie → Lt ts tie o u → Q (.ref tt) H'
set_option maxHeartbeats 8000000 in
theorem qB8 (T : Tx K mg a) : FnOk P w K mg base CX0 1 a.a__law_table a.f__law_table ["_law_xs"] qCl := by
  refine T.d__law_table.F.ok sc__law_table (fun vs H Q E h => ?_) (fun cdv A outer s H vs Q E hr h => ?_)
  · obtain ⟨xz, n, rfl, _⟩ := h
    rfl
  obtain ⟨xz, n, rfl, D0, kk⟩ := h
  refine ⟨_, (qD (qU (i := 1) sc__law_table.nd rfl (Or.inl rfl) (qW qj qB (qW jX (qW qr (kI F.plainAttrs_list F.slot_list_pop F.type_list_pop kJ (pv 0)) qB) qB)))
      (qD (qU (i := 2) sc__law_table.nd rfl (Or.inl rfl) (qW qj qB (qW jX (qW qr (kI F.plainAttrs_list F.slot_list_pop F.type_list_pop kJ (pv 0)) qB) qB)))
      (qD (qU (i := 3) sc__law_table.nd rfl (Or.inl rfl) (qh (qA (qX (qA qM (qA qM (qA (qX (qA qB (qA qB qC))) (qA (qX (qA qB (qA qB qC))) (qA (pv 1) qC)))))) (qA (qX (qA qM (qA qM (qA (qX (qA (qW qj qB (pv 1)) (qA qB qC))) (qA (qX (qA qB (qA qB qC))) (qA (pv 2) qC)))))) qC))))
      (qD (zZ (qc (qL jD (qW jX (pv 1) qB) qB (qS _)) (qI (qBi (qX (qA qM (qA qM (qA (qX (qA (qW qj qB (qW qr (pv 1) qB)) (qA qB qC))) (qA (qX (qA qB (qA qB qC))) (qA (pv 2) qC)))))) (qEf (pv 3) qB vU))) qO))
      (qD (qU (i := 3) sc__law_table.nd rfl (Or.inl rfl) (qW j8 (pv 3) (qh (qA (qX (qA qM (qA (qW qj qB (qW jX (qW qr (kI F.plainAttrs_list F.slot_list_pop F.type_list_pop kJ (pv 0)) qB) qB)) qC))) (qA (qX (qA qM (qA qM (qA qB (qA qB qC))))) (qA (qX (qA qM (qA qM (qA (qX (qA qB (qA qB qC))) (qA (qX (qA qB (qA qB qC))) (qA qB qC)))))) qC))))))
      (qD (qU (i := 4) sc__law_table.nd rfl (Or.inl rfl) (qh (qA (qX (qA qM (qA qM (qA (qX (qA qB (qA qB qC))) (qA (qX (qA (zM jn qB) (qA qB qC))) (qA (qW qj qB (qW jX (qW qr (kI F.plainAttrs_list F.slot_list_pop F.type_list_pop kJ (pv 0)) qB) qB)) qC)))))) (qA (qX (qA qM (qA qM (qA qB (qA qB qC))))) qC))))
      (qD (qU (i := 4) sc__law_table.nd rfl (Or.inl rfl) (qW j8 (pv 4) (qh (qA (qX (qA qM (qA qB qC))) (qA (qX (qA qM (qA qM (qA (qX (qA qB (qA qB qC))) (qA (qX (qA qB (qA qB qC))) (qA qB qC)))))) qC)))))
      (qD (qU (i := 5) sc__law_table.nd rfl (Or.inl rfl) (qJ qm (qh (qA (qh qC) (qA (qh (qA (qX (qA qM (qA qB qC))) (qA (qX (qA qM (qA qM (qA (qX (qA qB (qA qB qC))) (qA (qX (qA qB (qA qB qC))) (qA qB qC)))))) qC))) qC))) (qW jX (qW qr (kI F.plainAttrs_list F.slot_list_pop F.type_list_pop kJ (pv 0)) qB) qB) (fun _ _ => rfl)))
      (qI (qN (qX (qA (qh (qA (pv 3) (qA (pv 4) (qA (pv 5) qC)))) (qA (qJ qm (qh (qA (qh qC) (qA (qh (qA qB (qA qB qC))) (qA (qh (qA qB (qA qB (qA qB qC)))) qC)))) (qW jX (qW qr (kI F.plainAttrs_list F.slot_list_pop F.type_list_pop kJ (pv 0)) qB) qB) (fun _ _ => rfl)) qC))))))))))))), ?_⟩
  try dsimp only [jN, qg]
  have one : (1 : Nat) ≤ sizeLine := by decide
  have two : (2 : Nat) ≤ sizeLine := by decide
  have three : (3 : Nat) ≤ sizeLine := by decide
  have four : (4 : Nat) ≤ sizeLine := by decide
  have five : (5 : Nat) ≤ sizeLine := by decide
  refine ⟨_, rfl, .inl ⟨rfl, D0.ty⟩, D0.pop (n := n + 5) fun x0 H1 r1 D1 => ?_⟩
  refine ⟨_, _, rfl, rfl, cdB (by decide) (by decide), _, _, rfl, rfl, nz, _, _, rfl, rfl, ?_⟩
  have f0 := fm (x0.fdiv 3) (show (0 : Int) < 9 by decide)
  dsimp only
  obtain ⟨o, ho⟩ : ∃ o, 4 + (x0.fdiv 3).fmod 9 = o := ⟨_, rfl⟩
  rw [ho]
  have o1 : 4 ≤ o := by omega
  have o2 : o ≤ 12 := by omega
  clear ho f0
  refine ⟨_, rfl, .inl ⟨rfl, D1.ty⟩, D1.pop (n := n + 4) fun x1 H2 r2 D2 => ?_⟩
  refine ⟨_, _, rfl, rfl, cdB (by decide) (by decide), _, _, rfl, rfl, nz, _, _, rfl, rfl, ?_⟩
  have f1 := fm (x1.fdiv 3) (show (0 : Int) < 9 by decide)
  dsimp only
  obtain ⟨u, hu⟩ : ∃ u, 4 + (x1.fdiv 3).fmod 9 = u := ⟨_, rfl⟩
  rw [hu]
  have u1 : 4 ≤ u := by omega
  have u2 : u ≤ 12 := by omega
  clear hu f1
  have r02 := r1.trans r2
  clear r1 r2 D0 D1
  refine ⟨two, fun q1 h1 => ⟨two, fun q2 h2 => ⟨_, rfl, five, fun v1 h3 => ?_⟩⟩⟩
  obtain ⟨H3, e3, w3, I1⟩ := qEj (n := "a") (l := o) h1 h2 h3
  rw [e3]
  clear e3 h1 h2 h3
  refine ⟨_, rfl, _, _, rfl, rfl, two, fun q1 h1 => ⟨two, fun q2 h2 => ⟨_, rfl, five, fun q3 h3 => ?_⟩⟩⟩
  obtain ⟨H4, e4, w4, I2⟩ := qEj (n := "a") (l := u) h1 h2 h3
  rw [e4]
  clear e4 h1 h2 h3
  refine ⟨two, fun F hF => ?_⟩
  have w5 := qF hF (.lst [.ref v1, .ref q3])
  have D5 := ((D2.same w3).same w4).same w5
  have nF := ((D2.same w3).same w4).ne hF
  have hFn : H F = none := (r02.trans (qk (w3.trans w4))).sb.free nF hF
  have r05 := r02.trans (qk (w3.trans (w4.trans w5)))
  have I1' := I1.ts (qV (w4.trans w5))
  have I2' := I2.ts (qV w5)
  have hFl : upd H4 F (.lst [.ref v1, .ref q3]) F = some (.lst [.ref v1, .ref q3]) := qE
  change _
  generalize upd H4 F (.lst [.ref v1, .ref q3]) = H5 at w5 D5 r05 I1' I2' hFl
  clear w3 w4 w5 I1 I2 D2 r02
  refine ⟨fun σ H' => σ = [some (.ref xz), some (.int o), some (.int u), some (.ref F), none, none] ∧ Tr H' F [.clip "a" 300 1 1 2 o, .clip "a" (c2p o) (c2q o) 1 2 u] ∧ RX xz H H' ∧ Dr H' xz (n + 4), ?_, ?_⟩
  · refine ⟨_, rfl, _, _, rfl, rfl, nz, rfl, _, rfl, xN (fun c => ?_) (fun c => ?_)⟩
    · have hc : o.fmod 2 = 0 := by simpa using c
      refine ⟨_, rfl, _, _, rfl, rfl, cdB (by decide) (by decide), _, _, rfl, rfl, two, fun p1 h1 => ⟨two, fun p2 h2 => ⟨_, rfl, five, fun p3 h3 => ?_⟩⟩⟩
      obtain ⟨H6, e6, w6, I6⟩ := qEj (n := "a") (l := u) h1 h2 h3
      rw [e6]
      clear e6 h1 h2 h3
      refine ⟨_, rfl, F, _, _, 1, rfl, rfl, w6 _ _ hFl, rfl, rfl, ⟨_, qE, ?_⟩, ?_, ?_⟩
      · have t := jm (o := .lst [.ref v1, .ref p3]) (w6 _ _ hFl)
        refine ⟨(I1'.ts (qV w6)).ts t, ?_, trivial⟩
        unfold c2p c2q
        rw [if_pos hc, if_pos hc]
        exact I6.ts t
      · exact (r05.trans (qk w6)).updN hFn
      · exact (D5.same w6).upd nF
    · have hc : ¬ o.fmod 2 = 0 := by simpa using c
      refine ⟨rfl, ⟨_, hFl, I1', ?_, trivial⟩, r05, D5⟩
      unfold c2p c2q
      rw [if_neg hc, if_neg hc]
      exact I2'
  clear D5 r05 I1' I2' hFl
  rintro σ H6 ⟨rfl, ⟨vs, hFv, iF⟩, r6, D6⟩
  have lF := iF.len
  refine ⟨_, rfl, _, rfl, .inl ⟨rfl, D6.ty⟩, D6.pop (n := n + 3) fun x2 H7 r7 D7 => ?_⟩
  refine ⟨_, _, rfl, rfl, cdB (by decide) (by decide), _, _, rfl, rfl, nz, _, _, rfl, rfl, two, fun g1 hg1 => ?_⟩
  have f2 := fm (x2.fdiv 3) (show (0 : Int) < 5 by decide)
  obtain ⟨g, hg⟩ : ∃ g, 1 + (x2.fdiv 3).fmod 5 = g := ⟨_, rfl⟩
  dsimp only
  rw [hg]
  have b1 : 1 ≤ g := by omega
  have b2 : g ≤ 5 := by omega
  clear hg f2
  obtain ⟨H8, e8, w8, I3⟩ := qOh (g := g) hg1
  rw [e8]
  clear e8
  refine ⟨four, fun q4 h4 => ?_⟩
  obtain ⟨H9, e9, w9, I4⟩ := qM2 (n := "low") (b := 3) (l := 6) h4
  rw [e9]
  clear e9
  refine ⟨two, fun q1 h1 => ⟨two, fun q2 h2 => ⟨five, fun q5 h3 => ?_⟩⟩⟩
  obtain ⟨H10, e10, w10, I5⟩ := qEj (n := "a") (l := 7) h1 h2 h3
  rw [e10]
  clear e10 h1 h2 h3
  refine ⟨three, fun L hL => ?_⟩
  obtain ⟨H11, e11, w11, hLl⟩ := v6 (vs := [.ref g1, .ref q4, .ref q5]) hL
  rw [e11]
  clear e11
  have w711 := w8.trans (w9.trans (w10.trans w11))
  have r711 : RX xz H7 H11 := qk w711
  refine ⟨F, L, _, _, rfl, rfl, r711.sb _ _ nF (r7.sb _ _ nF hFv), hLl, (by show vs.length + 3 ≤ sizeLine; rw [lF]; exact five), fun F2 hF2 => ?_⟩
  obtain ⟨H12, e12, w12, hF2l⟩ := v6 (vs := vs ++ [.ref g1, .ref q4, .ref q5]) hF2
  rw [e12]
  clear e12
  have D12 := (D7.same w711).same w12
  have r12 := r6.trans (r7.trans (r711.trans (qk w12)))
  have i12 : IsIs H12 (T1 o u g) (vs ++ [.ref g1, .ref q4, .ref q5]) :=
    (iF.ts (r7.trans (r711.trans (qk w12))).ts).app ⟨I3.ts (qV (w9.trans (w10.trans (w11.trans w12)))), I4.ts (qV (w10.trans (w11.trans w12))), I5.ts (qV (w11.trans w12)), trivial⟩
  have t12 : TX H12 xz F2 (T1 o u g) := TX.mk hF2l i12 ((D7.same w711).ne hF2)
  clear w8 w9 w10 w11 w12 w711 r711 I3 I4 I5 hLl hL hg1 h4 D7 r7 D6 r6 iF hFv i12 hF2l hF2
  refine ⟨two, fun q1 h1 => ⟨_, rfl, two, fun q2 h2 => ?_⟩⟩
  have wq := (qF h1 (.tup [.int 50, .int 1])).trans (qF h2 (.tup [.int (-1), .int 1]))
  have k1 := qF h2 (.tup [.int (-1), .int 1]) q1 _ (qE (H := H12) (a := q1) (o := .tup [.int 50, .int 1]))
  have k2 : upd (upd H12 q1 (.tup [.int 50, .int 1])) q2 (.tup [.int (-1), .int 1]) q2 = some (.tup [.int (-1), .int 1]) := qE
  change _
  generalize upd (upd H12 q1 (.tup [.int 50, .int 1])) q2 (.tup [.int (-1), .int 1]) = H13 at wq k1 k2
  refine ⟨_, rfl, .inl ⟨rfl, (D12.same wq).ty⟩, (D12.same wq).pop (n := n + 2) fun x3 H14 r14 D14 => ?_⟩
  refine ⟨_, _, rfl, rfl, cdB (by decide) (by decide), _, _, rfl, rfl, nz, _, _, rfl, rfl, five, fun q3 h3 => ?_⟩
  have f3 := fm (x3.fdiv 3) (show (0 : Int) < 9 by decide)
  obtain ⟨k, hk⟩ : ∃ k, 3 + (x3.fdiv 3).fmod 9 = k := ⟨_, rfl⟩
  dsimp only
  rw [hk]
  have b3 : 3 ≤ k := by omega
  have b4 : k ≤ 11 := by omega
  clear hk f3
  have w15 := qF h3 (.tup [.str "clip", .str "a", .ref q1, .ref q2, .int k])
  have I1 : IsI (upd H14 q3 (.tup [.str "clip", .str "a", .ref q1, .ref q2, .int k])) (.clip "a" 50 1 (-1) 1 k) (.ref q3) := ⟨q3, q1, q2, rfl, qE, w15 _ _ (r14.ts _ _ k1), w15 _ _ (r14.ts _ _ k2)⟩
  change _
  generalize upd H14 q3 (.tup [.str "clip", .str "a", .ref q1, .ref q2, .int k]) = H15 at w15 I1
  refine ⟨four, fun q4 h4 => ?_⟩
  obtain ⟨H16, e16, w16, I2⟩ := qM2 (n := "low") (b := 0) (l := 8) h4
  rw [e16]
  clear e16
  refine ⟨two, fun S hS => ?_⟩
  obtain ⟨H17, e17, w17, hSl⟩ := v6 (vs := [.ref q3, .ref q4]) hS
  rw [e17]
  clear e17
  have nS := ((D14.same w15).same w16).ne hS
  have D17 := ((D14.same w15).same w16).same w17
  have r1217 : RX xz H12 H17 := (qk wq).trans (r14.trans (qk (w15.trans (w16.trans w17))))
  refine ⟨_, rfl, two, fun g5 hg5 => ?_⟩
  obtain ⟨H18, e18, w18, I3⟩ := qOh (g := 2) hg5
  rw [e18]
  clear e18
  refine ⟨two, fun q5 h1 => ⟨two, fun q6 h2 => ⟨five, fun q7 h3 => ?_⟩⟩⟩
  obtain ⟨H19, e19, w19, I4⟩ := qEj (n := "a") (l := 9) h1 h2 h3
  rw [e19]
  clear e19 h1 h2 h3
  refine ⟨two, fun L hL => ?_⟩
  obtain ⟨H20, e20, w20, hLl⟩ := v6 (vs := [.ref g5, .ref q7]) hL
  rw [e20]
  clear e20
  have w1720 := w18.trans (w19.trans w20)
  refine ⟨S, L, _, _, rfl, rfl, w1720 _ _ hSl, hLl, (by show 2 + 2 ≤ sizeLine; decide), fun S2 hS2 => ?_⟩
  obtain ⟨H21, e21, w21, hS2l⟩ := v6 (vs := [.ref q3, .ref q4] ++ [.ref g5, .ref q7]) hS2
  rw [e21]
  clear e21
  have D21 := (D17.same w1720).same w21
  have r1221 := r1217.trans (qk (w1720.trans w21))
  have i21 : IsIs H21 (T2 k) ([.ref q3, .ref q4] ++ [.ref g5, .ref q7]) := ⟨I1.ts (qV (w16.trans (w17.trans (w1720.trans w21)))), I2.ts (qV (w17.trans (w1720.trans w21))), I3.ts (qV (w19.trans (w20.trans w21))), I4.ts (qV (w20.trans w21)), trivial⟩
  have t21 : TX H21 xz S2 (T2 k) := TX.mk hS2l i21 ((D17.same w1720).ne hS2)
  have t12' := t12.rx r1221
  have r21 := r12.trans r1221
  clear t12 r12 r1221 i21 hS2l I1 I2 I3 I4 w15 w16 w17 w18 w19 w20 w21 w1720 r1217 D17 D14 r14 hLl hSl k1 k2 wq D12
  refine ⟨sL0, fun E0 hE0 => ?_⟩
  obtain ⟨H22, e22, w22, hE0l⟩ := v6 (vs := []) hE0
  rw [e22]
  clear e22
  refine ⟨two, fun g5 hg5 => ?_⟩
  obtain ⟨H23, e23, w23, I1⟩ := qOh (g := 5) hg5
  rw [e23]
  clear e23
  refine ⟨two, fun q5 h1 => ⟨two, fun q6 h2 => ⟨five, fun q7 h3 => ?_⟩⟩⟩
  obtain ⟨H24, e24, w24, I2⟩ := qEj (n := "a") (l := 12) h1 h2 h3
  rw [e24]
  clear e24 h1 h2 h3
  refine ⟨two, fun TL hTL => ?_⟩
  obtain ⟨H25, e25, w25, hTLl⟩ := v6 (vs := [.ref g5, .ref q7]) hTL
  rw [e25]
  clear e25
  refine ⟨two, fun LL hLL => ?_⟩
  obtain ⟨H26, e26, w26, hLLl⟩ := v6 (vs := [.ref E0, .ref TL]) hLL
  rw [e26]
  clear e26
  have w2226 := w23.trans (w24.trans (w25.trans w26))
  have tE : TX H26 xz E0 [] := TX.mk (w2226 _ _ hE0l) trivial (D21.ne hE0)
  have tT : TX H26 xz TL T3 := TX.mk (w26 _ _ hTLl) ⟨I1.ts (qV (w24.trans (w25.trans w26))), I2.ts (qV (w25.trans w26)), trivial⟩ ((D21.same (w22.trans (w23.trans w24))).ne hTL)
  have nLL := (D21.same (w22.trans (w23.trans (w24.trans w25)))).ne hLL
  have D26 := D21.same (w22.trans w2226)
  have r2126 : RX xz H21 H26 := qk (w22.trans w2226)
  refine ⟨_, rfl, .inl ⟨rfl, D26.ty⟩, D26.pop (n := n + 1) fun x4 H27 r27 D27 => ?_⟩
  have f4 := fm (x4.fdiv 3) (show (0 : Int) < 2 by decide)
  obtain ⟨v3, hv3, hv⟩ := at2 (x := .ref E0) (y := .ref TL) f4.1 f4.2
  refine ⟨_, _, rfl, rfl, cdB (by decide) (by decide), _, _, rfl, rfl, nz, LL, _, _, _, rfl, rfl, SqL.of (r27.sb _ _ nLL hLLl), hv3, ?_⟩
  obtain ⟨Z, t3, hZ, t27, ht3⟩ : ∃ (Z : Addr) (t3 : List Im), v3 = .ref Z ∧ TX H27 xz Z t3 ∧ (t3 = [] ∨ t3 = T3) := by
    rcases hv with h | h
    · exact ⟨E0, _, h, tE.rx r27, .inl rfl⟩
    · exact ⟨TL, _, h, tT.rx r27, .inr rfl⟩
  subst hZ
  have t1 := t12'.rx (r2126.trans r27)
  have t2 := t21.rx (r2126.trans r27)
  have r27' := r21.trans (r2126.trans r27)
  clear t12' t21 tE tT hv hv3 r2126 r27 D26 D21 w22 w23 w24 w25 w26 w2226 r21 I1 I2 hE0l hTLl hLLl f4
  refine ⟨_, rfl, _, rfl, _, rfl, three, fun tl htl => ?_⟩
  obtain ⟨H28, e28, w28, htll⟩ := v6 (vs := [.ref F2, .ref S2, .ref Z]) htl
  rw [e28]
  clear e28
  refine ⟨sL0, fun a0 ha0 => ?_⟩
  obtain ⟨H29, e29, w29, ha0l⟩ := v6 (vs := []) ha0
  rw [e29]
  clear e29
  refine ⟨two, fun a1 ha1 => ?_⟩
  obtain ⟨H30, e30, w30, ha1l⟩ := v6 (vs := [.int 0, .int 1]) ha1
  rw [e30]
  clear e30
  refine ⟨three, fun a2 ha2 => ?_⟩
  obtain ⟨H31, e31, w31, ha2l⟩ := v6 (vs := [.int 0, .int 1, .int 2]) ha2
  rw [e31]
  clear e31
  refine ⟨three, fun al hal => ?_⟩
  obtain ⟨H32, e32, w32, hall⟩ := v6 (vs := [.ref a0, .ref a1, .ref a2]) hal
  rw [e32]
  clear e32
  have w2832 := w29.trans (w30.trans (w31.trans w32))
  have D32 := D27.same (w28.trans w2832)
  have ntl := D27.ne htl
  have n0 := (D27.same w28).ne ha0
  have n1 := (D27.same (w28.trans w29)).ne ha1
  have n2 := (D27.same (w28.trans (w29.trans w30))).ne ha2
  have nal := (D27.same (w28.trans (w29.trans (w30.trans w31)))).ne hal
  refine ⟨_, rfl, .inl ⟨rfl, D32.ty⟩, D32.pop (n := n) fun x5 H33 r33 D33 => ?_⟩
  have f5 := fm (x5.fdiv 3) (show (0 : Int) < 3 by decide)
  obtain ⟨v4, hv4, hv⟩ := at3 (x := .ref a0) (y := .ref a1) (z := .ref a2) f5.1 f5.2
  refine ⟨_, _, rfl, rfl, cdB (by decide) (by decide), _, _, rfl, rfl, nz, al, _, _, _, rfl, rfl, SqL.of (r33.sb _ _ nal hall), hv4, two, fun tt htt => ?_⟩
  have w34 := qF htt (.tup [.ref tl, v4])
  have r34 : RX xz H27 (upd H33 tt (.tup [.ref tl, v4])) := (qk (w28.trans w2832)).trans (r33.trans (qk w34))
  have rr : RX xz H32 (upd H33 tt (.tup [.ref tl, v4])) := r33.trans (qk w34)
  have fin : ∀ (ti : Addr) (tie : List Int), v4 = .ref ti → ti ≠ xz → H32 ti = some (.lst (tie.map V.int)) → TabX (upd H33 tt (.tup [.ref tl, v4])) xz tt [T1 o u g, T2 k, t3] tie := by
    rintro ti tie rfl nti hti
    refine ⟨tl, ti, _, ntl, nti, qE, rr.sb _ _ ntl (w2832 _ _ htll), rr.sb _ _ nti hti, fun H' rH => ?_⟩
    have r27H := r34.trans rH
    exact ⟨⟨F2, rfl, t1 H' r27H⟩, ⟨S2, rfl, t2 H' r27H⟩, ⟨Z, rfl, t27 H' r27H⟩, trivial⟩
  have lt : ∀ tie : List Int, (tie = [] ∨ tie = [0, 1] ∨ tie = [0, 1, 2]) → Lt [T1 o u g, T2 k, t3] tie o u := fun tie h => ⟨⟨g, k, t3, rfl, b1, b2, b3, b4, ht3⟩, o1, o2, u1, u2, h⟩
  rcases hv with h | h | h
  · exact kk tt _ _ [] o u (r27'.trans r34) (D33.same w34) (fin a0 [] h n0 ((w30.trans (w31.trans w32)) _ _ ha0l)) (lt _ (.inl rfl))
  · exact kk tt _ _ [0, 1] o u (r27'.trans r34) (D33.same w34) (fin a1 [0, 1] h n1 ((w31.trans w32) _ _ ha1l)) (lt _ (.inr (.inl rfl)))
  · exact kk tt _ _ [0, 1, 2] o u (r27'.trans r34) (D33.same w34) (fin a2 [0, 1, 2] h n2 (w32 _ _ ha2l)) (lt _ (.inr (.inr rfl)))
def qBu : Sp := fun vs H Q _ => ∃ (v : V) (n : Str) (p q r s l k : Int), vs = [v, .int k] ∧ IsI H (.clip n p q r s l) v ∧ Bn 700 p q r s ∧ k.natAbs < 2 ^ 700 ∧ qJj H Q (plP p q r s k) (plQ p q r s k)
theorem qCj (T : Tx K mg a) : FnOk P w K mg base CX0 1 a.a__law_floor a.f__law_floor ["_law_item", "_law_k"] qBu := by
  refine T.d__law_floor.F.ok sc__law_floor (fun vs H Q E h => ?_) (fun cdv A outer s H vs Q E hr h => ?_)
  · obtain ⟨v, n, p, q, r, s, l, k, rfl, _⟩ := h
    rfl
  obtain ⟨v, n, p, q, r, s', l, k, rfl, ⟨z, x, y, rfl, hz, hx, hy⟩, hb7, bk7, kk⟩ := h
  refine ⟨_, (qD (qU (i := 2) sc__law_floor.nd rfl (Or.inl rfl) (qW qj (qW jP (qJ qH (qJ qH (pv 0) qB (fun _ _ => rfl)) qB (fun _ _ => rfl)) (qJ qH (qJ qH (pv 0) qB (fun _ _ => rfl)) qB (fun _ _ => rfl))) (qW jP (qW jP (pv 1) (qJ qH (qJ qH (pv 0) qB (fun _ _ => rfl)) qB (fun _ _ => rfl))) (qJ qH (qJ qH (pv 0) qB (fun _ _ => rfl)) qB (fun _ _ => rfl)))))
      (qD (qU (i := 3) sc__law_floor.nd rfl (Or.inl rfl) (qW jP (qJ qH (qJ qH (pv 0) qB (fun _ _ => rfl)) qB (fun _ _ => rfl)) (qJ qH (qJ qH (pv 0) qB (fun _ _ => rfl)) qB (fun _ _ => rfl))))
      (qD (qU (i := 4) sc__law_floor.nd rfl (Or.inl rfl) (qf wR rfl T.b_abs rfl (qA (pv 2) qC)))
      (qD (qU (i := 5) sc__law_floor.nd rfl (Or.inl rfl) (pv 3))
      (qD (qGi PassesOwn.never (qL zT (pv 5) qB (qS _)) (qI (qNo (i := 4) (j := 5) rfl sc__law_floor.nd rfl rfl (by decide) rfl rfl (qA (pv 5) (qA (qW jX (pv 4) (pv 5)) qC)) rfl)))
      (qI (qN (qX (qA (qW qr (pv 2) (pv 4)) (qA (qW qr (pv 3) (pv 4)) qC)))))))))), ?_⟩
  try dsimp only [jN, qg]
  have S : ∀ {i : Int}, i.natAbs < 2 ^ 700 → Sm i := fun h => xo h
  have S2 : ∀ {i j : Int}, i.natAbs < 2 ^ 700 → j.natAbs < 2 ^ 700 → Sm (i * j) := fun h h' => xo (jW h h')
  have h0 : SqT K H z [.str "clip", .str n, .ref x, .ref y, .int l] := SqT.of hz
  have h1 : SqT K H x [.int p, .int q] := SqT.of hx
  have h2 : SqT K H y [.int r, .int s'] := SqT.of hy
  have hqs := Int.mul_pos hb7.q0 hb7.s0
  refine (qY rfl h0 qHm (ixT h1 at0 (qY rfl h0 qAn (ixT h2 at1 ⟨_, _, rfl, rfl, (S hb7.bp).mul (S hb7.bs), ?_⟩))))
  refine ⟨_, rfl, qY rfl h0 qAn (ixT h2 at0 ⟨_, _, rfl, rfl, (S bk7).mul (S hb7.br), qY rfl h0 qHm (ixT h1 at1 ⟨_, _, rfl, rfl, (S2 bk7 hb7.br).mul (S hb7.bq), _, _, rfl, rfl, ?_⟩)⟩)⟩
  refine (qY rfl h0 qHm (ixT h1 at1 (qY rfl h0 qAn (ixT h2 at1 ⟨_, _, rfl, rfl, (S hb7.bq).mul (S hb7.bs), ?_⟩))))
  have hb2 : (q * s').natAbs < 2 ^ 8000 := qIz (jW hb7.bq hb7.bs)
  dsimp only
  have k' : qJj H Q ((p * s' + k * r * q).fdiv (sg (p * s' + k * r * q) (q * s'))) ((q * s').fdiv (sg (p * s' + k * r * q) (q * s'))) := kk
  generalize p * s' + k * r * q = t at k'
  generalize q * s' = b at k' hqs hb2
  refine ⟨_, rfl, t, rfl, _, rfl, ?_⟩
  refine qF7 (fun σ H' => H' = H ∧ ∃ x y : Int, σ = [some (.ref z), some (.int k), some (.int t), some (.int b), some (.int x), some (.int y)] ∧ 0 ≤ x ∧ 0 ≤ y ∧ Int.gcd x y = Int.gcd t b)
    (fun σ _ => match σ with | [_, _, _, _, _, some (.int y)] => y.natAbs | _ => 0) ⟨rfl, _, _, rfl, ?_, by omega, ?_⟩ ?_ ?_
  · split <;> omega
  · have e1 : (if t < 0 then -t else t) = ((t.natAbs : Nat) : Int) := by split <;> omega
    rw [e1]
    rfl
  · rintro σ H1 ⟨rfl, x, y, rfl, h0, h1, e⟩
    refine ⟨_, rfl, rfl, _, rfl, ?_⟩
    refine xN (fun c => ?_) (fun c => ?_)
    · have hy : y ≠ 0 := by simpa using c
      refine ⟨_, rfl, _, rfl, _, rfl, _, _, rfl, rfl, hy, _, _, rfl, ⟨rfl, y, x.fmod y, rfl, h1, Int.fmod_nonneg_of_pos x (by omega), ?_⟩, ?_⟩
      · rw [qGf]; exact e
      · exact qJc x y hy
    · have hy : y = 0 := by simpa using c
      subst hy
      have e2 : x = sg t b := by
        unfold sg
        rw [if_neg (by omega), ← e, Int.gcd_zero_right]
        omega
      obtain ⟨d1, d2⟩ := qFy (t := t) (b := b) (by omega) hb2
      have q' : qJj H1 Q (t.fdiv x) (b.fdiv x) := by rw [e2]; exact k'
      exact ⟨_, rfl, _, rfl, _, _, rfl, rfl, (by rw [e2]; exact d1), _, rfl, _, rfl, _, _, rfl, rfl, (by rw [e2]; exact d2), sL2, q'⟩
  · rintro σ H1 Q1 Q2 hq h
    obtain ⟨v, e, s, k, hk, z⟩ := h
    exact ⟨v, e, s, k, hk, hq _ _ z⟩
def qEg : Sp := fun vs H Q _ => ∃ (v : V) (m : Im) (lo hi : Int), vs = [v, .int lo, .int hi] ∧ IsI H m v ∧ ImB m ∧ lo.natAbs < 2 ^ 700 ∧ m.wd ≠ "mix" ∧ m.wd ≠ "gap" ∧ ∀ (u : V) (H' : Hp), Same H H' → IsI H' (qCr m lo hi) u → Q u H'
theorem qEc (T : Tx K mg a) : FnOk P w K mg base CX0 2 a.a__law_part a.f__law_part ["_law_item", "_law_low", "_law_high"] qEg := by
  refine T.d__law_part.F.ok qC3 (fun vs H Q E h => ?_) (fun cdv A outer s H vs Q E hr h => ?_)
  · obtain ⟨v, m, lo, hi, rfl, _⟩ := h
    rfl
  obtain ⟨v, m, lo, hi, rfl, hI, hB, bl, hnm, hng, kk⟩ := h
  refine ⟨_, (qD (qc (qL jD (qJ qH (pv 0) qB (fun _ _ => rfl)) qM (qS _)) (qI (qN (qX (qA qM (qA (qJ qH (pv 0) qB (fun _ _ => rfl)) (qA (qW qj (qJ qH (pv 0) qB (fun _ _ => rfl)) (pv 1)) (qA (qW jM (pv 2) (pv 1)) qC))))))) qO)
      (qI (qN (qX (qA qM (qA (qJ qH (pv 0) qB (fun _ _ => rfl)) (qA (qK T.d__law_floor (qCj T) hr rfl (qA (pv 0) (qA (pv 1) qC))) (qA (qJ qH (pv 0) qB (fun _ _ => rfl)) (qA (qW jM (pv 2) (pv 1)) qC))))))))), ?_⟩
  try dsimp only [jN, qg]
  cases m with
  | mix l => exact absurd rfl hnm
  | gap l => exact absurd rfl hng
  | clip n p q r s1 l =>
    obtain ⟨z, x, y, rfl, hz, hx, hy⟩ := id hI
    refine (qY rfl (SqT.of hz) qIc ⟨rfl, _, rfl, qo ?_⟩)
    refine (qY rfl (SqT.of hz) qB3 ⟨_, rfl, _, rfl, _, n, p, q, r, s1, l, lo, rfl, hI, hB, bl, fun f hf => ?_⟩)
    have w1 := qF hf (.tup [.int (plP p q r s1 lo), .int (plQ p q r s1 lo)])
    refine (qY rfl (SqT.of (w1 _ _ hz)) qAn ⟨_, rfl, _, rfl, _, _, rfl, rfl, sL5, fun t ht => ?_⟩)
    have w2 := qF ht (.tup [.str "clip", .str n, .ref f, .ref y, .int (hi - lo)])
    exact kk _ _ (w1.trans w2) ⟨t, f, y, rfl, qE, w2 _ _ qE, (w1.trans w2) _ _ hy⟩
  | nest n b l =>
    obtain ⟨z, rfl, hz⟩ := id hI
    have a0 : atI [V.str "nest", .str n, .int b, .int l] 0 = some (.str "nest") := rfl
    have a1 : atI [V.str "nest", .str n, .int b, .int l] 1 = some (.str n) := rfl
    have a2 : atI [V.str "nest", .str n, .int b, .int l] 2 = some (.int b) := rfl
    refine (qY rfl (SqT.of hz) a0 ⟨rfl, _, rfl, j5 ?_⟩)
    refine (qY rfl (SqT.of hz) a1 (qY rfl (SqT.of hz) a2 ⟨_, rfl, _, _, rfl, rfl, _, rfl, _, rfl, _, _, rfl, rfl, sL4, fun t ht => ?_⟩))
    exact kk _ _ (qF ht _) (isN qE)
def qHp (n lo hi : Int) : Int → List Im → List Dy
  | _, [] => []
  | b, m :: r => (if m.wd ≠ "gap" ∧ ze b lo < vG (b + m.mo) hi then [.aI "lay_over" n (ze b lo) (qCr m (ze b lo - b) (vG (b + m.mo) hi - b))] else []) ++ qHp n lo hi (b + m.mo) r
def vw (m : Im) (b t : Int) : Bool := decide (m.wd ≠ "gap") && (decide (b < t) && decide (t < b + m.mo))
theorem qNw {m : Im} {b t : Int} (h : vw m b t = true) : t < b + m.mo := by
  unfold vw at h
  simp at h
  omega
def hm (n b : Int) (m : Im) (ts : List Int) : List Dy := (ts.filter (vw m b)).map fun t => .a3 "heal" n t
def qD5 (n lo hi : Int) : Int → List Im → List Dy
  | _, [] => []
  | b, m :: r => hm n b m [lo, hi] ++ qD5 n lo hi (b + m.mo) r
def withG (t : Int) : Int → List Im → Bool
  | _, [] => false
  | b, m :: r => vw m b t || withG t (b + m.mo) r
theorem qIf (m : Im) (h : m.wd ≠ "mix") : (m.wd = "clip" ∨ m.wd = "nest") ↔ m.wd ≠ "gap" := by
  cases m with
  | clip => exact ⟨fun _ => (by show ("clip" : Str) ≠ "gap"; decide +kernel), fun _ => .inl rfl⟩
  | nest => exact ⟨fun _ => (by show ("nest" : Str) ≠ "gap"; decide +kernel), fun _ => .inr rfl⟩
  | gap => exact ⟨fun h => (by rcases h with h | h; exact absurd (show ("gap" : Str) = "clip" from h) (by decide +kernel); exact absurd (show ("gap" : Str) = "nest" from h) (by decide +kernel)), fun h => absurd rfl h⟩
  | mix => exact absurd rfl h
theorem qKd (m : Im) (x y : Int) (h : m.wd ≠ "mix") : (qCr m x y).wd = m.wd ∧ (qCr m x y).mo = y - x := by
  cases m with
  | mix => exact absurd rfl h
  | _ => exact ⟨rfl, rfl⟩
theorem qMu (i j : Int) : ze i j = ze j i := by unfold ze; split <;> split <;> omega
theorem qNe (i j : Int) : vG i j = vG j i := by unfold vG; split <;> split <;> omega
theorem qHv (i j : Int) : (j > i → ze i j = j) ∧ (¬ j > i → ze i j = i) := ⟨fun h => if_pos h, fun h => if_neg h⟩
theorem qM6 (i j : Int) : (j < i → vG i j = j) ∧ (¬ j < i → vG i j = i) := ⟨fun h => if_pos h, fun h => if_neg h⟩
theorem qFu (n lo hi : Int) (hlh : lo < hi) : ∀ (ms : List Im) (b t : Int), Pos ms → (b < hi → t = ze lo b) → qI9 n t (zS lo hi b ms) = qHp n lo hi b ms
  | [], b, t, _, _ => rfl
  | m :: r, b, t, hP, ht => by
    obtain ⟨m0, mx⟩ := hP m (by simp)
    have hPr : Pos r := fun x hx => hP x (by simp [hx])
    rw [zS, if_neg mx, qHp]
    rw [qMu b lo, qNe (b + m.mo) hi]
    by_cases hc : ze lo b < vG hi (b + m.mo)
    · have hb : b < hi := by unfold ze vG at hc; split at hc <;> split at hc <;> omega
      have hb2 : lo < b + m.mo := by unfold ze vG at hc; split at hc <;> split at hc <;> omega
      rw [if_pos hc, List.singleton_append, qI9]
      obtain ⟨h1, h2⟩ := qKd m (ze lo b - b) (vG hi (b + m.mo) - b) mx
      rw [h1, h2, ht hb]
      have ih := qFu n lo hi hlh r (b + m.mo) (ze lo b + (vG hi (b + m.mo) - b - (ze lo b - b))) hPr (fun hlt => by
        unfold vG
        rw [if_pos hlt]
        unfold ze
        split <;> first | omega | (split <;> omega))
      rw [ih]
      by_cases hw : m.wd ≠ "gap"
      · rw [if_pos ((qIf m mx).mpr hw), if_pos ⟨hw, hc⟩]
      · rw [if_neg (fun z => hw ((qIf m mx).mp z)), if_neg (fun z => hw z.1)]
    · rw [if_neg hc, if_neg (fun z => hc z.2), List.nil_append, List.nil_append]
      refine qFu n lo hi hlh r (b + m.mo) t hPr (fun hlt => ?_)
      have hb : b < hi := by omega
      rw [ht hb]
      have s1 := qHv lo b
      have s2 := qM6 hi (b + m.mo)
      have s3 := qHv lo (b + m.mo)
      omega
theorem kS (t : Int) : ∀ (ms : List Im) (b : Int), Pos ms → t ≤ b → withG t b ms = false
  | [], _, _, _ => rfl
  | m :: r, b, hP, h => by
    have m0 := (hP m (by simp)).1
    rw [withG, kS t r (b + m.mo) (fun x hx => hP x (by simp [hx])) (by omega)]
    unfold vw
    rw [decide_eq_false (show ¬ b < t by omega)]
    simp
theorem qDl (n lo hi : Int) (hlh : lo < hi) : ∀ (ms : List Im) (b : Int), Pos ms → qD5 n lo hi b ms = ([lo, hi].filter fun t => withG t b ms).map fun t => .a3 "heal" n t
  | [], b, _ => rfl
  | m :: r, b, hP => by
    have m0 := (hP m (by simp)).1
    have hPr : Pos r := fun x hx => hP x (by simp [hx])
    rw [qD5, qDl n lo hi hlh r (b + m.mo) hPr]
    unfold hm
    simp only [withG, List.filter_cons, List.filter_nil]
    have n1 : vw m b lo = true → withG lo (b + m.mo) r = false := fun h => kS lo r _ hPr (by have := qNw h; omega)
    have n2 : vw m b hi = true → withG hi (b + m.mo) r = false := fun h => kS hi r _ hPr (by have := qNw h; omega)
    have n3 : vw m b hi = true → withG lo (b + m.mo) r = false := fun h => kS lo r _ hPr (by have := qNw h; omega)
    cases h1 : vw m b lo <;> cases h2 : vw m b hi <;> cases h3 : withG lo (b + m.mo) r <;> cases h4 : withG hi (b + m.mo) r <;> simp_all
theorem qDt (t : Int) : ∀ (suf pre : List Im) (b : Int), Pos suf → (match xy b pre.length suf t with
    | some (i, d) => decide (d > 0) && (decide (xR (pre ++ suf) (i : Int) = "clip") || decide (xR (pre ++ suf) (i : Int) = "nest"))
    | none => false) = withG t b suf
  | [], pre, b, _ => rfl
  | m :: r, pre, b, hP => by
    obtain ⟨m0, mx⟩ := hP m (by simp)
    have hPr : Pos r := fun x hx => hP x (by simp [hx])
    rw [xy, withG]
    by_cases hc : b ≤ t ∧ t < b + m.mo
    · rw [if_pos hc]
      dsimp only
      rw [zO (ms := pre ++ m :: r) (i := pre.length) (m := m) (by simp) rfl]
      rw [kS t r (b + m.mo) hPr (by omega)]
      have e1 : decide (t - b > 0) = decide (b < t) := by rw [decide_eq_decide]; omega
      have e2 : (decide (m.wd = "clip") || decide (m.wd = "nest")) = decide (m.wd ≠ "gap") := by
        rw [Bool.eq_iff_iff]
        simpa using qIf m mx
      unfold vw
      rw [e1, e2, decide_eq_true hc.2]
      cases decide (b < t) <;> cases decide (m.wd ≠ "gap") <;> rfl
    · rw [if_neg hc]
      have ih := qDt t r (pre ++ [m]) (b + m.mo) hPr
      rw [List.length_append, List.append_assoc] at ih
      have : (decide (b < t) && decide (t < b + m.mo)) = false := by
        rw [Bool.and_eq_false_iff, decide_eq_false_iff_not, decide_eq_false_iff_not]
        omega
      unfold vw
      rw [this, Bool.and_false, Bool.false_or]
      exact ih
theorem qF4 {ms : List Im} (hP : Pos ms) (t : Int) : zg ms t = withG t 0 ms := by
  unfold zg
  have := qDt t ms [] 0 hP
  exact this
theorem qHs {ms : List Im} (hP : Pos ms) (n : Int) (ts : List Int) : j4 ms n ts = (ts.filter fun t => withG t 0 ms).map fun t => .a3 "heal" n t := by
  unfold j4
  congr 1
  apply List.filter_congr
  intro t _
  exact qF4 hP t
theorem qLh {ms : List Im} (hP : Pos ms) {n lo hi : Int} (h0 : 0 ≤ lo) (hlh : lo < hi) : qHp n lo hi 0 ms ++ qD5 n lo hi 0 ms = kO n lo hi ms := by
  unfold kO
  rw [qHs hP, qDl n lo hi hlh ms 0 hP, qFu n lo hi hlh ms 0 lo hP (fun _ => by unfold ze; split <;> omega)]
def qB7 : Sp := fun vs H Q _ => ∃ (z : Addr) (ms : List Im) (n lo hi : Int), vs = [.ref z, .int n, .int lo, .int hi] ∧ Tr H z ms ∧ MsB ms ∧ Pos ms ∧ ms.length ≤ 100 ∧ 0 ≤ lo ∧ lo < hi ∧ lo ≤ 2 ^ 500 ∧
  ∀ (y : Addr) (H' : Hp), Same H H' → DL H' y (kO n lo hi ms) → Q (.ref y) H'
theorem kD (T : Tx K mg a) : FnOk P w K mg base CX0 3 a.a__law_again a.f__law_again ["_law_track", "_law_number", "_law_first", "_law_last"] qB7 := by
  refine T.d__law_again.F.ok sc__law_again (fun vs H Q E h => ?_) (fun cdv A outer s H vs Q E hr h => ?_)
  · obtain ⟨z, ms, n, lo, hi, rfl, _⟩ := h
    rfl
  obtain ⟨z, ms, n, lo, hi, rfl, ⟨vs, hz, his⟩, ⟨hB, hln⟩, hP, hl1, h0, hlh, h5, kk⟩ := h
  refine ⟨_, (qD (qU (i := 4) sc__law_again.nd rfl (Or.inl rfl) (qh qC))
      (qD (qU (i := 5) sc__law_again.nd rfl (Or.inl rfl) (qh qC))
      (qD (qU (i := 6) sc__law_again.nd rfl (Or.inl rfl) qB)
      (qD (xp PassesOwn.never rfl (jC (pv 0)) (jL (i := 7) sc__law_again.nd rfl (Or.inl rfl)) (qD (qU (i := 8) sc__law_again.nd rfl (Or.inl rfl) (qW qj (pv 6) (qJ qH (pv 7) (zM jn qB) (fun _ _ => rfl))))
      (qD (qU (i := 9) sc__law_again.nd rfl (Or.inl rfl) (qf (kQ rfl) rfl T.b_max rfl (qA (pv 6) (qA (pv 2) qC))))
      (qD (qU (i := 10) sc__law_again.nd rfl (Or.inl rfl) (qf (zN rfl) rfl T.b_min rfl (qA (pv 8) (qA (pv 3) qC))))
      (qD (zZ (qc (PW.pt (zW (qL zT (qJ qH (pv 7) qB (fun _ _ => rfl)) qM (qS _)) (xw (qL z9 (pv 9) (pv 10) (qS _))))) (qI (qx (vj F.plainAttrs_list F.slot_list_append F.type_list_append jl (pv 4) (qA (qX (qA qM (qA (pv 1) (qA (pv 9) (qA (qK T.d__law_part (qEc T) hr rfl (qA (pv 7) (qA (qW jM (pv 9) (pv 6)) (qA (qW jM (pv 10) (pv 6)) qC)))) qC))))) qC)))) qO))
      (qD (xp PassesOwn.never rfl (jC (qh (qA (pv 2) (qA (pv 3) qC)))) (jL (i := 11) sc__law_again.nd rfl (Or.inl rfl)) (qI (qc (PW.pt (zW (qL zT (qJ qH (pv 7) qB (fun _ _ => rfl)) qM (qS _)) (zW (qL z9 (pv 6) (pv 11) (qS _)) (xw (qL z9 (pv 11) (pv 8) (qS _)))))) (qI (qx (vj F.plainAttrs_list F.slot_list_append F.type_list_append jl (pv 5) (qA (qX (qA qM (qA (pv 1) (qA (pv 11) qC)))) qC)))) qO)))
      (qI (qU (i := 6) sc__law_again.nd rfl (Or.inl rfl) (pv 8)))))))))
      (qI (qN (qW j8 (pv 4) (pv 5)))))))), ?_⟩
  try dsimp only [jN, qg]
  have zero : (0 : Nat) ≤ sizeLine := by decide
  have two : (2 : Nat) ≤ sizeLine := by decide
  have three : (3 : Nat) ≤ sizeLine := by decide
  have four : (4 : Nat) ≤ sizeLine := by decide
  refine ⟨zero, fun rz hrz => ⟨zero, fun hq hhq => ?_⟩⟩
  have w1 := qF hrz (.lst [])
  have w2 := qF hhq (.lst [])
  have w0 := w1.trans w2
  have hqn : H hq = none := w1.free hhq
  have nrh : rz ≠ hq := fun e => by rw [← e, qE] at hhq; cases hhq
  have hvl := his.len
  refine ⟨_, rfl, z, rfl, ⟨_, SqL.of (w0 _ _ hz)⟩, jk (K := K) (a := z) (xs := vs) (fun i σ H' => ∃ (o1 o2 o3 o4 o5 : Option V) (b : Int) (rs hs : List Dy), σ = [some (.ref z), some (.int n), some (.int lo), some (.int hi), some (.ref rz), some (.ref hq), some (.int b), o1, o2, o3, o4, o5] ∧ DL H' rz rs ∧ DL H' hq hs ∧ rs ++ qHp n lo hi b (ms.drop i) = qHp n lo hi 0 ms ∧ hs ++ qD5 n lo hi b (ms.drop i) = qD5 n lo hi 0 ms ∧ rs.length ≤ i ∧ hs.length ≤ 2 * i ∧ 0 ≤ b ∧ Same H H')
    ⟨none, none, none, none, none, 0, [], [], rfl, ⟨[], w2 _ _ qE, trivial⟩, ⟨[], qE, trivial⟩, rfl, rfl, Nat.le_refl _, Nat.le_refl _, by decide, w0⟩ ?_ ?_ ?_⟩
  · rintro i σ H' hi' ⟨o1, o2, o3, o4, o5, b, rs, hs, rfl, _, _, _, _, _, _, _, e⟩
    exact SqL.of (e _ _ hz)
  · rintro i x σ H' hx ⟨o1, o2, o3, o4, o5, b, rs, hs, rfl, ⟨us1, hr1, hR⟩, ⟨us2, hh1, hS⟩, ap1, ap2, l1, l2, b0, e⟩
    obtain ⟨m, hmm, hIx⟩ := his.get hx
    have hI := hIx.ts (qV e)
    have hin : i < ms.length := (glt hmm)
    obtain ⟨hBm, hmo⟩ := hB m (List.mem_of_getElem? hmm)
    obtain ⟨m0, mx⟩ := hP m (List.mem_of_getElem? hmm)
    obtain ⟨zi, xi, rfl, hzi, a0, am⟩ := id hI.opn
    rw [← qMm mx] at am
    have lr := hR.len
    have lh := hS.len
    rw [j3 hmm, qHp] at ap1
    rw [j3 hmm, qD5] at ap2
    refine ⟨_, rfl, _, rfl, _, rfl, zi, xi, _, _, rfl, rfl, SqT.of hzi, am, _, _, rfl, rfl, ?_⟩
    refine ⟨_, rfl, _, rfl, _, _, rfl, ?_⟩
    refine ⟨_, rfl, _, rfl, _, _, rfl, ?_⟩
    dsimp only
    rw [show (if lo > b then lo else b) = ze b lo from rfl, show (if hi < b + m.mo then hi else b + m.mo) = vG (b + m.mo) hi from rfl]
    refine ⟨fun σ H2 => ∃ rs', σ = [some (.ref z), some (.int n), some (.int lo), some (.int hi), some (.ref rz), some (.ref hq), some (.int b), some (.ref zi), some (.int (b + m.mo)), some (.int (ze b lo)), some (.int (vG (b + m.mo) hi)), o5] ∧ DL H2 rz rs' ∧ DL H2 hq hs ∧ rs' ++ qHp n lo hi (b + m.mo) (ms.drop (i + 1)) = qHp n lo hi 0 ms ∧ rs'.length ≤ i + 1 ∧ Same H H2, ?_, ?_⟩
    · have skip : rs ++ ([] ++ qHp n lo hi (b + m.mo) (ms.drop (i + 1))) = rs ++ qHp n lo hi (b + m.mo) (ms.drop (i + 1)) := by simp
      refine ⟨_, rfl, zi, xi, _, _, rfl, rfl, SqT.of hzi, a0, rfl, _, rfl, xN (fun c => ?_) (fun c => ?_)⟩
      · have hw : m.wd ≠ "gap" := by simpa using c
        refine ⟨_, rfl, _, rfl, _, _, rfl, rfl, _, rfl, xN (fun c2 => ?_) (fun c2 => ?_)⟩
        · have hc : ze b lo < vG (b + m.mo) hi := of_decide_eq_true (show decide (ze b lo < vG (b + m.mo) hi) = true from c2)
          rw [if_pos ⟨hw, hc⟩] at ap1
          refine ⟨_, rfl, .inl ⟨rfl, _, SqL.of hr1⟩, _, rfl, _, rfl, _, rfl, _, rfl, _, rfl, _, _, rfl, rfl, _, rfl, _, rfl, _, _, rfl, rfl, ?_⟩
          refine ⟨_, m, ze b lo - b, vG (b + m.mo) hi - b, rfl, hI, hBm, ?_, mx, hw, fun u H3 e3 hI3 => ⟨four, fun g hg => ?_⟩⟩
          · have h1' : lo.natAbs ≤ 2 ^ 500 := by
              have := Int.natAbs_of_nonneg h0
              have h1'' : ((lo.natAbs : Nat) : Int) ≤ ((2 ^ 500 : Nat) : Int) := by rw [this]; exact_mod_cast h5
              exact_mod_cast h1''
            refine Nat.lt_of_le_of_lt (Nat.le_trans ?_ h1') (Nat.pow_lt_pow_right (by decide) (by decide) : 2 ^ 500 < 2 ^ 700)
            have := qHv b lo
            omega
          have wg := qF hg (.tup [.str "lay_over", .int n, .int (ze b lo), u])
          have ww := e3.trans wg
          refine ⟨rz, _, _, rfl, rfl, ww _ _ hr1, qd (by omega), ?_⟩
          have tu := jm (o := .lst (us1 ++ [.ref g])) (ww _ _ hr1)
          refine ⟨rs ++ [.aI "lay_over" n (ze b lo) (qCr m (ze b lo - b) (vG (b + m.mo) hi - b))], rfl, ⟨_, qE, ((hR.ts (qV ww)).app (.one (d := .aI "lay_over" n (ze b lo) (qCr m (ze b lo - b) (vG (b + m.mo) hi - b))) ⟨g, u, rfl, qE, hI3.ts (qV wg)⟩)).ts tu⟩, ⟨_, ?_, (hS.ts (qV ww)).ts tu⟩, by rw [List.append_assoc]; exact ap1, by rw [List.length_append]; show rs.length + 1 ≤ i + 1; omega, q8 (e.trans ww) hrz⟩
          rw [qi nrh.symm]
          exact ww _ _ hh1
        · rw [if_neg (fun z => c2 (show decide (ze b lo < vG (b + m.mo) hi) = true from decide_eq_true z.2)), skip] at ap1
          exact ⟨rs, rfl, ⟨_, hr1, hR⟩, ⟨_, hh1, hS⟩, ap1, by omega, e⟩
      · have hw : ¬ m.wd ≠ "gap" := by simpa using c
        rw [if_neg (fun z => hw z.1), skip] at ap1
        exact qo ⟨rs, rfl, ⟨_, hr1, hR⟩, ⟨_, hh1, hS⟩, ap1, by omega, e⟩
    clear ap1 hr1 hR lr
    rintro σ H2 ⟨rs', rfl, hDr, ⟨us3, hh3, hS3⟩, ap1, l1', e2⟩
    have lh3 := hS3.len
    refine ⟨_, rfl, _, rfl, two, fun ml hml => ?_⟩
    have wm := qF hml (.lst [.int lo, .int hi])
    have nmr : ml ≠ rz := fun z => by obtain ⟨_, q, _⟩ := hDr; rw [z, q] at hml; cases hml
    have nmh : ml ≠ hq := fun z => by rw [z, hh3] at hml; cases hml
    refine ⟨ml, rfl, ⟨_, SqL.of qE⟩, jk (K := K) (a := ml) (xs := [.int lo, .int hi]) (fun j σ H3 => ∃ o5, σ = [some (.ref z), some (.int n), some (.int lo), some (.int hi), some (.ref rz), some (.ref hq), some (.int b), some (.ref zi), some (.int (b + m.mo)), some (.int (ze b lo)), some (.int (vG (b + m.mo) hi)), o5] ∧ DL H3 rz rs' ∧ DL H3 hq (hs ++ hm n b m ([lo, hi].take j)) ∧ Same H H3 ∧ H3 ml = some (.lst [.int lo, .int hi]))
      ⟨_, rfl, hDr.same wm, ⟨us3, wm _ _ hh3, by rw [List.take_zero]; show IsDys _ (hs ++ []) _; rw [List.append_nil]; exact hS3.ts (qV wm)⟩, e2.trans wm, qE⟩ ?_ ?_ ?_⟩
    · rintro j σ H3 hj ⟨o, rfl, _, _, _, k3⟩
      exact SqL.of k3
    · rintro j x σ H3 hx3 ⟨o, rfl, ⟨us4, hr4, hR4⟩, ⟨us5, hh5, hS5⟩, e3, k3⟩
      obtain ⟨t, ht, rfl⟩ := ku (xs := [lo, hi]) hx3
      have hj2 : j < 2 := (glt ht)
      have etk : [lo, hi].take (j + 1) = [lo, hi].take j ++ [t] := by rw [List.take_add_one, ht]; rfl
      have hI3 := hIx.ts (qV e3)
      have hzi3 := e3
      obtain ⟨zi', xi', hze, hzi3, a03, _⟩ := id hI3.opn
      cases hze
      have no : vw m b t = false → hm n b m ([lo, hi].take (j + 1)) = hm n b m ([lo, hi].take j) := fun h => by
        unfold hm
        rw [etk, List.filter_append]
        simp [h]
      have nx : vw m b t = false → ∃ o5, [some (V.ref z), some (.int n), some (.int lo), some (.int hi), some (.ref rz), some (.ref hq), some (.int b), some (.ref zi), some (.int (b + m.mo)), some (.int (ze b lo)), some (.int (vG (b + m.mo) hi)), some (.int t)] = [some (.ref z), some (.int n), some (.int lo), some (.int hi), some (.ref rz), some (.ref hq), some (.int b), some (.ref zi), some (.int (b + m.mo)), some (.int (ze b lo)), some (.int (vG (b + m.mo) hi)), o5] ∧ DL H3 rz rs' ∧ DL H3 hq (hs ++ hm n b m ([lo, hi].take (j + 1))) ∧ Same H H3 ∧ H3 ml = some (.lst [.int lo, .int hi]) := fun h => ⟨_, rfl, ⟨us4, hr4, hR4⟩, ⟨us5, hh5, by rw [no h]; exact hS5⟩, e3, k3⟩
      have l5 := hS5.len
      have l6 : (hs ++ hm n b m ([lo, hi].take j)).length ≤ 2 * i + 2 := by
        rw [List.length_append]
        have : (hm n b m ([lo, hi].take j)).length ≤ 2 := by
          unfold hm
          rw [List.length_map]
          refine Nat.le_trans (List.length_filter_le _ _) ?_
          rw [List.length_take]
          exact Nat.min_le_right _ _
        omega
      refine ⟨_, rfl, zi, xi', _, _, rfl, rfl, SqT.of hzi3, a03, rfl, _, rfl, xN (fun c1 => ?_) (fun c1 => ?_)⟩
      · refine ⟨_, rfl, _, rfl, _, _, rfl, rfl, _, rfl, xN (fun c2 => ?_) (fun c2 => ?_)⟩
        · refine ⟨_, rfl, _, rfl, _, _, rfl, rfl, _, rfl, xN (fun c3 => ?_) (fun c3 => ?_)⟩
          · have h : vw m b t = true := by
              unfold vw
              rw [decide_eq_true (show m.wd ≠ "gap" by simpa using c1), decide_eq_true (show b < t by simpa using c2), decide_eq_true (show t < b + m.mo by simpa using c3)]
              rfl
            refine ⟨_, rfl, .inl ⟨rfl, _, SqL.of hh5⟩, _, rfl, _, rfl, three, fun g hg => ?_⟩
            have wg := qF hg (.tup [.str "heal", .int n, .int t])
            refine ⟨hq, _, _, rfl, rfl, wg _ _ hh5, qd (by omega), ?_⟩
            have tu := jm (o := .lst (us5 ++ [.ref g])) (wg _ _ hh5)
            refine ⟨_, rfl, ⟨_, ?_, (hR4.ts (qV wg)).ts tu⟩, ⟨_, qE, ?_⟩, q8 (e3.trans wg) hqn, ?_⟩
            · rw [qi nrh]
              exact wg _ _ hr4
            · have : hm n b m ([lo, hi].take (j + 1)) = hm n b m ([lo, hi].take j) ++ [.a3 "heal" n t] := by
                unfold hm
                rw [etk, List.filter_append]
                simp [h]
              rw [this, ← List.append_assoc]
              exact ((hS5.ts (qV wg)).app (.one (d := .a3 "heal" n t) ⟨g, rfl, qE⟩)).ts tu
            · rw [qi nmh]
              exact wg _ _ k3
          · exact nx (by unfold vw; rw [decide_eq_false (show ¬ t < b + m.mo by simpa using c3)]; simp)
        · exact qo (nx (by unfold vw; rw [decide_eq_false (show ¬ b < t by simpa using c2)]; simp))
      · exact qo (nx (by unfold vw; rw [decide_eq_false (show ¬ m.wd ≠ "gap" by simpa using c1)]; simp))
    · rintro σ H3 ⟨o, rfl, hDr4, hDh4, e3, k3⟩
      refine ⟨_, rfl, _, _, _, _, _, _, rs', hs ++ hm n b m [lo, hi], rfl, hDr4, hDh4, ap1, by rw [List.append_assoc]; exact ap2, l1', ?_, by omega, e3⟩
      have : (hm n b m [lo, hi]).length ≤ 2 := by unfold hm; rw [List.length_map]; exact List.length_filter_le _ _
      rw [List.length_append]
      omega
  · rintro σ H' ⟨o1, o2, o3, o4, o5, b, rs, hs, rfl, ⟨us1, hr1, hR⟩, ⟨us2, hh1, hS⟩, ap1, ap2, l1, l2, b0, e⟩
    rw [hvl, List.drop_length, qHp, List.append_nil] at ap1
    rw [hvl, List.drop_length, qD5, List.append_nil] at ap2
    have lr := hR.len
    have lh := hS.len
    refine ⟨_, rfl, _, rfl, rz, hq, _, _, rfl, rfl, hr1, hh1, jh (by omega), fun y hy => ?_⟩
    have wy := qF hy (.lst (us1 ++ us2))
    refine kk y _ (e.trans wy) ⟨_, qE, ?_⟩
    rw [← qLh hP h0 hlh, ← ap1, ← ap2]
    exact (hR.app hS).ts (qV wy)
theorem qH0 (tie : List Int) (n : Int) : ((tie.filter (fun x => decide (x ≠ n))).map V.int).length ≤ tie.length := by
  rw [List.length_map]
  exact List.length_filter_le _ _
def wo : Sp := fun vs H Q _ => ∃ (tz tl ti : Addr) (tie : List Int) (n : Int), vs = [.ref tz, .int n] ∧ H tz = some (.tup [.ref tl, .ref ti]) ∧ H ti = some (.lst (tie.map V.int)) ∧ tie.length ≤ 300 ∧
  ∀ (y : Addr) (H' : Hp), Same H H' → H' y = some (.lst ((chF tie n true).map V.int)) → Q (.ref y) H'
theorem kN (T : Tx K mg a) : FnOk P w K mg base CX0 1 a.a__law_touched a.f__law_touched ["_law_table_here", "_law_number"] wo := by
  refine T.d__law_touched.F.ok qAg (fun vs H Q E h => ?_) (fun cdv A outer s H vs Q E hr h => ?_)
  · obtain ⟨tz, tl, ti, tie, n, rfl, _⟩ := h
    rfl
  obtain ⟨tz, tl, ti, tie, n, rfl, htz, hti, htl, kk⟩ := h
  refine ⟨_, (qD (qc (qL ja (pv 1) (qJ qH (pv 0) qB (fun _ _ => rfl)) rfl) (qI (qN (qW j8 (qh (qA (pv 1) qC)) (qB5 ["_law_number"] [1] rfl (jC (qJ qH (pv 0) qB (fun _ _ => rfl))) (fun _ _ _ _ => (qL zT (pv 0) (pv 1) (qS _))) (fun _ _ _ _ => (pv 0)))))) qO)
      (qI (qN (qh (qA (pv 1) qC))))), ?_⟩
  try dsimp only [jN, qg]
  have one : (1 : Nat) ≤ sizeLine := by decide
  refine ⟨_, rfl, qY rfl (SqT.of htz) at1 ⟨ti, _, rfl, .inl (SqL.of hti), rfl, qBc tie, decide (n ∈ tie), ?_, ?_⟩⟩
  · show V.bl (inV (.int n) (tie.map V.int)) = _
    rw [qF5]
  by_cases hm : n ∈ tie
  · rw [decide_eq_true hm]
    refine j5 ⟨_, rfl, one, fun l1 hl1 => ?_⟩
    have w1 := qF hl1 (.lst [.int n])
    have k1 : upd H l1 (.lst [.int n]) l1 = some (.lst [.int n]) := qE
    change _
    generalize upd H l1 (.lst [.int n]) = H1 at w1 k1
    refine (qY rfl (SqT.of (w1 _ _ htz)) at1 ⟨ti, rfl, ⟨_, SqL.of (w1 _ _ hti)⟩, kU (K := K) (a := ti) (xs := tie.map V.int) (fun j acc H2 => acc = ((tie.take j).filter (fun x => decide (x ≠ n))).map V.int ∧ H2 = H1) ⟨rfl, rfl⟩ ?_ ?_ ?_⟩)
    · rintro j acc H2 hj ⟨rfl, rfl⟩
      refine ⟨SqL.of (w1 _ _ hti), qd ?_⟩
      have := qH0 (tie.take j) n
      rw [List.length_take] at this
      omega
    · rintro j x acc H2 hj hx ⟨rfl, rfl⟩
      obtain ⟨xi, hxi, rfl⟩ := ku hx
      have etk : tie.take (j + 1) = tie.take j ++ [xi] := by rw [List.take_add_one, hxi]; rfl
      refine ⟨_, rfl, _, rfl, rfl, _, rfl, xN (fun c => ?_) (fun c => ?_)⟩
      · have hne : xi ≠ n := by simpa using c
        refine ⟨_, rfl, Nxt.mk hj ⟨?_, rfl⟩⟩
        rw [etk, List.filter_append, List.map_append]
        simp [hne]
      · have hne : xi = n := by simpa using c
        refine Nxt.mk hj ⟨?_, rfl⟩
        rw [etk, List.filter_append, List.map_append]
        simp [hne]
    rintro acc H2 ⟨rfl, rfl⟩ l2 hl2
    rw [List.length_map, List.take_length]
    have w2 := qF hl2 (.lst ((tie.filter (fun x => decide (x ≠ n))).map V.int))
    refine ⟨l1, l2, _, _, rfl, rfl, w2 _ _ k1, qE, ?_, fun y hy => ?_⟩
    · have := qH0 tie n
      have := jh (j := 1 + ((tie.filter (fun x => decide (x ≠ n))).map V.int).length) (by omega)
      exact this
    refine kk y _ ((w1.trans w2).trans (qF hy _)) ?_
    unfold chF
    rw [if_pos ⟨rfl, hm⟩, qE]
    rfl
  · rw [decide_eq_false hm]
    refine qo ⟨_, rfl, one, fun p hp => ?_⟩
    refine kk p _ (qF hp _) ?_
    unfold chF
    rw [if_neg (fun z => hm z.2), qE]
    rfl
def qAx : Sp := fun vs H Q _ => ∃ (z : Addr) (ms : List Im) (t : Int), vs = [.ref z, .int t] ∧ Tr H z ms ∧ Pos ms ∧ Q (.bl (withG t 0 ms)) H
theorem qA4 (T : Tx K mg a) : FnOk P w K mg base CX0 1 a.a__law_cut_at a.f__law_cut_at ["_law_track", "_law_moment"] qAx := by
  refine T.d__law_cut_at.F.ok sc__law_cut_at (fun vs H Q E h => ?_) (fun cdv A outer s H vs Q E hr h => ?_)
  · obtain ⟨z, ms, t, rfl, _⟩ := h
    rfl
  obtain ⟨z, ms, t, rfl, ⟨vs, hz, his⟩, hP, kk⟩ := h
  refine ⟨_, (qD (qU (i := 2) sc__law_cut_at.nd rfl (Or.inl rfl) qB)
      (qD (xp PassesOwn.never rfl (jC (pv 0)) (jL (i := 3) sc__law_cut_at.nd rfl (Or.inl rfl)) (qD (qc (PW.pt (zW (qL zT (qJ qH (pv 3) qB (fun _ _ => rfl)) qM (qS _)) (zW (qL z9 (pv 2) (pv 1) (qS _)) (xw (qL z9 (pv 1) (qW qj (pv 2) (qJ qH (pv 3) (zM jn qB) (fun _ _ => rfl))) (qS _)))))) (qI (qN zh)) qO)
      (qI (qU (i := 2) sc__law_cut_at.nd rfl (Or.inl rfl) (qW qj (pv 2) (qJ qH (pv 3) (zM jn qB) (fun _ _ => rfl)))))))
      (qI (qN zh)))), ?_⟩
  try dsimp only [jN, qg]
  have hvl := his.len
  refine ⟨_, rfl, z, rfl, ⟨_, SqL.of hz⟩, jk (K := K) (a := z) (xs := vs) (fun i σ H' => ∃ (o : Option V) (b : Int), σ = [some (.ref z), some (.int t), some (.int b), o] ∧ withG t b (ms.drop i) = withG t 0 ms ∧ H' = H) ⟨none, 0, rfl, rfl, rfl⟩ ?_ ?_ ?_⟩
  · rintro i σ H' hi' ⟨o, b, rfl, _, rfl⟩
    exact SqL.of hz
  · rintro i x σ H' hx ⟨o, b, rfl, ap, rfl⟩
    obtain ⟨m, hmm, hI⟩ := his.get hx
    obtain ⟨m0, mx⟩ := hP m (List.mem_of_getElem? hmm)
    obtain ⟨zi, xi, rfl, hzi, a0, am⟩ := id hI.opn
    rw [← qMm mx] at am
    rw [j3 hmm, withG] at ap
    have nx : vw m b t = false → ∃ (o : Option V) (b' : Int), [some (V.ref z), some (.int t), some (.int (b + m.mo)), some (.ref zi)] = [some (.ref z), some (.int t), some (.int b'), o] ∧ withG t b' (ms.drop (i + 1)) = withG t 0 ms ∧ H' = H' := fun h => ⟨_, _, rfl, by rw [h, Bool.false_or] at ap; exact ap, rfl⟩
    refine ⟨_, rfl, zi, xi, _, _, rfl, rfl, SqT.of hzi, a0, rfl, _, rfl, xN (fun c1 => ?_) (fun c1 => ?_)⟩
    · refine ⟨_, rfl, _, rfl, _, _, rfl, rfl, _, rfl, xN (fun c2 => ?_) (fun c2 => ?_)⟩
      · refine ⟨_, rfl, _, rfl, _, rfl, _, rfl, zi, xi, _, _, rfl, rfl, SqT.of hzi, am, _, _, rfl, rfl, _, _, rfl, rfl, _, rfl, xN (fun c3 => ?_) (fun c3 => ?_)⟩
        · have h : vw m b t = true := by
            unfold vw
            rw [decide_eq_true (show m.wd ≠ "gap" by simpa using c1), decide_eq_true (show b < t by simpa using c2), decide_eq_true (show t < b + m.mo by simpa using c3)]
            rfl
          rw [h, Bool.true_or] at ap
          rw [← ap] at kk
          exact kk
        · exact ⟨_, rfl, _, rfl, _, rfl, zi, xi, _, _, rfl, rfl, SqT.of hzi, am, _, _, rfl, rfl, nx (by unfold vw; rw [decide_eq_false (show ¬ t < b + m.mo by simpa using c3)]; simp)⟩
      · exact qo ⟨_, rfl, _, rfl, _, rfl, zi, xi, _, _, rfl, rfl, SqT.of hzi, am, _, _, rfl, rfl, nx (by unfold vw; rw [decide_eq_false (show ¬ b < t by simpa using c2)]; simp)⟩
    · exact qo ⟨_, rfl, _, rfl, _, rfl, zi, xi, _, _, rfl, rfl, SqT.of hzi, am, _, _, rfl, rfl, nx (by unfold vw; rw [decide_eq_false (show ¬ m.wd ≠ "gap" by simpa using c1)]; simp)⟩
  · rintro σ H' ⟨o, b, rfl, ap, rfl⟩
    rw [hvl, List.drop_length, withG] at ap
    rw [← ap] at kk
    exact kk
theorem nd4 : ¬ (HT.sIx 4 0 none = 0 ∧ HT.sIx 4 4 (some 3) = 4) := by decide
theorem qBx (ts : List (List Im)) (t : Int) : ∀ ks : List Int, (∀ k ∈ ks, Pos (trk ts k)) → (ks.flatMap fun k => j4 (trk ts k) k [t]) = (ks.filter fun k => withG t 0 (trk ts k)).map fun k => .a3 "heal" k t
  | [], _ => rfl
  | k :: r, h => by
    rw [List.flatMap_cons, qBx ts t r (fun x hx => h x (by simp [hx])), qHs (h k (by simp)), List.filter_cons]
    cases hw : withG t 0 (trk ts k) <;> simp [hw]
def qOk : Dk → Prop
  | .opn t _ => 0 ≤ t
  | .cls t u => 0 ≤ t ∧ t < u ∧ t ≤ 2 ^ 500
  | .lft t u => 0 ≤ t ∧ t < u ∧ t ≤ 2 ^ 500
  | .lin t m => 0 ≤ t ∧ m.wd ≠ "mix"
  | .lov t m => 0 ≤ t ∧ t ≤ 2 ^ 500 ∧ 0 < m.mo ∧ m.wd ≠ "mix"
  | _ => False
def qN1 (ts : List (List Im)) (tie : List Int) (n : Int) (d : Dk) : List Dy := match d.room with
  | some len => qKp ts tie n d.t len
  | none => qMl ts tie n d
theorem DAt.four {H : Hp} {dz : Addr} {n : Int} {d : Dk} (h : DAt H dz n d) (o : qOk d) : ∃ v, H dz = some (.tup [.str d.wd, .int n, .int d.t, v]) := by
  cases d with
  | cut t => exact o.elim
  | hel t => exact o.elim
  | opn t l => exact ⟨_, h⟩
  | cls t l => exact ⟨_, h⟩
  | lft t l => exact ⟨_, h⟩
  | lin t l => obtain ⟨v, h, _⟩ := h; exact ⟨v, h⟩
  | lov t l => obtain ⟨v, h, _⟩ := h; exact ⟨v, h⟩
def qFh : Sp := fun vs H Q _ => ∃ (tz dz : Addr) (ts : List (List Im)) (tie : List Int) (n : Nat) (d : Dk), vs = [.ref tz, .ref dz] ∧ TabP H tz ts tie n ∧ DAt H dz (n : Int) d ∧ qOk d ∧
  ∀ (y : Addr) (H' : Hp), Same H H' → DL H' y (qN1 ts tie n d) → Q (.ref y) H'
theorem qEw (T : Tx K mg a) : FnOk P w K mg base CX0 4 a.a__law_due a.f__law_due ["_law_table_here", "_law_deed_here"] qFh := by
  refine T.d__law_due.F.ok sc__law_due (fun vs H Q E h => ?_) (fun cdv A outer s H vs Q E hr h => ?_)
  · obtain ⟨tz, dz, ts, tie, n, d, rfl, _⟩ := h
    rfl
  obtain ⟨tz, dz, ts, tie, n, d, rfl, hTP, hD, hO, kk⟩ := h
  refine ⟨_, (qD (qBi (j6 qKw (pv 1) x6 (xn qB)) (qKv rfl (vI (jL (i := 2) sc__law_due.nd rfl (Or.inl rfl)) (vI (jL (i := 3) sc__law_due.nd rfl (Or.inl rfl)) (vI (jL (i := 4) sc__law_due.nd rfl (Or.inr rfl)) qId)))))
      (qD (qc (PW.pt (xM (qL jD (pv 2) qM (qS _)) (jR (qL jD (pv 2) qM (qS _))))) (qD (qU (i := 5) sc__law_due.nd rfl (Or.inl rfl) (qJ qH (pv 1) qB (fun _ _ => rfl)))
      (qD (zZ (qc (qL jD (pv 2) qM (qS _)) (qI (qU (i := 5) sc__law_due.nd rfl (Or.inl rfl) (qJ qH (qJ qH (pv 1) qB (fun _ _ => rfl)) (zM jn qB) (fun _ _ => rfl)))) qO))
      (qD (qKr (i := 6) ["_law_table_here", "_law_moment"] [0, 4] sc__law_due.nd rfl rfl rfl (jC (qK T.d__law_touched (kN T) hr rfl (qA (pv 0) (qA (pv 3) qC)))) (fun _ _ _ _ => (q9 (qK T.d__law_cut_at (qA4 T) hr rfl (qA (qJ (qF9 (K := K) rfl) (qJ (qBp (K := K) rfl) (pv 1) qB (fun _ _ => rfl)) (pv 0) (fun _ _ => rfl)) (qA (pv 2) qC))))) (fun _ _ _ _ => (pv 0)))
      (qI (qN (qW j8 (qh (qA (qX (qA qM (qA (pv 3) (qA (pv 4) (qA (qW qj (pv 4) (pv 5)) qC))))) qC)) (ve ["_law_moment"] [4] rfl (jC (pv 6)) (fun _ _ _ _ => (qX (qA qM (qA (pv 0) (qA (pv 1) qC)))))))))))) qO)
      (qD (qc (qL jD (pv 2) qM (qS _)) (qD (qU (i := 7) sc__law_due.nd rfl (Or.inl rfl) (qh (qA (qX (qA qM (qA (pv 3) (qA (pv 4) (qA (qW jM (qJ qH (pv 1) qB (fun _ _ => rfl)) (pv 4)) qC))))) qC)))
      (qD (xp PassesOwn.never rfl (jC (qK T.d__law_touched (kN T) hr rfl (qA (pv 0) (qA (pv 3) qC)))) (jL (i := 8) sc__law_due.nd rfl (Or.inl rfl)) (qI (qU (i := 7) sc__law_due.nd rfl (Or.inl rfl) (qW j8 (pv 7) (qK T.d__law_again (kD T) hr rfl (qA (qJ qm (qJ qH (pv 0) qB (fun _ _ => rfl)) (pv 8) (fun _ _ => rfl)) (qA (pv 8) (qA (pv 4) (qA (qJ qH (pv 1) qB (fun _ _ => rfl)) qC)))))))))
      (qI (qN (pv 7))))) qO)
      (qD (qc (qL jD (pv 2) qM (qS _)) (qI (qN (qK T.d__law_again (kD T) hr rfl (qA (qJ qm (qJ qH (pv 0) qB (fun _ _ => rfl)) (pv 3) (fun _ _ => rfl)) (qA (pv 3) (qA (pv 4) (qA (qJ qH (pv 1) qB (fun _ _ => rfl)) qC))))))) qO)
      (qD (qU (i := 9) sc__law_due.nd rfl (Or.inl rfl) (qW qj (pv 4) (qJ qH (qJ qH (pv 1) qB (fun _ _ => rfl)) (zM jn qB) (fun _ _ => rfl))))
      (qI (qN (qW j8 (qh (qA (qX (qA qM (qA (pv 3) (qA (pv 4) (qA (pv 9) qC))))) qC)) (qK T.d__law_again (kD T) hr rfl (qA (qJ qm (qJ qH (pv 0) qB (fun _ _ => rfl)) (pv 3) (fun _ _ => rfl)) (qA (pv 3) (qA (pv 4) (qA (pv 9) qC))))))))))))), ?_⟩
  try dsimp only [jN, qg]
  have one : (1 : Nat) ≤ sizeLine := by decide
  have three : (3 : Nat) ≤ sizeLine := by decide
  have four : (4 : Nat) ≤ sizeLine := by decide
  obtain ⟨tt, tl, ti, zs, e0, g2, g3, g4, g5⟩ := id hTP.tab
  cases e0
  have hnt := hTP.nt
  obtain ⟨hcl, hch⟩ := hTP.ch true
  obtain ⟨z1, ms1, ez1, hms1, tT1⟩ := TabF.tr (tz := tz) (tl := tl) (ti := ti) g4 hnt
  obtain ⟨hP1, hMB1, hM1⟩ := hTP.pos ms1 (List.mem_of_getElem? hms1)
  have htl := hTP.tl
  obtain ⟨v, w0, t0, hw0, ht0, hd⟩ : ∃ v w0 t0, d.wd = w0 ∧ d.t = t0 ∧ H dz = some (.tup [.str w0, .int n, .int t0, v]) := let ⟨v, h⟩ := hD.four hO; ⟨v, _, _, rfl, rfl, h⟩
  refine ⟨_, rfl, _, rfl, dz, _, rfl, SqT.of hd, nd4, fun q hq => ?_⟩
  rw [show zd [V.str w0, .int n, .int t0, v] none (some 3) = [.str w0, .int n, .int t0] from rfl]
  have wq := qF hq (.tup [.str w0, .int n, .int t0])
  have kq : upd H q (.tup [.str w0, .int n, .int t0]) q = some (.tup [.str w0, .int n, .int t0]) := qE
  change _
  generalize upd H q (.tup [.str w0, .int n, .int t0]) = H1 at wq kq
  refine ⟨q, _, rfl, SqT.of kq, rfl, _, _, rfl, _, _, rfl, _, _, rfl, rfl, ?_⟩
  have str : ∀ ds : List Dy, d.room = none → ds = qMl ts tie n d → ∀ (y : Addr) (H' : Hp), Same H H' → DL H' y ds → Q (.ref y) H' := fun ds hr' he y H' e h => by
    refine kk y H' e ?_
    unfold qN1
    rw [hr']
    rw [he] at h
    exact h
  cases d with
  | cut t => exact hO.elim
  | hel t => exact hO.elim
  | cls t u =>
    obtain rfl : ("close" : Str) = w0 := hw0
    obtain rfl : t = t0 := ht0
    cases (show v = .int u by have h' : H dz = some (.tup [.str "close", .int n, .int t, .int u]) := hD; rw [h'] at hd; cases hd; rfl)
    obtain ⟨h0, hlt, h5⟩ := hO
    refine ⟨_, rfl, rfl, _, rfl, qo ⟨_, rfl, rfl, _, rfl, qo ?_⟩⟩
    refine ⟨_, rfl, rfl, _, rfl, j5 ?_⟩
    refine ⟨_, rfl, _, rfl, qY rfl (SqT.of (wq _ _ hd)) xq ⟨_, rfl, _, _, rfl, rfl, four, fun g hg => ⟨one, fun rz hrz => ?_⟩⟩⟩
    have wg := qF hg (.tup [.str "open", .int n, .int t, .int (u - t)])
    have wr := qF hrz (.lst [.ref g])
    have e2 := wq.trans (wg.trans wr)
    have hDr : DL (upd (upd H1 g (.tup [.str "open", .int n, .int t, .int (u - t)])) rz (.lst [.ref g])) rz [.a4 "open" n t (u - t)] := ⟨_, qE, ⟨g, rfl, wr _ _ qE⟩, trivial⟩
    change _
    generalize upd (upd H1 g (.tup [.str "open", .int n, .int t, .int (u - t)])) rz (.lst [.ref g]) = H2 at hDr e2
    refine ⟨_, rfl, _, rfl, tz, tl, ti, tie, n, rfl, e2 _ _ g2, e2 _ _ g5, by omega, fun y H3 e3 hy => ?_⟩
    refine ⟨y, rfl, ⟨_, SqL.of hy⟩, jk (K := K) (a := y) (xs := (chF tie (n : Int) true).map V.int) (fun i σ H' => ∃ (o : Option V) (rw' : Addr) (ds : List Dy), σ = [some (.ref tz), some (.ref dz), some (.str "close"), some (.int n), some (.int t), none, none, some (.ref rw'), o, none] ∧ DL H' rw' ds ∧ ds ++ (((chF tie (n : Int) true).drop i).flatMap fun k => kO k t u (trk ts k)) = qMl ts tie n (.cls t u) ∧ ds.length ≤ 1 + 102 * i ∧ Same H3 H')
      ⟨none, rz, _, rfl, hDr.same e3, rfl, Nat.le_refl _, Same.refl _⟩ ?_ ?_ ?_⟩
    · rintro i σ H' hi' ⟨o, rw', ds, rfl, _, _, _, e⟩
      exact SqL.of (e _ _ hy)
    · rintro i x σ H' hx ⟨o, rw', ds, rfl, ⟨us2, hdu, hDs⟩, hap, hdl, e⟩
      obtain ⟨xi, hxi, rfl⟩ := ku hx
      obtain ⟨k, rfl, hk⟩ := hch xi (List.mem_of_getElem? hxi)
      have hil := (glt hxi)
      obtain ⟨z, ms, ez, hms, tT⟩ := TabF.tr (tz := tz) (tl := tl) (ti := ti) g4 hk
      obtain ⟨hP2, hMB, hM2⟩ := hTP.pos ms (List.mem_of_getElem? hms)
      have hdul := hDs.len
      have e4 := e2.trans (e3.trans e)
      rw [j3 hxi, List.flatMap_cons, zQ hms, ← List.append_assoc] at hap
      refine ⟨_, rfl, qY rfl (SqT.of (e4 _ _ g2)) at0 ⟨_, rfl, tl, _, _, _, rfl, rfl, SqL.of (e4 _ _ g3), qq ez, _, rfl, _, rfl, qY rfl (SqT.of (e4 _ _ hd)) xq ?_⟩⟩
      refine ⟨z, ms, k, t, u, rfl, tT.same e4, hMB, hP2, hM2, h0, hlt, h5, fun y2 H5 e5 ⟨us3, hyu, hD3⟩ => ?_⟩
      have l3 := hD3.len
      have l4 := wf k t u ms
      refine ⟨rw', y2, _, _, rfl, rfl, e5 _ _ hdu, hyu, qC6 (by omega), fun y3 hy3 => ?_⟩
      have w5 := qF hy3 (.lst (us2 ++ us3))
      exact ⟨_, y3, _, rfl, ⟨_, qE, (hDs.ts (qV (e5.trans w5))).app (hD3.ts (qV w5))⟩, hap, by rw [List.length_append]; omega, e.trans (e5.trans w5)⟩
    · rintro σ H' ⟨o, rw', ds, rfl, hDL, hap, hdl, e⟩
      rw [List.length_map, List.drop_length, List.flatMap_nil, List.append_nil] at hap
      exact ⟨_, rfl, str ds rfl hap rw' H' (e2.trans (e3.trans e)) hDL⟩
  | lft t u =>
    obtain rfl : ("lift" : Str) = w0 := hw0
    obtain rfl : t = t0 := ht0
    cases (show v = .int u by have h' : H dz = some (.tup [.str "lift", .int n, .int t, .int u]) := hD; rw [h'] at hd; cases hd; rfl)
    obtain ⟨h0, hlt, h5⟩ := hO
    refine ⟨_, rfl, rfl, _, rfl, qo ⟨_, rfl, rfl, _, rfl, qo ?_⟩⟩
    refine ⟨_, rfl, rfl, _, rfl, qo ⟨_, rfl, rfl, _, rfl, j5 ?_⟩⟩
    refine (qY rfl (SqT.of (wq _ _ g2)) at0 ⟨_, rfl, tl, _, _, _, rfl, rfl, SqL.of (wq _ _ g3), qq ez1, _, rfl, _, rfl, qY rfl (SqT.of (wq _ _ hd)) xq ?_⟩)
    refine ⟨z1, ms1, n, t, u, rfl, tT1.same wq, hMB1, hP1, hM1, h0, hlt, h5, fun y H' e h => str _ rfl ?_ y H' (wq.trans e) h⟩
    show _ = [] ++ (chF tie n false).flatMap _
    unfold chF
    rw [if_neg (fun z => absurd z.1 (by decide)), List.flatMap_cons, List.flatMap_nil, List.append_nil, zQ hms1]
    rfl
  | lov t m =>
    obtain rfl : ("lay_over" : Str) = w0 := hw0
    obtain rfl : t = t0 := ht0
    obtain ⟨h0, h5, hm0, mx⟩ := hO
    obtain ⟨v', h', hI⟩ := hD
    rw [h'] at hd
    cases hd
    have hd : H dz = some (.tup [.str "lay_over", .int n, .int t, v]) := h'
    obtain ⟨zi, xi, rfl, hzi, a0, am⟩ := id hI.opn
    rw [← qMm mx] at am
    refine ⟨_, rfl, rfl, _, rfl, qo ⟨_, rfl, rfl, _, rfl, qo ?_⟩⟩
    refine ⟨_, rfl, rfl, _, rfl, qo ⟨_, rfl, rfl, _, rfl, qo ?_⟩⟩
    refine ⟨_, rfl, qY rfl (SqT.of (wq _ _ hd)) xq ⟨_, rfl, zi, _, _, _, rfl, rfl, SqT.of (wq _ _ hzi), am, _, _, rfl, rfl, ?_⟩⟩
    refine ⟨_, rfl, _, rfl, _, rfl, four, fun g hg => ⟨one, fun rz hrz => ?_⟩⟩
    have wg := qF hg (.tup [.str "lift", .int n, .int t, .int (t + m.mo)])
    have wr := qF hrz (.lst [.ref g])
    have e2 := wq.trans (wg.trans wr)
    have kg := wr _ _ (qE (H := H1) (a := g) (o := .tup [.str "lift", .int n, .int t, .int (t + m.mo)]))
    have kr : upd (upd H1 g (.tup [.str "lift", .int n, .int t, .int (t + m.mo)])) rz (.lst [.ref g]) rz = some (.lst [.ref g]) := qE
    change _
    generalize upd (upd H1 g (.tup [.str "lift", .int n, .int t, .int (t + m.mo)])) rz (.lst [.ref g]) = H2 at kg kr e2
    refine (qY rfl (SqT.of (e2 _ _ g2)) at0 ⟨_, rfl, tl, _, _, _, rfl, rfl, SqL.of (e2 _ _ g3), qq ez1, _, rfl, _, rfl, _, rfl, ?_⟩)
    refine ⟨z1, ms1, n, t, t + m.mo, rfl, tT1.same e2, hMB1, hP1, hM1, h0, by omega, h5, fun y2 H5 e5 ⟨us3, hyu, hD3⟩ => ?_⟩
    have l3 := hD3.len
    have l4 := wf n t (t + m.mo) ms1
    refine ⟨rz, y2, _, _, rfl, rfl, e5 _ _ kr, hyu, jh (by show 1 + us3.length ≤ 1000; omega), fun y3 hy3 => ?_⟩
    have w5 := qF hy3 (.lst ([.ref g] ++ us3))
    refine str (.a4 "lift" n t (t + m.mo) :: kO n t (t + m.mo) ms1) rfl ?_ y3 _ (e2.trans (e5.trans w5)) ⟨_, qE, ⟨g, rfl, (e5.trans w5) _ _ kg⟩, hD3.ts (qV w5)⟩
    show _ = [Dy.a4 "lift" n t (t + m.mo)] ++ (chF tie n false).flatMap _
    unfold chF
    rw [if_neg (fun z => absurd z.1 (by decide)), List.flatMap_cons, List.flatMap_nil, List.append_nil, zQ hms1]
    rfl
  | opn t len =>
    obtain rfl : ("open" : Str) = w0 := hw0
    obtain rfl : t = t0 := ht0
    cases (show v = .int len by have h' : H dz = some (.tup [.str "open", .int n, .int t, .int len]) := hD; rw [h'] at hd; cases hd; rfl)
    refine ⟨_, rfl, rfl, _, rfl, qo ⟨_, rfl, rfl, _, rfl, j5 ?_⟩⟩
    refine (qY rfl (SqT.of (wq _ _ hd)) xq ?_)
    refine ⟨fun σ H' => σ = [some (.ref tz), some (.ref dz), some (.str "open"), some (.int n), some (.int t), some (.int len), none, none, none, none] ∧ H' = H1, ⟨_, rfl, rfl, _, rfl, qo ⟨rfl, rfl⟩⟩, ?_⟩
    rintro σ H2 ⟨rfl, rfl⟩
    refine ⟨_, rfl, _, rfl, tz, tl, ti, tie, n, rfl, wq _ _ g2, wq _ _ g5, by omega, fun y H3 e3 hy => ?_⟩
    have e03 := wq.trans e3
    refine ⟨y, rfl, ⟨_, SqL.of hy⟩, kU (K := K) (a := y) (xs := (chF tie (n : Int) true).map V.int) (fun j acc H4 => acc = (((chF tie (n : Int) true).take j).filter fun k => withG t 0 (trk ts k)).map V.int ∧ H4 = H3) ⟨rfl, rfl⟩ ?_ ?_ ?_⟩
    · rintro j acc H4 hj ⟨rfl, rfl⟩
      refine ⟨SqL.of hy, qd ?_⟩
      rw [List.length_map]
      refine Nat.le_trans (List.length_filter_le _ _) ?_
      rw [List.length_take]
      omega
    · rintro j x acc H4 hj hx ⟨rfl, rfl⟩
      obtain ⟨xi, hxi, rfl⟩ := ku hx
      obtain ⟨k, rfl, hk⟩ := hch xi (List.mem_of_getElem? hxi)
      obtain ⟨z, ms, ez, hms, tT⟩ := TabF.tr (tz := tz) (tl := tl) (ti := ti) g4 hk
      obtain ⟨hP2, _⟩ := hTP.pos ms (List.mem_of_getElem? hms)
      have etk : (chF tie (n : Int) true).take (j + 1) = (chF tie (n : Int) true).take j ++ [(k : Int)] := by rw [List.take_add_one, hxi]; rfl
      refine (qY rfl (SqT.of (e03 _ _ g2)) at0 ⟨_, rfl, tl, _, _, _, rfl, rfl, SqL.of (e03 _ _ g3), qq ez, _, rfl, z, ms, t, rfl, tT.same e03, hP2, ?_⟩)
      cases hw : withG t 0 ms with
      | true =>
        refine ⟨true, rfl, j5 ⟨_, rfl, Nxt.mk hj ⟨?_, rfl⟩⟩⟩
        rw [etk, List.filter_append, List.map_append]
        simp [zQ hms, hw]
      | false =>
        refine ⟨false, rfl, qo (Nxt.mk hj ⟨?_, rfl⟩)⟩
        rw [etk, List.filter_append, List.map_append]
        simp [zQ hms, hw]
    rintro acc H4 ⟨rfl, rfl⟩ l2 hl2
    rw [List.length_map, List.take_length]
    have ef : ((chF tie (n : Int) true).flatMap fun k => j4 (trk ts k) k [t]) = ((chF tie (n : Int) true).filter fun k => withG t 0 (trk ts k)).map fun k => .a3 "heal" k t := qBx ts t _ (fun k hk => by
      obtain ⟨k', rfl, hk'⟩ := hch k hk
      obtain ⟨z, ms, ez, hms, tT⟩ := TabF.tr (tz := tz) (tl := tl) (ti := ti) g4 hk'
      rw [zQ hms]
      exact (hTP.pos ms (List.mem_of_getElem? hms)).1)
    have fl : ((chF tie (n : Int) true).filter fun k => withG t 0 (trk ts k)).length ≤ 10 := Nat.le_trans (List.length_filter_le _ _) hcl
    generalize ((chF tie (n : Int) true).filter fun k => withG t 0 (trk ts k)) = fs at ef fl
    have w2 := qF hl2 (.lst (fs.map V.int))
    have k2 : upd H4 l2 (.lst (fs.map V.int)) l2 = some (.lst (fs.map V.int)) := qE
    change _
    generalize upd H4 l2 (.lst (fs.map V.int)) = H5 at w2 k2
    refine ⟨_, rfl, _, rfl, _, rfl, _, rfl, _, _, rfl, rfl, four, fun g hg => ⟨one, fun l3 hl3 => ?_⟩⟩
    have wg := qF hg (.tup [.str "close", .int n, .int t, .int (t + len)])
    have w3 := qF hl3 (.lst [.ref g])
    have kg := w3 _ _ (qE (H := H5) (a := g) (o := .tup [.str "close", .int n, .int t, .int (t + len)]))
    have k3 : upd (upd H5 g (.tup [.str "close", .int n, .int t, .int (t + len)])) l3 (.lst [.ref g]) l3 = some (.lst [.ref g]) := qE
    have w53 := wg.trans w3
    change _
    generalize upd (upd H5 g (.tup [.str "close", .int n, .int t, .int (t + len)])) l3 (.lst [.ref g]) = H6 at kg k3 w53
    refine ⟨_, rfl, l2, rfl, ⟨_, SqL.of (w53 _ _ k2)⟩, zt (K := K) (a := l2) (xs := fs.map V.int) (fun j acc H7 => IsDys H7 ((fs.take j).map fun k => .a3 "heal" k t) acc ∧ Same H6 H7) ⟨trivial, Same.refl _⟩ ?_ ?_ ?_⟩
    · rintro j acc H7 hj ⟨ht, e7⟩
      refine ⟨SqL.of ((w53.trans e7) _ _ k2), qd ?_⟩
      rw [ht.len, List.length_map, List.length_take]
      omega
    · rintro j x acc H7 hj hx ⟨ht, e7⟩
      obtain ⟨xi, hxi, rfl⟩ := ku hx
      have etk : fs.take (j + 1) = fs.take j ++ [xi] := by rw [List.take_add_one, hxi]; rfl
      refine ⟨_, rfl, _, rfl, three, fun g' hg' => Nxt.mk hj ⟨?_, e7.trans (qF hg' _)⟩⟩
      rw [etk, List.map_append]
      exact (ht.ts (qV (qF hg' _))).app (.one (d := .a3 "heal" xi t) ⟨g', rfl, qE⟩)
    rintro acc H7 ⟨ht, e7⟩ l4 hl4
    rw [List.length_map, List.take_length] at ht
    have w4 := qF hl4 (.lst acc)
    have la := ht.len
    rw [List.length_map] at la
    refine ⟨l3, l4, _, _, rfl, rfl, w4 _ _ (e7 _ _ k3), qE, jh (by show 1 + acc.length ≤ 1000; omega), fun y9 hy9 => ?_⟩
    have w9 := qF hy9 (.lst ([.ref g] ++ acc))
    refine kk y9 _ (e03.trans (w2.trans (w53.trans (e7.trans (w4.trans w9))))) ⟨_, qE, ?_⟩
    show IsDys _ (.a4 "close" n t (t + len) :: (chF tie (n : Int) true).flatMap fun k => j4 (trk ts k) k [t]) _
    rw [ef]
    exact ⟨⟨g, rfl, (e7.trans (w4.trans w9)) _ _ kg⟩, ht.ts (qV (w4.trans w9))⟩
  | lin t m =>
    obtain rfl : ("lay_in" : Str) = w0 := hw0
    obtain rfl : t = t0 := ht0
    obtain ⟨h0, mx⟩ := hO
    obtain ⟨v', h', hI⟩ := hD
    rw [h'] at hd
    cases hd
    have hd : H dz = some (.tup [.str "lay_in", .int n, .int t, v]) := h'
    obtain ⟨zi, xi, rfl, hzi, a0, am⟩ := id hI.opn
    rw [← qMm mx] at am
    refine ⟨_, rfl, rfl, _, rfl, j5 ?_⟩
    refine (qY rfl (SqT.of (wq _ _ hd)) xq ?_)
    refine ⟨fun σ H' => σ = [some (.ref tz), some (.ref dz), some (.str "lay_in"), some (.int n), some (.int t), some (.int m.mo), none, none, none, none] ∧ H' = H1, ⟨_, rfl, rfl, _, rfl, j5 (qY rfl (SqT.of (wq _ _ hd)) xq ⟨_, rfl, zi, _, _, _, rfl, rfl, SqT.of (wq _ _ hzi), am, rfl, rfl⟩)⟩, ?_⟩
    rintro σ H2 ⟨rfl, rfl⟩
    refine ⟨_, rfl, _, rfl, tz, tl, ti, tie, n, rfl, wq _ _ g2, wq _ _ g5, by omega, fun y H3 e3 hy => ?_⟩
    have e03 := wq.trans e3
    refine ⟨y, rfl, ⟨_, SqL.of hy⟩, kU (K := K) (a := y) (xs := (chF tie (n : Int) true).map V.int) (fun j acc H4 => acc = (((chF tie (n : Int) true).take j).filter fun k => withG t 0 (trk ts k)).map V.int ∧ H4 = H3) ⟨rfl, rfl⟩ ?_ ?_ ?_⟩
    · rintro j acc H4 hj ⟨rfl, rfl⟩
      refine ⟨SqL.of hy, qd ?_⟩
      rw [List.length_map]
      refine Nat.le_trans (List.length_filter_le _ _) ?_
      rw [List.length_take]
      omega
    · rintro j x acc H4 hj hx ⟨rfl, rfl⟩
      obtain ⟨xi, hxi, rfl⟩ := ku hx
      obtain ⟨k, rfl, hk⟩ := hch xi (List.mem_of_getElem? hxi)
      obtain ⟨z, ms, ez, hms, tT⟩ := TabF.tr (tz := tz) (tl := tl) (ti := ti) g4 hk
      obtain ⟨hP2, _⟩ := hTP.pos ms (List.mem_of_getElem? hms)
      have etk : (chF tie (n : Int) true).take (j + 1) = (chF tie (n : Int) true).take j ++ [(k : Int)] := by rw [List.take_add_one, hxi]; rfl
      refine (qY rfl (SqT.of (e03 _ _ g2)) at0 ⟨_, rfl, tl, _, _, _, rfl, rfl, SqL.of (e03 _ _ g3), qq ez, _, rfl, z, ms, t, rfl, tT.same e03, hP2, ?_⟩)
      cases hw : withG t 0 ms with
      | true =>
        refine ⟨true, rfl, j5 ⟨_, rfl, Nxt.mk hj ⟨?_, rfl⟩⟩⟩
        rw [etk, List.filter_append, List.map_append]
        simp [zQ hms, hw]
      | false =>
        refine ⟨false, rfl, qo (Nxt.mk hj ⟨?_, rfl⟩)⟩
        rw [etk, List.filter_append, List.map_append]
        simp [zQ hms, hw]
    rintro acc H4 ⟨rfl, rfl⟩ l2 hl2
    rw [List.length_map, List.take_length]
    have ef : ((chF tie (n : Int) true).flatMap fun k => j4 (trk ts k) k [t]) = ((chF tie (n : Int) true).filter fun k => withG t 0 (trk ts k)).map fun k => .a3 "heal" k t := qBx ts t _ (fun k hk => by
      obtain ⟨k', rfl, hk'⟩ := hch k hk
      obtain ⟨z, ms, ez, hms, tT⟩ := TabF.tr (tz := tz) (tl := tl) (ti := ti) g4 hk'
      rw [zQ hms]
      exact (hTP.pos ms (List.mem_of_getElem? hms)).1)
    have fl : ((chF tie (n : Int) true).filter fun k => withG t 0 (trk ts k)).length ≤ 10 := Nat.le_trans (List.length_filter_le _ _) hcl
    generalize ((chF tie (n : Int) true).filter fun k => withG t 0 (trk ts k)) = fs at ef fl
    have w2 := qF hl2 (.lst (fs.map V.int))
    have k2 : upd H4 l2 (.lst (fs.map V.int)) l2 = some (.lst (fs.map V.int)) := qE
    change _
    generalize upd H4 l2 (.lst (fs.map V.int)) = H5 at w2 k2
    refine ⟨_, rfl, _, rfl, _, rfl, _, rfl, _, _, rfl, rfl, four, fun g hg => ⟨one, fun l3 hl3 => ?_⟩⟩
    have wg := qF hg (.tup [.str "close", .int n, .int t, .int (t + m.mo)])
    have w3 := qF hl3 (.lst [.ref g])
    have kg := w3 _ _ (qE (H := H5) (a := g) (o := .tup [.str "close", .int n, .int t, .int (t + m.mo)]))
    have k3 : upd (upd H5 g (.tup [.str "close", .int n, .int t, .int (t + m.mo)])) l3 (.lst [.ref g]) l3 = some (.lst [.ref g]) := qE
    have w53 := wg.trans w3
    change _
    generalize upd (upd H5 g (.tup [.str "close", .int n, .int t, .int (t + m.mo)])) l3 (.lst [.ref g]) = H6 at kg k3 w53
    refine ⟨_, rfl, l2, rfl, ⟨_, SqL.of (w53 _ _ k2)⟩, zt (K := K) (a := l2) (xs := fs.map V.int) (fun j acc H7 => IsDys H7 ((fs.take j).map fun k => .a3 "heal" k t) acc ∧ Same H6 H7) ⟨trivial, Same.refl _⟩ ?_ ?_ ?_⟩
    · rintro j acc H7 hj ⟨ht, e7⟩
      refine ⟨SqL.of ((w53.trans e7) _ _ k2), qd ?_⟩
      rw [ht.len, List.length_map, List.length_take]
      omega
    · rintro j x acc H7 hj hx ⟨ht, e7⟩
      obtain ⟨xi, hxi, rfl⟩ := ku hx
      have etk : fs.take (j + 1) = fs.take j ++ [xi] := by rw [List.take_add_one, hxi]; rfl
      refine ⟨_, rfl, _, rfl, three, fun g' hg' => Nxt.mk hj ⟨?_, e7.trans (qF hg' _)⟩⟩
      rw [etk, List.map_append]
      exact (ht.ts (qV (qF hg' _))).app (.one (d := .a3 "heal" xi t) ⟨g', rfl, qE⟩)
    rintro acc H7 ⟨ht, e7⟩ l4 hl4
    rw [List.length_map, List.take_length] at ht
    have w4 := qF hl4 (.lst acc)
    have la := ht.len
    rw [List.length_map] at la
    refine ⟨l3, l4, _, _, rfl, rfl, w4 _ _ (e7 _ _ k3), qE, jh (by show 1 + acc.length ≤ 1000; omega), fun y9 hy9 => ?_⟩
    have w9 := qF hy9 (.lst ([.ref g] ++ acc))
    refine kk y9 _ (e03.trans (w2.trans (w53.trans (e7.trans (w4.trans w9))))) ⟨_, qE, ?_⟩
    show IsDys _ (.a4 "close" n t (t + m.mo) :: (chF tie (n : Int) true).flatMap fun k => j4 (trk ts k) k [t]) _
    rw [ef]
    exact ⟨⟨g, rfl, (e7.trans (w4.trans w9)) _ _ kg⟩, ht.ts (qV (w4.trans w9))⟩
theorem at5 {x y z v w : V} {i : Int} (h0 : 0 ≤ i) (h1 : i < 5) : ∃ u, atI [x, y, z, v, w] i = some u ∧ (u = x ∨ u = y ∨ u = z ∨ u = v ∨ u = w) := by
  have : i = 0 ∨ i = 1 ∨ i = 2 ∨ i = 3 ∨ i = 4 := by omega
  rcases this with rfl | rfl | rfl | rfl | rfl
  · exact ⟨x, rfl, .inl rfl⟩
  · exact ⟨y, rfl, .inr (.inl rfl)⟩
  · exact ⟨z, rfl, .inr (.inr (.inl rfl))⟩
  · exact ⟨v, rfl, .inr (.inr (.inr (.inl rfl)))⟩
  · exact ⟨w, rfl, .inr (.inr (.inr (.inr rfl)))⟩
theorem DAt.ts {H H' : Hp} {dz : Addr} {n : Int} {d : Dk} (e : TS H H') (h : DAt H dz n d) : DAt H' dz n d := by
  cases d with
  | lin t m => obtain ⟨v, h1, h2⟩ := h; exact ⟨v, e _ _ h1, h2.ts e⟩
  | lov t m => obtain ⟨v, h1, h2⟩ := h; exact ⟨v, e _ _ h1, h2.ts e⟩
  | _ => exact e _ _ h
def qO0 : Dk → Prop
  | .opn t l => 0 ≤ t ∧ t ≤ 100 ∧ 1 ≤ l
  | .cls t u => 0 ≤ t ∧ t ≤ 100 ∧ t < u ∧ u ≤ 200
  | .lft t u => 0 ≤ t ∧ t ≤ 100 ∧ t < u ∧ u ≤ 200
  | .lin t m => 0 ≤ t ∧ t ≤ 100 ∧ ∃ l, m = .clip "a" 1 1 1 3 l ∧ 1 ≤ l ∧ l ≤ 20
  | .lov t m => 0 ≤ t ∧ t ≤ 100 ∧ ∃ l, m = .clip "a" 1 1 1 3 l ∧ 1 ≤ l ∧ l ≤ 20
  | _ => False
theorem Lt.sum {ts : List (List Im)} {tie : List Int} {o u : Int} (h : Lt ts tie o u) {k : Nat} {ms : List Im} (hk : ts[k]? = some ms) : 0 ≤ (ms.map Im.l).sum ∧ (ms.map Im.l).sum ≤ 60 ∧ ms.length ≤ 5 := by
  obtain ⟨⟨g, k2, t, rfl, b1, b2, b3, b4, ht⟩, o1, o2, u1, u2, _⟩ := h
  have : k = 0 ∨ k = 1 ∨ k = 2 := by have := (glt hk); simp at this; omega
  rcases this with rfl | rfl | rfl
  · cases hk
    simp [T1, Im.l]
    omega
  · cases hk
    simp [T2, Im.l]
    omega
  · cases hk
    rcases ht with rfl | rfl
    · simp
    · simp [T3, Im.l]
theorem Lt.len {ts : List (List Im)} {tie : List Int} {o u : Int} (h : Lt ts tie o u) : ts.length = 3 := by
  obtain ⟨⟨g, k2, t, rfl, _⟩, _⟩ := h
  rfl
def qD8 : Sp := fun vs H Q _ => ∃ (xz tz : Addr) (n : Nat) (ts : List (List Im)) (tie : List Int) (o u : Int), vs = [.ref xz, .ref tz] ∧ Dr H xz (n + 4) ∧ TabX H xz tz ts tie ∧ Lt ts tie o u ∧
  ∀ (dz : Addr) (H' : Hp) (k : Nat) (d : Dk), RX xz H H' → Dr H' xz n → k < 3 → DAt H' dz (k : Int) d → qO0 d → Q (.ref dz) H'
theorem qDo (T : Tx K mg a) : FnOk P w K mg base CX0 1 a.a__law_deed a.f__law_deed ["_law_xs", "_law_table_here"] qD8 := by
  refine T.d__law_deed.F.ok sc__law_deed (fun vs H Q E h => ?_) (fun cdv A outer s H vs Q E hr h => ?_)
  · obtain ⟨xz, tz, n, ts, tie, o, u, rfl, _⟩ := h
    rfl
  obtain ⟨xz, tz, n, ts, tie, o, u, rfl, D0, hX, hL, kk⟩ := h
  refine ⟨_, (qD (qU (i := 2) sc__law_deed.nd rfl (Or.inl rfl) (qJ qm (qh (qA qM (qA qM (qA qM (qA qM (qA qM qC)))))) (qW jX (qW qr (kI F.plainAttrs_list F.slot_list_pop F.type_list_pop kJ (pv 0)) qB) qB) (fun _ _ => rfl)))
      (qD (qU (i := 3) sc__law_deed.nd rfl (Or.inl rfl) (qW jX (qW qr (kI F.plainAttrs_list F.slot_list_pop F.type_list_pop kJ (pv 0)) qB) qB))
      (qD (qU (i := 4) sc__law_deed.nd rfl (Or.inl rfl) (qW jX (qW qr (kI F.plainAttrs_list F.slot_list_pop F.type_list_pop kJ (pv 0)) qB) (qW qj (qf (qDm rfl) rfl T.b_sum rfl (qA (ve [] [] rfl (jC (qJ qm (qJ qH (pv 1) qB (fun _ _ => rfl)) (pv 3) (fun _ _ => rfl))) (fun _ _ _ _ => (qJ (qBp (K := K) rfl) (pv 0) (zM jn qB) (fun _ _ => rfl)))) qC)) qB)))
      (qD (qU (i := 5) sc__law_deed.nd rfl (Or.inl rfl) (qW qj qB (qW jX (qW qr (kI F.plainAttrs_list F.slot_list_pop F.type_list_pop kJ (pv 0)) qB) qB)))
      (qD (qc (qL jD (pv 2) qM (qS _)) (qI (qN (qX (qA (pv 2) (qA (pv 3) (qA (pv 4) (qA (pv 5) qC))))))) qO)
      (qD (qc (PW.pt (xM (qL jD (pv 2) qM (qS _)) (jR (qL jD (pv 2) qM (qS _))))) (qI (qN (qX (qA (pv 2) (qA (pv 3) (qA (pv 4) (qA (qW qj (pv 4) (pv 5)) qC))))))) qO)
      (qI (qN (qX (qA (pv 2) (qA (pv 3) (qA (pv 4) (qA (qX (qA qM (qA qM (qA (qX (qA qB (qA qB qC))) (qA (qX (qA qB (qA qB qC))) (qA (pv 5) qC)))))) qC))))))))))))), ?_⟩
  try dsimp only [jN, qg]
  have two : (2 : Nat) ≤ sizeLine := by decide
  have four : (4 : Nat) ≤ sizeLine := by decide
  have five : (5 : Nat) ≤ sizeLine := by decide
  refine ⟨five, fun wl hwl => ?_⟩
  obtain ⟨H1, e1, w1, hwll⟩ := v6 (vs := [.str "lay_in", .str "open", .str "close", .str "lift", .str "lay_over"]) hwl
  rw [e1]
  clear e1
  have D1 := D0.same w1
  have nwl := D0.ne hwl
  refine ⟨_, rfl, .inl ⟨rfl, D1.ty⟩, D1.pop (n := n + 3) fun x0 H2 r2 D2 => ?_⟩
  have f0 := fm (x0.fdiv 3) (show (0 : Int) < 5 by decide)
  obtain ⟨wv, hwv, hw⟩ := at5 (x := .str "lay_in") (y := .str "open") (z := .str "close") (v := .str "lift") (w := .str "lay_over") f0.1 f0.2
  refine ⟨_, _, rfl, rfl, cdB (by decide) (by decide), _, _, rfl, rfl, nz, wl, _, _, _, rfl, rfl, SqL.of (r2.sb _ _ nwl hwll), hwv, ?_⟩
  obtain ⟨wd, hwd, hwc⟩ : ∃ wd : Str, wv = .str wd ∧ (wd = "lay_in" ∨ wd = "open" ∨ wd = "close" ∨ wd = "lift" ∨ wd = "lay_over") := by
    rcases hw with h | h | h | h | h
    · exact ⟨_, h, .inl rfl⟩
    · exact ⟨_, h, .inr (.inl rfl)⟩
    · exact ⟨_, h, .inr (.inr (.inl rfl))⟩
    · exact ⟨_, h, .inr (.inr (.inr (.inl rfl)))⟩
    · exact ⟨_, h, .inr (.inr (.inr (.inr rfl)))⟩
  subst hwd
  clear hwv f0
  refine ⟨_, rfl, .inl ⟨rfl, D2.ty⟩, D2.pop (n := n + 2) fun x1 H3 r3 D3 => ?_⟩
  refine ⟨_, _, rfl, rfl, cdB (by decide) (by decide), _, _, rfl, rfl, nz, ?_⟩
  have f1 := fm (x1.fdiv 3) (show (0 : Int) < 3 by decide)
  dsimp only
  obtain ⟨k, hk⟩ : ∃ k : Nat, (x1.fdiv 3).fmod 3 = (k : Int) := ⟨((x1.fdiv 3).fmod 3).toNat, by omega⟩
  rw [hk]
  rw [hk] at f1
  have k3 : k < 3 := by omega
  clear hk f1
  have r03 : RX xz H H3 := (qk w1).trans (r2.trans r3)
  refine ⟨_, rfl, .inl ⟨rfl, D3.ty⟩, D3.pop (n := n + 1) fun x2 H4 r4 D4 => ?_⟩
  have r04 := r03.trans r4
  obtain ⟨tt, tl, ti, zs, e0, g2, g3, g4, g5⟩ := (hX.rx r04).tab
  cases e0
  have hlen := hL.len
  obtain ⟨z, ms, ez, hms, vs, hz, his⟩ := TabF.tr (tz := tz) (tl := tl) (ti := ti) g4 (show k < ts.length by omega)
  obtain ⟨s0, s1, s2⟩ := hL.sum hms
  have hvl := his.len
  refine ⟨_, _, rfl, rfl, cdB (by decide) (by decide), qY rfl (SqT.of g2) at0 ⟨_, rfl, tl, _, _, _, rfl, rfl, SqL.of g3, qq ez, z, rfl, ⟨_, SqL.of hz⟩, zt (K := K) (a := z) (xs := vs) (fun j acc H5 => acc = ((ms.take j).map Im.l).map V.int ∧ H5 = H4) ⟨rfl, rfl⟩ ?_ ?_ ?_⟩⟩
  · rintro j acc H5 hj ⟨rfl, rfl⟩
    refine ⟨SqL.of hz, qd ?_⟩
    rw [List.length_map, List.length_map, List.length_take]
    omega
  · rintro j x acc H5 hj hx ⟨rfl, rfl⟩
    obtain ⟨m, hm, hI⟩ := his.get hx
    obtain ⟨zi, xi, rfl, hzi, a0, am⟩ := id hI.opn
    refine ⟨_, rfl, _, rfl, zi, xi, _, _, rfl, rfl, SqT.of hzi, am, Nxt.mk hj ⟨?_, rfl⟩⟩
    rw [List.take_add_one, hm]
    simp
  rintro acc H5 ⟨rfl, rfl⟩ l hl
  rw [hvl, List.take_length]
  obtain ⟨H6, e6, w6, hll⟩ := v6 (vs := (ms.map Im.l).map V.int) hl
  rw [e6]
  clear e6
  refine ⟨l, ms.map Im.l, rfl, SqL.of hll, _, _, rfl, rfl, _, _, rfl, rfl, (by omega), ?_⟩
  have f2 := fm (x2.fdiv 3) (show (0 : Int) < (ms.map Im.l).sum + 4 by omega)
  dsimp only
  obtain ⟨t, ht⟩ : ∃ t, (x2.fdiv 3).fmod ((ms.map Im.l).sum + 4) = t := ⟨_, rfl⟩
  rw [ht]
  have t0 : 0 ≤ t := by omega
  have t1 : t ≤ 100 := by omega
  clear ht f2
  have D6 := D4.same w6
  refine ⟨_, rfl, .inl ⟨rfl, D6.ty⟩, D6.pop (n := n) fun x3 H7 r7 D7 => ?_⟩
  refine ⟨_, _, rfl, rfl, cdB (by decide) (by decide), _, _, rfl, rfl, nz, _, _, rfl, rfl, ?_⟩
  have f3 := fm (x3.fdiv 3) (show (0 : Int) < 20 by decide)
  dsimp only
  obtain ⟨ln, hln⟩ : ∃ ln, 1 + (x3.fdiv 3).fmod 20 = ln := ⟨_, rfl⟩
  rw [hln]
  have l1 : 1 ≤ ln := by omega
  have l2 : ln ≤ 20 := by omega
  clear hln f3
  have r07 := r04.trans ((qk w6).trans r7)
  refine ⟨_, rfl, rfl, _, rfl, xN (fun c => ?_) (fun c => ?_)⟩
  · obtain rfl : wd = "open" := by simpa using c
    refine ⟨_, rfl, _, rfl, _, rfl, _, rfl, four, fun dz hdz => ?_⟩
    exact kk dz _ k (.opn t ln) (r07.trans (qk (qF hdz _))) (D7.same (qF hdz _)) k3 qE ⟨t0, t1, l1⟩
  have n1 : wd ≠ "open" := by simpa using c
  clear c
  refine ⟨_, rfl, rfl, _, rfl, xN (fun c => ?_) (fun c => ⟨_, rfl, rfl, _, rfl, xN (fun c => ?_) (fun c' => ?_)⟩)⟩
  · obtain rfl : wd = "close" := by simpa using c
    refine ⟨_, rfl, _, rfl, _, rfl, _, rfl, _, rfl, _, _, rfl, rfl, four, fun dz hdz => ?_⟩
    exact kk dz _ k (.cls t (t + ln)) (r07.trans (qk (qF hdz _))) (D7.same (qF hdz _)) k3 qE ⟨t0, t1, by omega, by omega⟩
  · obtain rfl : wd = "lift" := by simpa using c
    refine ⟨_, rfl, _, rfl, _, rfl, _, rfl, _, rfl, _, _, rfl, rfl, four, fun dz hdz => ?_⟩
    exact kk dz _ k (.lft t (t + ln)) (r07.trans (qk (qF hdz _))) (D7.same (qF hdz _)) k3 qE ⟨t0, t1, by omega, by omega⟩
  have n2 : wd ≠ "close" := by simpa using c
  have n3 : wd ≠ "lift" := by simpa using c'
  clear c c'
  refine ⟨_, rfl, _, rfl, _, rfl, two, fun q1 h1 => ⟨two, fun q2 h2 => ⟨_, rfl, five, fun q3 h3 => ?_⟩⟩⟩
  obtain ⟨H8, e8, w8, I8⟩ := qEj (n := "a") (l := ln) h1 h2 h3
  rw [e8]
  clear e8
  refine ⟨four, fun dz hdz => ?_⟩
  have w9 := qF hdz (.tup [.str wd, .int k, .int t, .ref q3])
  have r09 := r07.trans (qk (w8.trans w9))
  have D9 := D7.same (w8.trans w9)
  rcases hwc with rfl | h | h | h | rfl
  · exact kk dz _ k (.lin t (.clip "a" 1 1 1 3 ln)) r09 D9 k3 ⟨_, qE, I8.ts (qV w9)⟩ ⟨t0, t1, ln, rfl, l1, l2⟩
  · exact absurd h n1
  · exact absurd h n2
  · exact absurd h n3
  · exact kk dz _ k (.lov t (.clip "a" 1 1 1 3 ln)) r09 D9 k3 ⟨_, qE, I8.ts (qV w9)⟩ ⟨t0, t1, ln, rfl, l1, l2⟩
theorem Lt.tabp {H : Hp} {tz : Addr} {ts : List (List Im)} {tie : List Int} {o u : Int} (h : Lt ts tie o u) (hT : TabF H (.ref tz) ts tie) {k : Nat} (hk : k < 3) : TabP H tz ts tie k := by
  have hlen := h.len
  have hti := h.ti
  refine ⟨hT, ?_, by omega, by omega, ?_, ?_⟩
  · obtain ⟨⟨g, k2, t, rfl, b1, b2, b3, b4, ht⟩, o1, o2, u1, u2, _⟩ := h
    have e20 : (2 : Nat) ^ 20 = 1048576 := by decide
    have bn : ∀ p q r s : Int, 0 < q → 0 < s → p.natAbs < 1048576 → q.natAbs < 1048576 → r.natAbs < 1048576 → s.natAbs < 1048576 → Bn 700 p q r s := fun p q r s h1 h2 h3 h4 h5 h6 => ⟨h1, h2, xo (n := 20) (by omega), xo (n := 20) (by omega), xo (n := 20) (by omega), xo (n := 20) (by omega)⟩
    have ng : ∀ m : Im, (m.wd = "clip" ∨ m.wd = "nest" ∨ m.wd = "gap") → m.wd ≠ "mix" := fun m h => by
      rcases h with h | h | h <;> rw [h] <;> decide +kernel
    have hq : (c2q o = 1 ∨ c2q o = 2) ∧ 300 ≤ c2p o ∧ c2p o ≤ 612 := by
      unfold c2q c2p
      have := fm o (show (0 : Int) < 2 by decide)
      rw [Int.fdiv_eq_ediv_of_nonneg o (by decide : (0 : Int) ≤ 2)]
      split <;> omega
    intro ms hms
    have mk : ∀ ms : List Im, (∀ m ∈ ms, ImB m ∧ 0 < m.mo ∧ m.wd ≠ "mix") → ms.length ≤ 100 → Pos ms ∧ MsB ms ∧ ms.length ≤ 100 := fun ms h hl => ⟨fun m hm => ⟨(h m hm).2.1, (h m hm).2.2⟩, ⟨fun m hm => ⟨(h m hm).1, by have := (h m hm).2.1; omega⟩, by omega⟩, hl⟩
    simp only [List.mem_cons, List.not_mem_nil, or_false] at hms
    rcases hms with rfl | rfl | rfl
    · refine mk _ (fun m hm => ?_) (by show 5 ≤ 100; decide)
      simp only [T1, List.mem_cons, List.not_mem_nil, or_false] at hm
      rcases hm with rfl | rfl | rfl | rfl | rfl
      · exact ⟨bn _ _ _ _ (by decide) (by decide) (by decide) (by decide) (by decide) (by decide), by show 0 < o; omega, ng _ (.inl rfl)⟩
      · exact ⟨bn _ _ _ _ (by omega) (by decide) (by omega) (by omega) (by decide) (by decide), by show 0 < u; omega, ng _ (.inl rfl)⟩
      · exact ⟨trivial, by show 0 < g; omega, ng _ (.inr (.inr rfl))⟩
      · exact ⟨trivial, by show (0 : Int) < 6; decide, ng _ (.inr (.inl rfl))⟩
      · exact ⟨bn _ _ _ _ (by decide) (by decide) (by decide) (by decide) (by decide) (by decide), by show (0 : Int) < 7; decide, ng _ (.inl rfl)⟩
    · refine mk _ (fun m hm => ?_) (by show 4 ≤ 100; decide)
      simp only [T2, List.mem_cons, List.not_mem_nil, or_false] at hm
      rcases hm with rfl | rfl | rfl | rfl
      · exact ⟨bn _ _ _ _ (by decide) (by decide) (by decide) (by decide) (by decide) (by decide), by show 0 < k2; omega, ng _ (.inl rfl)⟩
      · exact ⟨trivial, by show (0 : Int) < 8; decide, ng _ (.inr (.inl rfl))⟩
      · exact ⟨trivial, by show (0 : Int) < 2; decide, ng _ (.inr (.inr rfl))⟩
      · exact ⟨bn _ _ _ _ (by decide) (by decide) (by decide) (by decide) (by decide) (by decide), by show (0 : Int) < 9; decide, ng _ (.inl rfl)⟩
    · rcases ht with rfl | rfl
      · exact mk _ (fun m hm => by simp at hm) (by decide)
      · refine mk _ (fun m hm => ?_) (by decide)
        simp only [T3, List.mem_cons, List.not_mem_nil, or_false] at hm
        rcases hm with rfl | rfl
        · exact ⟨trivial, by show (0 : Int) < 5; decide, ng _ (.inr (.inr rfl))⟩
        · exact ⟨bn _ _ _ _ (by decide) (by decide) (by decide) (by decide) (by decide) (by decide), by show (0 : Int) < 12; decide, ng _ (.inl rfl)⟩
  · rcases hti with rfl | rfl | rfl <;> decide
  · rw [hlen]
    rcases hti with rfl | rfl | rfl
    · simp
    · intro x hx
      simp at hx
      rcases hx with rfl | rfl
      · exact ⟨0, rfl, by omega⟩
      · exact ⟨1, rfl, by omega⟩
    · intro x hx
      simp at hx
      rcases hx with rfl | rfl | rfl
      · exact ⟨0, rfl, by omega⟩
      · exact ⟨1, rfl, by omega⟩
      · exact ⟨2, rfl, by omega⟩
theorem qNp {o : Int} (h1 : 4 ≤ o) (h2 : o ≤ 12) : ∃ i : Fin 9, o = 4 + (i.val : Int) := ⟨⟨(o - 4).toNat, by omega⟩, by show o = 4 + (((o - 4).toNat : Nat) : Int); omega⟩
theorem qOx : ∀ i : Fin 9, goB "a" "a" 300 1 1 2 (4 + (i.val : Int)) (c2p (4 + (i.val : Int))) (c2q (4 + (i.val : Int))) 1 2 = true := by decide +kernel
theorem qHz : ∀ i : Fin 9, 2 ≤ kA 300 1 1 2 (4 + (i.val : Int)) 1000 ∧ 2 ≤ z7 (c2p (4 + (i.val : Int))) (c2q (4 + (i.val : Int))) 1 2 1000 := by decide +kernel
theorem qLu : 2 ≤ z7 300 1 1 2 1000 := by decide +kernel
theorem qMi : ∀ (i : Fin 9), Int.gcd (c2p (4 + (i.val : Int))) (c2q (4 + (i.val : Int))) = 1 ∧ 0 < c2q (4 + (i.val : Int)) ∧ (c2p (4 + (i.val : Int))).natAbs < 1048576 ∧ (c2q (4 + (i.val : Int))).natAbs < 1048576 := by decide +kernel
theorem qK1 : ∀ (i : Fin 20), 0 ≤ Vk 1 1 1 3 (i.val : Int) ∧ Vk 1 1 1 3 (i.val : Int) < 1000 * (1 * 3) := by decide +kernel
def rlA (N : Int) : Rls := fun n => if n = "a" then some N else none
theorem qDe {H : Hp} {rd : Addr} {N : Int} (h : Rd H rd (.dK [(Sum.inr "a", .int N)])) : ReelsAt H rd (rlA N) := fun n M q => by
  unfold rlA at q
  by_cases hn : n = "a"
  · rw [if_pos hn] at q
    cases q
    exact ⟨_, h, by rw [hn]; rfl⟩
  · rw [if_neg hn] at q
    cases q
theorem qGs {p q : Int} (h1 : 0 < q) (h2 : Int.gcd p q = 1) (h3 : p.natAbs < 1048576) (h4 : q.natAbs < 1048576) : Good 110 p q := by
  have e20 : (2 : Nat) ^ 20 = 1048576 := by decide
  exact ⟨h1, h2, xo (n := 20) (by omega), xo (n := 20) (by omega)⟩
theorem rcN {N p q r s l : Int} (g1 : Good 110 p q) (g2 : Good 110 r s) (h1 : 1 ≤ l) (h2 : l ≤ 1000) (h3 : 0 ≤ N) (h4 : N ≤ 1000) : Rc "a" p q r s l (rlA N) N := by
  have e20 : (2 : Nat) ^ 20 = 1048576 := by decide
  refine ⟨g1, g2, xo (n := 20) (by omega), h1, if_pos rfl, xo (n := 20) (by omega)⟩
theorem qKt : Good 110 1 2 := qGs (by decide) (by decide) (by decide) (by decide)
theorem rc1 {o : Int} (h1 : 4 ≤ o) (h2 : o ≤ 12) : Rc "a" 300 1 1 2 o (rlA 1000) 1000 := rcN (qGs (by decide) (by decide) (by decide) (by decide)) qKt (by omega) (by omega) (by decide) (by decide)
theorem rc2 {o u : Int} (h1 : 4 ≤ o) (h2 : o ≤ 12) (h3 : 4 ≤ u) (h4 : u ≤ 12) : Rc "a" (c2p o) (c2q o) 1 2 u (rlA 1000) 1000 := by
  obtain ⟨i, rfl⟩ := qNp h1 h2
  obtain ⟨a, b, c, d⟩ := qMi i
  exact rcN (qGs b a c d) qKt (by omega) (by omega) (by decide) (by decide)
theorem qLs (m : Im) (r : List Im) : qEm (m :: r) (0 + 1) = m.mo := by
  show ([m.mo] : List Int).sum = m.mo
  simp
theorem two_le : (2 : Int) ≤ 2 ^ 400 ∧ (200 : Int) ≤ 2 ^ 400 ∧ (200 : Int) ≤ 2 ^ 500 := by decide
theorem qMs {H : Hp} {tz dz rd : Addr} {ts : List (List Im)} {tie : List Int} {o u p : Int} (hL : Lt ts tie o u) (hT : TabF H (.ref tz) ts tie) (hd : H dz = some (.tup [.str "cut", .int 0, .int p])) (p1 : 1 ≤ p) (p2 : p < o) : qJl H tz dz rd ∧ Ans H tz dz "cut" [.a3 "heal" 0 p] := by
  have hP := hL.tabp hT (k := 0) (by decide)
  obtain ⟨⟨g, k, t, rfl, b1, b2, b3, b4, ht⟩, o1, o2, u1, u2, _⟩ := hL
  constructor
  · refine .dk (d := .cut p) hP hd (rfl : _ = some (T1 o u g)) ⟨by omega, by have := two_le.2.1; omega, ?_⟩
    rw [qF4 (hP.pos _ (by simp)).1]
    unfold T1 withG vw
    rw [decide_eq_true (show (Im.clip "a" 300 1 1 2 o).wd ≠ "gap" by show ("clip" : Str) ≠ "gap"; decide +kernel), decide_eq_true (show 0 < p by omega), decide_eq_true (show p < 0 + (Im.clip "a" 300 1 1 2 o).mo by show p < 0 + o; omega)]
    rfl
  · unfold Ans
    rw [if_pos rfl]
    exact ⟨0, p, hd, rfl⟩
theorem qLa {H : Hp} {tz dz rd : Addr} {ts : List (List Im)} {tie : List Int} {o u : Int} (hL : Lt ts tie o u) (hT : TabF H (.ref tz) ts tie) (hd : H dz = some (.tup [.str "heal", .int 0, .int o])) : qJl H tz dz rd ∧ Ans H tz dz "heal" [.a3 "cut" 0 o] := by
  have hP := hL.tabp hT (k := 0) (by decide)
  obtain ⟨⟨g, k, t, rfl, b1, b2, b3, b4, ht⟩, o1, o2, u1, u2, _⟩ := hL
  have c1 := rc1 o1 o2
  constructor
  · refine .heal (i := 0) (n := "a") (n' := "a") (p := 300) (q := 1) (r := 1) (s := 2) (l := o) (p' := c2p o) (q' := c2q o) (r' := 1) (s' := 2) (l' := u) hP (rfl : _ = some (T1 o u g)) ?_ rfl rfl c1.bn.mono (xo c1.bl) ?_
    · unfold T1
      rw [qLs]
      exact hd
    · obtain ⟨i, rfl⟩ := qNp o1 o2
      exact qOx i
  · unfold Ans
    rw [if_neg (by decide +kernel), if_pos rfl]
    exact ⟨0, o, hd, rfl⟩
theorem qNl {H : Hp} {tz dz rd : Addr} {ts : List (List Im)} {tie : List Int} {o u : Int} (hL : Lt ts tie o u) (hT : TabF H (.ref tz) ts tie) (hR : Rd H rd (.dK [(Sum.inr "a", .int 1000)])) (hd : H dz = some (.tup [.str "mix", .int 0, .int o, .int 3])) : qJl H tz dz rd ∧ Ans H tz dz "mix" [.a3 "unmix" 0 o] := by
  have hP := hL.tabp hT (k := 0) (by decide)
  obtain ⟨⟨g, k, t, rfl, b1, b2, b3, b4, ht⟩, o1, o2, u1, u2, _⟩ := hL
  have c1 := rc1 o1 o2
  have c2 := rc2 o1 o2 u1 u2
  have nm : 2 ≤ kA 300 1 1 2 o 1000 ∧ 2 ≤ z7 (c2p o) (c2q o) 1 2 1000 := by
    obtain ⟨i, rfl⟩ := qNp o1 o2
    exact qHz i
  have e3 : (3 : Int).fdiv 2 = 1 := by decide
  constructor
  · refine .mix (i := 0) (m := 3) hP (rfl : _ = some (T1 o u g)) ?_ rfl rfl c1 c2 (qDe hR) (by decide) (by rw [e3]; omega) (by rw [e3]; omega) (by rw [e3]; omega) (by rw [e3]; omega)
    unfold T1
    rw [qLs]
    exact hd
  · unfold Ans
    rw [if_neg (by decide +kernel), if_neg (by decide +kernel), if_pos (.inl rfl)]
    exact ⟨0, o, 3, .inl ⟨hd, rfl⟩⟩
theorem qJy (o u : Int) (r : List Im) (o1 : 4 ≤ o) (u1 : 4 ≤ u) : cbF (.clip "a" 300 1 1 2 o :: .mix 3 :: .clip "a" (c2p o) (c2q o) 1 2 u :: r) o = some (((0 : Nat) : Int), ((0 + 2 : Nat) : Int)) := by
  have hi : xy 0 0 (.clip "a" 300 1 1 2 o :: .mix 3 :: .clip "a" (c2p o) (c2q o) 1 2 u :: r) o = some (2, 0) := by
    rw [xy, if_neg (show ¬ ((0 : Int) ≤ o ∧ o < 0 + (Im.clip "a" 300 1 1 2 o).mo) by show ¬ ((0 : Int) ≤ o ∧ o < 0 + o); omega), xy, if_neg (show ¬ (0 + (Im.clip "a" 300 1 1 2 o).mo ≤ o ∧ o < 0 + (Im.clip "a" 300 1 1 2 o).mo + (Im.mix 3).mo) by show ¬ (0 + o ≤ o ∧ o < 0 + o + 0); omega), xy, if_pos (show 0 + (Im.clip "a" 300 1 1 2 o).mo + (Im.mix 3).mo ≤ o ∧ o < 0 + (Im.clip "a" 300 1 1 2 o).mo + (Im.mix 3).mo + (Im.clip "a" (c2p o) (c2q o) 1 2 u).mo by show 0 + o + 0 ≤ o ∧ o < 0 + o + 0 + u; omega)]
    show some (2, o - (0 + o + 0)) = _
    rw [show o - (0 + o + 0) = 0 by omega]
  have hn : nbF (.clip "a" 300 1 1 2 o :: .mix 3 :: .clip "a" (c2p o) (c2q o) 1 2 u :: r) o = some (0, 2) := by
    unfold nbF
    rw [hi]
    rfl
  unfold cbF
  rw [hn]
  rfl
theorem qKo {H : Hp} {tz dz rd : Addr} {ts : List (List Im)} {tie : List Int} {o u : Int} {r : List Im} (hT : TabF H (.ref tz) ((.clip "a" 300 1 1 2 o :: .mix 3 :: .clip "a" (c2p o) (c2q o) 1 2 u :: r) :: ts) tie) (hl : ts.length ≤ 7) (hr : r.length ≤ 90) (o1 : 4 ≤ o) (u1 : 4 ≤ u) (hd : H dz = some (.tup [.str "unmix", .int 0, .int o])) : qJl H tz dz rd ∧ Ans H tz dz "unmix" [.a4 "mix" 0 o 3] := by
  have hcb := qJy o u r o1 u1
  constructor
  · exact .unmix (n0 := 0) (i := 0) hT (by rw [List.length_cons]; omega) rfl (by simp only [List.length_cons]; omega) hd (by omega) hcb
  · unfold Ans
    rw [if_neg (by decide +kernel), if_neg (by decide +kernel), if_pos (.inr rfl)]
    exact ⟨0, o, 3, .inr ⟨_, tie, 0, _, 0, rfl, hd, hT, rfl, hcb, rfl, rfl⟩⟩
theorem qLo {H : Hp} {tz dz rd : Addr} {ts : List (List Im)} {tie : List Int} {o u b : Int} (hL : Lt ts tie o u) (hT : TabF H (.ref tz) ts tie) (hR : Rd H rd (.dK [(Sum.inr "a", .int 1000)])) (hd : H dz = some (.tup [.str "roll", .int 0, .int o, .int b])) (b1 : -2 ≤ b) (b2 : b ≤ 2) : qJl H tz dz rd ∧ Ans H tz dz "roll" [.a4 "roll" 0 (o + b) (-b)] := by
  have hP := hL.tabp hT (k := 0) (by decide)
  obtain ⟨⟨g, k, t, rfl, _, _, b3, b4, ht⟩, o1, o2, u1, u2, _⟩ := hL
  have c1 := rc1 o1 o2
  have c2 := rc2 o1 o2 u1 u2
  have nm : 2 ≤ kA 300 1 1 2 o 1000 ∧ 2 ≤ z7 (c2p o) (c2q o) 1 2 1000 := by
    obtain ⟨i, rfl⟩ := qNp o1 o2
    exact qHz i
  constructor
  · refine .roll (nt := 0) hT hd (rfl : _ = some (T1 o u g)) (by show 3 ≤ 300; decide) (by show 5 ≤ 300; decide) (hP.pos _ (by simp)).1 (by omega) (.roll (i := 0) ?_ rfl rfl c1 c2) (qDe hR) (by omega) ?_
    · unfold T1
      rw [qLs]
      rfl
    · unfold qEn qCu
      split <;> split <;> split <;> omega
  · unfold Ans
    rw [if_neg (by decide +kernel), if_neg (by decide +kernel), if_neg (by decide +kernel), if_neg (by decide +kernel), if_neg (by decide +kernel), if_pos (.inl rfl)]
    exact ⟨0, o, b, hd, rfl⟩
theorem qMc {H : Hp} {tz dz rd : Addr} {ts : List (List Im)} {tie : List Int} {o u b p : Int} (hL : Lt ts tie o u) (hT : TabF H (.ref tz) ts tie) (hR : Rd H rd (.dK [(Sum.inr "a", .int 1000)])) (hd : H dz = some (.tup [.str "slip", .int 0, .int p, .int b])) (p1 : 1 ≤ p) (p2 : p < o) (b1 : -2 ≤ b) (b2 : b ≤ 2) : qJl H tz dz rd ∧ Ans H tz dz "slip" [.a4 "slip" 0 p (-b)] := by
  have hP := hL.tabp hT (k := 0) (by decide)
  obtain ⟨⟨g, k, t, rfl, _, _, b3, b4, ht⟩, o1, o2, u1, u2, _⟩ := hL
  have c1 := rc1 o1 o2
  have nm : 2 ≤ kA 300 1 1 2 o 1000 ∧ 2 ≤ z7 (c2p o) (c2q o) 1 2 1000 := by
    obtain ⟨i, rfl⟩ := qNp o1 o2
    exact qHz i
  have nh := qLu
  constructor
  · refine .roll (nt := 0) hT hd (rfl : _ = some (T1 o u g)) (by show 3 ≤ 300; decide) (by show 5 ≤ 300; decide) (hP.pos _ (by simp)).1 (by omega) (.slip (i := 0) (d := p - 0) ?_ rfl c1) (qDe hR) (by omega) ?_
    · unfold T1
      rw [xy, if_pos (show (0 : Int) ≤ p ∧ p < 0 + (Im.clip "a" 300 1 1 2 o).mo by show (0 : Int) ≤ p ∧ p < 0 + o; omega)]
    · unfold qEn
      split <;> split <;> omega
  · unfold Ans
    rw [if_neg (by decide +kernel), if_neg (by decide +kernel), if_neg (by decide +kernel), if_neg (by decide +kernel), if_pos rfl]
    exact ⟨0, p, b, hd, rfl⟩
theorem qO1 {H : Hp} {rd : Addr} {l : Int} (hR : Rd H rd (.dK [(Sum.inr "a", .int 1000)])) (l1 : 1 ≤ l) (l2 : l ≤ 20) : LayOk H rd (.clip "a" 1 1 1 3 l) := by
  have e20 : (2 : Nat) ^ 20 = 1048576 := by decide
  refine ⟨1000, qDe hR _ _ (if_pos rfl), by decide +kernel, by decide, ⟨by decide, by decide, by decide +kernel, by decide +kernel, by decide +kernel, by decide +kernel⟩, by decide, by decide, l1, xo (n := 20) (by omega), qK1 0, ?_⟩
  have := qK1 ⟨(l - 1).toNat, by omega⟩
  have e : (((l - 1).toNat : Nat) : Int) = l - 1 := by omega
  rw [← e]
  exact this
theorem qF1 {H : Hp} {tz dz : Addr} {w : Str} {ds : List Dy} (h : w = "lay_in" ∨ w = "open") (a : qMv H tz dz ds) : Ans H tz dz w ds := by
  unfold Ans
  rcases h with rfl | rfl
  · rw [if_neg (by decide +kernel), if_neg (by decide +kernel), if_neg (by decide +kernel), if_pos (.inl rfl)]
    exact a
  · rw [if_neg (by decide +kernel), if_neg (by decide +kernel), if_neg (by decide +kernel), if_pos (.inr rfl)]
    exact a
theorem qFt {H : Hp} {tz dz : Addr} {w : Str} {ds : List Dy} (h : w = "close" ∨ w = "lift" ∨ w = "lay_over") (a : qO5 H tz dz ds) : Ans H tz dz w ds := by
  unfold Ans
  rcases h with rfl | rfl | rfl
  all_goals
    rw [if_neg (by decide +kernel), if_neg (by decide +kernel), if_neg (by decide +kernel), if_neg (by decide +kernel), if_neg (by decide +kernel), if_neg (by decide +kernel)]
    exact a
theorem qMo {H : Hp} {tz dz rd : Addr} {ts : List (List Im)} {tie : List Int} {o u : Int} {k : Nat} {d : Dk} (hL : Lt ts tie o u) (hT : TabF H (.ref tz) ts tie) (hR : Rd H rd (.dK [(Sum.inr "a", .int 1000)])) (k3 : k < 3) (hD : DAt H dz (k : Int) d) (hO : qO0 d) : qJl H tz dz rd ∧ Ans H tz dz d.wd (qN1 ts tie k d) ∧ qOk d := by
  have hP := hL.tabp hT k3
  have hlen := hL.len
  have hms : ts[k]? = some (ts[k]'(by omega)) := List.getElem?_eq_getElem (by omega)
  have t4 := two_le
  cases d with
  | cut t => exact hO.elim
  | hel t => exact hO.elim
  | opn t l =>
    obtain ⟨h0, h1, h2⟩ := hO
    refine ⟨.dk hP hD hms ⟨h0, by omega, h2⟩, ?_, h0⟩
    exact qF1 (.inr rfl) ⟨ts, tie, k, _, l, hP, hD, rfl, rfl⟩
  | lin t m =>
    obtain ⟨h0, h1, l, rfl, l1, l2⟩ := hO
    refine ⟨.dk hP hD hms ⟨h0, by omega, qO1 hR l1 l2⟩, ?_, h0, by show ("clip" : Str) ≠ "mix"; decide +kernel⟩
    exact qF1 (.inl rfl) ⟨ts, tie, k, _, _, hP, hD, rfl, rfl⟩
  | cls t v =>
    obtain ⟨h0, h1, h2, h3⟩ := hO
    refine ⟨.dk hP hD hms ⟨h0, h2, by omega⟩, ?_, h0, h2, by omega⟩
    exact qFt (.inl rfl) ⟨ts, tie, k, _, hP, hD, h0, by show t ≤ 2 ^ 500; omega, rfl⟩
  | lft t v =>
    obtain ⟨h0, h1, h2, h3⟩ := hO
    refine ⟨.dk hP hD hms ⟨h0, h2, by omega⟩, ?_, h0, h2, by omega⟩
    exact qFt (.inr (.inl rfl)) ⟨ts, tie, k, _, hP, hD, h0, by show t ≤ 2 ^ 500; omega, rfl⟩
  | lov t m =>
    obtain ⟨h0, h1, l, rfl, l1, l2⟩ := hO
    refine ⟨.dk hP hD hms ⟨h0, by omega, qO1 hR l1 l2, by show 0 ≤ l; omega, by show l ≤ 2 ^ 400; omega⟩, ?_, h0, by omega, by show 0 < l; omega, by show ("clip" : Str) ≠ "mix"; decide +kernel⟩
    exact qFt (.inr (.inr rfl)) ⟨ts, tie, k, _, hP, hD, h0, by show t ≤ 2 ^ 500; omega, rfl⟩
theorem qJq {H : Hp} {q : Addr} {vs : List V} (h : H q = none) : ∃ H', upd H q (.tup vs) = H' ∧ Same H H' ∧ H' q = some (.tup vs) := ⟨_, rfl, qF h _, qE⟩
theorem qOz {H : Hp} {g l : Addr} {w : Str} {n t : Int} (hg : H g = none) (hl : upd H g (.tup [.str w, .int n, .int t]) l = none) : ∃ H', upd (upd H g (.tup [.str w, .int n, .int t])) l (.lst [.ref g]) = H' ∧ Same H H' ∧ DL H' l [.a3 w n t] := ⟨_, rfl, (qF hg _).trans (qF hl _), _, qE, ⟨g, rfl, qF hl _ _ _ qE⟩, trivial⟩
theorem qNq {H : Hp} {g l : Addr} {w : Str} {n t u : Int} (hg : H g = none) (hl : upd H g (.tup [.str w, .int n, .int t, .int u]) l = none) : ∃ H', upd (upd H g (.tup [.str w, .int n, .int t, .int u])) l (.lst [.ref g]) = H' ∧ Same H H' ∧ DL H' l [.a4 w n t u] := ⟨_, rfl, (qF hg _).trans (qF hl _), _, qE, ⟨g, rfl, qF hl _ _ _ qE⟩, trivial⟩
theorem qL8 {H : Hp} {rd : Addr} {N : Int} (h : H rd = none) : ∃ H', upd (upd H rd (.dK [])) rd (.dK (qBf [] [(Sum.inr "a", .int N)])) = H' ∧ Same H H' ∧ H' rd = some (.dK [(Sum.inr "a", .int N)]) := by
  refine ⟨_, rfl, ?_, qE⟩
  rw [qFj]
  exact qF h _
def MX (H : Hp) (xz mt : Addr) (ts : List (List Im)) (tie : List Int) : Prop := ∀ H', RX xz H H' → TabF H' (.ref mt) ts tie
def qCk : Sp := fun vs H Q _ => ∃ (xz tz : Addr) (n : Nat) (ts : List (List Im)) (tie : List Int) (o u : Int), vs = [.ref tz, .ref xz] ∧ Dr H xz (n + 2) ∧ TabX H xz tz ts tie ∧ Lt ts tie o u ∧ ∀ H', RX xz H H' → Q (.bl true) H'
set_option maxHeartbeats 8000000 in
theorem qBy (T : Tx K mg a) : FnOk P w K mg base CX0 12 a.a__law_small a.f__law_small ["_law_table_here", "_law_xs"] qCk := by
  refine T.d__law_small.F.ok sc__law_small (fun vs H Q E h => ?_) (fun cdv A outer s H vs Q E hr h => ?_)
  · obtain ⟨xz, tz, n, ts, tie, o, u, rfl, _⟩ := h
    rfl
  obtain ⟨xz, tz, n, ts, tie, o, u, rfl, D0, hX, hL, kk⟩ := h
  have hu := hr.units
  have hu1 := qIe hr
  refine ⟨_, (qD (qU (i := 2) sc__law_small.nd rfl (Or.inl rfl) (qFm (qB2 qM qB qFw) rfl rfl (by simp) (by decide)))
      (qD (qU (i := 3) sc__law_small.nd rfl (Or.inl rfl) (qJ qH (qJ qm (qJ qm (qJ qH (pv 0) qB (fun _ _ => rfl)) qB (fun _ _ => rfl)) qB (fun _ _ => rfl)) (zM jn qB) (fun _ _ => rfl)))
      (qD (qU (i := 4) sc__law_small.nd rfl (Or.inl rfl) (qW qj qB (qW jX (qW qr (kI F.plainAttrs_list F.slot_list_pop F.type_list_pop kJ (pv 1)) qB) (qW jM (pv 3) qB))))
      (qD (qU (i := 5) sc__law_small.nd rfl (Or.inl rfl) (qX (qA (qW j8 (qh (qA (qW j8 (qW j8 (j6 zf (qJ qm (qJ qH (pv 0) qB (fun _ _ => rfl)) qB (fun _ _ => rfl)) x6 (xn qB)) (qh (qA (qX (qA qM (qA qB qC))) qC))) (j6 zf (qJ qm (qJ qH (pv 0) qB (fun _ _ => rfl)) qB (fun _ _ => rfl)) (xn qB) x6)) qC)) (j6 zf (qJ qH (pv 0) qB (fun _ _ => rfl)) (xn qB) x6)) (qA (qJ qH (pv 0) qB (fun _ _ => rfl)) qC))))
      (qD (qU (i := 6) sc__law_small.nd rfl (Or.inl rfl) (qW jM (qW jX (qW qr (kI F.plainAttrs_list F.slot_list_pop F.type_list_pop kJ (pv 1)) qB) qB) qB))
      (qD (qc (qL (qBl hu) (qK T.d_back_of (xI T) hr rfl (qA (pv 0) (qA (qX (qA qM (qA qB (qA (pv 4) qC)))) (qA (pv 2) qC)))) (qh (qA (qX (qA qM (qA qB (qA (pv 4) qC)))) qC)) (qS _)) (qI (qN zh)) qO)
      (qD (qc (qL (qBl hu) (qK T.d_back_of (xI T) hr rfl (qA (pv 0) (qA (qX (qA qM (qA qB (qA (pv 3) qC)))) (qA (pv 2) qC)))) (qh (qA (qX (qA qM (qA qB (qA (pv 3) qC)))) qC)) (qS _)) (qI (qN zh)) qO)
      (qD (qc (qL (qBl hu) (qK T.d_back_of (xI T) hr rfl (qA (pv 0) (qA (qX (qA qM (qA qB (qA (pv 3) (qA qB qC))))) (qA (pv 2) qC)))) (qh (qA (qX (qA qM (qA qB (qA (pv 3) qC)))) qC)) (qS _)) (qI (qN zh)) qO)
      (qD (qc (qL (qBl hu) (qK T.d_back_of (xI T) hr rfl (qA (pv 5) (qA (qX (qA qM (qA qB (qA (pv 3) qC)))) (qA (pv 2) qC)))) (qh (qA (qX (qA qM (qA qB (qA (pv 3) (qA qB qC))))) qC)) (qS _)) (qI (qN zh)) qO)
      (qD (qc (qL (qBl hu) (qK T.d_back_of (xI T) hr rfl (qA (pv 0) (qA (qX (qA qM (qA qB (qA (pv 3) (qA (pv 6) qC))))) (qA (pv 2) qC)))) (qh (qA (qX (qA qM (qA qB (qA (qW qj (pv 3) (pv 6)) (qA (zM jn (pv 6)) qC))))) qC)) (qS _)) (qI (qN zh)) qO)
      (qI (qN (j1 (qK2 hu) (qK T.d_back_of (xI T) hr rfl (qA (pv 0) (qA (qX (qA qM (qA qB (qA (pv 4) (qA (pv 6) qC))))) (qA (pv 2) qC)))) (qh (qA (qX (qA qM (qA qB (qA (pv 4) (qA (zM jn (pv 6)) qC))))) qC)) (qS _)))))))))))))), ?_⟩
  try dsimp only [jN, qg]
  have one : (1 : Nat) ≤ sizeLine := by decide
  have two : (2 : Nat) ≤ sizeLine := by decide
  have three : (3 : Nat) ≤ sizeLine := by decide
  have four : (4 : Nat) ≤ sizeLine := by decide
  refine fun rd hrd => ⟨qE, [(Sum.inr "a", .int 1000)], rfl, (by decide), ?_⟩
  obtain ⟨H1, e1, w1, hrd1⟩ := qL8 (N := 1000) hrd
  rw [e1]
  clear e1
  have nrd := D0.ne hrd
  have hX1 := hX.rx (qk w1)
  have D1 := D0.same w1
  obtain ⟨tl, ti, zs, ntl, nti, g2, g3, g5, g4⟩ := id hX1
  obtain ⟨⟨g, kq, t3, hts, b1, b2, b3, b4, ht3⟩, o1, o2, u1, u2, hti⟩ := id hL
  obtain ⟨zv, zr, rfl⟩ : ∃ zv zr, zs = zv :: zr := by
    have := g4 H1 (RX.refl _ _)
    rw [hts] at this
    cases zs with
    | nil => exact this.elim
    | cons a b => exact ⟨a, b, rfl⟩
  obtain ⟨z0, rfl, hz0'⟩ : ∃ z0, zv = .ref z0 ∧ ∀ H', RX xz H1 H' → Tr H' z0 (T1 o u g) := by
    have := g4 H1 (RX.refl _ _)
    rw [hts] at this
    obtain ⟨z0, h, _⟩ := this.1
    refine ⟨z0, h, fun H' r => ?_⟩
    have := g4 H' r
    rw [hts] at this
    obtain ⟨z0', h', q⟩ := this.1
    rw [h] at h'
    cases h'
    exact q
  obtain ⟨vs, hz0, his⟩ := hz0' H1 (RX.refl _ _)
  obtain ⟨v0, vr, rfl⟩ : ∃ v0 vr, vs = v0 :: vr := by
    cases vs with
    | nil => exact his.elim
    | cons a b => exact ⟨a, b, rfl⟩
  obtain ⟨I0, his'⟩ := id his
  have hvl := his'.len
  obtain ⟨zi, xi, rfl, hzi, a0, am⟩ := id I0.opn
  have az : atI (V.ref z0 :: zr) 0 = some (.ref z0) := qq (j := 0) rfl
  have av : atI (V.ref zi :: vr) 0 = some (.ref zi) := qq (j := 0) rfl
  refine (qY rfl (SqT.of g2) at0 (ixL (SqL.of g3) az (ixL (SqL.of hz0) av ⟨_, rfl, zi, _, _, _, rfl, rfl, SqT.of hzi, am, ?_⟩)))
  dsimp only
  rw [show (Im.clip "a" 300 1 1 2 o).l = o from rfl]
  refine ⟨_, rfl, .inl ⟨rfl, D1.ty⟩, D1.pop (n := n + 1) fun x0 H2 r2 D2 => ?_⟩
  refine ⟨_, _, rfl, rfl, cdB (by decide) (by decide), _, rfl, _, _, rfl, rfl, _, _, rfl, rfl, (by omega), _, _, rfl, rfl, ?_⟩
  have f0 := fm (x0.fdiv 3) (show (0 : Int) < o - 1 by omega)
  dsimp only
  obtain ⟨p, hp⟩ : ∃ p, 1 + (x0.fdiv 3).fmod (o - 1) = p := ⟨_, rfl⟩
  rw [hp]
  have p1 : 1 ≤ p := by omega
  have p2 : p < o := by omega
  clear hp f0
  have hX2 := hX1.rx r2
  obtain ⟨vs2, hz02, his2⟩ := hz0' H2 r2
  have hrd2 := r2.sb _ _ nrd hrd1
  have g22 := r2.ts _ _ g2
  have g32 := r2.sb _ _ ntl g3
  refine (qY rfl (SqT.of g22) at0 (ixL (SqL.of g32) az ⟨_, rfl, z0, _, rfl, SqL.of hz02, fun a1 h1 => ?_⟩))
  rw [show zd vs2 none (some 1) = vs2.take 1 from wS vs2 1]
  obtain ⟨H3, e3, w3, ha1⟩ := v6 (vs := vs2.take 1) h1
  rw [e3]
  clear e3
  refine ⟨two, fun q4 h4 => ⟨one, fun l4 h4' => ?_⟩⟩
  have wm := (qF h4 (.tup [.str "mix", .int 3])).trans (qF h4' (.lst [.ref q4]))
  have Im : IsI (upd (upd H3 q4 (.tup [.str "mix", .int 3])) l4 (.lst [.ref q4])) (.mix 3) (.ref q4) := ⟨q4, rfl, qF h4' _ _ _ qE⟩
  have kl4 : upd (upd H3 q4 (.tup [.str "mix", .int 3])) l4 (.lst [.ref q4]) l4 = some (.lst [.ref q4]) := qE
  change _
  generalize upd (upd H3 q4 (.tup [.str "mix", .int 3])) l4 (.lst [.ref q4]) = H4 at wm Im kl4
  refine ⟨a1, l4, _, _, rfl, rfl, wm _ _ ha1, kl4, ?_, fun c1 hc1 => ?_⟩
  · rw [List.length_take]
    exact jh (by show _ + 1 ≤ 1000; omega)
  obtain ⟨H5, e5, w5, hc1l⟩ := v6 (vs := vs2.take 1 ++ [.ref q4]) hc1
  rw [e5]
  clear e5
  have w25 := w3.trans (wm.trans w5)
  have l2 := his2.len
  have l2' : vs2.length = 5 := by rw [l2]; rfl
  refine (qY rfl (SqT.of (w25 _ _ g22)) at0 (ixL (SqL.of (w25 _ _ g32)) az ⟨_, rfl, z0, _, rfl, SqL.of (w25 _ _ hz02), fun a2 h2 => ?_⟩))
  rw [show zd vs2 (some 1) none = vs2.drop 1 from vK vs2 1]
  obtain ⟨H6, e6, w6, ha2⟩ := v6 (vs := vs2.drop 1) h2
  rw [e6]
  clear e6
  refine ⟨c1, a2, _, _, rfl, rfl, w6 _ _ hc1l, ha2, ?_, fun c2 hc2 => ?_⟩
  · rw [List.length_append, List.length_take, List.length_drop]
    exact jh (by show _ + 1 + _ ≤ 1000; omega)
  obtain ⟨H7, e7, w7, hc2l⟩ := v6 (vs := vs2.take 1 ++ [.ref q4] ++ vs2.drop 1) hc2
  rw [e7]
  clear e7
  refine ⟨one, fun L hL' => ?_⟩
  obtain ⟨H8, e8, w8, hLl⟩ := v6 (vs := [.ref c2]) hL'
  rw [e8]
  clear e8
  have w28 := w25.trans (w6.trans (w7.trans w8))
  refine (qY rfl (SqT.of (w28 _ _ g22)) at0 ⟨_, rfl, tl, _, rfl, SqL.of (w28 _ _ g32), fun a3 h3 => ?_⟩)
  rw [show zd (V.ref z0 :: zr) (some 1) none = zr from vK (V.ref z0 :: zr) 1]
  obtain ⟨H9, e9, w9, ha3⟩ := v6 (vs := zr) h3
  rw [e9]
  clear e9
  have lzr : zr.length ≤ 10 := by
    have h := (g4 H1 (RX.refl _ _)).len
    rw [hts] at h
    have h' : zr.length + 1 = 3 := h
    omega
  refine ⟨L, a3, _, _, rfl, rfl, w9 _ _ hLl, ha3, jh (by show 1 + _ ≤ 1000; omega), fun tl' htl' => ?_⟩
  obtain ⟨H10, e10, w10, htl''⟩ := v6 (vs := [.ref c2] ++ zr) htl'
  rw [e10]
  clear e10
  have w210 := w28.trans (w9.trans w10)
  refine (qY rfl (SqT.of (w210 _ _ g22)) at1 ⟨two, fun mt hmt => ?_⟩)
  obtain ⟨H11, e11, w11, hmt'⟩ := qJq (vs := [.ref tl', .ref ti]) hmt
  rw [e11]
  clear e11
  have w211 := w210.trans w11
  have nc2 := (D2.same (w25.trans w6)).ne hc2
  have ntl' := (D2.same (w28.trans w9)).ne htl'
  have mx : MX H11 xz mt ((.clip "a" 300 1 1 2 o :: .mix 3 :: .clip "a" (c2p o) (c2q o) 1 2 u :: [.gap g, .nest "low" 3 6, .clip "a" 9 1 2 1 7]) :: [T2 kq, t3]) tie := fun H' r => by
    have rr := (qk w211).trans r
    refine ⟨mt, tl', ti, _, rfl, r.ts _ _ hmt', r.sb _ _ ntl' (w11 _ _ htl''), ?_, rr.sb _ _ nti (r2.sb _ _ nti g5)⟩
    have := g4 H' (r2.trans rr)
    rw [hts] at this
    refine ⟨⟨c2, rfl, _, r.sb _ _ nc2 ((w8.trans (w9.trans (w10.trans w11))) _ _ hc2l), ?_⟩, this.2⟩
    have i2 := his2.ts rr.ts
    exact ((i2.take (i := 1)).app (.one (Im.ts ((qk (w5.trans (w6.trans (w7.trans (w8.trans (w9.trans (w10.trans w11))))))).trans r).ts))).app (i2.drop (i := 1))
  have D11 := D2.same w211
  have hX11 := hX2.rx (qk w211)
  have hrd11 := w211 _ _ hrd2
  have r011 : RX xz H H11 := (qk w1).trans (r2.trans (qk w211))
  clear w3 wm w5 w6 w7 w8 w9 w10 w11 w25 w28 w210 hmt' htl'' hLl hc2l hc1l ha1 ha2 ha3 kl4 Im his2 hz02 g22 g32 D2 w211 hX2 hrd2
  refine ⟨_, rfl, .inl ⟨rfl, D11.ty⟩, D11.pop (n := n) fun x1 H12 r12 D12 => ?_⟩
  refine ⟨_, _, rfl, rfl, cdB (by decide) (by decide), _, _, rfl, rfl, nz, _, _, rfl, rfl, ?_⟩
  have f1 := fm (x1.fdiv 3) (show (0 : Int) < 5 by decide)
  dsimp only
  obtain ⟨b, hb⟩ : ∃ b, (x1.fdiv 3).fmod 5 - 2 = b := ⟨_, rfl⟩
  rw [hb]
  have q1 : -2 ≤ b := by omega
  have q2 : b ≤ 2 := by omega
  clear hb f1
  have hX12 := (hX11.rx r12).tab
  have hM12 := mx H12 r12
  have hR12 : Rd H12 rd (.dK [(Sum.inr "a", .int 1000)]) := .inl (r12.sb _ _ nrd hrd11)
  have r012 := r011.trans r12
  clear mx hX11 hrd11 r011 D12 D11 r12
  have XT := hX12
  have XM := hM12
  have XR := hR12
  have XX := r012
  clear hX12 hM12 hR12 r012
  refine ⟨_, rfl, _, rfl, three, fun dz hdz => ?_⟩
  obtain ⟨Ha, ea, wa, hda⟩ := qJq (vs := [.str "cut", .int 0, .int p]) hdz
  rw [ea]
  clear ea hdz
  obtain ⟨dn, an⟩ := qMs (rd := rd) hL (XT.same wa) hda p1 p2
  refine ⟨_, rfl, tz, dz, rd, "cut", _, _, rfl, dn, hda, vi, an, fun y Hb eb hy => ?_⟩
  clear dn an
  refine ⟨_, rfl, three, fun g1 hg1 => ⟨one, fun l1 hl1 => ?_⟩⟩
  obtain ⟨Hc, ec, wc, hl1'⟩ := qOz hg1 hl1
  rw [ec]
  clear ec hg1 hl1
  refine qKy (hy.same wc) hl1' ⟨false, rfl, qo ?_⟩
  have wz := wa.trans (eb.trans wc)
  replace XT := XT.same wz
  replace XM := XM.same wz
  replace XR := kB wz XR
  replace XX := XX.trans (qk (xz := xz) wz)
  clear wa eb wc hy hl1' hda wz
  refine ⟨_, rfl, _, rfl, three, fun dz hdz => ?_⟩
  obtain ⟨Ha, ea, wa, hda⟩ := qJq (vs := [.str "heal", .int 0, .int o]) hdz
  rw [ea]
  clear ea hdz
  obtain ⟨dn, an⟩ := qLa (rd := rd) hL (XT.same wa) hda
  refine ⟨_, rfl, tz, dz, rd, "heal", _, _, rfl, dn, hda, vi, an, fun y Hb eb hy => ?_⟩
  clear dn an
  refine ⟨_, rfl, three, fun g1 hg1 => ⟨one, fun l1 hl1 => ?_⟩⟩
  obtain ⟨Hc, ec, wc, hl1'⟩ := qOz hg1 hl1
  rw [ec]
  clear ec hg1 hl1
  refine qKy (hy.same wc) hl1' ⟨false, rfl, qo ?_⟩
  have wz := wa.trans (eb.trans wc)
  replace XT := XT.same wz
  replace XM := XM.same wz
  replace XR := kB wz XR
  replace XX := XX.trans (qk (xz := xz) wz)
  clear wa eb wc hy hl1' hda wz
  refine ⟨_, rfl, _, rfl, four, fun dz hdz => ?_⟩
  obtain ⟨Ha, ea, wa, hda⟩ := qJq (vs := [.str "mix", .int 0, .int o, .int 3]) hdz
  rw [ea]
  clear ea hdz
  obtain ⟨dn, an⟩ := qNl (rd := rd) hL (XT.same wa) (kB wa XR) hda
  refine ⟨_, rfl, tz, dz, rd, "mix", _, _, rfl, dn, hda, zU, an, fun y Hb eb hy => ?_⟩
  clear dn an
  refine ⟨_, rfl, three, fun g1 hg1 => ⟨one, fun l1 hl1 => ?_⟩⟩
  obtain ⟨Hc, ec, wc, hl1'⟩ := qOz hg1 hl1
  rw [ec]
  clear ec hg1 hl1
  refine qKy (hy.same wc) hl1' ⟨false, rfl, qo ?_⟩
  have wz := wa.trans (eb.trans wc)
  replace XT := XT.same wz
  replace XM := XM.same wz
  replace XR := kB wz XR
  replace XX := XX.trans (qk (xz := xz) wz)
  clear wa eb wc hy hl1' hda wz
  refine ⟨_, rfl, _, rfl, three, fun dz hdz => ?_⟩
  obtain ⟨Ha, ea, wa, hda⟩ := qJq (vs := [.str "unmix", .int 0, .int o]) hdz
  rw [ea]
  clear ea hdz
  obtain ⟨dn, an⟩ := qKo (rd := rd) (XM.same wa) (by show 2 ≤ 7; decide) (by show 3 ≤ 90; decide) o1 u1 hda
  refine ⟨_, rfl, mt, dz, rd, "unmix", _, _, rfl, dn, hda, vi, an, fun y Hb eb hy => ?_⟩
  clear dn an
  refine ⟨_, rfl, four, fun g1 hg1 => ⟨one, fun l1 hl1 => ?_⟩⟩
  obtain ⟨Hc, ec, wc, hl1'⟩ := qNq hg1 hl1
  rw [ec]
  clear ec hg1 hl1
  refine qKy (hy.same wc) hl1' ⟨false, rfl, qo ?_⟩
  have wz := wa.trans (eb.trans wc)
  replace XT := XT.same wz
  replace XM := XM.same wz
  replace XR := kB wz XR
  replace XX := XX.trans (qk (xz := xz) wz)
  clear wa eb wc hy hl1' hda wz
  refine ⟨_, rfl, _, rfl, _, rfl, four, fun dz hdz => ?_⟩
  obtain ⟨Ha, ea, wa, hda⟩ := qJq (vs := [.str "roll", .int 0, .int o, .int b]) hdz
  rw [ea]
  clear ea hdz
  obtain ⟨dn, an⟩ := qLo (rd := rd) hL (XT.same wa) (kB wa XR) hda q1 q2
  refine ⟨_, rfl, tz, dz, rd, "roll", _, _, rfl, dn, hda, zU, an, fun y Hb eb hy => ?_⟩
  clear dn an
  refine ⟨_, rfl, _, rfl, _, _, rfl, rfl, _, rfl, _, rfl, four, fun g1 hg1 => ⟨one, fun l1 hl1 => ?_⟩⟩
  obtain ⟨Hc, ec, wc, hl1'⟩ := qNq hg1 hl1
  rw [ec]
  clear ec hg1 hl1
  refine qKy (hy.same wc) hl1' ⟨false, rfl, qo ?_⟩
  have wz := wa.trans (eb.trans wc)
  replace XT := XT.same wz
  replace XM := XM.same wz
  replace XR := kB wz XR
  replace XX := XX.trans (qk (xz := xz) wz)
  clear wa eb wc hy hl1' hda wz
  refine ⟨_, rfl, _, rfl, _, rfl, four, fun dz hdz => ?_⟩
  obtain ⟨Ha, ea, wa, hda⟩ := qJq (vs := [.str "slip", .int 0, .int p, .int b]) hdz
  rw [ea]
  clear ea hdz
  obtain ⟨dn, an⟩ := qMc (rd := rd) hL (XT.same wa) (kB wa XR) hda p1 p2 q1 q2
  refine ⟨_, rfl, tz, dz, rd, "slip", _, _, rfl, dn, hda, zU, an, fun y Hb eb hy => ?_⟩
  clear dn an
  refine ⟨_, rfl, _, rfl, _, rfl, four, fun g1 hg1 => ⟨one, fun l1 hl1 => ?_⟩⟩
  obtain ⟨Hc, ec, wc, hl1'⟩ := qNq hg1 hl1
  rw [ec]
  clear ec hg1 hl1
  exact qKy (hy.same wc) hl1' (kk _ (XX.trans (qk (wa.trans (eb.trans wc)))))
theorem qJr : ∀ i : Fin 3, qEn ((i.val : Int) - 1) ≤ qCu ((i.val : Int) - 1) (kA 9 1 1 1 5 99) (z7 11 1 1 1 99) 5 5 := by decide +kernel
def cl3 (j : Nat) : Im := .clip "a" (9 + (0 + (j : Int))) 1 1 1 5
theorem qJp {H : Hp} {tz dz rd : Addr} {b : Int} (hT : TabF H (.ref tz) [[cl3 0, cl3 1, cl3 2]] []) (hR : Rd H rd (.dK [(Sum.inr "a", .int 99)])) (hd : H dz = some (.tup [.str "slide", .int 0, .int 7, .int b])) (b1 : -1 ≤ b) (b2 : b ≤ 1) : qJl H tz dz rd ∧ Ans H tz dz "slide" [.a4 "slide" 0 (7 + b) (-b)] := by
  have g11 : Good 110 1 1 := qGs (by decide) (by decide) (by decide) (by decide)
  have c1 : Rc "a" 9 1 1 1 5 (rlA 99) 99 := rcN (qGs (by decide) (by decide) (by decide) (by decide)) g11 (by decide) (by decide) (by decide) (by decide)
  have c2 : Rc "a" 11 1 1 1 5 (rlA 99) 99 := rcN (qGs (by decide) (by decide) (by decide) (by decide)) g11 (by decide) (by decide) (by decide) (by decide)
  have hP : Pos [cl3 0, cl3 1, cl3 2] := fun m hm => by
    simp only [List.mem_cons, List.not_mem_nil, or_false] at hm
    rcases hm with rfl | rfl | rfl <;> exact ⟨by show (0 : Int) < 5; decide, by show ("clip" : Str) ≠ "mix"; decide +kernel⟩
  have hc : qEn b ≤ qCu b (kA 9 1 1 1 5 99) (z7 11 1 1 1 99) 5 5 := by
    have := qJr ⟨(b + 1).toNat, by omega⟩
    have e : (((b + 1).toNat : Nat) : Int) - 1 = b := by omega
    rw [show ((((⟨(b + 1).toNat, by omega⟩ : Fin 3).val : Nat) : Int) - 1) = b from e] at this
    exact this
  constructor
  · exact .roll (nt := 0) hT hd (rfl : _ = some [cl3 0, cl3 1, cl3 2]) (by show 1 ≤ 300; decide) (by show 3 ≤ 300; decide) hP (by decide) (.slide (i := 0) (d := 7 - (0 + 5)) rfl (rfl : _ = some (Im.clip "a" 9 1 1 1 5)) rfl (rfl : _ = some (Im.clip "a" 11 1 1 1 5)) c1 c2) (qDe hR) (by omega) hc
  · unfold Ans
    rw [if_neg (by decide +kernel), if_neg (by decide +kernel), if_neg (by decide +kernel), if_neg (by decide +kernel), if_neg (by decide +kernel), if_pos (.inr rfl)]
    exact ⟨0, 7, b, hd, rfl⟩
theorem qLb {xz : Addr} {H H' H1 H2 : Hp} (e : Same H H') (h : H' xz = none) (e1 : Same H' H1) (r : RX xz H1 H2) : Same H H2 := fun b u hb => by
  have h1 := e b u hb
  exact r.sb b u (fun z => by rw [z, h] at h1; cases h1) (e1 b u h1)
set_option maxHeartbeats 8000000 in
theorem qNi (T : Tx K mg a) : FnOk P w K mg base CX0 13 a.a_law a.f_law ["_law_script"] (qKg K) := by
  refine T.d_law.F.ok sc_law (fun vs H Q E h => ?_) (fun cdv A outer s H vs Q E hr h => ?_)
  · obtain ⟨a, ns, rfl, _⟩ := h
    rfl
  obtain ⟨zs, ns, rfl, hS, hlen, kk⟩ := h
  have hu := hr.units
  have hu1 := qIe hr
  refine ⟨_, (qD (xp PassesOwn.never rfl (jC (j6 zf (pv 0) x6 (xn qB))) (jL (i := 1) sc_law.nd rfl (Or.inl rfl)) (qD (qU (i := 2) sc_law.nd rfl (Or.inl rfl) (qK T.d__law_stream (vA T) hr rfl (qA (pv 1) (qA qB qC))))
      (qD (qU (i := 3) sc_law.nd rfl (Or.inl rfl) (qK T.d__law_table (qB8 T) hr rfl (qA (pv 2) qC)))
      (qD (qU (i := 4) sc_law.nd rfl (Or.inl rfl) (qK T.d__law_deed (qDo T) hr rfl (qA (pv 2) (qA (pv 3) qC))))
      (qI (qc (PW.pt (xM (qL (qBl hu) (qK T.d_back_of (xI T) hr rfl (qA (pv 3) (qA (pv 4) (qA (qFm (qB2 qM qB qFw) rfl rfl (by simp) (by decide)) qC)))) (qK T.d__law_due (qEw T) hr rfl (qA (pv 3) (qA (pv 4) qC))) (qS _)) (jR (jZ (q9 (qK T.d__law_small (qBy T) hr rfl (qA (pv 3) (qA (pv 2) qC)))))))) (qI (qN zh)) qO))))))
      (qD (qU (i := 2) sc_law.nd rfl (Or.inl rfl) (qK T.d__law_stream (vA T) hr rfl (qA (qK T.d__law_cell_at (wX T) hr rfl (qA (pv 0) (qA qB qC))) (qA qB qC))))
      (qD (qU (i := 5) sc_law.nd rfl (Or.inl rfl) (qW jM (qW jX (qW qr (qJ qm (pv 2) qB (fun _ _ => rfl)) qB) qB) qB))
      (qD (qHr (i := 6) [] [] sc_law.nd rfl rfl rfl (qAm rfl T.b_range (qA qB qC)) (fun _ _ _ _ => (qX (qA qM (qA qM (qA (qX (qA (qW qj qB (pv 0)) (qA qB qC))) (qA (qX (qA qB (qA qB qC))) (qA qB qC))))))))
      (qI (qN (j1 (qK2 hu) (qK T.d_back_of (xI T) hr rfl (qA (qX (qA (qh (qA (pv 6) qC)) (qA (qh qC) qC))) (qA (qX (qA qM (qA qB (qA qB (qA (pv 5) qC))))) (qA (qFm (qB2 qM qB qFw) rfl rfl (by simp) (by decide)) qC)))) (qh (qA (qX (qA qM (qA qB (qA (qW qj qB (pv 5)) (qA (zM jn (pv 5)) qC))))) qC)) (qS _)))))))), ?_⟩
  try dsimp only [jN, qg]
  have one : (1 : Nat) ≤ sizeLine := by decide
  have two : (2 : Nat) ≤ sizeLine := by decide
  have four : (4 : Nat) ≤ sizeLine := by decide
  have five : (5 : Nat) ≤ sizeLine := by decide
  obtain ⟨cs, hcut, hcl⟩ := qKe ns none (some 5)
  refine ⟨_, rfl, _, rfl, zs, _, rfl, hS, fun zc hzc => ?_⟩
  rw [hcut]
  obtain ⟨H0, e0, w0, hzcl⟩ := v6 (vs := cs.map V.int) hzc
  rw [e0]
  clear e0
  refine ⟨zc, rfl, ⟨_, SqL.of hzcl⟩, jk (K := K) (a := zc) (xs := cs.map V.int) (fun i σ H' => ∃ (o1 o2 o3 o4 : Option V), σ = [some (.ref zs), o1, o2, o3, o4, none, none] ∧ Same H0 H') ⟨none, none, none, none, rfl, Same.refl _⟩ ?_ ?_ ?_⟩
  · rintro i σ H' hi' ⟨o1, o2, o3, o4, rfl, e⟩
    exact SqL.of (e _ _ hzcl)
  · rintro i x σ H' hx ⟨o1, o2, o3, o4, rfl, e⟩
    obtain ⟨c, _, rfl⟩ := ku hx
    refine ⟨_, rfl, c, 30, rfl, by decide, by decide, fun xz xs H1 e1 hxz hxs hxl hxr => ?_⟩
    have D1 : Dr H1 xz 30 := ⟨xs, hxs, by rw [hxl]; decide⟩
    refine ⟨_, rfl, xz, 24, rfl, D1, fun tt H2 ts tie o u r2 D2 X2 L2 => ?_⟩
    refine ⟨_, rfl, _, rfl, xz, tt, 20, ts, tie, o, u, rfl, D2, X2, L2, fun dz H3 k d r3 D3 k3 hD hO => ?_⟩
    refine ⟨_, rfl, _, rfl, fun rd hrd => ⟨qE, [(Sum.inr "a", .int 1000)], rfl, (by decide), ?_⟩⟩
    obtain ⟨H4, e4, w4, hrd4⟩ := qL8 (N := 1000) hrd
    rw [e4]
    clear e4
    have X4 := X2.rx (r3.trans (qk w4))
    obtain ⟨dn, an, du⟩ := qMo L2 X4.tab (.inl hrd4) k3 (hD.same w4) hO
    obtain ⟨ys, hd, a0, _, _⟩ := (hD.same w4).opn
    refine ⟨tt, dz, rd, d.wd, _, ys, rfl, dn, hd, a0, an, fun y H5 e5 hy => ?_⟩
    refine ⟨_, rfl, _, rfl, tt, dz, ts, tie, k, d, rfl, (L2.tabp X4.tab k3).same e5, (hD.same w4).same e5, du, fun y2 H6 e6 hy2 => ?_⟩
    refine qKy (hy.same e6) hy2 ⟨false, rfl, qo ?_⟩
    have w36 := w4.trans (e5.trans e6)
    refine ⟨_, rfl, _, rfl, xz, tt, 18, ts, tie, o, u, rfl, D3.same w36, X2.rx (r3.trans (qk w36)), L2, fun H7 r7 => ⟨true, rfl, qo ?_⟩⟩
    exact ⟨_, _, _, _, rfl, qLb e hxz e1 (r2.trans (r3.trans ((qk w36).trans r7)))⟩
  rintro σ H' ⟨o1, o2, o3, o4, rfl, e⟩
  refine ⟨_, rfl, zs, ns, 0, rfl, (w0.trans e).seq hS, hlen, by decide, fun c0 => ?_⟩
  refine ⟨c0, 9, rfl, by decide, by decide, fun xz xs H1 e1 hxz hxs hxl hxr => ?_⟩
  obtain ⟨x0, xr, rfl⟩ : ∃ x0 xr, xs = x0 :: xr := by
    cases xs with
    | nil => exact absurd hxl (by decide)
    | cons a b => exact ⟨a, b, rfl⟩
  have ax : atI ((x0 :: xr).map V.int) 0 = some (.int x0) := qq (j := 0) rfl
  refine (qPp rfl (SqL.of hxs) ax ⟨_, _, rfl, rfl, cdB (by decide) (by decide), _, _, rfl, rfl, nz, _, _, rfl, rfl, ?_⟩)
  have f0 := fm (x0.fdiv 3) (show (0 : Int) < 3 by decide)
  dsimp only
  obtain ⟨b, hb⟩ : ∃ b, (x0.fdiv 3).fmod 3 - 1 = b := ⟨_, rfl⟩
  rw [hb]
  have q1 : -1 ≤ b := by omega
  have q2 : b ≤ 1 := by omega
  clear hb f0
  refine ⟨3, rfl, by decide, by decide, qHf (n := 3) (fun i acc H2 => IsIs H2 ((List.range i).map cl3) acc ∧ Same H1 H2) ⟨trivial, Same.refl _⟩ ?_ ?_ ?_⟩
  · rintro i acc H2 hi ⟨h, _⟩
    refine qd ?_
    rw [h.len, List.length_map, List.length_range]
    omega
  · rintro i acc H2 hi ⟨h, e2⟩
    refine ⟨_, rfl, _, _, rfl, rfl, two, fun p1 h1 => ⟨two, fun p2 h2 => ⟨five, fun p3 h3 => ?_⟩⟩⟩
    obtain ⟨H3, e3, w3, I3⟩ := qEj (n := "a") (l := 5) h1 h2 h3
    rw [e3]
    refine Nxt.mk hi ⟨?_, e2.trans w3⟩
    rw [List.range_succ, List.map_append]
    exact (h.ts (qV w3)).app (.one I3)
  rintro acc H2 ⟨hi3, e2⟩ cz hcz
  obtain ⟨H3, e3, w3, hczl⟩ := v6 (vs := acc) hcz
  rw [e3]
  clear e3
  refine ⟨_, rfl, one, fun L hL => ?_⟩
  obtain ⟨H4, e4, w4, hLl⟩ := v6 (vs := [.ref cz]) hL
  rw [e4]
  clear e4
  refine ⟨sL0, fun ti hti => ?_⟩
  obtain ⟨H5, e5, w5, htil⟩ := v6 (vs := []) hti
  rw [e5]
  clear e5
  refine ⟨two, fun tz htz => ?_⟩
  obtain ⟨H6, e6, w6, htzl⟩ := qJq (vs := [.ref L, .ref ti]) htz
  rw [e6]
  clear e6
  refine ⟨_, rfl, four, fun dz hdz => ?_⟩
  obtain ⟨H7, e7, w7, hdz7⟩ := qJq (vs := [.str "slide", .int 0, .int 7, .int b]) hdz
  rw [e7]
  clear e7
  refine fun rd hrd => ⟨qE, [(Sum.inr "a", .int 99)], rfl, (by decide), ?_⟩
  obtain ⟨H8, e8, w8, hrd8⟩ := qL8 (N := 99) hrd
  rw [e8]
  clear e8
  have w78 := w7.trans w8
  have hT8 : TabF H8 (.ref tz) [[cl3 0, cl3 1, cl3 2]] [] := ⟨tz, L, ti, _, rfl, w78 _ _ htzl, (w5.trans (w6.trans w78)) _ _ hLl, ⟨⟨cz, rfl, _, (w4.trans (w5.trans (w6.trans w78))) _ _ hczl, hi3.ts (qV (w3.trans (w4.trans (w5.trans (w6.trans w78)))))⟩, trivial⟩, (w6.trans w78) _ _ htil⟩
  obtain ⟨dn, an⟩ := qJp hT8 (.inl hrd8) (w8 _ _ hdz7) q1 q2
  refine ⟨tz, dz, rd, "slide", _, _, rfl, dn, w8 _ _ hdz7, zU, an, fun y H9 e9 hy => ?_⟩
  refine ⟨_, rfl, _, _, rfl, rfl, _, rfl, _, rfl, four, fun g1 hg1 => ⟨one, fun l1 hl1 => ?_⟩⟩
  obtain ⟨H10, e10, w10, hl10⟩ := qNq hg1 hl1
  rw [e10]
  exact qKy (hy.same w10) hl10 (kk _)
end
theorem all_mk {l : W.OpenLaw} {w : World} {K : W.Frag} {h : Heap} {mg : Str → Option Value} {fa f0 f1 f2 f3 f4 f5 f6 f7 f8 f9 f10 f11 f12 f13 f14 f15 f16 f17 f18 f19 f20 f21 f22 f23 f24 f25 f26 f27 f28 f29 f30 f31 f32 f33 f34 f35 f36 f37 f38 f39 f40 f41 f42 f43 f44 f45 f46 f47 f48 f49 f50 f51 f52 f53 f54 f55 f56 f57 f58 f59 f60 f61 f62 f63 f64 f65 f66 f67 f68 f69 f70 f71 f72 f73 f74 f75 f76 f77 f78 f79 f80 f81 f82 f83 f84 f85 f86 f87 C0 C1 C2 C3 C4 C5 nNOUGHT nROLLS nLAYS nPUSHES nCHANGES fmShort : Addr} (X : K.In h) (G : h.Ns mainGlobals mg) (hfa : mg "law" = some (.ref fa))
    {od0 an0 od1 an1 od2 an2 od3 an3 od4 an4 od5 an5 od6 an6 od7 an7 od8 an8 od9 an9 od10 an10 od11 an11 od12 an12 od13 an13 od14 an14 od15 an15 od16 an16 od17 an17 od18 an18 od19 an19 od20 an20 od21 an21 od22 an22 od23 an23 od24 an24 od25 an25 od26 an26 od27 an27 od28 an28 od29 an29 od30 an30 od31 an31 od32 an32 od33 an33 od34 an34 od35 an35 od36 an36 od37 an37 od38 an38 od39 an39 od40 an40 od41 an41 od42 an42 od43 an43 od44 an44 od45 an45 od46 an46 od47 an47 od48 an48 od49 an49 od50 an50 od51 an51 od52 an52 od53 an53 od54 an54 od55 an55 od56 an56 od57 an57 od58 an58 od59 an59 od60 an60 od61 an61 od62 an62 od63 an63 od64 an64 od65 an65 od66 an66 od67 an67 od68 an68 od69 an69 od70 an70 od71 an71 od72 an72 od73 an73 od74 an74 od75 an75 od76 an76 od77 an77 od78 an78 od79 an79 od80 an80 od81 an81 od82 an82 od83 an83 od84 an84 od85 an85 od86 an86 od87 an87 odNOUGHT odROLLS odLAYS odPUSHES odCHANGES odmShort anmShort : Option Addr} {sl0 sl1 sl2 sl3 sl4 sl5 sl6 sl7 sl8 sl9 sl10 sl11 sl12 sl13 sl14 sl15 sl16 sl17 sl18 sl19 sl20 sl21 sl22 sl23 sl24 sl25 sl26 sl27 sl28 sl29 sl30 sl31 sl32 sl33 sl34 sl35 sl36 sl37 sl38 sl39 sl40 sl41 sl42 sl43 sl44 sl45 sl46 sl47 sl48 sl49 sl50 sl51 sl52 sl53 sl54 sl55 sl56 sl57 sl58 sl59 sl60 sl61 sl62 sl63 sl64 sl65 sl66 sl67 sl68 sl69 sl70 sl71 sl72 sl73 sl74 sl75 sl76 sl77 sl78 sl79 sl80 sl81 sl82 sl83 sl84 sl85 sl86 sl87 slNOUGHT slROLLS slLAYS slPUSHES slCHANGES slmShort : Array (Option Value)} {oc0 kV0 dc0 pm0 cd0 ct0 oc1 kV1 dc1 pm1 cd1 ct1 oc2 kV2 dc2 pm2 cd2 ct2 oc3 kV3 dc3 pm3 cd3 ct3 oc4 kV4 dc4 pm4 cd4 ct4 oc5 kV5 dc5 pm5 cd5 ct5 oc6 kV6 dc6 pm6 cd6 ct6 oc7 kV7 dc7 pm7 cd7 ct7 oc8 kV8 dc8 pm8 cd8 ct8 oc9 kV9 dc9 pm9 cd9 ct9 oc10 kV10 dc10 pm10 cd10 ct10 oc11 kV11 dc11 pm11 cd11 ct11 oc12 kV12 dc12 pm12 cd12 ct12 oc13 kV13 dc13 pm13 cd13 ct13 oc14 kV14 dc14 pm14 cd14 ct14 oc15 kV15 dc15 pm15 cd15 ct15 oc16 kV16 dc16 pm16 cd16 ct16 oc17 kV17 dc17 pm17 cd17 ct17 oc18 kV18 dc18 pm18 cd18 ct18 oc19 kV19 dc19 pm19 cd19 ct19 oc20 kV20 dc20 pm20 cd20 ct20 oc21 kV21 dc21 pm21 cd21 ct21 oc22 kV22 dc22 pm22 cd22 ct22 oc23 kV23 dc23 pm23 cd23 ct23 oc24 kV24 dc24 pm24 cd24 ct24 oc25 kV25 dc25 pm25 cd25 ct25 oc26 kV26 dc26 pm26 cd26 ct26 oc27 kV27 dc27 pm27 cd27 ct27 oc28 kV28 dc28 pm28 cd28 ct28 oc29 kV29 dc29 pm29 cd29 ct29 oc30 kV30 dc30 pm30 cd30 ct30 oc31 kV31 dc31 pm31 cd31 ct31 oc32 kV32 dc32 pm32 cd32 ct32 oc33 kV33 dc33 pm33 cd33 ct33 oc34 kV34 dc34 pm34 cd34 ct34 oc35 kV35 dc35 pm35 cd35 ct35 oc36 kV36 dc36 pm36 cd36 ct36 oc37 kV37 dc37 pm37 cd37 ct37 oc38 kV38 dc38 pm38 cd38 ct38 oc39 kV39 dc39 pm39 cd39 ct39 oc40 kV40 dc40 pm40 cd40 ct40 oc41 kV41 dc41 pm41 cd41 ct41 oc42 kV42 dc42 pm42 cd42 ct42 oc43 kV43 dc43 pm43 cd43 ct43 oc44 kV44 dc44 pm44 cd44 ct44 oc45 kV45 dc45 pm45 cd45 ct45 oc46 kV46 dc46 pm46 cd46 ct46 oc47 kV47 dc47 pm47 cd47 ct47 oc48 kV48 dc48 pm48 cd48 ct48 oc49 kV49 dc49 pm49 cd49 ct49 oc50 kV50 dc50 pm50 cd50 ct50 oc51 kV51 dc51 pm51 cd51 ct51 oc52 kV52 dc52 pm52 cd52 ct52 oc53 kV53 dc53 pm53 cd53 ct53 oc54 kV54 dc54 pm54 cd54 ct54 oc55 kV55 dc55 pm55 cd55 ct55 oc56 kV56 dc56 pm56 cd56 ct56 oc57 kV57 dc57 pm57 cd57 ct57 oc58 kV58 dc58 pm58 cd58 ct58 oc59 kV59 dc59 pm59 cd59 ct59 oc60 kV60 dc60 pm60 cd60 ct60 oc61 kV61 dc61 pm61 cd61 ct61 oc62 kV62 dc62 pm62 cd62 ct62 oc63 kV63 dc63 pm63 cd63 ct63 oc64 kV64 dc64 pm64 cd64 ct64 oc65 kV65 dc65 pm65 cd65 ct65 oc66 kV66 dc66 pm66 cd66 ct66 oc67 kV67 dc67 pm67 cd67 ct67 oc68 kV68 dc68 pm68 cd68 ct68 oc69 kV69 dc69 pm69 cd69 ct69 oc70 kV70 dc70 pm70 cd70 ct70 oc71 kV71 dc71 pm71 cd71 ct71 oc72 kV72 dc72 pm72 cd72 ct72 oc73 kV73 dc73 pm73 cd73 ct73 oc74 kV74 dc74 pm74 cd74 ct74 oc75 kV75 dc75 pm75 cd75 ct75 oc76 kV76 dc76 pm76 cd76 ct76 oc77 kV77 dc77 pm77 cd77 ct77 oc78 kV78 dc78 pm78 cd78 ct78 oc79 kV79 dc79 pm79 cd79 ct79 oc80 kV80 dc80 pm80 cd80 ct80 oc81 kV81 dc81 pm81 cd81 ct81 oc82 kV82 dc82 pm82 cd82 ct82 oc83 kV83 dc83 pm83 cd83 ct83 oc84 kV84 dc84 pm84 cd84 ct84 oc85 kV85 dc85 pm85 cd85 ct85 oc86 kV86 dc86 pm86 cd86 ct86 oc87 kV87 dc87 pm87 cd87 ct87 ocmShort kVmShort dcmShort pmmShort cdmShort ctmShort : Value} {tLETTERS tLONGEST_NAME tMOST_ROOM tNOUGHT_0 tNOUGHT_1 tMOST_BY tROLLS_0 tROLLS_1 tROLLS_2 tLAYS_0 tLAYS_1 tPUSHES_0 tPUSHES_1 tPUSHES_2 tCHANGES_0 tCHANGES_1 tCHANGES_2 tCHANGES_3 tCHANGES_4 tCHANGES_5 : Tok} {nnNOUGHT nnROLLS nnLAYS nnPUSHES nnCHANGES : Nat}
    (a0 : W.nsIn K mainGlobals "is_whole" = some (some (.ref f0))) (l0 : K.lookup f0 = some ⟨oc0, od0, .func (W.fnOf "is_whole" "is_whole" (qQ x9) (qP x9) (qG x9) .none kV0 dc0 pm0 an0 cd0 ct0), sl0⟩) (c0 : W.codeIn K cd0 "is_whole" = true) (k0 : W.keepIn K (.ref f0) = true)
    (a1 : W.nsIn K mainGlobals "common_divisor" = some (some (.ref f1))) (l1 : K.lookup f1 = some ⟨oc1, od1, .func (W.fnOf "common_divisor" "common_divisor" (qQ jH) (qP jH) (qG jH) .none kV1 dc1 pm1 an1 cd1 ct1), sl1⟩) (c1 : W.codeIn K cd1 "common_divisor" = true) (k1 : W.keepIn K (.ref f1) = true)
    (a2 : W.nsIn K mainGlobals "is_fraction" = some (some (.ref f2))) (l2 : K.lookup f2 = some ⟨oc2, od2, .func (W.fnOf "is_fraction" "is_fraction" (qQ jy) (qP jy) (qG jy) .none kV2 dc2 pm2 an2 cd2 ct2), sl2⟩) (c2 : W.codeIn K cd2 "is_fraction" = true) (k2 : W.keepIn K (.ref f2) = true)
    (a3 : W.nsIn K mainGlobals "fraction" = some (some (.ref f3))) (l3 : K.lookup f3 = some ⟨oc3, od3, .func (W.fnOf "fraction" "fraction" (qQ zI) (qP zI) (qG zI) .none kV3 dc3 pm3 an3 cd3 ct3), sl3⟩) (c3 : W.codeIn K cd3 "fraction" = true) (k3 : W.keepIn K (.ref f3) = true)
    (a4 : W.nsIn K mainGlobals "sum_of" = some (some (.ref f4))) (l4 : K.lookup f4 = some ⟨oc4, od4, .func (W.fnOf "sum_of" "sum_of" (qQ kh) (qP kh) (qG kh) .none kV4 dc4 pm4 an4 cd4 ct4), sl4⟩) (c4 : W.codeIn K cd4 "sum_of" = true) (k4 : W.keepIn K (.ref f4) = true)
    (a5 : W.nsIn K mainGlobals "less_by" = some (some (.ref f5))) (l5 : K.lookup f5 = some ⟨oc5, od5, .func (W.fnOf "less_by" "less_by" (qQ zk) (qP zk) (qG zk) .none kV5 dc5 pm5 an5 cd5 ct5), sl5⟩) (c5 : W.codeIn K cd5 "less_by" = true) (k5 : W.keepIn K (.ref f5) = true)
    (a6 : W.nsIn K mainGlobals "times_of" = some (some (.ref f6))) (l6 : K.lookup f6 = some ⟨oc6, od6, .func (W.fnOf "times_of" "times_of" (qQ zG) (qP zG) (qG zG) .none kV6 dc6 pm6 an6 cd6 ct6), sl6⟩) (c6 : W.codeIn K cd6 "times_of" = true) (k6 : W.keepIn K (.ref f6) = true)
    (a7 : W.nsIn K mainGlobals "quotient" = some (some (.ref f7))) (l7 : K.lookup f7 = some ⟨oc7, od7, .func (W.fnOf "quotient" "quotient" (qQ zK) (qP zK) (qG zK) .none kV7 dc7 pm7 an7 cd7 ct7), sl7⟩) (c7 : W.codeIn K cd7 "quotient" = true) (k7 : W.keepIn K (.ref f7) = true)
    (a8 : W.nsIn K mainGlobals "is_before" = some (some (.ref f8))) (l8 : K.lookup f8 = some ⟨oc8, od8, .func (W.fnOf "is_before" "is_before" (qQ xk) (qP xk) (qG xk) .none kV8 dc8 pm8 an8 cd8 ct8), sl8⟩) (c8 : W.codeIn K cd8 "is_before" = true) (k8 : W.keepIn K (.ref f8) = true)
    (a9 : W.nsIn K mainGlobals "floor_of" = some (some (.ref f9))) (l9 : K.lookup f9 = some ⟨oc9, od9, .func (W.fnOf "floor_of" "floor_of" (qQ zH) (qP zH) (qG zH) .none kV9 dc9 pm9 an9 cd9 ct9), sl9⟩) (c9 : W.codeIn K cd9 "floor_of" = true) (k9 : W.keepIn K (.ref f9) = true)
    (a10 : W.nsIn K mainGlobals "is_name" = some (some (.ref f10))) (l10 : K.lookup f10 = some ⟨oc10, od10, .func (W.fnOf "is_name" "is_name" (qQ zm) (qP zm) (qG zm) .none kV10 dc10 pm10 an10 cd10 ct10), sl10⟩) (c10 : W.codeIn K cd10 "is_name" = true) (k10 : W.keepIn K (.ref f10) = true)
    (a11 : W.nsIn K mainGlobals "has_clip_form" = some (some (.ref f11))) (l11 : K.lookup f11 = some ⟨oc11, od11, .func (W.fnOf "has_clip_form" "has_clip_form" (qQ jQ) (qP jQ) (qG jQ) .none kV11 dc11 pm11 an11 cd11 ct11), sl11⟩) (c11 : W.codeIn K cd11 "has_clip_form" = true) (k11 : W.keepIn K (.ref f11) = true)
    (a12 : W.nsIn K mainGlobals "place_at" = some (some (.ref f12))) (l12 : K.lookup f12 = some ⟨oc12, od12, .func (W.fnOf "place_at" "place_at" (qQ zE) (qP zE) (qG zE) .none kV12 dc12 pm12 an12 cd12 ct12), sl12⟩) (c12 : W.codeIn K cd12 "place_at" = true) (k12 : W.keepIn K (.ref f12) = true)
    (a13 : W.nsIn K mainGlobals "picture_at" = some (some (.ref f13))) (l13 : K.lookup f13 = some ⟨oc13, od13, .func (W.fnOf "picture_at" "picture_at" (qQ xD) (qP xD) (qG xD) .none kV13 dc13 pm13 an13 cd13 ct13), sl13⟩) (c13 : W.codeIn K cd13 "picture_at" = true) (k13 : W.keepIn K (.ref f13) = true)
    (a14 : W.nsIn K mainGlobals "is_there" = some (some (.ref f14))) (l14 : K.lookup f14 = some ⟨oc14, od14, .func (W.fnOf "is_there" "is_there" (qQ zB) (qP zB) (qG zB) .none kV14 dc14 pm14 an14 cd14 ct14), sl14⟩) (c14 : W.codeIn K cd14 "is_there" = true) (k14 : W.keepIn K (.ref f14) = true)
    (a15 : W.nsIn K mainGlobals "check_clip" = some (some (.ref f15))) (l15 : K.lookup f15 = some ⟨oc15, od15, .func (W.fnOf "check_clip" "check_clip" (qQ xL) (qP xL) (qG xL) .none kV15 dc15 pm15 an15 cd15 ct15), sl15⟩) (c15 : W.codeIn K cd15 "check_clip" = true) (k15 : W.keepIn K (.ref f15) = true)
    (a16 : W.nsIn K mainGlobals "clip_part" = some (some (.ref f16))) (l16 : K.lookup f16 = some ⟨oc16, od16, .func (W.fnOf "clip_part" "clip_part" (qQ xc) (qP xc) (qG xc) .none kV16 dc16 pm16 an16 cd16 ct16), sl16⟩) (c16 : W.codeIn K cd16 "clip_part" = true) (k16 : W.keepIn K (.ref f16) = true)
    (a17 : W.nsIn K mainGlobals "goes_on" = some (some (.ref f17))) (l17 : K.lookup f17 = some ⟨oc17, od17, .func (W.fnOf "goes_on" "goes_on" (qQ zy) (qP zy) (qG zy) .none kV17 dc17 pm17 an17 cd17 ct17), sl17⟩) (c17 : W.codeIn K cd17 "goes_on" = true) (k17 : W.keepIn K (.ref f17) = true)
    (a18 : W.nsIn K mainGlobals "moments_there" = some (some (.ref f18))) (l18 : K.lookup f18 = some ⟨oc18, od18, .func (W.fnOf "moments_there" "moments_there" (qQ jS) (qP jS) (qG jS) .none kV18 dc18 pm18 an18 cd18 ct18), sl18⟩) (c18 : W.codeIn K cd18 "moments_there" = true) (k18 : W.keepIn K (.ref f18) = true)
    (a19 : W.nsIn K mainGlobals "head_room" = some (some (.ref f19))) (l19 : K.lookup f19 = some ⟨oc19, od19, .func (W.fnOf "head_room" "head_room" (qQ xg) (qP xg) (qG xg) .none kV19 dc19 pm19 an19 cd19 ct19), sl19⟩) (c19 : W.codeIn K cd19 "head_room" = true) (k19 : W.keepIn K (.ref f19) = true)
    (a20 : W.nsIn K mainGlobals "tail_room" = some (some (.ref f20))) (l20 : K.lookup f20 = some ⟨oc20, od20, .func (W.fnOf "tail_room" "tail_room" (qQ xl) (qP xl) (qG xl) .none kV20 dc20 pm20 an20 cd20 ct20), sl20⟩) (c20 : W.codeIn K cd20 "tail_room" = true) (k20 : W.keepIn K (.ref f20) = true)
    (a21 : W.nsIn K mainGlobals "is_length" = some (some (.ref f21))) (l21 : K.lookup f21 = some ⟨oc21, od21, .func (W.fnOf "is_length" "is_length" (qQ xj) (qP xj) (qG xj) .none kV21 dc21 pm21 an21 cd21 ct21), sl21⟩) (c21 : W.codeIn K cd21 "is_length" = true) (k21 : W.keepIn K (.ref f21) = true)
    (a22 : W.nsIn K mainGlobals "has_nest_form" = some (some (.ref f22))) (l22 : K.lookup f22 = some ⟨oc22, od22, .func (W.fnOf "has_nest_form" "has_nest_form" (qQ jU) (qP jU) (qG jU) .none kV22 dc22 pm22 an22 cd22 ct22), sl22⟩) (c22 : W.codeIn K cd22 "has_nest_form" = true) (k22 : W.keepIn K (.ref f22) = true)
    (a23 : W.nsIn K mainGlobals "moments_of" = some (some (.ref f23))) (l23 : K.lookup f23 = some ⟨oc23, od23, .func (W.fnOf "moments_of" "moments_of" (qQ xH) (qP xH) (qG xH) .none kV23 dc23 pm23 an23 cd23 ct23), sl23⟩) (c23 : W.codeIn K cd23 "moments_of" = true) (k23 : W.keepIn K (.ref f23) = true)
    (a24 : W.nsIn K mainGlobals "one_form" = some (some (.ref f24))) (l24 : K.lookup f24 = some ⟨oc24, od24, .func (W.fnOf "one_form" "one_form" (qQ zF) (qP zF) (qG zF) .none kV24 dc24 pm24 an24 cd24 ct24), sl24⟩) (c24 : W.codeIn K cd24 "one_form" = true) (k24 : W.keepIn K (.ref f24) = true)
    (a25 : W.nsIn K mainGlobals "length_of" = some (some (.ref f25))) (l25 : K.lookup f25 = some ⟨oc25, od25, .func (W.fnOf "length_of" "length_of" (qQ xm) (qP xm) (qG xm) .none kV25 dc25 pm25 an25 cd25 ct25), sl25⟩) (c25 : W.codeIn K cd25 "length_of" = true) (k25 : W.keepIn K (.ref f25) = true)
    (a26 : W.nsIn K mainGlobals "item_at" = some (some (.ref f26))) (l26 : K.lookup f26 = some ⟨oc26, od26, .func (W.fnOf "item_at" "item_at" (qQ zq) (qP zq) (qG zq) .none kV26 dc26 pm26 an26 cd26 ct26), sl26⟩) (c26 : W.codeIn K cd26 "item_at" = true) (k26 : W.keepIn K (.ref f26) = true)
    (a27 : W.nsIn K mainGlobals "kind_at" = some (some (.ref f27))) (l27 : K.lookup f27 = some ⟨oc27, od27, .func (W.fnOf "kind_at" "kind_at" (qQ zl) (qP zl) (qG zl) .none kV27 dc27 pm27 an27 cd27 ct27), sl27⟩) (c27 : W.codeIn K cd27 "kind_at" = true) (k27 : W.keepIn K (.ref f27) = true)
    (a28 : W.nsIn K mainGlobals "place_ahead" = some (some (.ref f28))) (l28 : K.lookup f28 = some ⟨oc28, od28, .func (W.fnOf "place_ahead" "place_ahead" (qQ jz) (qP jz) (qG jz) .none kV28 dc28 pm28 an28 cd28 ct28), sl28⟩) (c28 : W.codeIn K cd28 "place_ahead" = true) (k28 : W.keepIn K (.ref f28) = true)
    (a29 : W.nsIn K mainGlobals "place_behind" = some (some (.ref f29))) (l29 : K.lookup f29 = some ⟨oc29, od29, .func (W.fnOf "place_behind" "place_behind" (qQ jc) (qP jc) (qG jc) .none kV29 dc29 pm29 an29 cd29 ct29), sl29⟩) (c29 : W.codeIn K cd29 "place_behind" = true) (k29 : W.keepIn K (.ref f29) = true)
    (a30 : W.nsIn K mainGlobals "neighbours_at" = some (some (.ref f30))) (l30 : K.lookup f30 = some ⟨oc30, od30, .func (W.fnOf "neighbours_at" "neighbours_at" (qQ jT) (qP jT) (qG jT) .none kV30 dc30 pm30 an30 cd30 ct30), sl30⟩) (c30 : W.codeIn K cd30 "neighbours_at" = true) (k30 : W.keepIn K (.ref f30) = true)
    (a31 : W.nsIn K mainGlobals "clips_at_border" = some (some (.ref f31))) (l31 : K.lookup f31 = some ⟨oc31, od31, .func (W.fnOf "clips_at_border" "clips_at_border" (qQ qz) (qP qz) (qG qz) .none kV31 dc31 pm31 an31 cd31 ct31), sl31⟩) (c31 : W.codeIn K cd31 "clips_at_border" = true) (k31 : W.keepIn K (.ref f31) = true)
    (a32 : W.nsIn K mainGlobals "lies_within" = some (some (.ref f32))) (l32 : K.lookup f32 = some ⟨oc32, od32, .func (W.fnOf "lies_within" "lies_within" (qQ jt) (qP jt) (qG jt) .none kV32 dc32 pm32 an32 cd32 ct32), sl32⟩) (c32 : W.codeIn K cd32 "lies_within" = true) (k32 : W.keepIn K (.ref f32) = true)
    (a33 : W.nsIn K mainGlobals "item_part" = some (some (.ref f33))) (l33 : K.lookup f33 = some ⟨oc33, od33, .func (W.fnOf "item_part" "item_part" (qQ xX) (qP xX) (qG xX) .none kV33 dc33 pm33 an33 cd33 ct33), sl33⟩) (c33 : W.codeIn K cd33 "item_part" = true) (k33 : W.keepIn K (.ref f33) = true)
    (a34 : W.nsIn K mainGlobals "part_of_track" = some (some (.ref f34))) (l34 : K.lookup f34 = some ⟨oc34, od34, .func (W.fnOf "part_of_track" "part_of_track" (qQ jV) (qP jV) (qG jV) .none kV34 dc34 pm34 an34 cd34 ct34), sl34⟩) (c34 : W.codeIn K cd34 "part_of_track" = true) (k34 : W.keepIn K (.ref f34) = true)
    (a35 : W.nsIn K mainGlobals "part_ahead" = some (some (.ref f35))) (l35 : K.lookup f35 = some ⟨oc35, od35, .func (W.fnOf "part_ahead" "part_ahead" (qQ xt) (qP xt) (qG xt) .none kV35 dc35 pm35 an35 cd35 ct35), sl35⟩) (c35 : W.codeIn K cd35 "part_ahead" = true) (k35 : W.keepIn K (.ref f35) = true)
    (a36 : W.nsIn K mainGlobals "part_behind" = some (some (.ref f36))) (l36 : K.lookup f36 = some ⟨oc36, od36, .func (W.fnOf "part_behind" "part_behind" (qQ xP) (qP xP) (qG xP) .none kV36 dc36 pm36 an36 cd36 ct36), sl36⟩) (c36 : W.codeIn K cd36 "part_behind" = true) (k36 : W.keepIn K (.ref f36) = true)
    (a37 : W.nsIn K mainGlobals "mix_spans" = some (some (.ref f37))) (l37 : K.lookup f37 = some ⟨oc37, od37, .func (W.fnOf "mix_spans" "mix_spans" (qQ xT) (qP xT) (qG xT) .none kV37 dc37 pm37 an37 cd37 ct37), sl37⟩) (c37 : W.codeIn K cd37 "mix_spans" = true) (k37 : W.keepIn K (.ref f37) = true)
    (a38 : W.nsIn K mainGlobals "taken_at_begin" = some (some (.ref f38))) (l38 : K.lookup f38 = some ⟨oc38, od38, .func (W.fnOf "taken_at_begin" "taken_at_begin" (qQ jG) (qP jG) (qG jG) .none kV38 dc38 pm38 an38 cd38 ct38), sl38⟩) (c38 : W.codeIn K cd38 "taken_at_begin" = true) (k38 : W.keepIn K (.ref f38) = true)
    (a39 : W.nsIn K mainGlobals "taken_at_end" = some (some (.ref f39))) (l39 : K.lookup f39 = some ⟨oc39, od39, .func (W.fnOf "taken_at_end" "taken_at_end" (qQ jj) (qP jj) (qG jj) .none kV39 dc39 pm39 an39 cd39 ct39), sl39⟩) (c39 : W.codeIn K cd39 "taken_at_end" = true) (k39 : W.keepIn K (.ref f39) = true)
    (a40 : W.nsIn K mainGlobals "most_mix" = some (some (.ref f40))) (l40 : K.lookup f40 = some ⟨oc40, od40, .func (W.fnOf "most_mix" "most_mix" (qQ zA) (qP zA) (qG zA) .none kV40 dc40 pm40 an40 cd40 ct40), sl40⟩) (c40 : W.codeIn K cd40 "most_mix" = true) (k40 : W.keepIn K (.ref f40) = true)
    (a41 : W.nsIn K mainGlobals "check_place" = some (some (.ref f41))) (l41 : K.lookup f41 = some ⟨oc41, od41, .func (W.fnOf "check_place" "check_place" (qQ jr) (qP jr) (qG jr) .none kV41 dc41 pm41 an41 cd41 ct41), sl41⟩) (c41 : W.codeIn K cd41 "check_place" = true) (k41 : W.keepIn K (.ref f41) = true)
    (a42 : W.nsIn K mainGlobals "check_by" = some (some (.ref f42))) (l42 : K.lookup f42 = some ⟨oc42, od42, .func (W.fnOf "check_by" "check_by" (qQ zJ) (qP zJ) (qG zJ) .none kV42 dc42 pm42 an42 cd42 ct42), sl42⟩) (c42 : W.codeIn K cd42 "check_by" = true) (k42 : W.keepIn K (.ref f42) = true)
    (a43 : W.nsIn K mainGlobals "clip_there" = some (some (.ref f43))) (l43 : K.lookup f43 = some ⟨oc43, od43, .func (W.fnOf "clip_there" "clip_there" (qQ xB) (qP xB) (qG xB) .none kV43 dc43 pm43 an43 cd43 ct43), sl43⟩) (c43 : W.codeIn K cd43 "clip_there" = true) (k43 : W.keepIn K (.ref f43) = true)
    (a44 : W.nsIn K mainGlobals "clip_and_sides" = some (some (.ref f44))) (l44 : K.lookup f44 = some ⟨oc44, od44, .func (W.fnOf "clip_and_sides" "clip_and_sides" (qQ jI) (qP jI) (qG jI) .none kV44 dc44 pm44 an44 cd44 ct44), sl44⟩) (c44 : W.codeIn K cd44 "clip_and_sides" = true) (k44 : W.keepIn K (.ref f44) = true)
    (a45 : W.nsIn K mainGlobals "places_named" = some (some (.ref f45))) (l45 : K.lookup f45 = some ⟨oc45, od45, .func (W.fnOf "places_named" "places_named" (qQ jf) (qP jf) (qG jf) .none kV45 dc45 pm45 an45 cd45 ct45), sl45⟩) (c45 : W.codeIn K cd45 "places_named" = true) (k45 : W.keepIn K (.ref f45) = true)
    (a46 : W.nsIn K mainGlobals "has_mix" = some (some (.ref f46))) (l46 : K.lookup f46 = some ⟨oc46, od46, .func (W.fnOf "has_mix" "has_mix" (qQ zn) (qP zn) (qG zn) .none kV46 dc46 pm46 an46 cd46 ct46), sl46⟩) (c46 : W.codeIn K cd46 "has_mix" = true) (k46 : W.keepIn K (.ref f46) = true)
    (a47 : W.nsIn K mainGlobals "check_short" = some (some (.ref f47))) (l47 : K.lookup f47 = some ⟨oc47, od47, .func (W.fnOf "check_short" "check_short" (qQ j0) (qP j0) (qG j0) .none kV47 dc47 pm47 an47 cd47 ct47), sl47⟩) (c47 : W.codeIn K cd47 "check_short" = true) (k47 : W.keepIn K (.ref f47) = true)
    (a48 : W.nsIn K mainGlobals "most_slip" = some (some (.ref f48))) (l48 : K.lookup f48 = some ⟨oc48, od48, .func (W.fnOf "most_slip" "most_slip" (qQ xW) (qP xW) (qG xW) .none kV48 dc48 pm48 an48 cd48 ct48), sl48⟩) (c48 : W.codeIn K cd48 "most_slip" = true) (k48 : W.keepIn K (.ref f48) = true)
    (a49 : W.nsIn K mainGlobals "most_roll" = some (some (.ref f49))) (l49 : K.lookup f49 = some ⟨oc49, od49, .func (W.fnOf "most_roll" "most_roll" (qQ xf) (qP xf) (qG xf) .none kV49 dc49 pm49 an49 cd49 ct49), sl49⟩) (c49 : W.codeIn K cd49 "most_roll" = true) (k49 : W.keepIn K (.ref f49) = true)
    (a50 : W.nsIn K mainGlobals "slipped" = some (some (.ref f50))) (l50 : K.lookup f50 = some ⟨oc50, od50, .func (W.fnOf "slipped" "slipped" (qQ z6) (qP z6) (qG z6) .none kV50 dc50 pm50 an50 cd50 ct50), sl50⟩) (c50 : W.codeIn K cd50 "slipped" = true) (k50 : W.keepIn K (.ref f50) = true)
    (a51 : W.nsIn K mainGlobals "with_rolled_ends" = some (some (.ref f51))) (l51 : K.lookup f51 = some ⟨oc51, od51, .func (W.fnOf "with_rolled_ends" "with_rolled_ends" (qQ qt) (qP qt) (qG qt) .none kV51 dc51 pm51 an51 cd51 ct51), sl51⟩) (c51 : W.codeIn K cd51 "with_rolled_ends" = true) (k51 : W.keepIn K (.ref f51) = true)
    (a52 : W.nsIn K mainGlobals "table_with" = some (some (.ref f52))) (l52 : K.lookup f52 = some ⟨oc52, od52, .func (W.fnOf "table_with" "table_with" (qQ xK) (qP xK) (qG xK) .none kV52 dc52 pm52 an52 cd52 ct52), sl52⟩) (c52 : W.codeIn K cd52 "table_with" = true) (k52 : W.keepIn K (.ref f52) = true)
    (a53 : W.nsIn K mainGlobals "rolled" = some (some (.ref f53))) (l53 : K.lookup f53 = some ⟨oc53, od53, .func (W.fnOf "rolled" "rolled" (qQ kf) (qP kf) (qG kf) .none kV53 dc53 pm53 an53 cd53 ct53), sl53⟩) (c53 : W.codeIn K cd53 "rolled" = true) (k53 : W.keepIn K (.ref f53) = true)
    (a54 : W.nsIn K mainGlobals "stretch_of" = some (some (.ref f54))) (l54 : K.lookup f54 = some ⟨oc54, od54, .func (W.fnOf "stretch_of" "stretch_of" (qQ xG) (qP xG) (qG xG) .none kV54 dc54 pm54 an54 cd54 ct54), sl54⟩) (c54 : W.codeIn K cd54 "stretch_of" = true) (k54 : W.keepIn K (.ref f54) = true)
    (a55 : W.nsIn K mainGlobals "laid_by" = some (some (.ref f55))) (l55 : K.lookup f55 = some ⟨oc55, od55, .func (W.fnOf "laid_by" "laid_by" (qQ zw) (qP zw) (qG zw) .none kV55 dc55 pm55 an55 cd55 ct55), sl55⟩) (c55 : W.codeIn K cd55 "laid_by" = true) (k55 : W.keepIn K (.ref f55) = true)
    (a56 : W.nsIn K mainGlobals "laid_on_tied" = some (some (.ref f56))) (l56 : K.lookup f56 = some ⟨oc56, od56, .func (W.fnOf "laid_on_tied" "laid_on_tied" (qQ jg) (qP jg) (qG jg) .none kV56 dc56 pm56 an56 cd56 ct56), sl56⟩) (c56 : W.codeIn K cd56 "laid_on_tied" = true) (k56 : W.keepIn K (.ref f56) = true)
    (a57 : W.nsIn K mainGlobals "tracks_changed" = some (some (.ref f57))) (l57 : K.lookup f57 = some ⟨oc57, od57, .func (W.fnOf "tracks_changed" "tracks_changed" (qQ jE) (qP jE) (qG jE) .none kV57 dc57 pm57 an57 cd57 ct57), sl57⟩) (c57 : W.codeIn K cd57 "tracks_changed" = true) (k57 : W.keepIn K (.ref f57) = true)
    (a58 : W.nsIn K mainGlobals "check_numbers" = some (some (.ref f58))) (l58 : K.lookup f58 = some ⟨oc58, od58, .func (W.fnOf "check_numbers" "check_numbers" (qQ jO) (qP jO) (qG jO) .none kV58 dc58 pm58 an58 cd58 ct58), sl58⟩) (c58 : W.codeIn K cd58 "check_numbers" = true) (k58 : W.keepIn K (.ref f58) = true)
    (a59 : W.nsIn K mainGlobals "touches_mix" = some (some (.ref f59))) (l59 : K.lookup f59 = some ⟨oc59, od59, .func (W.fnOf "touches_mix" "touches_mix" (qQ jw) (qP jw) (qG jw) .none kV59 dc59 pm59 an59 cd59 ct59), sl59⟩) (c59 : W.codeIn K cd59 "touches_mix" = true) (k59 : W.keepIn K (.ref f59) = true)
    (a60 : W.nsIn K mainGlobals "check_mixes" = some (some (.ref f60))) (l60 : K.lookup f60 = some ⟨oc60, od60, .func (W.fnOf "check_mixes" "check_mixes" (qQ jp) (qP jp) (qG jp) .none kV60 dc60 pm60 an60 cd60 ct60), sl60⟩) (c60 : W.codeIn K cd60 "check_mixes" = true) (k60 : W.keepIn K (.ref f60) = true)
    (a61 : W.nsIn K mainGlobals "check_change" = some (some (.ref f61))) (l61 : K.lookup f61 = some ⟨oc61, od61, .func (W.fnOf "check_change" "check_change" (qQ ji) (qP ji) (qG ji) .none kV61 dc61 pm61 an61 cd61 ct61), sl61⟩) (c61 : W.codeIn K cd61 "check_change" = true) (k61 : W.keepIn K (.ref f61) = true)
    (a62 : W.nsIn K mainGlobals "nest_goes_on" = some (some (.ref f62))) (l62 : K.lookup f62 = some ⟨oc62, od62, .func (W.fnOf "nest_goes_on" "nest_goes_on" (qQ j2) (qP j2) (qG j2) .none kV62 dc62 pm62 an62 cd62 ct62), sl62⟩) (c62 : W.codeIn K cd62 "nest_goes_on" = true) (k62 : W.keepIn K (.ref f62) = true)
    (a63 : W.nsIn K mainGlobals "can_heal" = some (some (.ref f63))) (l63 : K.lookup f63 = some ⟨oc63, od63, .func (W.fnOf "can_heal" "can_heal" (qQ zD) (qP zD) (qG zD) .none kV63 dc63 pm63 an63 cd63 ct63), sl63⟩) (c63 : W.codeIn K cd63 "can_heal" = true) (k63 : W.keepIn K (.ref f63) = true)
    (a64 : W.nsIn K mainGlobals "healed" = some (some (.ref f64))) (l64 : K.lookup f64 = some ⟨oc64, od64, .func (W.fnOf "healed" "healed" (qQ kX) (qP kX) (qG kX) .none kV64 dc64 pm64 an64 cd64 ct64), sl64⟩) (c64 : W.codeIn K cd64 "healed" = true) (k64 : W.keepIn K (.ref f64) = true)
    (a65 : W.nsIn K mainGlobals "mixed" = some (some (.ref f65))) (l65 : K.lookup f65 = some ⟨oc65, od65, .func (W.fnOf "mixed" "mixed" (qQ vZ) (qP vZ) (qG vZ) .none kV65 dc65 pm65 an65 cd65 ct65), sl65⟩) (c65 : W.codeIn K cd65 "mixed" = true) (k65 : W.keepIn K (.ref f65) = true)
    (a66 : W.nsIn K mainGlobals "unmixed" = some (some (.ref f66))) (l66 : K.lookup f66 = some ⟨oc66, od66, .func (W.fnOf "unmixed" "unmixed" (qQ zx) (qP zx) (qG zx) .none kV66 dc66 pm66 an66 cd66 ct66), sl66⟩) (c66 : W.codeIn K cd66 "unmixed" = true) (k66 : W.keepIn K (.ref f66) = true)
    (a67 : W.nsIn K mainGlobals "relaid" = some (some (.ref f67))) (l67 : K.lookup f67 = some ⟨oc67, od67, .func (W.fnOf "relaid" "relaid" (qQ kY) (qP kY) (qG kY) .none kV67 dc67 pm67 an67 cd67 ct67), sl67⟩) (c67 : W.codeIn K cd67 "relaid" = true) (k67 : W.keepIn K (.ref f67) = true)
    (a68 : W.nsIn K mainGlobals "changed" = some (some (.ref f68))) (l68 : K.lookup f68 = some ⟨oc68, od68, .func (W.fnOf "changed" "changed" (qQ zz) (qP zz) (qG zz) .none kV68 dc68 pm68 an68 cd68 ct68), sl68⟩) (c68 : W.codeIn K cd68 "changed" = true) (k68 : W.keepIn K (.ref f68) = true)
    (a69 : W.nsIn K mainGlobals "deed_done" = some (some (.ref f69))) (l69 : K.lookup f69 = some ⟨oc69, od69, .func (W.fnOf "deed_done" "deed_done" (qQ xh) (qP xh) (qG xh) .none kV69 dc69 pm69 an69 cd69 ct69), sl69⟩) (c69 : W.codeIn K cd69 "deed_done" = true) (k69 : W.keepIn K (.ref f69) = true)
    (a70 : W.nsIn K mainGlobals "heals" = some (some (.ref f70))) (l70 : K.lookup f70 = some ⟨oc70, od70, .func (W.fnOf "heals" "heals" (qQ vf) (qP vf) (qG vf) .none kV70 dc70 pm70 an70 cd70 ct70), sl70⟩) (c70 : W.codeIn K cd70 "heals" = true) (k70 : W.keepIn K (.ref f70) = true)
    (a71 : W.nsIn K mainGlobals "laid_again" = some (some (.ref f71))) (l71 : K.lookup f71 = some ⟨oc71, od71, .func (W.fnOf "laid_again" "laid_again" (qQ xE) (qP xE) (qG xE) .none kV71 dc71 pm71 an71 cd71 ct71), sl71⟩) (c71 : W.codeIn K cd71 "laid_again" = true) (k71 : W.keepIn K (.ref f71) = true)
    (a72 : W.nsIn K mainGlobals "back_of_mix" = some (some (.ref f72))) (l72 : K.lookup f72 = some ⟨oc72, od72, .func (W.fnOf "back_of_mix" "back_of_mix" (qQ jx) (qP jx) (qG jx) .none kV72 dc72 pm72 an72 cd72 ct72), sl72⟩) (c72 : W.codeIn K cd72 "back_of_mix" = true) (k72 : W.keepIn K (.ref f72) = true)
    (a73 : W.nsIn K mainGlobals "back_of_room" = some (some (.ref f73))) (l73 : K.lookup f73 = some ⟨oc73, od73, .func (W.fnOf "back_of_room" "back_of_room" (qQ jd) (qP jd) (qG jd) .none kV73 dc73 pm73 an73 cd73 ct73), sl73⟩) (c73 : W.codeIn K cd73 "back_of_room" = true) (k73 : W.keepIn K (.ref f73) = true)
    (a74 : W.nsIn K mainGlobals "back_of_stretch" = some (some (.ref f74))) (l74 : K.lookup f74 = some ⟨oc74, od74, .func (W.fnOf "back_of_stretch" "back_of_stretch" (qQ qy) (qP qy) (qG qy) .none kV74 dc74 pm74 an74 cd74 ct74), sl74⟩) (c74 : W.codeIn K cd74 "back_of_stretch" = true) (k74 : W.keepIn K (.ref f74) = true)
    (a75 : W.nsIn K mainGlobals "back_of" = some (some (.ref f75))) (l75 : K.lookup f75 = some ⟨oc75, od75, .func (W.fnOf "back_of" "back_of" (qQ zo) (qP zo) (qG zo) .none kV75 dc75 pm75 an75 cd75 ct75), sl75⟩) (c75 : W.codeIn K cd75 "back_of" = true) (k75 : W.keepIn K (.ref f75) = true)
    (a76 : W.nsIn K mainGlobals "_law_cell_at" = some (some (.ref f76))) (l76 : K.lookup f76 = some ⟨oc76, od76, .func (W.fnOf "_law_cell_at" "_law_cell_at" (qQ je) (qP je) (qG je) .none kV76 dc76 pm76 an76 cd76 ct76), sl76⟩) (c76 : W.codeIn K cd76 "_law_cell_at" = true) (k76 : W.keepIn K (.ref f76) = true)
    (a77 : W.nsIn K mainGlobals "_law_stream" = some (some (.ref f77))) (l77 : K.lookup f77 = some ⟨oc77, od77, .func (W.fnOf "_law_stream" "_law_stream" (qQ ju) (qP ju) (qG ju) .none kV77 dc77 pm77 an77 cd77 ct77), sl77⟩) (c77 : W.codeIn K cd77 "_law_stream" = true) (k77 : W.keepIn K (.ref f77) = true)
    (a78 : W.nsIn K mainGlobals "_law_table" = some (some (.ref f78))) (l78 : K.lookup f78 = some ⟨oc78, od78, .func (W.fnOf "_law_table" "_law_table" (qQ xA) (qP xA) (qG xA) .none kV78 dc78 pm78 an78 cd78 ct78), sl78⟩) (c78 : W.codeIn K cd78 "_law_table" = true) (k78 : W.keepIn K (.ref f78) = true)
    (a79 : W.nsIn K mainGlobals "_law_floor" = some (some (.ref f79))) (l79 : K.lookup f79 = some ⟨oc79, od79, .func (W.fnOf "_law_floor" "_law_floor" (qQ xF) (qP xF) (qG xF) .none kV79 dc79 pm79 an79 cd79 ct79), sl79⟩) (c79 : W.codeIn K cd79 "_law_floor" = true) (k79 : W.keepIn K (.ref f79) = true)
    (a80 : W.nsIn K mainGlobals "_law_part" = some (some (.ref f80))) (l80 : K.lookup f80 = some ⟨oc80, od80, .func (W.fnOf "_law_part" "_law_part" (qQ xU) (qP xU) (qG xU) .none kV80 dc80 pm80 an80 cd80 ct80), sl80⟩) (c80 : W.codeIn K cd80 "_law_part" = true) (k80 : W.keepIn K (.ref f80) = true)
    (a81 : W.nsIn K mainGlobals "_law_again" = some (some (.ref f81))) (l81 : K.lookup f81 = some ⟨oc81, od81, .func (W.fnOf "_law_again" "_law_again" (qQ xC) (qP xC) (qG xC) .none kV81 dc81 pm81 an81 cd81 ct81), sl81⟩) (c81 : W.codeIn K cd81 "_law_again" = true) (k81 : W.keepIn K (.ref f81) = true)
    (a82 : W.nsIn K mainGlobals "_law_touched" = some (some (.ref f82))) (l82 : K.lookup f82 = some ⟨oc82, od82, .func (W.fnOf "_law_touched" "_law_touched" (qQ jb) (qP jb) (qG jb) .none kV82 dc82 pm82 an82 cd82 ct82), sl82⟩) (c82 : W.codeIn K cd82 "_law_touched" = true) (k82 : W.keepIn K (.ref f82) = true)
    (a83 : W.nsIn K mainGlobals "_law_cut_at" = some (some (.ref f83))) (l83 : K.lookup f83 = some ⟨oc83, od83, .func (W.fnOf "_law_cut_at" "_law_cut_at" (qQ jv) (qP jv) (qG jv) .none kV83 dc83 pm83 an83 cd83 ct83), sl83⟩) (c83 : W.codeIn K cd83 "_law_cut_at" = true) (k83 : W.keepIn K (.ref f83) = true)
    (a84 : W.nsIn K mainGlobals "_law_due" = some (some (.ref f84))) (l84 : K.lookup f84 = some ⟨oc84, od84, .func (W.fnOf "_law_due" "_law_due" (qQ zC) (qP zC) (qG zC) .none kV84 dc84 pm84 an84 cd84 ct84), sl84⟩) (c84 : W.codeIn K cd84 "_law_due" = true) (k84 : W.keepIn K (.ref f84) = true)
    (a85 : W.nsIn K mainGlobals "_law_deed" = some (some (.ref f85))) (l85 : K.lookup f85 = some ⟨oc85, od85, .func (W.fnOf "_law_deed" "_law_deed" (qQ xV) (qP xV) (qG xV) .none kV85 dc85 pm85 an85 cd85 ct85), sl85⟩) (c85 : W.codeIn K cd85 "_law_deed" = true) (k85 : W.keepIn K (.ref f85) = true)
    (a86 : W.nsIn K mainGlobals "_law_small" = some (some (.ref f86))) (l86 : K.lookup f86 = some ⟨oc86, od86, .func (W.fnOf "_law_small" "_law_small" (qQ xJ) (qP xJ) (qG xJ) .none kV86 dc86 pm86 an86 cd86 ct86), sl86⟩) (c86 : W.codeIn K cd86 "_law_small" = true) (k86 : W.keepIn K (.ref f86) = true)
    (a87 : W.nsIn K mainGlobals "law" = some (some (.ref f87))) (l87 : K.lookup f87 = some ⟨oc87, od87, .func (W.fnOf "law" "law" (qQ qCg) (qP qCg) (qG qCg) .none kV87 dc87 pm87 an87 cd87 ct87), sl87⟩) (c87 : W.codeIn K cd87 "law" = true) (k87 : W.keepIn K (.ref f87) = true)
    (xg0 : W.nsIn K mainGlobals "CutError" = some (some (.ref C0)))
    (xg1 : W.nsIn K mainGlobals "NoNumber" = some (some (.ref C1)))
    (xg2 : W.nsIn K mainGlobals "NoClip" = some (some (.ref C2)))
    (xg3 : W.nsIn K mainGlobals "NoPlace" = some (some (.ref C3)))
    (xg4 : W.nsIn K mainGlobals "Mixed" = some (some (.ref C4)))
    (xg5 : W.nsIn K mainGlobals "Short" = some (some (.ref C5)))
    (x_NoPlace : L3.OwnX K C3)
    (x_Mixed : L3.OwnX K C4)
    (xz0 : W.nsIn K mainGlobals "isinstance" = some none)
    (xz1 : W.nsIn K mainGlobals "int" = some none)
    (xz2 : W.nsIn K mainGlobals "bool" = some none)
    (xz3 : W.nsIn K mainGlobals "abs" = some none)
    (xz4 : W.nsIn K mainGlobals "tuple" = some none)
    (xz5 : W.nsIn K mainGlobals "len" = some none)
    (xz6 : W.nsIn K mainGlobals "all" = some none)
    (xz7 : W.nsIn K mainGlobals "str" = some none)
    (xz8 : W.nsIn K mainGlobals "min" = some none)
    (xz9 : W.nsIn K mainGlobals "sum" = some none)
    (xz10 : W.nsIn K mainGlobals "enumerate" = some none)
    (xz11 : W.nsIn K mainGlobals "max" = some none)
    (xz12 : W.nsIn K mainGlobals "list" = some none)
    (xz13 : W.nsIn K mainGlobals "any" = some none)
    (xz14 : W.nsIn K mainGlobals "range" = some none)
    (xcLETTERS : W.nsIn K mainGlobals "LETTERS" = some (some (.str "abcdefghijklmnopqrstuvwxyz" tLETTERS)))
    (xcLONGEST_NAME : W.nsIn K mainGlobals "LONGEST_NAME" = some (some (.int 8 tLONGEST_NAME)))
    (xcMOST_ROOM : W.nsIn K mainGlobals "MOST_ROOM" = some (some (.int 1000000 tMOST_ROOM)))
    (xcNOUGHT : W.nsIn K mainGlobals "NOUGHT" = some (some (.ref nNOUGHT))) (xlNOUGHT : K.lookup nNOUGHT = some ⟨.type "tuple", odNOUGHT, .seq #[.int 0 tNOUGHT_0, .int 1 tNOUGHT_1] nnNOUGHT, slNOUGHT⟩)
    (xcMOST_BY : W.nsIn K mainGlobals "MOST_BY" = some (some (.int 1000000 tMOST_BY)))
    (xcROLLS : W.nsIn K mainGlobals "ROLLS" = some (some (.ref nROLLS))) (xlROLLS : K.lookup nROLLS = some ⟨.type "tuple", odROLLS, .seq #[.str "roll" tROLLS_0, .str "slip" tROLLS_1, .str "slide" tROLLS_2] nnROLLS, slROLLS⟩)
    (xcLAYS : W.nsIn K mainGlobals "LAYS" = some (some (.ref nLAYS))) (xlLAYS : K.lookup nLAYS = some ⟨.type "tuple", odLAYS, .seq #[.str "lay_in" tLAYS_0, .str "lay_over" tLAYS_1] nnLAYS, slLAYS⟩)
    (xcPUSHES : W.nsIn K mainGlobals "PUSHES" = some (some (.ref nPUSHES))) (xlPUSHES : K.lookup nPUSHES = some ⟨.type "tuple", odPUSHES, .seq #[.str "lay_in" tPUSHES_0, .str "open" tPUSHES_1, .str "close" tPUSHES_2] nnPUSHES, slPUSHES⟩)
    (xcCHANGES : W.nsIn K mainGlobals "CHANGES" = some (some (.ref nCHANGES))) (xlCHANGES : K.lookup nCHANGES = some ⟨.type "tuple", odCHANGES, .seq #[.str "cut" tCHANGES_0, .str "lay_in" tCHANGES_1, .str "open" tCHANGES_2, .str "close" tCHANGES_3, .str "lift" tCHANGES_4, .str "lay_over" tCHANGES_5] nnCHANGES, slCHANGES⟩)
    (iaShort : W.findIn K (.ref C5) "__init__" = some (some (.ref fmShort))) (ilShort : K.lookup fmShort = some ⟨ocmShort, odmShort, .func (W.fnOf "__init__" "Short.__init__" (qQ kd) (qP kd) (qG kd) .none kVmShort dcmShort pmmShort anmShort cdmShort ctmShort), slmShort⟩) (icShort : W.codeIn K cdmShort "Short.__init__" = true) (ikShort : W.keepIn K (.ref fmShort) = true) (ifShort : W.isFn K (.ref fmShort) = true)
    (ivShort : L3.exOver K C5 C0 = true) (ihShort : W.hasDictIn K C5 = true) (isShort : W.findIn K (.ref C5) "__setattr__" = some (some (.builtin "object.__setattr__"))) (ixShort : L3.excInitIn K C5 fmShort = true) (itShort : W.takerIn K C5 "most" = some none)
    : ∃ fd : FuncData, (∀ (s : Shared) (v : Value), BindsTo s fd ⟨[v], []⟩ [("_law_script", v)]) ∧ ∀ base : Heap, K.In base → base.Ns mainGlobals mg → FnOk l.prog w K mg base CX0 13 fa fd ["_law_script"] (qKg K) := by
  have e := hfa.symm.trans (W.mg_of X G a87)
  obtain rfl : f87 = fa := by cases e; rfl
  have F0 := qZ (st := x9) l0 c0 k0
  have b0 := F0.binds (ps := ["x"]) fun _ _ _ _ _ _ us hl => match us, hl with | [_], _ => rfl
  have F1 := qZ (st := jH) l1 c1 k1
  have b1 := F1.binds (ps := ["one", "other"]) fun _ _ _ _ _ _ us hl => match us, hl with | [_, _], _ => rfl
  have F2 := qZ (st := jy) l2 c2 k2
  have b2 := F2.binds (ps := ["x"]) fun _ _ _ _ _ _ us hl => match us, hl with | [_], _ => rfl
  have F3 := qZ (st := zI) l3 c3 k3
  have b3 := F3.binds (ps := ["top", "bottom"]) fun _ _ _ _ _ _ us hl => match us, hl with | [_, _], _ => rfl
  have F4 := qZ (st := kh) l4 c4 k4
  have b4 := F4.binds (ps := ["one", "other"]) fun _ _ _ _ _ _ us hl => match us, hl with | [_, _], _ => rfl
  have F5 := qZ (st := zk) l5 c5 k5
  have b5 := F5.binds (ps := ["one", "other"]) fun _ _ _ _ _ _ us hl => match us, hl with | [_, _], _ => rfl
  have F6 := qZ (st := zG) l6 c6 k6
  have b6 := F6.binds (ps := ["one", "other"]) fun _ _ _ _ _ _ us hl => match us, hl with | [_, _], _ => rfl
  have F7 := qZ (st := zK) l7 c7 k7
  have b7 := F7.binds (ps := ["one", "other"]) fun _ _ _ _ _ _ us hl => match us, hl with | [_, _], _ => rfl
  have F8 := qZ (st := xk) l8 c8 k8
  have b8 := F8.binds (ps := ["one", "other"]) fun _ _ _ _ _ _ us hl => match us, hl with | [_, _], _ => rfl
  have F9 := qZ (st := zH) l9 c9 k9
  have b9 := F9.binds (ps := ["one"]) fun _ _ _ _ _ _ us hl => match us, hl with | [_], _ => rfl
  have F10 := qZ (st := zm) l10 c10 k10
  have b10 := F10.binds (ps := ["thing"]) fun _ _ _ _ _ _ us hl => match us, hl with | [_], _ => rfl
  have F11 := qZ (st := jQ) l11 c11 k11
  have b11 := F11.binds (ps := ["item"]) fun _ _ _ _ _ _ us hl => match us, hl with | [_], _ => rfl
  have F12 := qZ (st := zE) l12 c12 k12
  have b12 := F12.binds (ps := ["clip", "k"]) fun _ _ _ _ _ _ us hl => match us, hl with | [_, _], _ => rfl
  have F13 := qZ (st := xD) l13 c13 k13
  have b13 := F13.binds (ps := ["clip", "k"]) fun _ _ _ _ _ _ us hl => match us, hl with | [_, _], _ => rfl
  have F14 := qZ (st := zB) l14 c14 k14
  have b14 := F14.binds (ps := ["picture", "many"]) fun _ _ _ _ _ _ us hl => match us, hl with | [_, _], _ => rfl
  have F15 := qZ (st := xL) l15 c15 k15
  have b15 := F15.binds (ps := ["item", "reels"]) fun _ _ _ _ _ _ us hl => match us, hl with | [_, _], _ => rfl
  have F16 := qZ (st := xc) l16 c16 k16
  have b16 := F16.binds (ps := ["clip", "low", "high"]) fun _ _ _ _ _ _ us hl => match us, hl with | [_, _, _], _ => rfl
  have F17 := qZ (st := zy) l17 c17 k17
  have b17 := F17.binds (ps := ["one", "other"]) fun _ _ _ _ _ _ us hl => match us, hl with | [_, _], _ => rfl
  have F18 := qZ (st := jS) l18 c18 k18
  have b18 := F18.binds (ps := ["first", "step", "many"]) fun _ _ _ _ _ _ us hl => match us, hl with | [_, _, _], _ => rfl
  have F19 := qZ (st := xg) l19 c19 k19
  have b19 := F19.binds (ps := ["clip", "reels"]) fun _ _ _ _ _ _ us hl => match us, hl with | [_, _], _ => rfl
  have F20 := qZ (st := xl) l20 c20 k20
  have b20 := F20.binds (ps := ["clip", "reels"]) fun _ _ _ _ _ _ us hl => match us, hl with | [_, _], _ => rfl
  have F21 := qZ (st := xj) l21 c21 k21
  have b21 := F21.binds (ps := ["thing"]) fun _ _ _ _ _ _ us hl => match us, hl with | [_], _ => rfl
  have F22 := qZ (st := jU) l22 c22 k22
  have b22 := F22.binds (ps := ["item"]) fun _ _ _ _ _ _ us hl => match us, hl with | [_], _ => rfl
  have F23 := qZ (st := xH) l23 c23 k23
  have b23 := F23.binds (ps := ["item"]) fun _ _ _ _ _ _ us hl => match us, hl with | [_], _ => rfl
  have F24 := qZ (st := zF) l24 c24 k24
  have b24 := F24.binds (ps := ["some"]) fun _ _ _ _ _ _ us hl => match us, hl with | [_], _ => rfl
  have F25 := qZ (st := xm) l25 c25 k25
  have b25 := F25.binds (ps := ["track"]) fun _ _ _ _ _ _ us hl => match us, hl with | [_], _ => rfl
  have F26 := qZ (st := zq) l26 c26 k26
  have b26 := F26.binds (ps := ["track", "moment"]) fun _ _ _ _ _ _ us hl => match us, hl with | [_, _], _ => rfl
  have F27 := qZ (st := zl) l27 c27 k27
  have b27 := F27.binds (ps := ["track", "place"]) fun _ _ _ _ _ _ us hl => match us, hl with | [_, _], _ => rfl
  have F28 := qZ (st := jz) l28 c28 k28
  have b28 := F28.binds (ps := ["track", "place"]) fun _ _ _ _ _ _ us hl => match us, hl with | [_, _], _ => rfl
  have F29 := qZ (st := jc) l29 c29 k29
  have b29 := F29.binds (ps := ["track", "place"]) fun _ _ _ _ _ _ us hl => match us, hl with | [_, _], _ => rfl
  have F30 := qZ (st := jT) l30 c30 k30
  have b30 := F30.binds (ps := ["track", "moment"]) fun _ _ _ _ _ _ us hl => match us, hl with | [_, _], _ => rfl
  have F31 := qZ (st := qz) l31 c31 k31
  have b31 := F31.binds (ps := ["track", "moment"]) fun _ _ _ _ _ _ us hl => match us, hl with | [_, _], _ => rfl
  have F32 := qZ (st := jt) l32 c32 k32
  have b32 := F32.binds (ps := ["track", "moment"]) fun _ _ _ _ _ _ us hl => match us, hl with | [_, _], _ => rfl
  have F33 := qZ (st := xX) l33 c33 k33
  have b33 := F33.binds (ps := ["item", "low", "high"]) fun _ _ _ _ _ _ us hl => match us, hl with | [_, _, _], _ => rfl
  have F34 := qZ (st := jV) l34 c34 k34
  have b34 := F34.binds (ps := ["track", "low", "high"]) fun _ _ _ _ _ _ us hl => match us, hl with | [_, _, _], _ => rfl
  have F35 := qZ (st := xt) l35 c35 k35
  have b35 := F35.binds (ps := ["length"]) fun _ _ _ _ _ _ us hl => match us, hl with | [_], _ => rfl
  have F36 := qZ (st := xP) l36 c36 k36
  have b36 := F36.binds (ps := ["length"]) fun _ _ _ _ _ _ us hl => match us, hl with | [_], _ => rfl
  have F37 := qZ (st := xT) l37 c37 k37
  have b37 := F37.binds (ps := ["track"]) fun _ _ _ _ _ _ us hl => match us, hl with | [_], _ => rfl
  have F38 := qZ (st := jG) l38 c38 k38
  have b38 := F38.binds (ps := ["track", "place"]) fun _ _ _ _ _ _ us hl => match us, hl with | [_, _], _ => rfl
  have F39 := qZ (st := jj) l39 c39 k39
  have b39 := F39.binds (ps := ["track", "place"]) fun _ _ _ _ _ _ us hl => match us, hl with | [_, _], _ => rfl
  have F40 := qZ (st := zA) l40 c40 k40
  have b40 := F40.binds (ps := ["track", "moment", "reels"]) fun _ _ _ _ _ _ us hl => match us, hl with | [_, _, _], _ => rfl
  have F41 := qZ (st := jr) l41 c41 k41
  have b41 := F41.binds (ps := ["table", "number", "moment"]) fun _ _ _ _ _ _ us hl => match us, hl with | [_, _, _], _ => rfl
  have F42 := qZ (st := zJ) l42 c42 k42
  have b42 := F42.binds (ps := ["by"]) fun _ _ _ _ _ _ us hl => match us, hl with | [_], _ => rfl
  have F43 := qZ (st := xB) l43 c43 k43
  have b43 := F43.binds (ps := ["track", "moment"]) fun _ _ _ _ _ _ us hl => match us, hl with | [_, _], _ => rfl
  have F44 := qZ (st := jI) l44 c44 k44
  have b44 := F44.binds (ps := ["track", "moment"]) fun _ _ _ _ _ _ us hl => match us, hl with | [_, _], _ => rfl
  have F45 := qZ (st := jf) l45 c45 k45
  have b45 := F45.binds (ps := ["track", "deed"]) fun _ _ _ _ _ _ us hl => match us, hl with | [_, _], _ => rfl
  have F46 := qZ (st := zn) l46 c46 k46
  have b46 := F46.binds (ps := ["track", "place"]) fun _ _ _ _ _ _ us hl => match us, hl with | [_, _], _ => rfl
  have F47 := qZ (st := j0) l47 c47 k47
  have b47 := F47.binds (ps := ["most", "by"]) fun _ _ _ _ _ _ us hl => match us, hl with | [_, _], _ => rfl
  have F48 := qZ (st := xW) l48 c48 k48
  have b48 := F48.binds (ps := ["clip", "by", "reels"]) fun _ _ _ _ _ _ us hl => match us, hl with | [_, _, _], _ => rfl
  have F49 := qZ (st := xf) l49 c49 k49
  have b49 := F49.binds (ps := ["left", "right", "by", "reels"]) fun _ _ _ _ _ _ us hl => match us, hl with | [_, _, _, _], _ => rfl
  have F50 := qZ (st := z6) l50 c50 k50
  have b50 := F50.binds (ps := ["track", "place", "by", "reels"]) fun _ _ _ _ _ _ us hl => match us, hl with | [_, _, _, _], _ => rfl
  have F51 := qZ (st := qt) l51 c51 k51
  have b51 := F51.binds (ps := ["track", "first", "last", "by", "reels"]) fun _ _ _ _ _ _ us hl => match us, hl with | [_, _, _, _, _], _ => rfl
  have F52 := qZ (st := xK) l52 c52 k52
  have b52 := F52.binds (ps := ["table", "number", "track"]) fun _ _ _ _ _ _ us hl => match us, hl with | [_, _, _], _ => rfl
  have F53 := qZ (st := kf) l53 c53 k53
  have b53 := F53.binds (ps := ["table", "deed", "reels"]) fun _ _ _ _ _ _ us hl => match us, hl with | [_, _, _], _ => rfl
  have F54 := qZ (st := xG) l54 c54 k54
  have b54 := F54.binds (ps := ["deed"]) fun _ _ _ _ _ _ us hl => match us, hl with | [_], _ => rfl
  have F55 := qZ (st := zw) l55 c55 k55
  have b55 := F55.binds (ps := ["deed"]) fun _ _ _ _ _ _ us hl => match us, hl with | [_], _ => rfl
  have F56 := qZ (st := jg) l56 c56 k56
  have b56 := F56.binds (ps := ["deed"]) fun _ _ _ _ _ _ us hl => match us, hl with | [_], _ => rfl
  have F57 := qZ (st := jE) l57 c57 k57
  have b57 := F57.binds (ps := ["table", "deed"]) fun _ _ _ _ _ _ us hl => match us, hl with | [_, _], _ => rfl
  have F58 := qZ (st := jO) l58 c58 k58
  have b58 := F58.binds (ps := ["deed"]) fun _ _ _ _ _ _ us hl => match us, hl with | [_], _ => rfl
  have F59 := qZ (st := jw) l59 c59 k59
  have b59 := F59.binds (ps := ["track", "low", "high"]) fun _ _ _ _ _ _ us hl => match us, hl with | [_, _, _], _ => rfl
  have F60 := qZ (st := jp) l60 c60 k60
  have b60 := F60.binds (ps := ["table", "deed"]) fun _ _ _ _ _ _ us hl => match us, hl with | [_, _], _ => rfl
  have F61 := qZ (st := ji) l61 c61 k61
  have b61 := F61.binds (ps := ["table", "deed", "reels"]) fun _ _ _ _ _ _ us hl => match us, hl with | [_, _, _], _ => rfl
  have F62 := qZ (st := j2) l62 c62 k62
  have b62 := F62.binds (ps := ["one", "other"]) fun _ _ _ _ _ _ us hl => match us, hl with | [_, _], _ => rfl
  have F63 := qZ (st := zD) l63 c63 k63
  have b63 := F63.binds (ps := ["track", "places"]) fun _ _ _ _ _ _ us hl => match us, hl with | [_, _], _ => rfl
  have F64 := qZ (st := kX) l64 c64 k64
  have b64 := F64.binds (ps := ["table", "deed"]) fun _ _ _ _ _ _ us hl => match us, hl with | [_, _], _ => rfl
  have F65 := qZ (st := vZ) l65 c65 k65
  have b65 := F65.binds (ps := ["table", "deed", "reels"]) fun _ _ _ _ _ _ us hl => match us, hl with | [_, _, _], _ => rfl
  have F66 := qZ (st := zx) l66 c66 k66
  have b66 := F66.binds (ps := ["table", "deed"]) fun _ _ _ _ _ _ us hl => match us, hl with | [_, _], _ => rfl
  have F67 := qZ (st := kY) l67 c67 k67
  have b67 := F67.binds (ps := ["track", "low", "high", "laid"]) fun _ _ _ _ _ _ us hl => match us, hl with | [_, _, _, _], _ => rfl
  have F68 := qZ (st := zz) l68 c68 k68
  have b68 := F68.binds (ps := ["table", "deed"]) fun _ _ _ _ _ _ us hl => match us, hl with | [_, _], _ => rfl
  have F69 := qZ (st := xh) l69 c69 k69
  have b69 := F69.binds (ps := ["table", "deed", "reels"]) fun _ _ _ _ _ _ us hl => match us, hl with | [_, _, _], _ => rfl
  have F70 := qZ (st := vf) l70 c70 k70
  have b70 := F70.binds (ps := ["table", "number", "moments"]) fun _ _ _ _ _ _ us hl => match us, hl with | [_, _, _], _ => rfl
  have F71 := qZ (st := xE) l71 c71 k71
  have b71 := F71.binds (ps := ["table", "number", "low", "high"]) fun _ _ _ _ _ _ us hl => match us, hl with | [_, _, _, _], _ => rfl
  have F72 := qZ (st := jx) l72 c72 k72
  have b72 := F72.binds (ps := ["table", "deed"]) fun _ _ _ _ _ _ us hl => match us, hl with | [_, _], _ => rfl
  have F73 := qZ (st := jd) l73 c73 k73
  have b73 := F73.binds (ps := ["table", "deed"]) fun _ _ _ _ _ _ us hl => match us, hl with | [_, _], _ => rfl
  have F74 := qZ (st := qy) l74 c74 k74
  have b74 := F74.binds (ps := ["table", "deed"]) fun _ _ _ _ _ _ us hl => match us, hl with | [_, _], _ => rfl
  have F75 := qZ (st := zo) l75 c75 k75
  have b75 := F75.binds (ps := ["table", "deed", "reels"]) fun _ _ _ _ _ _ us hl => match us, hl with | [_, _, _], _ => rfl
  have F76 := qZ (st := je) l76 c76 k76
  have b76 := F76.binds (ps := ["_law_script", "_law_k"]) fun _ _ _ _ _ _ us hl => match us, hl with | [_, _], _ => rfl
  have F77 := qZ (st := ju) l77 c77 k77
  have b77 := F77.binds (ps := ["_law_cell", "_law_size"]) fun _ _ _ _ _ _ us hl => match us, hl with | [_, _], _ => rfl
  have F78 := qZ (st := xA) l78 c78 k78
  have b78 := F78.binds (ps := ["_law_xs"]) fun _ _ _ _ _ _ us hl => match us, hl with | [_], _ => rfl
  have F79 := qZ (st := xF) l79 c79 k79
  have b79 := F79.binds (ps := ["_law_item", "_law_k"]) fun _ _ _ _ _ _ us hl => match us, hl with | [_, _], _ => rfl
  have F80 := qZ (st := xU) l80 c80 k80
  have b80 := F80.binds (ps := ["_law_item", "_law_low", "_law_high"]) fun _ _ _ _ _ _ us hl => match us, hl with | [_, _, _], _ => rfl
  have F81 := qZ (st := xC) l81 c81 k81
  have b81 := F81.binds (ps := ["_law_track", "_law_number", "_law_first", "_law_last"]) fun _ _ _ _ _ _ us hl => match us, hl with | [_, _, _, _], _ => rfl
  have F82 := qZ (st := jb) l82 c82 k82
  have b82 := F82.binds (ps := ["_law_table_here", "_law_number"]) fun _ _ _ _ _ _ us hl => match us, hl with | [_, _], _ => rfl
  have F83 := qZ (st := jv) l83 c83 k83
  have b83 := F83.binds (ps := ["_law_track", "_law_moment"]) fun _ _ _ _ _ _ us hl => match us, hl with | [_, _], _ => rfl
  have F84 := qZ (st := zC) l84 c84 k84
  have b84 := F84.binds (ps := ["_law_table_here", "_law_deed_here"]) fun _ _ _ _ _ _ us hl => match us, hl with | [_, _], _ => rfl
  have F85 := qZ (st := xV) l85 c85 k85
  have b85 := F85.binds (ps := ["_law_xs", "_law_table_here"]) fun _ _ _ _ _ _ us hl => match us, hl with | [_, _], _ => rfl
  have F86 := qZ (st := xJ) l86 c86 k86
  have b86 := F86.binds (ps := ["_law_table_here", "_law_xs"]) fun _ _ _ _ _ _ us hl => match us, hl with | [_, _], _ => rfl
  have F87 := qZ (st := qCg) l87 c87 k87
  have b87 := F87.binds (ps := ["_law_script"]) fun _ _ _ _ _ _ us hl => match us, hl with | [_], _ => rfl
  have FmShort := qZ (st := kd) ilShort icShort ikShort
  have bmShort := FmShort.binds (ps := ["self", "most"]) fun _ _ _ _ _ _ us hl => match us, hl with | [_, _], _ => rfl
  have T : Tx K mg ⟨f0, _, f1, _, f2, _, f3, _, f4, _, f5, _, f6, _, f7, _, f8, _, f9, _, f10, _, f11, _, f12, _, f13, _, f14, _, f15, _, f16, _, f17, _, f18, _, f19, _, f20, _, f21, _, f22, _, f23, _, f24, _, f25, _, f26, _, f27, _, f28, _, f29, _, f30, _, f31, _, f32, _, f33, _, f34, _, f35, _, f36, _, f37, _, f38, _, f39, _, f40, _, f41, _, f42, _, f43, _, f44, _, f45, _, f46, _, f47, _, f48, _, f49, _, f50, _, f51, _, f52, _, f53, _, f54, _, f55, _, f56, _, f57, _, f58, _, f59, _, f60, _, f61, _, f62, _, f63, _, f64, _, f65, _, f66, _, f67, _, f68, _, f69, _, f70, _, f71, _, f72, _, f73, _, f74, _, f75, _, f76, _, f77, _, f78, _, f79, _, f80, _, f81, _, f82, _, f83, _, f84, _, f85, _, f86, _, f87, _, C0, C1, C2, C3, C4, C5, tLETTERS, tLONGEST_NAME, tMOST_ROOM, nNOUGHT, tMOST_BY, nROLLS, nLAYS, nPUSHES, nCHANGES, fmShort, _⟩ := ⟨⟨F0, b0, W.mg_of X G a0⟩, ⟨F1, b1, W.mg_of X G a1⟩, ⟨F2, b2, W.mg_of X G a2⟩, ⟨F3, b3, W.mg_of X G a3⟩, ⟨F4, b4, W.mg_of X G a4⟩, ⟨F5, b5, W.mg_of X G a5⟩, ⟨F6, b6, W.mg_of X G a6⟩, ⟨F7, b7, W.mg_of X G a7⟩, ⟨F8, b8, W.mg_of X G a8⟩, ⟨F9, b9, W.mg_of X G a9⟩, ⟨F10, b10, W.mg_of X G a10⟩, ⟨F11, b11, W.mg_of X G a11⟩, ⟨F12, b12, W.mg_of X G a12⟩, ⟨F13, b13, W.mg_of X G a13⟩, ⟨F14, b14, W.mg_of X G a14⟩, ⟨F15, b15, W.mg_of X G a15⟩, ⟨F16, b16, W.mg_of X G a16⟩, ⟨F17, b17, W.mg_of X G a17⟩, ⟨F18, b18, W.mg_of X G a18⟩, ⟨F19, b19, W.mg_of X G a19⟩, ⟨F20, b20, W.mg_of X G a20⟩, ⟨F21, b21, W.mg_of X G a21⟩, ⟨F22, b22, W.mg_of X G a22⟩, ⟨F23, b23, W.mg_of X G a23⟩, ⟨F24, b24, W.mg_of X G a24⟩, ⟨F25, b25, W.mg_of X G a25⟩, ⟨F26, b26, W.mg_of X G a26⟩, ⟨F27, b27, W.mg_of X G a27⟩, ⟨F28, b28, W.mg_of X G a28⟩, ⟨F29, b29, W.mg_of X G a29⟩, ⟨F30, b30, W.mg_of X G a30⟩, ⟨F31, b31, W.mg_of X G a31⟩, ⟨F32, b32, W.mg_of X G a32⟩, ⟨F33, b33, W.mg_of X G a33⟩, ⟨F34, b34, W.mg_of X G a34⟩, ⟨F35, b35, W.mg_of X G a35⟩, ⟨F36, b36, W.mg_of X G a36⟩, ⟨F37, b37, W.mg_of X G a37⟩, ⟨F38, b38, W.mg_of X G a38⟩, ⟨F39, b39, W.mg_of X G a39⟩, ⟨F40, b40, W.mg_of X G a40⟩, ⟨F41, b41, W.mg_of X G a41⟩, ⟨F42, b42, W.mg_of X G a42⟩, ⟨F43, b43, W.mg_of X G a43⟩, ⟨F44, b44, W.mg_of X G a44⟩, ⟨F45, b45, W.mg_of X G a45⟩, ⟨F46, b46, W.mg_of X G a46⟩, ⟨F47, b47, W.mg_of X G a47⟩, ⟨F48, b48, W.mg_of X G a48⟩, ⟨F49, b49, W.mg_of X G a49⟩, ⟨F50, b50, W.mg_of X G a50⟩, ⟨F51, b51, W.mg_of X G a51⟩, ⟨F52, b52, W.mg_of X G a52⟩, ⟨F53, b53, W.mg_of X G a53⟩, ⟨F54, b54, W.mg_of X G a54⟩, ⟨F55, b55, W.mg_of X G a55⟩, ⟨F56, b56, W.mg_of X G a56⟩, ⟨F57, b57, W.mg_of X G a57⟩, ⟨F58, b58, W.mg_of X G a58⟩, ⟨F59, b59, W.mg_of X G a59⟩, ⟨F60, b60, W.mg_of X G a60⟩, ⟨F61, b61, W.mg_of X G a61⟩, ⟨F62, b62, W.mg_of X G a62⟩, ⟨F63, b63, W.mg_of X G a63⟩, ⟨F64, b64, W.mg_of X G a64⟩, ⟨F65, b65, W.mg_of X G a65⟩, ⟨F66, b66, W.mg_of X G a66⟩, ⟨F67, b67, W.mg_of X G a67⟩, ⟨F68, b68, W.mg_of X G a68⟩, ⟨F69, b69, W.mg_of X G a69⟩, ⟨F70, b70, W.mg_of X G a70⟩, ⟨F71, b71, W.mg_of X G a71⟩, ⟨F72, b72, W.mg_of X G a72⟩, ⟨F73, b73, W.mg_of X G a73⟩, ⟨F74, b74, W.mg_of X G a74⟩, ⟨F75, b75, W.mg_of X G a75⟩, ⟨F76, b76, W.mg_of X G a76⟩, ⟨F77, b77, W.mg_of X G a77⟩, ⟨F78, b78, W.mg_of X G a78⟩, ⟨F79, b79, W.mg_of X G a79⟩, ⟨F80, b80, W.mg_of X G a80⟩, ⟨F81, b81, W.mg_of X G a81⟩, ⟨F82, b82, W.mg_of X G a82⟩, ⟨F83, b83, W.mg_of X G a83⟩, ⟨F84, b84, W.mg_of X G a84⟩, ⟨F85, b85, W.mg_of X G a85⟩, ⟨F86, b86, W.mg_of X G a86⟩, ⟨F87, b87, W.mg_of X G a87⟩, W.mg_of X G xg0, W.mg_of X G xg1, W.mg_of X G xg2, W.mg_of X G xg3, W.mg_of X G xg4, W.mg_of X G xg5, W.mg_none_of X G xz0, W.mg_none_of X G xz1, W.mg_none_of X G xz2, W.mg_none_of X G xz3, W.mg_none_of X G xz4, W.mg_none_of X G xz5, W.mg_none_of X G xz6, W.mg_none_of X G xz7, W.mg_none_of X G xz8, W.mg_none_of X G xz9, W.mg_none_of X G xz10, W.mg_none_of X G xz11, W.mg_none_of X G xz12, W.mg_none_of X G xz13, W.mg_none_of X G xz14, W.mg_of X G xcLETTERS, W.mg_of X G xcLONGEST_NAME, W.mg_of X G xcMOST_ROOM, W.mg_of X G xcNOUGHT, fun H => .inr ⟨_, _, _, xlNOUGHT, rfl, rfl, by show 2 ≤ sizeLine; decide, .cons ⟨_, rfl⟩ (.cons ⟨_, rfl⟩ (.nil))⟩, W.mg_of X G xcMOST_BY, W.mg_of X G xcROLLS, fun H => .inr ⟨_, _, _, xlROLLS, rfl, rfl, by show 3 ≤ sizeLine; decide, .cons ⟨_, rfl⟩ (.cons ⟨_, rfl⟩ (.cons ⟨_, rfl⟩ (.nil)))⟩, W.mg_of X G xcLAYS, fun H => .inr ⟨_, _, _, xlLAYS, rfl, rfl, by show 2 ≤ sizeLine; decide, .cons ⟨_, rfl⟩ (.cons ⟨_, rfl⟩ (.nil))⟩, W.mg_of X G xcPUSHES, fun H => .inr ⟨_, _, _, xlPUSHES, rfl, rfl, by show 3 ≤ sizeLine; decide, .cons ⟨_, rfl⟩ (.cons ⟨_, rfl⟩ (.cons ⟨_, rfl⟩ (.nil)))⟩, W.mg_of X G xcCHANGES, fun H => .inr ⟨_, _, _, xlCHANGES, rfl, rfl, by show 6 ≤ sizeLine; decide, .cons ⟨_, rfl⟩ (.cons ⟨_, rfl⟩ (.cons ⟨_, rfl⟩ (.cons ⟨_, rfl⟩ (.cons ⟨_, rfl⟩ (.cons ⟨_, rfl⟩ (.nil))))))⟩, x_NoPlace, x_Mixed, FmShort, bmShort, ⟨ivShort, ihShort, isShort, ixShort, ifShort⟩, itShort⟩
  exact ⟨W.fnOf "law" "law" (qQ qCg) (qP qCg) (qG qCg) .none kV87 dc87 pm87 an87 cd87 ct87, fun s v => .of_eq rfl, fun base _ _ => qNi T⟩
theorem walk {l : W.OpenLaw} {q : Program} {loose : List Str} {XP : (Str → Option Value) → Heap → Prop} {YP : World → Heap → Prop} {d : DefRec} {K : Params → W.Frag} (hn : l.most = some 63) (hdf : d.params.defaults = [])
    (hY : ∀ (w : World) (h : Heap), YP w h → (K w.params).In h)
    (F : ∀ (w : World) (mg : Str → Option Value) (fa : Addr) (h : Heap), (K w.params).In h → h.Ns mainGlobals mg → mg d.name = some (.ref fa) →
      ∃ fd : FuncData, (∀ (s : Shared) (u : Value), BindsTo s fd ⟨[u], []⟩ [("_law_script", u)]) ∧ ∀ base : Heap, (K w.params).In base → base.Ns mainGlobals mg → FnOk l.prog w (K w.params) mg base CX0 13 fa fd ["_law_script"] (qKg (K w.params))) :
    W.WalkO q loose XP YP l.row.toRowW d [] (fun f vs => PySem.call f vs) :=
  L2.walk_of (n := 63) (k := 13) (x := "_law_script") (CX := fun _ => CX0) (sp := fun w => qKg (K w.params)) hn (by decide) hdf ⟨rfl, by decide, by decide⟩ hY F (fun _ _ a ns hl _ hS => ⟨a, ns, rfl, hS, hl, fun _ => rfl⟩) fun _ _ _ _ _ z => z
end Lw
namespace PySem.W.Fast
def tw11407655259612168992 := ()
def tw11994286650021692577 := ()
def tw6037083925768621473 := ()
def tw8314170817037814210 := ()
def tw7385647115134109666 := ()
def tw10741664091462008166 := ()
def tw1963962668659020136 := ()
def tw2916617272585819689 := ()
def tw3325649891443762794 := ()
def tw9514019007372645835 := ()
def tw9436680645374009708 := ()
def tw15665157500418448748 := ()
def tw11006756982787487148 := ()
def tw17666809249079250925 := ()
def tw18002337083748037486 := ()
def tw2010117044632616335 := ()
def tw15408658020412899919 := ()
def tw14607872848405128467 := ()
def tw1926469494504107859 := ()
def tw6845731214776307188 := ()
def tw5990615705539183989 := ()
def tw4822398298189164213 := ()
def tw13068616752121949366 := ()
def tw17279165179870927895 := ()
def tw16665908083848076471 := ()
def tw17469625625837926008 := ()
def tw4842757085628832760 := ()
def tw2637927157272779385 := ()
def tw16143984052957532089 := ()
def tw7812562436458338396 := ()
def tw3122842119432740925 := ()
def tw15806091412604296509 := ()
def tw8843932222815911390 := ()
def tw7493834951341536252 := ()
def tw14765845486799893041 := ()
def tw1045140370444271913 := ()
def tw16632531661761262299 := ()
def tw10354405653575484833 := ()
def tw1599407732365582015 := ()
def tw7226204731267547783 := ()
def tw15434260248091528802 := ()
def tw10932023335489299772 := ()
def tw10827669862128555530 := ()
def tw4510163337039285319 := ()
def tw14242589846938625504 := ()
def tw18044395868603817233 := ()
def tw17121614794099904634 := ()
def tw12274411791236357723 := ()
def tw11923314238651240047 := ()
def tw15069471524324151136 := ()
def tw8973254293847488634 := ()
def tw1887391205466948444 := ()
def tw18077114017275538052 := ()
def tw4930779873262510998 := ()
def tw5343833212661923960 := ()
def tw3807789323556235745 := ()
def tw9354728035168204443 := ()
def tw13111304171272755602 := ()
def tw4735315164567327468 := ()
def tw10985588050668259656 := ()
def tw2182610714518966274 := ()
def tw16647351582408547945 := ()
def tw8713340008809355634 := ()
def tw2153012193306395734 := ()
def tw11259064829699976614 := ()
def tw4377072629123947460 := ()
def tw3163407464903093844 := ()
def tw6473436780047764177 := ()
def tw17310627370542880118 := ()
def tw2152600778224775929 := ()
def tw12739409364543845910 := ()
def tw8861437092112988189 := ()
def tw17493630911873255539 := ()
def tw9062350002362744823 := ()
def tw9294227385912875864 := ()
def tw15641994100431557218 := ()
def tw9662712770643605121 := ()
def tw8582933733127334324 := ()
def tw15556050075591496326 := ()
def tw12923470531776983854 := ()
def tw9048779616851159595 := ()
def tw11856546019291891481 := ()
def tw11404947662166275818 := ()
def tw2502804939796822899 := ()
def tw10347433268660529437 := ()
def tw7284221784557902017 := ()
def tw16236098065705496160 := ()
def tw399248840081836501 := ()
def tw2663534362661364866 := ()
def tw13082268980597907303 := ()
def tw2061767896532271486 := ()
def tw2336138676968365664 := ()
end PySem.W.Fast
open PySem PySem.W PyProof.Rows
set_option maxRecDepth 100000 in
set_option maxHeartbeats 0 in
theorem PySem.Challenge.cw_reelcut_k52_the_told_way_back_holds : PySem.Challenge.rw_reelcut_k52_the_told_way_back.Holds := by
  w_on; o_law; k_head; (case hw => w_witness2)
  k_fill
  refine Lw.walk (l := PySem.Challenge.rw_reelcut_k52_the_told_way_back) rfl rfl (fun w h Y => PySem.W.kIn_of Y) ?F
  case F =>
    intro w mg fa h KX G hmg
    refine' Lw.all_mk KX G hmg ?a0 ?l0 ?c0 ?k0 ?a1 ?l1 ?c1 ?k1 ?a2 ?l2 ?c2 ?k2 ?a3 ?l3 ?c3 ?k3 ?a4 ?l4 ?c4 ?k4 ?a5 ?l5 ?c5 ?k5 ?a6 ?l6 ?c6 ?k6 ?a7 ?l7 ?c7 ?k7 ?a8 ?l8 ?c8 ?k8 ?a9 ?l9 ?c9 ?k9 ?a10 ?l10 ?c10 ?k10 ?a11 ?l11 ?c11 ?k11 ?a12 ?l12 ?c12 ?k12 ?a13 ?l13 ?c13 ?k13 ?a14 ?l14 ?c14 ?k14 ?a15 ?l15 ?c15 ?k15 ?a16 ?l16 ?c16 ?k16 ?a17 ?l17 ?c17 ?k17 ?a18 ?l18 ?c18 ?k18 ?a19 ?l19 ?c19 ?k19 ?a20 ?l20 ?c20 ?k20 ?a21 ?l21 ?c21 ?k21 ?a22 ?l22 ?c22 ?k22 ?a23 ?l23 ?c23 ?k23 ?a24 ?l24 ?c24 ?k24 ?a25 ?l25 ?c25 ?k25 ?a26 ?l26 ?c26 ?k26 ?a27 ?l27 ?c27 ?k27 ?a28 ?l28 ?c28 ?k28 ?a29 ?l29 ?c29 ?k29 ?a30 ?l30 ?c30 ?k30 ?a31 ?l31 ?c31 ?k31 ?a32 ?l32 ?c32 ?k32 ?a33 ?l33 ?c33 ?k33 ?a34 ?l34 ?c34 ?k34 ?a35 ?l35 ?c35 ?k35 ?a36 ?l36 ?c36 ?k36 ?a37 ?l37 ?c37 ?k37 ?a38 ?l38 ?c38 ?k38 ?a39 ?l39 ?c39 ?k39 ?a40 ?l40 ?c40 ?k40 ?a41 ?l41 ?c41 ?k41 ?a42 ?l42 ?c42 ?k42 ?a43 ?l43 ?c43 ?k43 ?a44 ?l44 ?c44 ?k44 ?a45 ?l45 ?c45 ?k45 ?a46 ?l46 ?c46 ?k46 ?a47 ?l47 ?c47 ?k47 ?a48 ?l48 ?c48 ?k48 ?a49 ?l49 ?c49 ?k49 ?a50 ?l50 ?c50 ?k50 ?a51 ?l51 ?c51 ?k51 ?a52 ?l52 ?c52 ?k52 ?a53 ?l53 ?c53 ?k53 ?a54 ?l54 ?c54 ?k54 ?a55 ?l55 ?c55 ?k55 ?a56 ?l56 ?c56 ?k56 ?a57 ?l57 ?c57 ?k57 ?a58 ?l58 ?c58 ?k58 ?a59 ?l59 ?c59 ?k59 ?a60 ?l60 ?c60 ?k60 ?a61 ?l61 ?c61 ?k61 ?a62 ?l62 ?c62 ?k62 ?a63 ?l63 ?c63 ?k63 ?a64 ?l64 ?c64 ?k64 ?a65 ?l65 ?c65 ?k65 ?a66 ?l66 ?c66 ?k66 ?a67 ?l67 ?c67 ?k67 ?a68 ?l68 ?c68 ?k68 ?a69 ?l69 ?c69 ?k69 ?a70 ?l70 ?c70 ?k70 ?a71 ?l71 ?c71 ?k71 ?a72 ?l72 ?c72 ?k72 ?a73 ?l73 ?c73 ?k73 ?a74 ?l74 ?c74 ?k74 ?a75 ?l75 ?c75 ?k75 ?a76 ?l76 ?c76 ?k76 ?a77 ?l77 ?c77 ?k77 ?a78 ?l78 ?c78 ?k78 ?a79 ?l79 ?c79 ?k79 ?a80 ?l80 ?c80 ?k80 ?a81 ?l81 ?c81 ?k81 ?a82 ?l82 ?c82 ?k82 ?a83 ?l83 ?c83 ?k83 ?a84 ?l84 ?c84 ?k84 ?a85 ?l85 ?c85 ?k85 ?a86 ?l86 ?c86 ?k86 ?a87 ?l87 ?c87 ?k87 ?xg0 ?xg1 ?xg2 ?xg3 ?xg4 ?xg5 ?x_NoPlace ?x_Mixed ?xz0 ?xz1 ?xz2 ?xz3 ?xz4 ?xz5 ?xz6 ?xz7 ?xz8 ?xz9 ?xz10 ?xz11 ?xz12 ?xz13 ?xz14 ?xcLETTERS ?xcLONGEST_NAME ?xcMOST_ROOM ?xcNOUGHT ?xlNOUGHT ?xcMOST_BY ?xcROLLS ?xlROLLS ?xcLAYS ?xlLAYS ?xcPUSHES ?xlPUSHES ?xcCHANGES ?xlCHANGES ?iaShort ?ilShort ?icShort ?ikShort ?ifShort ?ivShort ?ihShort ?isShort ?ixShort ?itShort
    (case a0 | l0 | c0 | k0 | a1 | l1 | c1 | k1 | a2 | l2 | c2 | k2 | a3 | l3 | c3 | k3 | a4 | l4 | c4 | k4 | a5 | l5 | c5 | k5 | a6 | l6 | c6 | k6 | a7 | l7 | c7 | k7 | a8 | l8 | c8 | k8 | a9 | l9 | c9 | k9 | a10 | l10 | c10 | k10 | a11 | l11 | c11 | k11 | a12 | l12 | c12 | k12 | a13 | l13 | c13 | k13 | a14 | l14 | c14 | k14 | a15 | l15 | c15 | k15 | a16 | l16 | c16 | k16 | a17 | l17 | c17 | k17 | a18 | l18 | c18 | k18 | a19 | l19 | c19 | k19 | a20 | l20 | c20 | k20 | a21 | l21 | c21 | k21 | a22 | l22 | c22 | k22 | a23 | l23 | c23 | k23 | a24 | l24 | c24 | k24 | a25 | l25 | c25 | k25 | a26 | l26 | c26 | k26 | a27 | l27 | c27 | k27 | a28 | l28 | c28 | k28 | a29 | l29 | c29 | k29 | a30 | l30 | c30 | k30 | a31 | l31 | c31 | k31 | a32 | l32 | c32 | k32 | a33 | l33 | c33 | k33 | a34 | l34 | c34 | k34 | a35 | l35 | c35 | k35 | a36 | l36 | c36 | k36 | a37 | l37 | c37 | k37 | a38 | l38 | c38 | k38 | a39 | l39 | c39 | k39 | a40 | l40 | c40 | k40 | a41 | l41 | c41 | k41 | a42 | l42 | c42 | k42 | a43 | l43 | c43 | k43 | a44 | l44 | c44 | k44 | a45 | l45 | c45 | k45 | a46 | l46 | c46 | k46 | a47 | l47 | c47 | k47 | a48 | l48 | c48 | k48 | a49 | l49 | c49 | k49 | a50 | l50 | c50 | k50 | a51 | l51 | c51 | k51 | a52 | l52 | c52 | k52 | a53 | l53 | c53 | k53 | a54 | l54 | c54 | k54 | a55 | l55 | c55 | k55 | a56 | l56 | c56 | k56 | a57 | l57 | c57 | k57 | a58 | l58 | c58 | k58 | a59 | l59 | c59 | k59 | a60 | l60 | c60 | k60 | a61 | l61 | c61 | k61 | a62 | l62 | c62 | k62 | a63 | l63 | c63 | k63 | a64 | l64 | c64 | k64 | a65 | l65 | c65 | k65 | a66 | l66 | c66 | k66 | a67 | l67 | c67 | k67 | a68 | l68 | c68 | k68 | a69 | l69 | c69 | k69 | a70 | l70 | c70 | k70 | a71 | l71 | c71 | k71 | a72 | l72 | c72 | k72 | a73 | l73 | c73 | k73 | a74 | l74 | c74 | k74 | a75 | l75 | c75 | k75 | a76 | l76 | c76 | k76 | a77 | l77 | c77 | k77 | a78 | l78 | c78 | k78 | a79 | l79 | c79 | k79 | a80 | l80 | c80 | k80 | a81 | l81 | c81 | k81 | a82 | l82 | c82 | k82 | a83 | l83 | c83 | k83 | a84 | l84 | c84 | k84 | a85 | l85 | c85 | k85 | a86 | l86 | c86 | k86 | a87 | l87 | c87 | k87 | xg0 | xg1 | xg2 | xg3 | xg4 | xg5 => k_is)
    (case x_NoPlace => (unfold L3.OwnX; kernel_rfl))
    (case x_Mixed => (unfold L3.OwnX; kernel_rfl))
    (case xz0 | xz1 | xz2 | xz3 | xz4 | xz5 | xz6 | xz7 | xz8 | xz9 | xz10 | xz11 | xz12 | xz13 | xz14 | xcLETTERS | xcLONGEST_NAME | xcMOST_ROOM | xcNOUGHT | xlNOUGHT | xcMOST_BY | xcROLLS | xlROLLS | xcLAYS | xlLAYS | xcPUSHES | xlPUSHES | xcCHANGES | xlCHANGES | iaShort | ilShort | icShort | ikShort | ifShort => k_is)
    (case ivShort => (unfold L3.exOver; kernel_rfl))
    (case ihShort | isShort => k_is)
    (case ixShort => (unfold L3.excInitIn; kernel_rfl))
    (case itShort => k_is)

import PyProof.Rows.All
import Wide.All
import OpenK.AllK
import Wide.FinOn
import Lean
import PyProof.EqAt
import PyProof.EqKinds
import PyProof.TupleCall
import PyProof.StrLawsTight
import KE.KIntText
import KE.KxPart
import PySem.Challenge.RW_reelcut_k44_rolls_refused
set_option Elab.async false
set_option linter.all false
set_option maxRecDepth 100000
namespace L2
open PySem PySem.Spec PyProof.Rows
abbrev Key := Sum Int Str
def qB0 : Key → Value → Bool
  | .inl k, v => Value.isInt k v
  | .inr x, v => Value.isStrOf x v
def qK0 (w : World) : Key → Int
  | .inl k => hashInt k
  | .inr x => hashStr w x
theorem qx : ∀ {k : Key} {v : Value}, qB0 k v = true → (∃ i t, k = Sum.inl i ∧ v = Value.int i t) ∨ (∃ x t, k = Sum.inr x ∧ v = Value.str x t)
  | .inl i, v, h => by
    obtain ⟨t, e⟩ := Value.isInt_shape (k := i) (v := v) h
    exact .inl ⟨i, t, rfl, e⟩
  | .inr x, v, h => by
    obtain ⟨t, e⟩ := Value.isStrOf_shape (x := x) (v := v) h
    exact .inr ⟨x, t, rfl, e⟩
theorem qFg (i : Int) (t : Tok) : qB0 (.inl i) (.int i t) = true := by simp [qB0, Value.isInt]
theorem qEo (x : Str) (t : Tok) : qB0 (.inr x) (.str x t) = true := by simp [qB0, Value.isStrOf]
theorem qIn (a b : Int) : decide ((Sum.inl a : Key) = Sum.inl b) = (a == b) := by
  by_cases e : a = b
  · subst e; simp
  · have h : ¬ (Sum.inl a : Key) = Sum.inl b := fun q => e (Sum.inl.inj q)
    rw [decide_eq_false h]
    exact (beq_eq_false_iff_ne.mpr e).symm
theorem qIi (a b : Str) : decide ((Sum.inr a : Key) = Sum.inr b) = decide (a = b) := by
  by_cases e : a = b
  · subst e; simp
  · have h : ¬ (Sum.inr a : Key) = Sum.inr b := fun q => e (Sum.inr.inj q)
    rw [decide_eq_false h, decide_eq_false e]
theorem qI1 (a : Int) (b : Str) : decide ((Sum.inl a : Key) = Sum.inr b) = false := decide_eq_false (fun q => nomatch q)
theorem qIg (a : Str) (b : Int) : decide ((Sum.inr a : Key) = Sum.inl b) = false := decide_eq_false (fun q => nomatch q)
def jn (prog : Program) (w : World) : PySem.KeyKind prog w Key where
  is := qB0
  hash := qK0 w
  inj := fun v a b ha hb => by
    rcases qx ha with ⟨i, t, rfl, rfl⟩ | ⟨x, t, rfl, rfl⟩
    · rcases qx hb with ⟨j, u, rfl, e⟩ | ⟨y, u, rfl, e⟩
      · injection e with e1 _; rw [e1]
      · exact nomatch e
    · rcases qx hb with ⟨j, u, rfl, e⟩ | ⟨y, u, rfl, e⟩
      · exact nomatch e
      · injection e with e1 _; rw [e1]
  byValue := fun k v h => by
    rcases qx h with ⟨i, t, rfl, rfl⟩ | ⟨x, t, rfl, rfl⟩ <;> rfl
  pyHash := fun hv h => by
    rcases qx hv with ⟨i, t, rfl, rfl⟩ | ⟨x, t, rfl, rfl⟩
    · exact wpAny_pyHash_int h
    · exact wpAny_pyHash_str h
  eqBool := fun hu hv h => by
    rcases qx hu with ⟨i, t, rfl, rfl⟩ | ⟨x, t, rfl, rfl⟩
    · rcases qx hv with ⟨j, u, rfl, rfl⟩ | ⟨y, u, rfl, rfl⟩
      · rw [qIn] at h; exact wpAny_eqBool_int h
      · rw [qI1] at h; exact SeqAt.EqAt.int_str i t y u _ _ _ _ h
    · rcases qx hv with ⟨j, u, rfl, rfl⟩ | ⟨y, u, rfl, rfl⟩
      · rw [qIg] at h; exact SeqAt.EqAt.str_int x t j u _ _ _ _ h
      · rw [qIi] at h; exact wpAny_eqBool_str h
  «strs» := fun k x t v h => by
    rcases qx h with ⟨i, u, rfl, e⟩ | ⟨y, u, rfl, e⟩
    · exact nomatch e
    · injection e with e1 _
      subst e1
      cases v <;> rfl
theorem qBt (prog : Program) (w : World) (i : Int) (t : Tok) : (jn prog w).is (.inl i) (.int i t) = true := qFg i t
theorem qB4 (prog : Program) (w : World) (x : Str) (t : Tok) : (jn prog w).is (.inr x) (.str x t) = true := qEo x t
end L2
namespace L2
open PySem PySem.Spec PyProof.Rows
inductive V where
  | non | bl (b : Bool) | int (i : Int) | str (x : Str) | byt (b : Array UInt8) | flt (b : UInt64) | ref (a : Addr) | ty (n : String)
  deriving DecidableEq
def RelV : V → Value → Prop
  | .non, u => u = Value.none
  | .bl b, u => u = Value.bool b
  | .int i, u => ∃ t, u = Value.int i t
  | .str x, u => ∃ t, u = Value.str x t
  | .byt b, u => ∃ t, u = Value.bytes b t
  | .flt b, u => ∃ t, u = Value.float b t
  | .ref a, u => u = Value.ref a
  | .ty n, u => u = Value.type n
abbrev Vals : List V → List Value → Prop := Paired RelV
theorem Vals.length {xs : List V} {us : List Value} (r : Vals xs us) : xs.length = us.length := Paired.length r
theorem Vals.get : ∀ {xs : List V} {us : List Value} {i : Nat} {x : V}, Vals xs us → xs[i]? = some x → ∃ u, us[i]? = some u ∧ RelV x u
  | _, _, _, _, .nil, e => by simp at e
  | _, _, 0, _, .cons r _, e => by simp at e; subst e; exact ⟨_, rfl, r⟩
  | _, _, i + 1, x, .cons _ t, e => by
    obtain ⟨u, h1, h2⟩ := Vals.get (i := i) (x := x) t (by simpa using e)
    exact ⟨u, by simpa using h1, h2⟩
theorem Vals.set {x : V} {u : Value} (r : RelV x u) : ∀ {xs : List V} {us : List Value} (i : Nat), Vals xs us → Vals (xs.set i x) (us.set i u)
  | _, _, _, .nil => .nil
  | _, _, 0, .cons _ t => .cons r t
  | _, _, i + 1, .cons q t => .cons q (Vals.set r i t)
theorem Vals.append : ∀ {xs ys : List V} {us ws : List Value}, Vals xs us → Vals ys ws → Vals (xs ++ ys) (us ++ ws)
  | _, _, _, _, .nil, s => s
  | _, _, _, _, .cons r t, s => .cons r (Vals.append t s)
theorem Vals.take : ∀ {xs : List V} {us : List Value} (n : Nat), Vals xs us → Vals (xs.take n) (us.take n)
  | _, _, 0, _ => .nil
  | _, _, _ + 1, .nil => .nil
  | _, _, n + 1, .cons r t => .cons r (Vals.take n t)
theorem Vals.drop : ∀ {xs : List V} {us : List Value} (n : Nat), Vals xs us → Vals (xs.drop n) (us.drop n)
  | _, _, 0, r => r
  | _, _, _ + 1, .nil => .nil
  | _, _, n + 1, .cons _ t => Vals.drop n t
def RelO : Option V → Option Value → Prop
  | some v, some u => RelV v u
  | none, none => True
  | _, _ => False
def KV {κ : Type} : List (κ × V) → List (κ × Value) → Prop := Paired fun (p : κ × V) (q : κ × Value) => p.1 = q.1 ∧ RelV p.2 q.2
def kV : Key → V
  | .inl i => .int i
  | .inr x => .str x
inductive HO where
  | lst (xs : List V)
  | tup (xs : List V)
  | dK (kvs : List (Key × V)) | dT (kvs : List (List Key × V))
  | set (S : Int → Bool) (n : Nat)
  | ins (C dx : Addr) (fs : List (Str × V))
  | own (x : Addr)
  | xd (fs : List (Str × V))
  | met (f x : Addr)
  | rng (lo hi : Int)
  | frz (o : Obj) (u : HO)
  | tbl (ps : Array Value)
  | ext (φ : Heap → Prop)
abbrev Hp := Addr → Option HO
def upd (H : Hp) (a : Addr) (o : HO) : Hp := fun b => if b = a then some o else H b
theorem qF {H : Hp} {a : Addr} {o : HO} : upd H a o a = some o := by unfold upd; rw [if_pos rfl]
theorem qV {H : Hp} {a b : Addr} {o : HO} (h : b ≠ a) : upd H a o b = H b := by unfold upd; rw [if_neg h]
theorem qH4 {H : Hp} {a : Addr} {o u : HO} : upd (upd H a o) a u = upd H a u := by
  funext b; unfold upd; split <;> rfl
theorem qI7 {H : Hp} {a b : Addr} {o u : HO} (h : H a = some o) (h' : H b = some u) (d : o ≠ u) : a ≠ b := by
  intro e; subst e; rw [h] at h'; exact d (Option.some.inj h')
theorem qZ {H : Hp} {a b : Addr} {o : HO} (h : H a = some o) (h' : H b = none) : a ≠ b := by
  intro e; subst e; rw [h] at h'; cases h'
section
variable (P : Program) (w : World)
def ObjOk (H : Hp) (h : Heap) (a : Addr) : HO → Prop
  | .lst xs => xs.length ≤ sizeLine ∧ ∃ (its : List Value) (n : Nat), Vals xs its ∧ h.get? a = some { cls := .type "list", data := .seq its.toArray n }
  | .tup xs => xs.length ≤ sizeLine ∧ ∃ its : List Value, Vals xs its ∧ IsTup h a its.toArray
  | .dK kvs => kvs.length ≤ sizeLine ∧ (a == sysModules) = false ∧ ∃ vs, KV kvs vs ∧ h.DictOf (jn P w) a vs
  | .dT kvs => kvs.length ≤ sizeLine ∧ (a == sysModules) = false ∧ ∃ xs : List (List Key × Addr × Value),
      Paired (fun (p : List Key × V) (q : List Key × Addr × Value) => p.1 = q.1 ∧ H q.2.1 = some (.tup (p.1.map kV)) ∧ RelV p.2 q.2.2) kvs xs ∧
      ∃ o es ep, h.get? a = some o ∧ o.ExactDict ∧ o.data = .dict es ep ∧ es.toList = xs.map (entryOfKey (tupleKind (jn P w))) ∧ (xs.map (·.1)).Nodup
  | .set S n => h.SetOf (intKind P w) a S n
  | .ins C dx fs => H dx = some (.own a) ∧ fs.length ≤ 1000 ∧ dx ≠ a ∧ h.get? a = some (PySem.W.instObj C dx) ∧
      ∃ mA, h.Ns1 dx mA ∧ (∀ f, RelO (fs.lookup f) (mA f)) ∧ PySem.Within mA (fs.map (·.1))
  | .own _ => ∃ o, h.get? a = some o
  | .xd fs => ∃ mA, h.Ns1 a mA ∧ ∀ f, RelO (fs.lookup f) (mA f)
  | .rng lo hi => ∃ t u v, h.get? a = some { cls := .type "range", data := .fields #[.int lo t, .int hi u, .int 1 v] }
  | .frz o u => h.get? a = some o ∧ ObjOk H h a u
  | .tbl ps => h.get? a = some { cls := .none, data := .fields ps }
  | .met f x => h.get? a = some (PySem.W.methodObj (.ref f) (.ref x))
  | .ext φ => φ h ∧ (∃ o, h.get? a = some o) ∧ ∀ h1 h2 : Heap, φ h1 → (∀ o, h1.get? a = some o → h2.get? a = some o) → φ h2
def HOk (H : Hp) (h : Heap) : Prop := ∀ a o, H a = some o → ObjOk P w H h a o
end
section
variable {P : Program} {w : World} {H H' : Hp} {h h' : Heap} {a : Addr} {o : HO}
theorem ObjOk.lt (x : ObjOk P w H h a o) : a < h.objs.size := by
  cases o with
  | lst xs => obtain ⟨_, _, _, _, e⟩ := x; exact Heap.lt_size e
  | tup xs => obtain ⟨_, _, _, p⟩ := x; exact p.lt
  | dK kvs => obtain ⟨_, _, _, _, o, _, _, e, _⟩ := x; exact Heap.lt_size e
  | dT kvs => obtain ⟨_, _, _, _, o, _, _, e, _⟩ := x; exact Heap.lt_size e
  | set S n => obtain ⟨o, _, _, _, e, _⟩ := x; exact Heap.lt_size e
  | ins C dx fs => obtain ⟨_, _, _, e, _⟩ := x; exact Heap.lt_size e
  | own y => obtain ⟨_, e⟩ := x; exact Heap.lt_size e
  | xd fs => obtain ⟨_, ⟨_, _, _, e, _⟩, _⟩ := x; exact Heap.lt_size e
  | rng lo hi => obtain ⟨_, _, _, e⟩ := x; exact Heap.lt_size e
  | frz ob u => obtain ⟨e, _⟩ := x; exact Heap.lt_size e
  | tbl ps => exact Heap.lt_size (show h.get? a = some _ from x)
  | met f y => exact Heap.lt_size (show h.get? a = some _ from x)
  | ext φ => obtain ⟨_, ⟨_, e⟩, _⟩ := x; exact Heap.lt_size e
theorem Paired.mapP {α β : Type} {F G : α → β → Prop} : ∀ {l₁ : List α} {l₂ : List β}, Paired F l₁ l₂ → (∀ a b, F a b → G a b) → Paired G l₁ l₂
  | _, _, .nil, _ => .nil
  | _, _, .cons r t, f => .cons (f _ _ r) (Paired.mapP t f)
theorem ObjOk.stay (x : ObjOk P w H h a o) (k : ∀ b u, (b = a ∨ H b = some (.own a)) → h.get? b = some u → h'.get? b = some u)
    (ho : ∀ b, H b = some (.own a) → H' b = some (.own a)) (ht : ∀ b xs, H b = some (.tup xs) → H' b = some (.tup xs)) : ObjOk P w H' h' a o := by
  induction o with
  | lst xs => obtain ⟨z, its, n, r, e⟩ := x; exact ⟨z, its, n, r, k _ _ (.inl rfl) e⟩
  | tup xs => obtain ⟨z, its, r, ob, e, c⟩ := x; exact ⟨z, its, r, ob, k _ _ (.inl rfl) e, c⟩
  | dK kvs => obtain ⟨z, y, vs, r, ob, es, ep, e, c⟩ := x; exact ⟨z, y, vs, r, ob, es, ep, k _ _ (.inl rfl) e, c⟩
  | dT kvs =>
    obtain ⟨z, y, xs, r, ob, es, ep, e, c⟩ := x
    exact ⟨z, y, xs, Paired.mapP r fun p q z => ⟨z.1, ht _ _ z.2.1, z.2.2⟩, ob, es, ep, k _ _ (.inl rfl) e, c⟩
  | set S n => obtain ⟨ob, es, ep, t, e, c⟩ := x; exact ⟨ob, es, ep, t, k _ _ (.inl rfl) e, c⟩
  | ins C dx fs =>
    obtain ⟨d, z, ne, e, mA, ⟨od, es, ep, e2, c⟩, r⟩ := x
    exact ⟨ho _ d, z, ne, k _ _ (.inl rfl) e, mA, ⟨od, es, ep, k _ _ (.inr d) e2, c⟩, r⟩
  | own y => obtain ⟨ob, e⟩ := x; exact ⟨ob, k _ _ (.inl rfl) e⟩
  | xd fs => obtain ⟨mA, ⟨od, es, ep, e, c⟩, r⟩ := x; exact ⟨mA, ⟨od, es, ep, k _ _ (.inl rfl) e, c⟩, r⟩
  | rng lo hi => obtain ⟨t, u, v, e⟩ := x; exact ⟨t, u, v, k _ _ (.inl rfl) e⟩
  | frz ob u ih => obtain ⟨e, q⟩ := x; exact ⟨k _ _ (.inl rfl) e, ih q⟩
  | tbl ps =>
    have e : h.get? a = some { cls := .none, data := .fields ps } := x
    show h'.get? a = some { cls := .none, data := .fields ps }
    exact k a _ (.inl rfl) e
  | met f y =>
    have e : h.get? a = some (PySem.W.methodObj (.ref f) (.ref y)) := x
    show h'.get? a = some (PySem.W.methodObj (.ref f) (.ref y))
    exact k a _ (.inl rfl) e
  | ext φ => obtain ⟨p, ⟨o, e⟩, st⟩ := x; exact ⟨st _ _ p fun o q => k _ _ (.inl rfl) q, ⟨o, k _ _ (.inl rfl) e⟩, st⟩
theorem HOk.lt (x : HOk P w H h) (e : H a = some o) : a < h.objs.size := (x a o e).lt
theorem HOk.fresh (x : HOk P w H h) (e : h.objs.size ≤ a) : H a = none := by
  cases q : H a with
  | none => rfl
  | some u => exact absurd (Nat.lt_of_lt_of_le (x.lt q) e) (Nat.lt_irrefl _)
theorem HOk.kept (x : HOk P w H h) (k : ∀ b u, h.get? b = some u → h'.get? b = some u) : HOk P w H h' := fun a o e =>
  (x a o e).stay (fun b u _ q => k b u q) (fun _ q => q) fun _ _ q => q
theorem HOk.laid (x : HOk P w H h) (k : ∀ b u, h.get? b = some u → h'.get? b = some u) (hp : h.objs.size ≤ a) (new : ObjOk P w (upd H a o) h' a o) : HOk P w (upd H a o) h' := fun b u e => by
  have hn := x.fresh hp
  by_cases hb : b = a
  · subst hb; rw [qF] at e; cases e; exact new
  · rw [qV hb] at e
    exact (x b u e).stay (fun c v _ q => k c v q) (fun c q => by rw [qV (qZ q hn)]; exact q) fun c xs q => by rw [qV (qZ q hn)]; exact q
end
def Rd (H : Hp) (a : Addr) (u : HO) : Prop := H a = some u ∨ ∃ o, H a = some (.frz o u)
theorem Rd.of {H : Hp} {a : Addr} {u : HO} (h : H a = some u) : Rd H a u := .inl h
theorem Rd.ok {P : Program} {w : World} {H : Hp} {h : Heap} {a : Addr} {u : HO} (r : Rd H a u) (x : HOk P w H h) : ObjOk P w H h a u := by
  rcases r with r | ⟨o, r⟩
  · exact x a u r
  · obtain ⟨_, q⟩ := x a _ r
    exact q
def Mut : Option HO → Prop
  | some (.lst _) => True
  | some (.dK _) => True
  | some (.dT _) => True
  | some (.set _ _) => True
  | some (.ins _ _ _) => True
  | some (.ext _) => True
  | _ => False
section
variable {P : Program} {w : World} {H : Hp} {h h' : Heap} {x e : Addr} {o' : HO}
theorem HOk.write (ok : HOk P w H h) (mu : Mut (H x)) (he : e = x ∨ H e = some (.own x)) (k : ∀ b u, b ≠ e → h.get? b = some u → h'.get? b = some u) (heo : ∃ u, h'.get? e = some u)
    (new : ObjOk P w (upd H x o') h' x o') : HOk P w (upd H x o') h' := fun b u q => by
  have nown : ∀ c y, H c = some (.own y) → c ≠ x := fun c y r z => by subst z; rw [r] at mu; exact mu
  have ntup : ∀ c xs, H c = some (.tup xs) → c ≠ x := fun c xs r z => by subst z; rw [r] at mu; exact mu
  by_cases hb : b = x
  · subst hb; rw [qF] at q; cases q; exact new
  · rw [qV hb] at q
    by_cases hbe : b = e
    · have q' : H b = some (.own x) := by
        rcases he with z | z
        · exact absurd (hbe.trans z) hb
        · rw [hbe]; exact z
      rw [q] at q'; cases q'
      obtain ⟨v, hv⟩ := heo
      exact ⟨v, by rw [hbe]; exact hv⟩
    · refine (ok b u q).stay (fun c v hc r => k c v ?_ r) (fun c r => by rw [qV (nown c b r)]; exact r) fun c xs r => by rw [qV (ntup c xs r)]; exact r
      rcases hc with rfl | hc
      · exact hbe
      · rintro rfl
        rcases he with z | z
        · exact nown c b hc z
        · rw [hc] at z; cases z; exact hb rfl
end
structure Un (fs ex : List Addr) (H H' : Hp) (h h' : Heap) : Prop where
  keep : ∀ b o, h.get? b = some o → H b = none → b ∉ fs → b ∉ ex → h'.get? b = some o
  slot : ∀ b o, h.get? b = some o → H b = none → b ∈ fs → b ∉ ex → ∃ sl, h'.get? b = some { o with slots := sl }
  free : ∀ b o, h.get? b = some o → H b = none → b ∉ ex → H' b = none
  there : ∀ b o, h.get? b = some o → b ∉ ex → ∃ o', h'.get? b = some o'
  tups : ∀ b xs, H b = some (.tup xs) → H' b = some (.tup xs)
  frzs : ∀ b o u, H b = some (.frz o u) → H' b = some (.frz o u)
  tbls : ∀ b ps, H b = some (.tbl ps) → ∃ more, H' b = some (.tbl (ps ++ more))
section
variable {fs fs' ex ex' : List Addr} {H H1 H2 : Hp} {h h1 h2 h' : Heap} {a x e : Addr} {o : HO}
theorem Un.any (u : Un fs ex H H1 h h1) {b : Addr} {ob : Obj} (q : h.get? b = some ob) (n : H b = none) (hx : b ∉ ex) : ∃ sl, h1.get? b = some { ob with slots := sl } := by
  by_cases hb : b ∈ fs
  · exact u.slot b ob q n hb hx
  · exact ⟨ob.slots, u.keep b ob q n hb hx⟩
theorem Un.trans (a : Un fs ex H H1 h h1) (b : Un fs ex H1 H2 h1 h2) : Un fs ex H H2 h h2 where
  keep := fun c ob q n hc hx => b.keep c ob (a.keep c ob q n hc hx) (a.free c ob q n hx) hc hx
  slot := fun c ob q n hc hx => by
    obtain ⟨sl, e1⟩ := a.slot c ob q n hc hx
    obtain ⟨sl', e2⟩ := b.slot c _ e1 (a.free c ob q n hx) hc hx
    exact ⟨sl', e2⟩
  free := fun c ob q n hx => by
    obtain ⟨o', e1⟩ := a.there c ob q hx
    exact b.free c o' e1 (a.free c ob q n hx) hx
  there := fun c ob q hx => by
    obtain ⟨o', e1⟩ := a.there c ob q hx
    exact b.there c o' e1 hx
  tups := fun c xs q => b.tups c xs (a.tups c xs q)
  frzs := fun c ob xs q => b.frzs c ob xs (a.frzs c ob xs q)
  tbls := fun c ps q => by
    obtain ⟨m1, e1⟩ := a.tbls c ps q
    obtain ⟨m2, e2⟩ := b.tbls c _ e1
    exact ⟨m1 ++ m2, by rw [e2, Array.append_assoc]⟩
theorem Un.kept (k : ∀ b u, h.get? b = some u → h'.get? b = some u) : Un fs ex H H h h' :=
  ⟨fun b ob q _ _ _ => k b ob q, fun b ob q _ _ _ => ⟨ob.slots, k b ob q⟩, fun _ _ _ n _ => n, fun b ob q _ => ⟨ob, k b ob q⟩, fun _ _ q => q, fun _ _ _ q => q, fun _ ps q => ⟨#[], by rw [q]; simp⟩⟩
theorem Un.refl : Un fs ex H H h h := Un.kept fun _ _ q => q
theorem Un.laid (k : ∀ b u, h.get? b = some u → h'.get? b = some u) (hp : h.objs.size ≤ a) (hn : H a = none) : Un fs ex H (upd H a o) h h' where
  keep := fun b u q _ _ _ => k b u q
  slot := fun b u q _ _ _ => ⟨u.slots, k b u q⟩
  free := fun b u q n _ => by rw [qV (Nat.ne_of_lt (Nat.lt_of_lt_of_le (Heap.lt_size q) hp))]; exact n
  there := fun b u q _ => ⟨u, k b u q⟩
  tups := fun b xs q => by rw [qV (qZ q hn)]; exact q
  frzs := fun b u xs q => by rw [qV (qZ q hn)]; exact q
  tbls := fun b ps q => ⟨#[], by rw [qV (qZ q hn), q]; simp⟩
theorem Un.write (mu : Mut (H x)) (he : e = x ∨ H e = some (.own x)) (k : ∀ b u, b ≠ e → h.get? b = some u → h'.get? b = some u) (heo : ∃ u, h'.get? e = some u) : Un fs ex H (upd H x o) h h' := by
  have hx : ∀ b, H b = none → b ≠ x := fun b n z => by subst z; rw [n] at mu; exact mu
  have hb : ∀ b, H b = none → b ≠ e := fun b n z => by
    subst z
    rcases he with r | r
    · exact hx b n r
    · rw [n] at r; cases r
  have hm : ∀ b u, H b = some u → ¬ Mut (some u) → b ≠ x := fun b u q nm z => by subst z; rw [q] at mu; exact nm mu
  refine ⟨fun b u q n _ _ => k b u (hb b n) q, fun b u q n _ _ => ⟨u.slots, k b u (hb b n) q⟩, fun b u q n _ => by rw [qV (hx b n)]; exact n, fun b u q _ => ?_,
    fun b xs q => by rw [qV (hm b _ q fun z => z)]; exact q, fun b u xs q => by rw [qV (hm b _ q fun z => z)]; exact q, fun b ps q => ⟨#[], by rw [qV (hm b _ q fun z => z), q]; simp⟩⟩
  by_cases hbe : b = e
  · subst hbe; exact heo
  · exact ⟨u, k b u hbe q⟩
theorem Un.mono (u : Un fs ex H H1 h h1) (hs : ∀ b ∈ fs, b ∈ fs') (hx : ∀ b ∈ ex, b ∈ ex') : Un fs' ex' H H1 h h1 :=
  ⟨fun b ob q n hb he => u.keep b ob q n (fun z => hb (hs b z)) fun z => he (hx b z), fun _ _ q n _ he => u.any q n fun z => he (hx _ z), fun b ob q n he => u.free b ob q n fun z => he (hx b z), fun b ob q he => u.there b ob q fun z => he (hx b z), u.tups, u.frzs, u.tbls⟩
end
def trk (h : Heap) (H : Hp) : List Addr := (List.range h.objs.size).filter fun a => (H a).isSome
def qFy (h : Heap) (H : Hp) : Heap := PySem.W.hideAll h (trk h H)
theorem qFe (h : Heap) (H : Hp) : (qFy h H).objs.size = h.objs.size := PySem.W.hideAll_size _ _
theorem qGk {h : Heap} {H : Hp} {b : Addr} {o : Obj} (e : h.get? b = some o) (n : H b = none) : (qFy h H).get? b = some o :=
  PySem.W.hideAll_get _ e fun hm => by
    have q : (H b).isSome = true := (List.mem_filter.mp hm).2
    rw [n] at q; simp at q
theorem qHo {h : Heap} {H : Hp} {b : Addr} {o : Obj} (e : (qFy h H).get? b = some o) : h.get? b = some o ∧ H b = none := by
  have e' : h.get? b = some o := PySem.W.of_hideAll (trk h H) e
  refine ⟨e', ?_⟩
  cases q : H b with
  | none => rfl
  | some x =>
    have hm : b ∈ trk h H := List.mem_filter.mpr ⟨List.mem_range.mpr (Heap.lt_size e'), by simp [q]⟩
    have z : (qFy h H).get? b = none := PySem.W.hideAll_none (trk h H) hm
    rw [z] at e; cases e
def qHr (g h : Heap) (L : Addr) : List (Addr × Obj) := (List.range h.objs.size).filterMap fun a => if a = L ∨ (g.get? a).isSome = true then none else (h.get? a).map fun o => (a, o)
def rest (g h : Heap) (L d : Addr) : List (Addr × Obj) := (qHr g h L).filter fun p => decide (p.1 ≠ d)
end L2
namespace L2
open PySem PySem.Spec PyProof.Rows
structure Mod (K : PySem.W.Frag) (mg : Str → Option Value) (base : Heap) : Prop where
  kin : K.In base
  glob : base.Ns mainGlobals mg
  blt : ∃ mb, base.Ns builtinsNs mb ∧ ∀ x : Str, x ≠ "__name__" → mb x = bootBuiltins x
  nolimit : base.NoLimit
structure Cx where
  prog : Program
  w : World
  K : PySem.W.Frag
  mg : Str → Option Value
  base : Heap
  A : Around
  N : List Str
  s₀ : Shared
  H₀ : Hp
  env : Env
  outer : List Env
  stack : List Env
  ex : List Addr
  fn : Str → Bool
  calm : Bool
  pn : List (Addr × Obj)
  xe : Value → Shared → Prop
def frs (l : List Env) : List Addr := l.filterMap (·.frame)
abbrev Cx.fs (X : Cx) : List Addr := frs X.outer
def Vis (sc : Scope) (x : Str) : Prop := sc.names.lookup x = some .local ∨ sc.names.lookup x = some .cell ∨ sc.names.lookup x = some .free
def Loc (sc : Scope) (x : Str) : Prop := sc.names.lookup x = some .local ∨ sc.names.lookup x = some .cell
def qKs (env : Env) (h : Heap) (m : Str → Option Value) (x : Str) (u : Value) : Prop :=
  (env.kindOf x = some .local ∧ m x = some u) ∨ ((env.kindOf x = some .cell ∨ env.kindOf x = some .free) ∧ ∃ c, env.cells.lookup x = some c ∧ h.IsCell c (some u))
structure Cx.Ok (X : Cx) : Prop where
  mod : Mod X.K X.mg X.base
  kind : X.env.scope.kind = .function
  glob : X.env.globals = mainGlobals
  blt : X.env.builtins = builtinsNs
  above : X.s₀.heap.objs.size ≤ X.env.locals
  inj : ∀ x y c, X.env.cells.lookup x = some c → X.env.cells.lookup y = some c → x = y
  has : ∀ x, (X.env.kindOf x = some .cell ∨ X.env.kindOf x = some .free) → ∃ c, X.env.cells.lookup x = some c
  cab : ∀ x c, X.fn x = true → X.env.cells.lookup x = some c → X.s₀.heap.objs.size ≤ c
  hd : X.calm = true → X.A.handled = none
  frames : X.A.frames = some X.stack
  stk : X.stack = X.outer ∨ (X.stack = X.env :: X.outer ∧ X.env.frame = some X.env.locals)
  exf : ∀ b ∈ X.ex, b ≠ X.env.locals ∧ ∀ x c, X.env.cells.lookup x = some c → c ≠ b
  bs : ∀ b o, X.base.get? b = some o → X.s₀.heap.get? b = some o ∧ X.H₀ b = none
  bsz : X.base.objs.size ≤ X.s₀.heap.objs.size
  noex : ∀ b o, X.base.get? b = some o → b ∉ X.ex
  exfs : ∀ b ∈ X.ex, b ∉ X.fs
  funs : X.s₀.heap.FunFrames X.base X.outer
  frf : ∀ b ∈ X.fs, X.H₀ b = none
structure Inv (X : Cx) (pins : List (Addr × Obj)) (σ : List (Option V)) (H : Hp) (s : Shared) : Prop where
  ok : X.Ok
  os : s.os = X.s₀.os
  bare : AllBare s.gens
  base : Un X.fs X.ex X.H₀ H X.s₀.heap s.heap
  loc : ∃ m, s.heap.Ns X.env.locals m ∧ ∀ (i : Nat) (x : Str) (v : V), X.N[i]? = some x → σ[i]? = some (some v) → Vis X.env.scope x → ∃ u, RelV v u ∧ qKs X.env s.heap m x u
  cell : ∀ x c, X.env.cells.lookup x = some c → ∃ v, s.heap.IsCell c v
  free : H X.env.locals = none
  freeC : ∀ x c, X.env.cells.lookup x = some c → H c = none
  pin : ∀ p ∈ X.pn ++ pins, s.heap.get? p.1 = some p.2 ∧ H p.1 = none ∧ p.1 ≠ X.env.locals ∧ p.1 ∉ X.fs ∧ ∀ v, p.2.data ≠ .cell v
  hok : HOk X.prog X.w H s.heap
  len : σ.length = X.N.length
section
variable {X : Cx} {pins : List (Addr × Obj)} {σ : List (Option V)} {H H' : Hp} {s : Shared} {h' : Heap}
theorem Cx.Ok.nofr (ok : X.Ok) {b : Addr} {o : Obj} (e : X.base.get? b = some o) : b ∉ X.fs := fun hb => by
  have := (ok.funs.mem hb).1
  rw [e] at this; cases this
theorem Inv.bs (I : Inv X pins σ H s) : ∀ b o, X.base.get? b = some o → s.heap.get? b = some o ∧ H b = none := fun b o e =>
  ⟨I.base.keep b o (I.ok.bs b o e).1 (I.ok.bs b o e).2 (I.ok.nofr e) (I.ok.noex b o e), I.base.free b o (I.ok.bs b o e).1 (I.ok.bs b o e).2 (I.ok.noex b o e)⟩
theorem Inv.bk (I : Inv X pins σ H s) : ∀ b o, X.base.get? b = some o → s.heap.get? b = some o := fun b o e => (I.bs b o e).1
theorem Inv.mod (I : Inv X pins σ H s) : Mod X.K X.mg X.base := I.ok.mod
theorem Inv.kIn (I : Inv X pins σ H s) : X.K.In s.heap := I.ok.mod.kin.keeps I.bk
theorem Inv.nolimit (I : Inv X pins σ H s) : s.heap.NoLimit := I.ok.mod.nolimit.keeps I.bk
theorem Inv.fr (I : Inv X pins σ H s) : ∃ m, Fr X.base X.env.locals s.heap m :=
  let ⟨m, hn, _⟩ := I.loc
  ⟨m, hn, I.bk, Nat.le_trans I.ok.bsz I.ok.above⟩
theorem Inv.lt (I : Inv X pins σ H s) : X.env.locals < s.heap.objs.size := let ⟨_, hn, _⟩ := I.loc; hn.lt
theorem Inv.sz (I : Inv X pins σ H s) : X.s₀.heap.objs.size ≤ s.heap.objs.size := Nat.le_trans I.ok.above (Nat.le_of_lt I.lt)
theorem Inv.nofs (I : Inv X pins σ H s) {a : Addr} (h : s.heap.objs.size ≤ a) : a ∉ X.fs := fun hb => by
  obtain ⟨_, o, ho, _⟩ := I.ok.funs.mem hb
  exact absurd (Nat.lt_of_lt_of_le (Heap.lt_size ho) (Nat.le_trans I.sz h)) (Nat.lt_irrefl _)
theorem Inv.cne (I : Inv X pins σ H s) : ∀ x c, X.env.cells.lookup x = some c → c ≠ X.env.locals := fun x c e z => by
  obtain ⟨v, o, ho, hd⟩ := I.cell x c e
  obtain ⟨m, ⟨o', es, ep, ho', hd', _⟩, _⟩ := I.loc
  rw [z, ho'] at ho; cases ho; rw [hd'] at hd; cases hd
theorem Inv.funs (I : Inv X pins σ H s) : s.heap.FunFrames X.base X.outer := by
  have all : ∀ (l : List Env), (∀ b ∈ frs l, b ∈ X.fs) → X.s₀.heap.FunFrames X.base l → s.heap.FunFrames X.base l := by
    intro l
    induction l with
    | nil => intro _ _; trivial
    | cons env r ih =>
      intro hs hl
      obtain ⟨hk, ⟨L, o, hf, hn, ho, hd⟩, hr⟩ := hl
      have hL : L ∈ X.fs := hs L (by unfold frs; rw [List.filterMap_cons, hf]; exact List.mem_cons_self)
      obtain ⟨sl, e⟩ := I.base.slot L o ho (I.ok.frf L hL) hL fun z => I.ok.exfs L z hL
      exact ⟨hk, ⟨L, _, hf, hn, e, hd⟩, ih (fun b hb => hs b (by unfold frs; rw [List.filterMap_cons, hf]; exact List.mem_cons_of_mem _ hb)) hr⟩
  exact all X.outer (fun _ hb => hb) I.ok.funs
theorem Inv.stack (I : Inv X pins σ H s) : s.heap.FunFrames X.base X.stack := by
  rcases I.ok.stk with e | ⟨e, hf⟩
  · rw [e]; exact I.funs
  · rw [e]
    obtain ⟨m, hn, _⟩ := I.loc
    refine .cons (by rw [I.ok.kind]; decide) hf hn ?_ I.funs
    exact Heap.get?_none_of_le (Nat.le_trans I.ok.bsz I.ok.above)
theorem Inv.stkSub (I : Inv X pins σ H s) : ∀ b ∈ frs X.stack, b ∈ X.env.locals :: X.fs := fun b hb => by
  rcases I.ok.stk with e | ⟨e, hf⟩
  · rw [e] at hb; exact List.mem_cons_of_mem _ hb
  · rw [e] at hb
    unfold frs at hb
    rw [List.filterMap_cons, hf] at hb
    exact hb
theorem Inv.stkFree (I : Inv X pins σ H s) : ∀ b ∈ frs X.stack, H b = none := fun b hb => by
  rcases List.mem_cons.mp (I.stkSub b hb) with e | hb
  · rw [e]; exact I.free
  · obtain ⟨_, o, ho, _⟩ := I.ok.funs.mem hb
    exact I.base.free b o ho (I.ok.frf b hb) fun z => I.ok.exfs b z hb
theorem Inv.step {g' : Array GenState} {t' : Nat} {d' : Drawn} {ch : List Addr} (I : Inv X pins σ H s)
    (hch : ∀ b ∈ ch, (b ∈ X.ex ∨ X.s₀.heap.objs.size ≤ b) ∧ b ≠ X.env.locals ∧ (∀ x c, X.env.cells.lookup x = some c → c ≠ b) ∧ ∀ p ∈ X.pn ++ pins, p.1 ≠ b)
    (keep : ∀ b o, b ≠ X.env.locals → b ∉ X.fs → b ∉ ch → s.heap.get? b = some o → H b = none → h'.get? b = some o)
    (slot : ∀ b o, b ≠ X.env.locals → b ∈ X.fs → b ∉ ch → s.heap.get? b = some o → H b = none → ∃ sl, h'.get? b = some { o with slots := sl }) (free : ∀ b o, b ∉ ch → s.heap.get? b = some o → H b = none → H' b = none)
    (there : ∀ b o, b ∉ ch → s.heap.get? b = some o → ∃ o', h'.get? b = some o')
    (tups : ∀ b xs, H b = some (.tup xs) → H' b = some (.tup xs)) (frzs : ∀ b o u, H b = some (.frz o u) → H' b = some (.frz o u)) (tbls : ∀ b ps, H b = some (.tbl ps) → ∃ more, H' b = some (.tbl (ps ++ more)))
    (ns : ∀ m, s.heap.Ns X.env.locals m → h'.Ns X.env.locals m) (hok : HOk X.prog X.w H' h') (hg : AllBare g') :
    Inv X pins σ H' { s with heap := h', gens := g', drawn := d', toks := t' } := by
  have neL : ∀ b o, X.s₀.heap.get? b = some o → b ≠ X.env.locals := fun b o e => Nat.ne_of_lt (Nat.lt_of_lt_of_le (Heap.lt_size e) I.ok.above)
  have neC : ∀ b o, X.s₀.heap.get? b = some o → b ∉ X.ex → b ∉ ch := fun b o e hx hb => by
    rcases (hch b hb).1 with z | z
    · exact hx z
    · exact absurd (Nat.lt_of_lt_of_le (Heap.lt_size e) z) (Nat.lt_irrefl _)
  have cellK : ∀ x c, X.env.cells.lookup x = some c → ∀ v, s.heap.IsCell c v → h'.IsCell c v := fun x c e v ⟨o, ho, hd⟩ => by
    have nch : c ∉ ch := fun z => (hch c z).2.2.1 x c e rfl
    by_cases hc : c ∈ X.fs
    · obtain ⟨sl, q⟩ := slot c o (I.cne x c e) hc nch ho (I.freeC x c e)
      exact ⟨_, q, hd⟩
    · exact ⟨o, keep c o (I.cne x c e) hc nch ho (I.freeC x c e), hd⟩
  refine ⟨I.ok, I.os, hg, ⟨fun b o e n hb hx => ?_, fun b o e n hb hx => ?_, fun b o e n hx => ?_, fun b o e hx => ?_, fun b xs e => tups b xs (I.base.tups b xs e), fun b o xs e => frzs b o xs (I.base.frzs b o xs e), fun b ps e => ?_⟩, ?_, fun x c e => ?_, ?_, fun x c e => ?_, fun p hp => ?_, hok, I.len⟩
  · exact keep b o (neL b o e) hb (neC b o e hx) (I.base.keep b o e n hb hx) (I.base.free b o e n hx)
  · obtain ⟨sl, e1⟩ := I.base.slot b o e n hb hx
    obtain ⟨sl', e2⟩ := slot b _ (neL b o e) hb (neC b o e hx) e1 (I.base.free b o e n hx)
    exact ⟨sl', e2⟩
  · obtain ⟨o', e1⟩ := I.base.there b o e hx
    exact free b o' (neC b o e hx) e1 (I.base.free b o e n hx)
  · obtain ⟨o', e1⟩ := I.base.there b o e hx
    exact there b o' (neC b o e hx) e1
  · obtain ⟨m1, e1⟩ := I.base.tbls b ps e
    obtain ⟨m2, e2⟩ := tbls b _ e1
    exact ⟨m1 ++ m2, by rw [e2, Array.append_assoc]⟩
  · obtain ⟨m, hn, hl⟩ := I.loc
    refine ⟨m, ns m hn, fun i x v e1 e2 e3 => ?_⟩
    obtain ⟨u, r, l⟩ := hl i x v e1 e2 e3
    refine ⟨u, r, ?_⟩
    rcases l with l | ⟨k, c, e, z⟩
    · exact .inl l
    · exact .inr ⟨k, c, e, cellK x c e _ z⟩
  · obtain ⟨v, z⟩ := I.cell x c e
    exact ⟨v, cellK x c e v z⟩
  · obtain ⟨m, ⟨o, _, _, ho, _⟩, _⟩ := I.loc
    exact free _ o (fun z => (hch _ z).2.1 rfl) ho I.free
  · obtain ⟨v, o, ho, hd⟩ := I.cell x c e
    exact free c o (fun z => (hch c z).2.2.1 x c e rfl) ho (I.freeC x c e)
  · obtain ⟨e, n, ne, nf, d⟩ := I.pin p hp
    have nch : p.1 ∉ ch := fun z => (hch p.1 z).2.2.2 p hp rfl
    exact ⟨keep p.1 p.2 ne nf nch e n, free p.1 p.2 nch e n, ne, nf, d⟩
theorem Inv.un {t' : Nat} (I : Inv X pins σ H s) (u : Un X.fs [] H H' s.heap h') (hok : HOk X.prog X.w H' h') : Inv X pins σ H' { s with heap := h', toks := t' } := by
  obtain ⟨m, ⟨o, es, ep, ho, r⟩, _⟩ := id I.loc
  obtain ⟨sl, hL⟩ := u.any ho I.free (by simp)
  exact I.step (g' := s.gens) (d' := s.drawn) (ch := []) (fun _ z => nomatch z) (fun b o _ hb _ e n => u.keep b o e n hb (by simp)) (fun b o _ hb _ e n => u.slot b o e n hb (by simp)) (fun b o _ e n => u.free b o e n (by simp)) (fun b o _ e => u.there b o e (by simp)) u.tups u.frzs u.tbls (fun m' hm => by
    obtain ⟨o', es', ep', ho', r'⟩ := hm
    rw [ho] at ho'; cases ho'
    exact ⟨_, es', ep', hL, r'⟩) hok I.bare
theorem Inv.call {g' : Array GenState} {t' : Nat} {d' : Drawn} {ch : List Addr} (I : Inv X pins σ H s) (u : Un (frs X.stack) ch H H' s.heap h') (hok : HOk X.prog X.w H' h') (hg : AllBare g')
    (hch : ∀ b ∈ ch, (b ∈ X.ex ∨ X.s₀.heap.objs.size ≤ b) ∧ b ≠ X.env.locals ∧ (∀ x c, X.env.cells.lookup x = some c → c ≠ b) ∧ ∀ p ∈ X.pn ++ pins, p.1 ≠ b) :
    Inv X pins σ H' { s with heap := h', gens := g', drawn := d', toks := t' } := by
  obtain ⟨m, ⟨o, es, ep, ho, r⟩, _⟩ := id I.loc
  obtain ⟨sl, hL⟩ := u.any ho I.free fun z => (hch _ z).2.1 rfl
  exact I.step (ch := ch) hch (fun b o hL hb hc e n => u.keep b o e n (fun z => (List.mem_cons.mp (I.stkSub b z)).elim hL hb) hc) (fun b o _ _ hc e n => u.any e n hc) (fun b o hc e n => u.free b o e n hc) (fun b o hc e => u.there b o e hc) u.tups u.frzs u.tbls (fun m' hm => by
    obtain ⟨o', es', ep', ho', r'⟩ := hm
    rw [ho] at ho'; cases ho'
    exact ⟨_, es', ep', hL, r'⟩) hok hg
theorem Inv.turned {t' : Nat} {it : Addr} (I : Inv X pins σ H s) (k : ∀ b o, b ≠ it → s.heap.get? b = some o → h'.get? b = some o) (hn : H it = none) (hL : it ≠ X.env.locals)
    (h1 : it ∈ X.ex ∨ X.s₀.heap.objs.size ≤ it) (h2 : ∀ x c, X.env.cells.lookup x = some c → c ≠ it) (h3 : ∀ p ∈ X.pn ++ pins, p.1 ≠ it) : Inv X pins σ H { s with heap := h', toks := t' } := by
  have nit : ∀ b u, H b = some u → b ≠ it := fun b u e z => by rw [z, hn] at e; cases e
  refine I.step (g' := s.gens) (d' := s.drawn) (ch := [it]) (fun b hb => ?_) (fun b o _ _ hc e _ => k b o (fun z => hc (by simp [z])) e) (fun b o _ _ hc e _ => ⟨o.slots, k b o (fun z => hc (by simp [z])) e⟩) (fun _ _ _ _ n => n)
    (fun b o hc e => ⟨o, k b o (fun z => hc (by simp [z])) e⟩) (fun _ _ e => e) (fun _ _ _ e => e) (fun b ps e => ⟨#[], by rw [e]; simp⟩) (fun m hm => ?_) (fun b u e => ?_) I.bare
  · have e : b = it := by simpa using hb
    subst e
    exact ⟨h1, hL, h2, h3⟩
  · obtain ⟨o, es, ep, ho, r⟩ := hm
    exact ⟨o, es, ep, k _ o (Ne.symm hL) ho, r⟩
  · refine (I.hok b u e).stay (fun c v hc q => k c v ?_ q) (fun _ q => q) fun _ _ q => q
    rcases hc with z | z
    · rw [z]; exact nit b u e
    · exact nit c _ z
theorem Inv.tok (I : Inv X pins σ H s) (t : Nat) : Inv X pins σ H { s with toks := t } := I.un (h' := s.heap) (t' := t) Un.refl I.hok
theorem Inv.kept {t' : Nat} (I : Inv X pins σ H s) (k : ∀ b u, s.heap.get? b = some u → h'.get? b = some u) : Inv X pins σ H { s with heap := h', toks := t' } := I.un (Un.kept k) (I.hok.kept k)
theorem Inv.laid {a : Addr} {o : HO} {t' : Nat} (I : Inv X pins σ H s) (k : ∀ b u, s.heap.get? b = some u → h'.get? b = some u) (hp : s.heap.objs.size ≤ a) (new : ObjOk X.prog X.w (upd H a o) h' a o) :
    Inv X pins σ (upd H a o) { s with heap := h', toks := t' } := I.un (Un.laid k hp (I.hok.fresh hp)) (I.hok.laid k hp new)
theorem Inv.write {x e : Addr} {o : HO} {t' : Nat} (I : Inv X pins σ H s) (mu : Mut (H x)) (he : e = x ∨ H e = some (.own x)) (k : ∀ b u, b ≠ e → s.heap.get? b = some u → h'.get? b = some u) (heo : ∃ u, h'.get? e = some u)
    (new : ObjOk X.prog X.w (upd H x o) h' x o) : Inv X pins σ (upd H x o) { s with heap := h', toks := t' } := I.un (Un.write mu he k heo) (I.hok.write mu he k heo new)
theorem Inv.weak {σ' : List (Option V)} (I : Inv X pins σ H s) (hl : σ'.length = σ.length) (w : ∀ (i : Nat) v, σ'[i]? = some (some v) → σ[i]? = some (some v)) : Inv X pins σ' H s :=
  ⟨I.ok, I.os, I.bare, I.base, let ⟨m, hn, hl'⟩ := I.loc; ⟨m, hn, fun i x v e1 e2 e3 => hl' i x v e1 (w i v e2) e3⟩, I.cell, I.free, I.freeC, I.pin, I.hok, hl.trans I.len⟩
theorem Inv.pins_of {pins' : List (Addr × Obj)} (I : Inv X pins σ H s) (h : ∀ p ∈ pins', s.heap.get? p.1 = some p.2 ∧ H p.1 = none ∧ p.1 ≠ X.env.locals ∧ p.1 ∉ X.fs ∧ ∀ v, p.2.data ≠ .cell v) : Inv X pins' σ H s :=
  ⟨I.ok, I.os, I.bare, I.base, I.loc, I.cell, I.free, I.freeC, fun p hp => (List.mem_append.mp hp).elim (fun z => I.pin p (List.mem_append_left _ z)) (h p), I.hok, I.len⟩
theorem wn {N : List Str} (hN : N.Nodup) {i j : Nat} {x : Str} (a : N[i]? = some x) (b : N[j]? = some x) : i = j := by
  obtain ⟨h1, e1⟩ := List.getElem?_eq_some_iff.mp a
  obtain ⟨h2, e2⟩ := List.getElem?_eq_some_iff.mp b
  exact (List.getElem_inj hN).mp (e1.trans e2.symm)
theorem qAo {M : Model} {A : Around} {E : Value → Shared → Prop} {i : Nat} {x : Str} {v : V} {u : Value} {Q : Unit → Shared → Prop} (I : Inv X pins σ H s) (hN : X.N.Nodup) (hi : X.N[i]? = some x) (hx : Loc X.env.scope x) (r : RelV v u)
    (h : ∀ s', Inv X pins (σ.set i (some v)) H s' → (∃ a, Heap.SameBut a s.heap s'.heap ∧ (a = X.env.locals ∨ X.env.cells.lookup x = some a)) → Q () s') (hf : X.fn x = true ∨ X.env.scope.names.lookup x = some .local := by first | exact .inl rfl | exact .inr rfl | assumption) : wpAny M A (storeName X.env x u) Q E s := by
  obtain ⟨m, hn, hl⟩ := id I.loc
  have hcls : (X.env.scope.kind == .class || (X.env.scope.kind == .module && X.env.locals != X.env.globals)) = false := by rw [I.ok.kind]; rfl
  have hiσ : i < σ.length := by rw [I.len]; exact (List.getElem?_eq_some_iff.mp hi).1
  have cne := I.cne
  have tracked : ∀ {a : Addr} {h' : Heap}, (∃ o, s.heap.get? a = some o ∧ H a = none) → Heap.SameBut a s.heap h' → HOk X.prog X.w H h' := fun {a h'} ha hs b ob e => by
    obtain ⟨_, _, hfree⟩ := ha
    refine (I.hok b ob e).stay (fun c w' hc q => (hs.2 c ?_).trans q) (fun _ q => q) fun _ _ q => q
    rintro rfl
    rcases hc with rfl | hc
    · rw [hfree] at e; cases e
    · rw [hfree] at hc; cases hc
  rcases hx with hk | hk
  · refine wpAny_storeName_local hk hn (fun h' hn' hs => ?_) hcls
    obtain ⟨oL, _, _, hoL, _⟩ := id hn
    refine h _ ⟨I.ok, I.os, I.bare, ⟨fun b o e n hb hx => ?_, fun b o e n hb hx => ?_, I.base.free, fun b o e hx => ?_, I.base.tups, I.base.frzs, I.base.tbls⟩, ⟨_, hn', fun j y v' e1 e2 e3 => ?_⟩, fun y c e => ?_, I.free, I.freeC, fun p hp => ?_, tracked ⟨oL, hoL, I.free⟩ hs, by simpa using I.len⟩ ⟨_, hs, .inl rfl⟩
    · exact (hs.2 b (Nat.ne_of_lt (Nat.lt_of_lt_of_le (Heap.lt_size e) I.ok.above))).trans (I.base.keep b o e n hb hx)
    · obtain ⟨sl, e1⟩ := I.base.slot b o e n hb hx
      exact ⟨sl, (hs.2 b (Nat.ne_of_lt (Nat.lt_of_lt_of_le (Heap.lt_size e) I.ok.above))).trans e1⟩
    · obtain ⟨o', e1⟩ := I.base.there b o e hx
      exact ⟨o', (hs.2 b (Nat.ne_of_lt (Nat.lt_of_lt_of_le (Heap.lt_size e) I.ok.above))).trans e1⟩
    · by_cases hj : j = i
      · subst hj
        rw [hi] at e1; cases e1
        rw [List.getElem?_set_self hiσ] at e2
        cases e2
        exact ⟨u, r, .inl ⟨hk, by simp⟩⟩
      · rw [List.getElem?_set_ne (Ne.symm hj)] at e2
        obtain ⟨u', r', q⟩ := hl j y v' e1 e2 e3
        refine ⟨u', r', ?_⟩
        rcases q with ⟨k, e⟩ | ⟨k, c, e, z⟩
        · refine .inl ⟨k, ?_⟩
          have : y ≠ x := fun e => hj (wn hN e1 (e ▸ hi))
          simp [this, e]
        · exact .inr ⟨k, c, e, z.sameBut hs (cne y c e)⟩
    · obtain ⟨w', z⟩ := I.cell y c e
      exact ⟨w', z.sameBut hs (cne y c e)⟩
    · obtain ⟨e, n, ne, nf, d⟩ := I.pin p hp
      exact ⟨(hs.2 p.1 ne).trans e, n, ne, nf, d⟩
  · have hfn : X.fn x = true := by
      rcases hf with z | z
      · exact z
      · rw [z] at hk; cases hk
    obtain ⟨c, hc⟩ := I.ok.has x (.inl hk)
    obtain ⟨w', z⟩ := I.cell x c hc
    refine wpAny_storeName_cell I.ok.kind hk hc z (fun h' hc' hs => ?_)
    obtain ⟨oc, hoc, hocd⟩ := id z
    refine h { s with heap := h' } ⟨I.ok, I.os, I.bare, ⟨fun b o e n hb hx => ?_, fun b o e n hb hx => ?_, I.base.free, fun b o e hx => ?_, I.base.tups, I.base.frzs, I.base.tbls⟩, ⟨m, hn.sameBut hs (Ne.symm (cne x c hc)), fun j y v' e1 e2 e3 => ?_⟩, fun y c' e => ?_, I.free, I.freeC, fun p hp => ?_, tracked ⟨oc, hoc, I.freeC x c hc⟩ hs, by simpa using I.len⟩ ⟨c, hs, .inr hc⟩
    · exact (hs.2 b (Nat.ne_of_lt (Nat.lt_of_lt_of_le (Heap.lt_size e) (I.ok.cab x c hfn hc)))).trans (I.base.keep b o e n hb hx)
    · obtain ⟨sl, e1⟩ := I.base.slot b o e n hb hx
      exact ⟨sl, (hs.2 b (Nat.ne_of_lt (Nat.lt_of_lt_of_le (Heap.lt_size e) (I.ok.cab x c hfn hc)))).trans e1⟩
    · obtain ⟨o', e1⟩ := I.base.there b o e hx
      exact ⟨o', (hs.2 b (Nat.ne_of_lt (Nat.lt_of_lt_of_le (Heap.lt_size e) (I.ok.cab x c hfn hc)))).trans e1⟩
    · by_cases hj : j = i
      · subst hj
        rw [hi] at e1; cases e1
        rw [List.getElem?_set_self hiσ] at e2
        cases e2
        exact ⟨u, r, .inr ⟨.inl hk, c, hc, hc'⟩⟩
      · rw [List.getElem?_set_ne (Ne.symm hj)] at e2
        obtain ⟨u', r', q⟩ := hl j y v' e1 e2 e3
        refine ⟨u', r', ?_⟩
        rcases q with q | ⟨k, c', e, z'⟩
        · exact .inl q
        · refine .inr ⟨k, c', e, z'.sameBut hs ?_⟩
          rintro rfl
          exact hj (wn hN e1 (I.ok.inj _ _ _ e hc ▸ hi))
    · by_cases hcc : c' = c
      · subst hcc; exact ⟨_, hc'⟩
      · obtain ⟨w2, z2⟩ := I.cell y c' e
        exact ⟨w2, z2.sameBut hs hcc⟩
    · obtain ⟨e, n, ne, nf, d⟩ := I.pin p hp
      refine ⟨(hs.2 p.1 ?_).trans e, n, ne, nf, d⟩
      intro q
      rw [q, hoc] at e
      have q' : oc = p.2 := Option.some.inj e
      exact d w' (by rw [← q']; exact hocd)
theorem zG {M : Model} {A : Around} {E : Value → Shared → Prop} {i : Nat} {x : Str} {v : V} {u : Value} {Q : Unit → Shared → Prop} (I : Inv X pins σ H s) (hN : X.N.Nodup) (hi : X.N[i]? = some x) (hx : Loc X.env.scope x) (r : RelV v u)
    (h : ∀ s', Inv X pins (σ.set i (some v)) H s' → Q () s') (hf : X.fn x = true ∨ X.env.scope.names.lookup x = some .local := by first | exact .inl rfl | exact .inr rfl | assumption) : wpAny M A (storeName X.env x u) Q E s :=
  qAo I hN hi hx r (fun s' I' _ => h s' I') hf
theorem Inv.call' {s' : Shared} {ch : List Addr} (I : Inv X pins σ H s) (ho : s'.os = s.os) (u : Un (frs X.stack) ch H H' s.heap s'.heap) (hok : HOk X.prog X.w H' s'.heap) (hg : AllBare s'.gens)
    (hch : ∀ b ∈ ch, (b ∈ X.ex ∨ X.s₀.heap.objs.size ≤ b) ∧ b ≠ X.env.locals ∧ (∀ x c, X.env.cells.lookup x = some c → c ≠ b) ∧ ∀ p ∈ X.pn ++ pins, p.1 ≠ b) : Inv X pins σ H' s' := by
  obtain ⟨h', g', d', t', o'⟩ := s'
  have e : o' = s.os := ho
  subst e
  exact I.call (g' := g') (t' := t') (d' := d') u hok hg hch
end
abbrev XK := Value → Option Addr → Hp → Prop
abbrev St := List (Option V)
abbrev VK := V → Hp → Prop
abbrev TE := St → Hp → VK → Prop
abbrev TT := St → Hp → (Bool → Hp → Prop) → Prop
abbrev TA := St → Hp → (List V → Hp → Prop) → Prop
structure qE4 where
  nx : St → Hp → Prop
  rt : VK
  bk : St → Hp → Prop := fun _ _ => False
  ct : St → Hp → Prop := fun _ _ => False
abbrev TS := qE4 → St → Hp → Prop
def EP (X : Cx) (pins : List (Addr × Obj)) (σ : St) (Q : VK) (u : Value) (s' : Shared) : Prop := ∃ v H', Inv X pins σ H' s' ∧ RelV v u ∧ Q v H'
def TP (X : Cx) (pins : List (Addr × Obj)) (σ : St) (Q : Bool → Hp → Prop) (b : Bool) (s' : Shared) : Prop := ∃ H', Inv X pins σ H' s' ∧ Q b H'
def AP (X : Cx) (pins : List (Addr × Obj)) (σ : St) (Q : List V → Hp → Prop) (us : List Value) (s' : Shared) : Prop := ∃ vs H', Inv X pins σ H' s' ∧ Vals vs us ∧ Q vs H'
def SP (X : Cx) (pins : List (Addr × Obj)) (D : qE4) (f : Flow) (s' : Shared) : Prop :=
  match f with
  | .next => ∃ σ' H', Inv X pins σ' H' s' ∧ D.nx σ' H'
  | .brk => ∃ σ' H', Inv X pins σ' H' s' ∧ D.bk σ' H'
  | .cont => ∃ σ' H', Inv X pins σ' H' s' ∧ D.ct σ' H'
  | .ret u => ∃ v σ' H', Inv X pins σ' H' s' ∧ RelV v u ∧ D.rt v H'
def PE (X : Cx) (e : Expr) (t : TE) : Prop :=
  ∀ (pins : List (Addr × Obj)) (s : Shared) (σ : St) (H : Hp) (Q : VK), Inv X pins σ H s → t σ H Q → wpAny (model X.prog X.w) X.A (eval e X.env) (EP X pins σ Q) X.xe s
def PT (X : Cx) (e : Expr) (t : TT) : Prop :=
  ∀ (pins : List (Addr × Obj)) (s : Shared) (σ : St) (H : Hp) (Q : Bool → Hp → Prop), Inv X pins σ H s → t σ H Q → wpAny (model X.prog X.w) X.A (isTrue e X.env (eval e X.env)) (TP X pins σ Q) X.xe s
def PW (X : Cx) (e : Expr) (t : TT) : Prop :=
  ∀ (whole : Sem Value) (pins : List (Addr × Obj)) (s : Shared) (σ : St) (H : Hp) (Q : Bool → Hp → Prop), Inv X pins σ H s → t σ H Q → wpAny (model X.prog X.w) X.A (isTrue e X.env whole) (TP X pins σ Q) X.xe s
theorem PW.pt {X : Cx} {e : Expr} {t : TT} (h : PW X e t) : PT X e t := h _
def PA (X : Cx) (es : List Expr) (t : TA) : Prop :=
  ∀ (pos : Pos) (pins : List (Addr × Obj)) (s : Shared) (σ : St) (H : Hp) (Q : List V → Hp → Prop), Inv X pins σ H s → t σ H Q → wpAny (model X.prog X.w) X.A (spliced (backTo pos (starEach es X.env))) (AP X pins σ Q) X.xe s
def PS (X : Cx) (st : Stmt) (t : TS) : Prop :=
  ∀ (pins : List (Addr × Obj)) (s : Shared) (σ : St) (H : Hp) (D : qE4), Inv X pins σ H s → t D σ H → wpAny (model X.prog X.w) X.A (exec st X.env) (SP X pins D) X.xe s
def PSs (X : Cx) (st : List Stmt) (t : TS) : Prop :=
  ∀ (pins : List (Addr × Obj)) (s : Shared) (σ : St) (H : Hp) (D : qE4), Inv X pins σ H s → t D σ H → wpAny (model X.prog X.w) X.A (execs st X.env) (SP X pins D) X.xe s
theorem thn {α : Type} {t : Sem α} {Q Q' : α → Shared → Prop} {M : Model} {A : Around} {E : Value → Shared → Prop} {s : Shared} (h : wpAny M A t Q E s) (hQ : ∀ a s, Q a s → Q' a s) : wpAny M A t Q' E s := wpAny_mono h hQ fun _ _ x => x
end L2
namespace L2
open PySem PySem.Spec PyProof.Rows
section
variable {X : Cx}
def qJd (i : Nat) : TE := fun σ H Q => ∃ v, σ[i]? = some (some v) ∧ Q v H
def tC (v : V) : TE := fun _ H Q => Q v H
theorem qH9 {i : Nat} {x : Str} {pos : Pos} (hN : X.N[i]? = some x) (hv : Vis X.env.scope x) (hd : (x == ("__debug__" : Str)) = false := by decide) (hcd : (x == ("__classdict__" : Str)) = false := by decide) : PE X (.Name x pos) (qJd i) := by
  intro pins s σ H Q I h
  obtain ⟨v, e, h⟩ := h
  obtain ⟨m, hn, hl⟩ := I.loc
  obtain ⟨u, r, l⟩ := hl i x v hN e hv
  have fin : EP X pins σ Q u s := ⟨v, H, I, r, h⟩
  rcases l with ⟨hk, hm⟩ | ⟨hk, c, hc, hcell⟩
  · exact wpAny_Name (wpAny_loadName_local I.ok.kind hk hn hm fin) hd
  · rcases hk with hk | hk
    · exact wpAny_Name (wpAny_loadName_cell I.ok.kind hk hc hcell fin) hd
    · exact wpAny_Name (wpAny_loadName_free I.ok.kind hk hc hcell fin hcd) hd
theorem qB {i j pos} : PE X (.Constant (.int i) j pos) (tC (.int i)) := fun _ _ _ H _ I h => wpAny_Constant_int ⟨.int i, H, I.tok _, ⟨_, rfl⟩, h⟩
theorem vz {b j pos} : PE X (.Constant (.bool b) j pos) (tC (.bl b)) := fun _ _ _ H _ I h => Constant_bool ⟨.bl b, H, I, rfl, h⟩
theorem xy {j pos} : PE X (.Constant .none j pos) (tC .non) := fun _ _ _ H _ I h => Constant_none ⟨.non, H, I, rfl, h⟩
theorem qU {x j pos} : PE X (.Constant (.str x) j pos) (tC (.str x)) := fun _ _ _ H _ I h => Calls.Constant_str ⟨.str x, H, I.tok _, ⟨_, rfl⟩, h⟩
def Gl (X : Cx) (x : Str) : Prop := X.env.kindOf x = some .globalImplicit
theorem vK {E : Value → Shared → Prop} {pins : List (Addr × Obj)} {s : Shared} {σ : St} {H : Hp} {x : Str} {u : Value} {pos : Pos} {Q : Value → Shared → Prop} (I : Inv X pins σ H s) (hg : Gl X x) (hm : X.mg x = some u) (h : Q u s)
    (hd : (x == ("__debug__" : Str)) = false := by decide) : wpAny (model X.prog X.w) X.A (eval (.Name x pos) X.env) Q E s :=
  Calls.Name_function_global I.ok.kind hg (Calls.loadGlobal_global (by rw [I.ok.glob]; exact I.mod.glob.keeps I.bk) hm h) hd
theorem qAt {E : Value → Shared → Prop} {pins : List (Addr × Obj)} {s : Shared} {σ : St} {H : Hp} {x : Str} {u : Value} {pos : Pos} {Q : Value → Shared → Prop} (I : Inv X pins σ H s) (hg : Gl X x) (hm : X.mg x = none) (hv : bootBuiltins x = some u) (h : Q u s)
    (hn : x ≠ "__name__" := by decide) (hd : (x == ("__debug__" : Str)) = false := by decide) : wpAny (model X.prog X.w) X.A (eval (.Name x pos) X.env) Q E s := by
  obtain ⟨mb, h1, h2⟩ := I.mod.blt
  exact Calls.Name_function_global I.ok.kind hg (Calls.loadGlobal_builtin (by rw [I.ok.glob]; exact I.mod.glob.keeps I.bk) hm (by rw [I.ok.blt]; exact h1.keeps I.bk) ((h2 x hn).trans hv) h) hd
theorem jy {x : Str} {v : V} {u : Value} {pos : Pos} (hg : Gl X x) (hm : X.mg x = some u) (r : RelV v u) (hd : (x == ("__debug__" : Str)) = false := by decide) : PE X (.Name x pos) (tC v) :=
  fun _ _ _ H _ I h => vK I hg hm ⟨v, H, I, r, h⟩ hd
theorem qHl {x : Str} {v : V} {u : Value} {pos : Pos} (hg : Gl X x) (hm : X.mg x = none) (hv : bootBuiltins x = some u) (r : RelV v u) (hn : x ≠ "__name__" := by decide) (hd : (x == ("__debug__" : Str)) = false := by decide) : PE X (.Name x pos) (tC v) :=
  fun _ _ _ H _ I h => qAt I hg hm hv ⟨v, H, I, r, h⟩ hn hd
variable {a b : Expr} {ta tb : TE} {pos : Pos}
def PC (X : Cx) (op : CmpOp) (a b : Expr) (t : TE) : Prop :=
  ∀ (pins : List (Addr × Obj)) (s : Shared) (σ : St) (H : Hp) (Q : VK), Inv X pins σ H s → t σ H Q →
    wpAny (model X.prog X.w) X.A (eval a X.env) (fun v s₁ => wpAny (model X.prog X.w) X.A (eval b X.env) (fun u s₂ => wpAny (model X.prog X.w) X.A (compareOp op v u) (EP X pins σ Q) X.xe s₂) X.xe s₁) X.xe s
theorem qFx (b : Expr) {op : CmpOp} (h : op ≠ .In) (h2 : op ≠ .NotIn) : behindInMarks op b = false := by
  have e1 : (op == CmpOp.In) = false := by cases op <;> first | rfl | exact absurd rfl h
  have e2 : (op == CmpOp.NotIn) = false := by cases op <;> first | rfl | exact absurd rfl h2
  cases b <;> simp [behindInMarks, e1, e2]
def qKu (ta : TE) : TE := fun σ H Q => ta σ H fun x H1 => Q (.bl (decide (x = .non))) H1
theorem RelV.none_iff {x : V} {v : Value} (r : RelV x v) : (v == Value.none) = decide (x = .non) := by
  cases x with
  | non => cases r; rfl
  | bl _ => cases r; rfl
  | int _ => obtain ⟨t, rfl⟩ := r; rfl
  | str _ => obtain ⟨t, rfl⟩ := r; rfl
  | byt _ => obtain ⟨t, rfl⟩ := r; rfl
  | flt _ => obtain ⟨t, rfl⟩ := r; rfl
  | ref _ => cases r; rfl
  | ty _ => cases r; rfl
theorem wJ {j pos'} (ha : PE X a ta) : PC X .Is a (.Constant .none j pos') (qKu ta) := by
  intro pins s σ H Q I h
  refine thn (ha pins s σ H _ I h) fun v s1 ⟨x, H1, I1, r1, q1⟩ => ?_
  exact Constant_none (is_none_gen ⟨.bl _, H1, I1, by rw [r1.none_iff]; rfl, q1⟩)
def tB (t : TE) : TT := fun σ H Q => t σ H fun x H1 => ∃ c, x = .bl c ∧ Q c H1
theorem wK {op : CmpOp} {t : TE} (h : PC X op a b t) (h1 : behindInMarks op b = false := by first | exact qFx _ (by decide) (by decide) | rfl) : PT X (.Compare a [op] [b] pos) (tB t) := by
  intro pins s σ H Q I hw
  refine wpAny_isTrue_Compare1 (thn (h pins s σ H _ I hw) fun v s1 h1 => thn h1 fun u s2 h2 => thn h2 fun c s3 ⟨x, H1, I1, r1, q1⟩ => ?_) h1
  obtain ⟨d, rfl, q⟩ := q1
  cases r1
  exact wpAny_truthy_bool ⟨H1, I1, q⟩
theorem zN {e : Expr} {t : TE} (h : PE X e t) (he : ∀ whole, isTrue e X.env whole = (do let v ← whole; standAt e.pos; holding [v] (truthy v)) := by intro _; rfl) : PT X e (tB t) := by
  intro pins s σ H Q I hw
  refine isTrue_plain (thn (h pins s σ H _ I hw) fun v s1 ⟨x, H1, I1, r1, q1⟩ => ?_) (he _)
  obtain ⟨d, rfl, q⟩ := q1
  cases r1
  exact wpAny_truthy_bool ⟨H1, I1, q⟩
variable {tA tB' : TT} {rest : List Expr}
def qKz (t u : TT) : TT := fun σ H Q => t σ H fun c H1 => if c = true then u σ H1 Q else Q false H1
def tOr (t u : TT) : TT := fun σ H Q => t σ H fun c H1 => if c = true then Q true H1 else u σ H1 Q
def qK6 (t : TT) : TT := fun σ H Q => t σ H fun c H1 => Q (!c) H1
theorem xp (ha : PT X a tA) : PW X (.BoolOp .And [a] pos) tA := by
  intro wh pins s σ H Q I h
  refine isTrue_and (thn (ha pins s σ H Q I h) fun c s1 e => ?_)
  cases c with
  | true => exact isTrue_and_nil e
  | false => exact e
theorem zL (ha : PT X a tA) : PW X (.BoolOp .Or [a] pos) tA := by
  intro wh pins s σ H Q I h
  refine isTrue_or (thn (ha pins s σ H Q I h) fun c s1 e => ?_)
  cases c with
  | false => exact isTrue_or_nil e
  | true => exact e
theorem xr (ha : PT X a tA) (hb : PW X (.BoolOp .And (b :: rest) pos) tB') : PW X (.BoolOp .And (a :: b :: rest) pos) (qKz tA tB') := by
  intro wh pins s σ H Q I h
  refine isTrue_and (thn (ha pins s σ H _ I h) fun c s1 ⟨H1, I1, q1⟩ => ?_)
  cases c with
  | true => exact hb wh pins s1 σ H1 Q I1 q1
  | false => exact ⟨H1, I1, q1⟩
theorem zP (ha : PT X a tA) (hb : PW X (.BoolOp .Or (b :: rest) pos) tB') : PW X (.BoolOp .Or (a :: b :: rest) pos) (tOr tA tB') := by
  intro wh pins s σ H Q I h
  refine isTrue_or (thn (ha pins s σ H _ I h) fun c s1 ⟨H1, I1, q1⟩ => ?_)
  cases c with
  | true => exact ⟨H1, I1, q1⟩
  | false => exact hb wh pins s1 σ H1 Q I1 q1
theorem zO (ha : PT X a tA) : PT X (.UnaryOp .Not a pos) (qK6 tA) := by
  intro pins s σ H Q I h
  exact isTrue_not (ha pins s σ H (fun c H1 => Q (!c) H1) I h)
def qJ3 (ta tb : TE) : TE := fun σ H Q => ta σ H fun x H1 => ∃ c, x = .bl c ∧ if c = true then tb σ H1 Q else Q (.bl false) H1
def qLd (ta tb : TE) : TE := fun σ H Q => ta σ H fun x H1 => ∃ c, x = .bl c ∧ if c = true then Q (.bl true) H1 else tb σ H1 Q
def qJ2 (ta : TE) : TE := fun σ H Q => ta σ H fun x H1 => ∃ c, x = .bl c ∧ Q (.bl (!c)) H1
theorem qAi {op} {t : TE} (h : PE X a t) : PE X (.BoolOp op [a] pos) t := fun pins s σ H Q I hw => BoolOp_one (h pins s σ H Q I hw)
theorem qC1 (ha : PE X a ta) (hb : PE X (.BoolOp .And (b :: rest) pos) tb) : PE X (.BoolOp .And (a :: b :: rest) pos) (qJ3 ta tb) := by
  intro pins s σ H Q I h
  refine BoolOp_and (thn (ha pins s σ H _ I h) fun v s1 ⟨x, H1, I1, r1, q1⟩ => ?_)
  obtain ⟨c, rfl, q1⟩ := q1
  cases r1
  refine wpAny_truthy_bool ?_
  cases c with
  | true => exact hb pins s1 σ H1 Q I1 q1
  | false => exact ⟨.bl false, H1, I1, rfl, q1⟩
theorem qJ7 (ha : PE X a ta) (hb : PE X (.BoolOp .Or (b :: rest) pos) tb) : PE X (.BoolOp .Or (a :: b :: rest) pos) (qLd ta tb) := by
  intro pins s σ H Q I h
  refine BoolOp_or (thn (ha pins s σ H _ I h) fun v s1 ⟨x, H1, I1, r1, q1⟩ => ?_)
  obtain ⟨c, rfl, q1⟩ := q1
  cases r1
  refine wpAny_truthy_bool ?_
  cases c with
  | false => exact hb pins s1 σ H1 Q I1 q1
  | true => exact ⟨.bl true, H1, I1, rfl, q1⟩
theorem qCr (ha : PE X a ta) : PE X (.UnaryOp .Not a pos) (qJ2 ta) := by
  intro pins s σ H Q I h
  refine UnaryOp_ (thn (ha pins s σ H _ I h) fun v s1 ⟨x, H1, I1, r1, q1⟩ => ?_)
  obtain ⟨c, rfl, q1⟩ := q1
  cases r1
  exact not_of (wpAny_truthy_bool ⟨.bl (!c), H1, I1, rfl, q1⟩)
def tIf (t : TT) (ta tb : TE) : TE := fun σ H Q => t σ H fun c H1 => if c = true then ta σ H1 Q else tb σ H1 Q
theorem kD {c : Expr} (hc : PT X c tA) (ha : PE X a ta) (hb : PE X b tb) : PE X (.IfExp c a b pos) (tIf tA ta tb) := by
  intro pins s σ H Q I h
  refine wpAny_IfExp (thn (hc pins s σ H _ I h) fun d s1 ⟨H1, I1, q1⟩ => ?_)
  cases d with
  | true => exact ha pins s1 σ H1 Q I1 q1
  | false => exact hb pins s1 σ H1 Q I1 q1
end
end L2
namespace L2
open PySem PySem.Spec PyProof.Rows
def SqL (K : PySem.W.Frag) (H : Hp) (a : Addr) (xs : List V) : Prop :=
  Rd H a (.lst xs) ∨
    ∃ (o : Obj) (its : Array Value) (n : Nat), K.lookup a = some o ∧ o.cls = .type "list" ∧ o.dict = none ∧ o.data = .seq its n ∧ its.size ≤ sizeLine ∧ Vals xs its.toList
def SqT (K : PySem.W.Frag) (H : Hp) (a : Addr) (xs : List V) : Prop :=
  Rd H a (.tup xs) ∨
    ∃ (o : Obj) (its : Array Value) (n : Nat), K.lookup a = some o ∧ o.cls = .type "tuple" ∧ o.data = .seq its n ∧ its.size ≤ sizeLine ∧ Vals xs its.toList
def qK5 : Value → Option V
  | .none => some .non
  | .bool b => some (.bl b)
  | .int i _ => some (.int i)
  | .str x _ => some (.str x)
  | .bytes b _ => some (.byt b)
  | .float b _ => some (.flt b)
  | .ref a => some (.ref a)
  | .type n => some (.ty n)
  | _ => none
theorem RelV.abs {x : V} {u : Value} (r : RelV x u) : qK5 u = some x := by
  cases x with
  | non => cases r; rfl
  | bl _ => cases r; rfl
  | int _ => obtain ⟨t, rfl⟩ := r; rfl
  | str _ => obtain ⟨t, rfl⟩ := r; rfl
  | byt _ => obtain ⟨t, rfl⟩ := r; rfl
  | flt _ => obtain ⟨t, rfl⟩ := r; rfl
  | ref _ => cases r; rfl
  | ty _ => cases r; rfl
theorem RelV.inj {x y : V} {u : Value} (r : RelV x u) (q : RelV y u) : x = y := Option.some.inj (r.abs.symm.trans q.abs)
theorem Vals.inj : ∀ {xs ys : List V} {us : List Value}, Vals xs us → Vals ys us → xs = ys
  | _, _, _, .nil, .nil => rfl
  | _, _, _, .cons r t, .cons r' t' => by rw [r.inj r', Vals.inj t t']
section
variable {X : Cx} {pins : List (Addr × Obj)} {σ : St} {H : Hp} {s : Shared} {a : Addr} {xs ys : List V}
theorem SqL.of {K : PySem.W.Frag} (h : H a = some (.lst xs)) : SqL K H a xs := .inl (.inl h)
theorem SqT.of {K : PySem.W.Frag} (h : H a = some (.tup xs)) : SqT K H a xs := .inl (.inl h)
theorem Inv.list (I : Inv X pins σ H s) (h : SqL X.K H a xs) : ∃ its : List Value, Vals xs its ∧ PlainL s.heap a its.toArray ∧ xs.length ≤ sizeLine := by
  rcases h with h | ⟨o, its, n, hk, hc, hd, hs, hz, r⟩
  · obtain ⟨z, its, n, r, e⟩ := h.ok I.hok
    exact ⟨its, r, ⟨_, n, e, rfl, rfl, rfl⟩, z⟩
  · refine ⟨its.toList, r, ⟨o, n, I.kIn a o hk, hc, hd, by simpa using hs⟩, ?_⟩
    have e := r.length
    simp only [Array.length_toList] at e
    omega
theorem Inv.tuple (I : Inv X pins σ H s) (h : SqT X.K H a xs) : ∃ its : List Value, Vals xs its ∧ IsTup s.heap a its.toArray ∧ xs.length ≤ sizeLine := by
  rcases h with h | ⟨o, its, n, hk, hc, hs, hz, r⟩
  · obtain ⟨z, its, r, p⟩ := h.ok I.hok
    exact ⟨its, r, p, z⟩
  · refine ⟨its.toList, r, ⟨o, I.kIn a o hk, hc, n, by simpa using hs⟩, ?_⟩
    have e := r.length
    simp only [Array.length_toList] at e
    omega
theorem Inv.list_inj (I : Inv X pins σ H s) (h : SqL X.K H a xs) (h' : SqL X.K H a ys) : xs = ys := by
  obtain ⟨its, r, ⟨o, n, e, _, _, d⟩, _⟩ := I.list h
  obtain ⟨its', r', ⟨o', n', e', _, _, d'⟩, _⟩ := I.list h'
  rw [e] at e'; cases e'
  rw [d] at d'
  injection d' with d1 _
  have : its = its' := by simpa using congrArg Array.toList d1
  subst this
  exact r.inj r'
theorem Inv.tuple_inj (I : Inv X pins σ H s) (h : SqT X.K H a xs) (h' : SqT X.K H a ys) : xs = ys := by
  obtain ⟨its, r, ⟨o, e, _, n, d⟩, _⟩ := I.tuple h
  obtain ⟨its', r', ⟨o', e', _, n', d'⟩, _⟩ := I.tuple h'
  rw [e] at e'; cases e'
  rw [d] at d'
  injection d' with d1 _
  have : its = its' := by simpa using congrArg Array.toList d1
  subst this
  exact r.inj r'
end
abbrev Cx.wish (X : Cx) (E : Value → Shared → Prop) : Cx := { X with xe := E }
abbrev Cx.nox (X : Cx) : Cx := X.wish fun _ _ => False
theorem Cx.Ok.wish {X : Cx} (ok : X.Ok) (E : Value → Shared → Prop) : (X.wish E).Ok :=
  ⟨ok.mod, ok.kind, ok.glob, ok.blt, ok.above, ok.inj, ok.has, ok.cab, ok.hd, ok.frames, ok.stk, ok.exf, ok.bs, ok.bsz, ok.noex, ok.exfs, ok.funs, ok.frf⟩
theorem Cx.Ok.unwish {X : Cx} {E : Value → Shared → Prop} (ok : (X.wish E).Ok) : X.Ok :=
  ⟨ok.mod, ok.kind, ok.glob, ok.blt, ok.above, ok.inj, ok.has, ok.cab, ok.hd, ok.frames, ok.stk, ok.exf, ok.bs, ok.bsz, ok.noex, ok.exfs, ok.funs, ok.frf⟩
section
variable {X : Cx} {pins : List (Addr × Obj)} {σ : St} {H : Hp} {s : Shared} {E : Value → Shared → Prop}
theorem Inv.wish (I : Inv X pins σ H s) (E : Value → Shared → Prop) : Inv (X.wish E) pins σ H s := ⟨I.ok.wish E, I.os, I.bare, I.base, I.loc, I.cell, I.free, I.freeC, I.pin, I.hok, I.len⟩
theorem Inv.unwish (I : Inv (X.wish E) pins σ H s) : Inv X pins σ H s := ⟨I.ok.unwish, I.os, I.bare, I.base, I.loc, I.cell, I.free, I.freeC, I.pin, I.hok, I.len⟩
theorem SP.unwish {D : qE4} {f : Flow} {s' : Shared} (h : SP (X.wish E) pins D f s') : SP X pins D f s' := by
  cases f with
  | next => obtain ⟨σ', H', I, q⟩ := h; exact ⟨σ', H', I.unwish, q⟩
  | brk => obtain ⟨σ', H', I, q⟩ := h; exact ⟨σ', H', I.unwish, q⟩
  | cont => obtain ⟨σ', H', I, q⟩ := h; exact ⟨σ', H', I.unwish, q⟩
  | ret u => obtain ⟨v, σ', H', I, r, q⟩ := h; exact ⟨v, σ', H', I.unwish, r, q⟩
theorem PE.nox {e : Expr} {t : TE} (h : PE X.nox e t) : PE X e t := fun pins s σ H Q I hw =>
  wpAny_mono (h pins s σ H Q (I.wish _) hw) (fun _ _ ⟨v, H', I', r, q⟩ => ⟨v, H', I'.unwish, r, q⟩) fun _ _ z => False.elim z
theorem PT.nox {e : Expr} {t : TT} (h : PT X.nox e t) : PT X e t := fun pins s σ H Q I hw =>
  wpAny_mono (h pins s σ H Q (I.wish _) hw) (fun _ _ ⟨H', I', q⟩ => ⟨H', I'.unwish, q⟩) fun _ _ z => False.elim z
theorem PSs.nox {st : List Stmt} {t : TS} (h : PSs X.nox st t) : PSs X st t := fun pins s σ H D I hw =>
  wpAny_mono (h pins s σ H D (I.wish _) hw) (fun _ _ q => q.unwish) fun _ _ z => False.elim z
end
section
variable {X : Cx} {st : Stmt} {rest : List Stmt} {t u : TS} {e : Expr} {te : TE} {pos : Pos}
def qJo : TS := fun D σ H => D.nx σ H
def qK7 (t u : TS) : TS := fun D σ H => t { D with nx := u D } σ H
theorem qX : PSs X [] qJo := fun _ _ σ H _ I h => wpAny_execs_nil ⟨σ, H, I, h⟩
theorem qE (h1 : PS X st t) (h2 : PSs X rest u) : PSs X (st :: rest) (qK7 t u) := by
  intro pins s σ H D I h
  refine wpAny_execs_cons (thn (h1 pins s σ H { D with nx := u D } I h) fun f s1 q => ?_)
  cases f with
  | next =>
    obtain ⟨σ', H', I', q⟩ := q
    exact h2 pins s1 σ' H' D I' q
  | ret v => exact q
  | brk => exact q
  | cont => exact q
theorem qG (h1 : PS X st t) : PSs X [st] t := by
  intro pins s σ H D I h
  refine wpAny_execs_cons (thn (h1 pins s σ H D I h) fun f s1 q => ?_)
  cases f with
  | next => exact wpAny_execs_nil q
  | ret v => exact q
  | brk => exact q
  | cont => exact q
theorem Inv.quiet {pins : List (Addr × Obj)} {σ : St} {H : Hp} {s : Shared} (I : Inv X pins σ H s) : interactive X.env = false := by simp [interactive, I.ok.kind]
def qJv (te : TE) : TS := fun D σ H => te σ H fun _ H1 => D.nx σ H1
theorem jx (he : PE X e te) (hs : swapsWith e none pos.line X.env = pure false := by rfl) : PS X (.Expr e pos) (qJv te) := by
  intro pins s σ H D I h
  exact wpAny_Expr_any (thn (he pins s σ H _ I h) fun v s1 ⟨x, H1, I1, r1, q1⟩ => ⟨σ, H1, I1, q1⟩) I.quiet hs
def qLc (te : TE) : TS := fun D σ H => te σ H D.rt
theorem qR (he : PE X e te) : PS X (.Return (some e) pos) (qLc te) := by
  intro pins s σ H D I h
  exact wpAny_Return_some (thn (he pins s σ H _ I h) fun v s1 ⟨x, H1, I1, r1, q1⟩ => ⟨x, σ, H1, I1, r1, q1⟩)
def qKy (c : TT) (t u : TS) : TS := fun D σ H => c σ H fun b H1 => if b = true then t D σ H1 else u D σ H1
theorem qo {c : Expr} {a b : List Stmt} {tc : TT} (hc : PT X c tc) (ha : PSs X a t) (hb : PSs X b u) : PS X (.If c a b pos) (qKy tc t u) := by
  intro pins s σ H D I h
  refine wpAny_If (thn (hc pins s σ H _ I h) fun d s1 ⟨H1, I1, q1⟩ => ?_)
  cases d with
  | true => exact ha pins s1 σ H1 D I1 q1
  | false => exact hb pins s1 σ H1 D I1 q1
def qId : TS := fun _ _ _ => False
theorem vc {sts : List Stmt} : PSs X sts qId := fun _ _ _ _ _ _ h => h.elim
end
abbrev TG := V → St → Hp → (St → Hp → Prop) → Prop
abbrev TGs := List V → St → Hp → (St → Hp → Prop) → Prop
def PG (X : Cx) (target : Expr) (t : TG) : Prop :=
  ∀ (pins : List (Addr × Obj)) (s : Shared) (σ : St) (H : Hp) (v : V) (u : Value) (Q : St → Hp → Prop), Inv X pins σ H s → RelV v u → t v σ H Q →
    wpAny (model X.prog X.w) X.A (assign target X.env u) (fun _ s' => ∃ σ' H', Inv X pins σ' H' s' ∧ Q σ' H') X.xe s
def PGs (X : Cx) (ts : List Expr) (t : TGs) : Prop :=
  ∀ (pins : List (Addr × Obj)) (s : Shared) (σ : St) (H : Hp) (vs : List V) (us : List Value) (Q : St → Hp → Prop), Inv X pins σ H s → Vals vs us → t vs σ H Q →
    wpAny (model X.prog X.w) X.A (assignInOrder ((assignEach ts X.env).map (·.2)) us) (fun _ s' => ∃ σ' H', Inv X pins σ' H' s' ∧ Q σ' H') X.xe s
abbrev qJh := V → V → V → Hp → (Hp → Prop) → Prop
def qKh (X : Cx) (t : qJh) : Prop :=
  ∀ (pins : List (Addr × Obj)) (s : Shared) (σ : St) (H : Hp) (o i v : V) (ov iv u : Value) (Q : Hp → Prop), Inv X pins σ H s → RelV o ov → RelV i iv → RelV v u → t o i v H Q →
    wpAny (model X.prog X.w) X.A (setItem ov iv u) (fun _ s' => ∃ H', Inv X pins σ H' s' ∧ Q H') X.xe s
section
variable {X : Cx} {pos : Pos}
def qG7 (i : Nat) : TG := fun v σ H Q => Q (σ.set i (some v)) H
theorem jl {i : Nat} {x : Str} (hN : X.N.Nodup) (hi : X.N[i]? = some x) (hx : Loc X.env.scope x) (hf : X.fn x = true ∨ X.env.scope.names.lookup x = some .local := by first | exact .inl rfl | exact .inr rfl | assumption) : PG X (.Name x pos) (qG7 i) := by
  intro pins s σ H v u Q I r h
  exact wpAny_assign_Name (zG I hN hi hx r (fun s' I' => ⟨_, H, I', h⟩) hf)
def qK4 : TGs := fun vs σ H Q => vs = [] ∧ Q σ H
def qKb (t : TG) (u : TGs) : TGs := fun vs σ H Q => ∃ v r, vs = v :: r ∧ t v σ H fun σ' H' => u r σ' H' Q
theorem qB7 : PGs X [] qK4 := by
  intro pins s σ H vs us Q I r h
  obtain ⟨e, h⟩ := h
  subst e
  cases r
  exact assignInOrder_nil ⟨σ, H, I, h⟩
theorem xk {e : Expr} {es : List Expr} {t : TG} {u : TGs} (h1 : PG X e t) (h2 : PGs X es u)
    (hs : (assignEach (e :: es) X.env).map (·.2) = assign e X.env :: (assignEach es X.env).map (·.2) := by rfl) : PGs X (e :: es) (qKb t u) := by
  intro pins s σ H vs us Q I r h
  obtain ⟨v, vr, e1, h⟩ := h
  subst e1
  cases r with
  | cons r rr =>
    rw [hs]
    refine assignInOrder_cons (thn (h1 pins s σ H _ _ _ I r h) fun _ s1 ⟨σ1, H1, I1, q1⟩ => ?_)
    exact h2 pins s1 σ1 H1 _ _ Q I1 rr q1
def qKt (K : PySem.W.Frag) (n : Nat) (t : TGs) : TG := fun v σ H Q => ∃ a xs, v = .ref a ∧ SqT K H a xs ∧ xs.length = n ∧ t xs σ H Q
theorem qEi {es : List Expr} {k : Nat} {t : TGs} {n : Nat} (hc : X.calm = true) (h : PGs X es t)
    (hn : (assignEach es X.env).length = n := by rfl) (hst : (assignEach es X.env).findIdx? (·.1) = none := by rfl) : PG X (.Tuple es k pos) (qKt X.K n t) := by
  intro pins s σ H v u Q I r hw
  obtain ⟨a, xs, e1, hq, hl, hw⟩ := hw
  subst e1
  cases r
  obtain ⟨its, rv, ht, hz⟩ := I.tuple hq
  refine assign_Tuple_tuple (I.ok.hd hc) ht (by simp [hn, ← hl, rv.length]) hst fun h' hx => ?_
  have I1 : Inv X pins σ H { s with heap := h' } := I.kept (t' := s.toks) fun b o e => hx b o (Nat.ne_of_lt (Heap.lt_size e)) e
  exact h pins _ σ H xs _ Q I1 (by simpa using rv) hw
def qKp (to ti : TE) (t : qJh) : TG := fun v σ H Q => to σ H fun o H1 => ti σ H1 fun i H2 => t o i v H2 fun H3 => Q σ H3
theorem qCw {o i : Expr} {to ti : TE} {t : qJh} (ho : PE X o to) (hi : PE X i ti) (hs : qKh X t)
    (ha : ∀ v, assign (.Subscript o i pos) X.env v = (do
      let ov ← holding [v] (eval o X.env)
      let iv ← holding [v, ov] (eval i X.env)
      standAt pos
      holding [v, ov, iv] (setItem ov iv v)
      release [v, ov, iv] []) := by intro _; rfl) : PG X (.Subscript o i pos) (qKp to ti t) := by
  intro pins s σ H v u Q I r h
  rw [ha]
  refine wpAny_bind (wpAny_holding (thn (ho pins s σ H _ I h) fun ov s1 ⟨x, H1, I1, r1, q1⟩ => ?_))
  refine wpAny_bind (wpAny_holding (thn (hi pins s1 σ H1 _ I1 q1) fun iv s2 ⟨y, H2, I2, r2, q2⟩ => ?_))
  refine wpAny_bind (wpAny_standAt (wpAny_bind (wpAny_holding (thn (hs pins s2 σ H2 x y v ov iv u _ I2 r1 r2 r q2) fun _ s3 ⟨H3, I3, q3⟩ => ?_))))
  exact wpAny_release ⟨σ, H3, I3, q3⟩
def qKc (te : TE) (g : TG) : TS := fun D σ H => te σ H fun x H1 => g x σ H1 D.nx
theorem wI {tg e : Expr} {te : TE} {g : TG} (he : PE X e te) (hg : PG X tg g) (hs : swapsWithSole [tg] e pos.line X.env = pure false := by rfl) (hw : swappedStores [tg] e X.env = pure none := by rfl)
    (h1 : (assignEach [tg] X.env).map (·.2) = [assign tg X.env] := by rfl) : PS X (.Assign [tg] e pos) (qKc te g) := by
  intro pins s σ H D I h
  refine wpAny_Assign_stores (thn (he pins s σ H _ I h) fun v s1 ⟨x, H1, I1, r1, q1⟩ => ?_) hs hw
  rw [h1]
  exact thn (hg pins s1 σ H1 x v _ I1 r1 q1) fun _ s2 q => q
theorem qW {i : Nat} {x : Str} {e : Expr} {te : TE} {pos' : Pos} (hN : X.N.Nodup) (hi : X.N[i]? = some x) (hx : Loc X.env.scope x) (he : PE X e te) (hs : swapsWith e (some (.Name x pos')) pos.line X.env = pure false := by rfl) (hf : X.fn x = true ∨ X.env.scope.names.lookup x = some .local := by first | exact .inl rfl | exact .inr rfl | assumption) :
    PS X (.Assign [.Name x pos'] e pos) (qKc te (qG7 i)) := by
  intro pins s σ H D I h
  refine wpAny_Assign_Name (thn (he pins s σ H _ I h) fun v s1 ⟨y, H1, I1, r1, q1⟩ => ?_) hs
  exact zG I1 hN hi hx r1 (fun s2 I2 => ⟨_, H1, I2, q1⟩) hf
def qK8 (i j : Nat) (ta : TA) : TS := fun D σ H => ta σ H fun vs H1 => ∃ v w, vs = [v, w] ∧ D.nx ((σ.set i (some v)).set j (some w)) H1
theorem qJb {i j : Nat} {x y : Str} {a b : Expr} {ta : TA} {px py pt : Pos} {kt k2 pt2} (hc : X.calm = true) (hN : X.N.Nodup) (hi : X.N[i]? = some x) (hj : X.N[j]? = some y) (hij : i ≠ j)
    (hx : X.env.scope.names.lookup x = some .local) (hy : X.env.scope.names.lookup y = some .local) (ha : PA X [a, b] ta)
    (hw : swappedStores [.Tuple [.Name x px, .Name y py] kt pt] (.Tuple [a, b] k2 pt2) X.env = pure (some [x, y]))
    (hs : swapsWithSole [.Tuple [.Name x px, .Name y py] kt pt] (.Tuple [a, b] k2 pt2) pos.line X.env = pure false := by rfl) :
    PS X (.Assign [.Tuple [.Name x px, .Name y py] kt pt] (.Tuple [a, b] k2 pt2) pos) (qK8 i j ta) := by
  intro pins s σ H D I h
  rw [exec_Assign_arm]
  refine wpAny_bind (wpAny_standAt ?_)
  rw [hs]
  refine wpAny_bind (wpAny_pure ?_)
  rw [if_neg (by decide)]
  refine wpAny_bind (Tuple_ (thn (ha _ pins s σ H _ I h) fun us s1 ⟨vs, H1, I1, r1, q1⟩ => ?_))
  obtain ⟨v, w, e1, q1⟩ := q1
  subst e1
  obtain ⟨u1, u2, rfl, rv, rw'⟩ : ∃ u1 u2, us = [u1, u2] ∧ RelV v u1 ∧ RelV w u2 := by
    cases r1 with
    | cons p q =>
      cases q with
      | cons p' q' =>
        cases q'
        exact ⟨_, _, rfl, p, p'⟩
  refine wpAny_newObj_type ?_ (by show 2 ≤ sizeLine; decide)
  have I2 : Inv X pins σ H1 { s1 with heap := s1.heap.push { cls := .type "tuple", data := .seq [u1, u2].toArray } } := I1.kept (t' := s1.toks) fun b o e => Heap.get?_push_of_some _ e
  rw [hw]
  refine wpAny_bind (wpAny_pure ?_)
  show wpAny (model X.prog X.w) X.A (do rule "assign.swapped-stores"; let items ← unpackItems (.ref s1.heap.objs.size) 2 none; assignInOrder [fun v => bindName X.env y v, fun v => bindName X.env x v] items.reverse; pure Flow.next) _ _ _
  refine wpAny_bind (wpAny_rule (wpAny_bind (unpackItems_tuple (items := #[u1, u2]) (I.ok.hd hc) (IsTup.new s1.heap _) fun h' hx' => ?_)))
  have I3 := I2.kept (h' := h') (t' := s1.toks) fun b o e => hx' b o (Nat.ne_of_lt (Heap.lt_size e)) e
  show wpAny _ _ (assignInOrder [fun v => bindName X.env y v, fun v => bindName X.env x v] [u2, u1] >>= fun _ => pure Flow.next) _ _ _
  refine wpAny_bind (assignInOrder_cons (wpAny_bindName (zG I3 hN hj (.inl hy) rw' (fun s2 I4 => ?_) (.inr hy))))
  refine assignInOrder_cons (wpAny_bindName (zG I4 hN hi (.inl hx) rv (fun s3 I5 => assignInOrder_nil (wpAny_pure ?_)) (.inr hx)))
  rw [List.set_comm _ _ (Ne.symm hij)] at I5
  exact ⟨_, H1, I5, q1⟩
end
section
variable {X : Cx} {pos : Pos}
def qGv (c : TT) (tb : TS) : TS := fun D σ H => ∃ W : Nat → St → Hp → Prop, (∃ m, W m σ H) ∧ ∀ m σ H, W m σ H →
  c σ H fun b H1 => if b = true then ∃ N : St → Hp → Prop, (∀ σ' H', N σ' H' → ∃ m', m' < m ∧ W m' σ' H') ∧ tb { D with nx := N, ct := N, bk := D.nx } σ H1 else D.nx σ H1
theorem wO {c : Expr} {body : List Stmt} {tc : TT} {tb : TS} (hp : PassesOwn (model X.prog X.w) X.A X.env X.xe) (hc : PT X c tc) (hb : PSs X body tb) : PS X (.While c body [] pos) (qGv tc tb) := by
  intro pins s σ H D I h
  obtain ⟨W, ⟨m0, w0⟩, turn⟩ := h
  refine wpAny_While (codeAny_whileLoop (fun n s' => ∃ σ' H', Inv X pins σ' H' s' ∧ W n σ' H') ?_ m0 ⟨σ, H, I, w0⟩)
  rintro n s1 ⟨σ1, H1, I1, w1⟩
  refine wpAny_passesOwn hp (thn (hc pins s1 σ1 H1 _ I1 (turn n σ1 H1 w1)) fun b s2 ⟨H2, I2, q2⟩ => ?_)
  cases b with
  | true =>
    obtain ⟨N, hN, q2⟩ := q2
    rw [if_pos rfl]
    refine wpAny_passesOwn hp (thn (hb pins s2 σ1 H2 _ I2 q2) fun f s3 q3 => ?_)
    cases f with
    | next =>
      obtain ⟨σ3, H3, I3, n3⟩ := q3
      obtain ⟨m', hm, w3⟩ := hN σ3 H3 n3
      exact ⟨m', hm, σ3, H3, I3, w3⟩
    | cont =>
      obtain ⟨σ3, H3, I3, n3⟩ := q3
      obtain ⟨m', hm, w3⟩ := hN σ3 H3 n3
      exact ⟨m', hm, σ3, H3, I3, w3⟩
    | brk => exact q3
    | ret v => exact q3
  | false =>
    rw [if_neg Bool.false_ne_true]
    exact wpAny_execs_nil ⟨σ1, H2, I2, q2⟩
end
structure It where
  go : Nat → Hp → Prop
  yld : Nat → Hp → V → Hp → Prop
  stop : Nat → Hp → Prop
def qFu (X : Cx) (pins : List (Addr × Obj)) (H : Hp) (b : Addr) : Prop :=
  H b = none ∧ b ≠ X.env.locals ∧ b ∉ X.fs ∧ (b ∈ X.ex ∨ X.s₀.heap.objs.size ≤ b) ∧ (∀ x c, X.env.cells.lookup x = some c → c ≠ b) ∧ ∀ p ∈ X.pn ++ pins, p.1 ≠ b
theorem Inv.fpOk {X : Cx} {pins : List (Addr × Obj)} {σ : St} {H H' : Hp} {s : Shared} {b : Addr} (I : Inv X pins σ H s) (hb : s.heap.objs.size ≤ b) (hn : H' b = none) : qFu X pins H' b := by
  refine ⟨hn, Nat.ne_of_gt (Nat.lt_of_lt_of_le I.lt hb), I.nofs hb, .inr (Nat.le_trans I.sz hb), fun x c e z => ?_, fun p hp z => ?_⟩
  · obtain ⟨v, q⟩ := I.cell x c e
    exact absurd (Nat.lt_of_lt_of_le q.lt (by rw [z]; exact hb)) (Nat.lt_irrefl _)
  · exact absurd (Nat.lt_of_lt_of_le (Heap.lt_size (I.pin p hp).1) (by rw [z]; exact hb)) (Nat.lt_irrefl _)
structure qIt (P : Program) (w : World) (K : PySem.W.Frag) (tg : Expr) (J : It) (fp : List Addr) (it : Addr) (tn : Nat → Heap → Prop) : Prop where
  mem : it ∈ fp
  obj : ∀ i h, tn i h → ∀ b ∈ fp, ∃ o, h.get? b = some o ∧ ∀ v, o.data ≠ .cell v
  keep : ∀ i h h', tn i h → (∀ b ∈ fp, ∀ o, h.get? b = some o → h'.get? b = some o) → tn i h'
  item : ∀ (X : Cx), X.prog = P → X.w = w → X.K = K → X.calm = true → ∀ (i : Nat) (pins : List (Addr × Obj)) (s : Shared) (σ : St) (H : Hp) (E : Value → Shared → Prop), Inv X pins σ H s → (∀ b ∈ fp, qFu X pins H b) → tn i s.heap → J.go i H →
    wpAny (model P w) X.A (pyNext (.ref it)) (fun r s1 => ∃ u, r = some u ∧
      wpAny (model P w) X.A (letOwnedTupleGo tg (.ref it) u) (fun _ s2 => ∃ x H', Inv X pins σ H' s2 ∧ RelV x u ∧ J.yld i H x H' ∧ tn (i + 1) s2.heap ∧ ∀ b ∈ fp, H' b = none) E s1) E s
  done : ∀ (X : Cx), X.prog = P → X.w = w → X.K = K → X.calm = true → ∀ (i : Nat) (pins : List (Addr × Obj)) (s : Shared) (σ : St) (H : Hp) (E : Value → Shared → Prop), Inv X pins σ H s → (∀ b ∈ fp, qFu X pins H b) → tn i s.heap → J.stop i H →
    wpAny (model P w) X.A (pyNext (.ref it)) (fun r s1 => r = none ∧ Inv X pins σ H s1) E s
  self : ∀ (A : Around) (i : Nat) (s : Shared) (Q : Value → Shared → Prop) (E : Value → Shared → Prop), tn i s.heap → Q (.ref it) s → wpAny (model P w) A (pyIter (.ref it)) Q E s
abbrev TI := St → Hp → (It → Hp → Prop) → Prop
def PIE (X : Cx) (pins : List (Addr × Obj)) (σ : St) (tg : Expr) (R : It → Hp → Prop) (itv : Value) (s2 : Shared) : Prop :=
  ∃ (it : Addr) (fp : List Addr) (tn : Nat → Heap → Prop) (J : It) (H' : Hp), itv = .ref it ∧ Inv X pins σ H' s2 ∧ qIt X.prog X.w X.K tg J fp it tn ∧ tn 0 s2.heap ∧ (∀ b ∈ fp, qFu X pins H' b) ∧ R J H'
def PI (X : Cx) (tg iter : Expr) (wi : TI) : Prop :=
  ∀ (pins : List (Addr × Obj)) (s : Shared) (σ : St) (H : Hp) (R : It → Hp → Prop), Inv X pins σ H s → wi σ H R →
    wpAny (model X.prog X.w) X.A (eval iter X.env) (fun v s1 => wpAny (model X.prog X.w) X.A (pyIter v) (PIE X pins σ tg R) X.xe s1) X.xe s
theorem qHj {M : Model} {A : Around} {E : Value → Shared → Prop} {s : Shared} {tg : Expr} {it : Addr} {u : Value} {o : Obj} {n : String} {vs : Array Value} {Q : Unit → Shared → Prop} (ho : s.heap.get? it = some o) (hc : o.cls = .type n) (hd : o.data = .fields vs)
    (hn : ["enumerate", "zip", "dict_itemiterator", "dict_reverseitemiterator", "odict_iterator", "itertools.zip_longest", "itertools.pairwise"].contains n = false) (hQ : Q () s) : wpAny M A (letOwnedTupleGo tg (.ref it) u) Q E s := by
  unfold letOwnedTupleGo
  cases tg <;> first
    | exact wpAny_pure hQ
    | (cases u <;> first
        | exact wpAny_pure hQ
        | (refine wpAny_bind (wpAny_load ho ?_)
           rw [hc, hd]
           show wpAny M A (if (["enumerate", "zip", "dict_itemiterator", "dict_reverseitemiterator", "odict_iterator", "itertools.zip_longest", "itertools.pairwise"].contains n && vs[0]? == some (rawInt _)) = true then _ else _) Q E s
           rw [if_neg (by intro h; rw [hn, Bool.false_and] at h; cases h)]
           exact wpAny_pure hQ))
def Itl (K : PySem.W.Frag) (a : Addr) : It :=
  ⟨fun i H => ∃ xs x, SqL K H a xs ∧ xs[i]? = some x, fun i H x H' => H' = H ∧ ∀ xs, SqL K H a xs → xs[i]? = some x, fun i H => ∃ xs, SqL K H a xs ∧ xs.length ≤ i⟩
def Itt (K : PySem.W.Frag) (a : Addr) : It :=
  ⟨fun i H => ∃ xs x, SqT K H a xs ∧ xs[i]? = some x, fun i H x H' => H' = H ∧ ∀ xs, SqT K H a xs → xs[i]? = some x, fun i H => ∃ xs, SqT K H a xs ∧ xs.length ≤ i⟩
def Itr (lo : Int) (n : Nat) : It := ⟨fun i _ => i < n, fun i H x H' => H' = H ∧ x = .int (lo + i), fun i _ => n ≤ i⟩
theorem qEh {P : Program} {w : World} {K : PySem.W.Frag} {tg : Expr} (a it : Addr) : qIt P w K tg (Itl K a) [it] it (fun i h => h.IsListIter it a i) where
  mem := by simp
  obj := fun i h st b hb => by
    have e : b = it := by simpa using hb
    subst e
    obtain ⟨o, e, c, d⟩ := st
    exact ⟨o, e, fun v z => by rw [d] at z; cases z⟩
  keep := fun i h h' st k => st.at fun o e => k it (by simp) o e
  item := by
    intro X hP hw hK hc i pins s σ H E I hf st hg
    subst hP hw hK
    obtain ⟨xs, x, hq, hx⟩ := hg
    obtain ⟨its, rv, p, hz⟩ := I.list hq
    obtain ⟨u, hu, ru⟩ := rv.get hx
    obtain ⟨f0, f1, f2, f3, f4, f5⟩ := hf it (by simp)
    refine wpAny_pyNext_list_item st p.isList (x := u) (by simpa using hu) fun h' st' sb => ?_
    have I1 : Inv X pins σ H { s with heap := h' } := I.turned (t' := s.toks) (fun b o hb e => (sb.2 b hb).trans e) f0 f1 f3 f4 f5
    obtain ⟨o, e, c, d⟩ := id st'
    exact ⟨u, rfl, qHj (s := { s with heap := h' }) e c d (by decide) ⟨x, H, I1, ru, ⟨rfl, fun ys hy => by rw [I.list_inj hy hq]; exact hx⟩, st', fun b hb => (hf b hb).1⟩⟩
  done := by
    intro X hP hw hK hc i pins s σ H E I hf st hg
    subst hP hw hK
    obtain ⟨xs, hq, hx⟩ := hg
    obtain ⟨its, rv, p, hz⟩ := I.list hq
    obtain ⟨f0, f1, f2, f3, f4, f5⟩ := hf it (by simp)
    have hl := rv.length
    exact wpAny_pyNext_list_end (I.ok.hd hc) st p.isList (by simp; omega) fun h' eb => ⟨rfl, I.turned (t' := s.toks) (fun b o hb e => eb b o hb e) f0 f1 f3 f4 f5⟩
  self := fun _ _ _ _ _ st h => wpAny_pyIter_listiter st h
theorem qDn {P : Program} {w : World} {K : PySem.W.Frag} {tg : Expr} (a it : Addr) : qIt P w K tg (Itt K a) [it] it (fun i h => h.IsTupleIter it a i) where
  mem := by simp
  obj := fun i h st b hb => by
    have e : b = it := by simpa using hb
    subst e
    obtain ⟨o, e, c, d⟩ := st
    exact ⟨o, e, fun v z => by rw [d] at z; cases z⟩
  keep := fun i h h' st k => st.at fun o e => k it (by simp) o e
  item := by
    intro X hP hw hK hc i pins s σ H E I hf st hg
    subst hP hw hK
    obtain ⟨xs, x, hq, hx⟩ := hg
    obtain ⟨its, rv, p, hz⟩ := I.tuple hq
    obtain ⟨u, hu, ru⟩ := rv.get hx
    obtain ⟨f0, f1, f2, f3, f4, f5⟩ := hf it (by simp)
    refine wpAny_pyNext_tuple_item st (show s.heap.IsTuple a its.toArray from p) (x := u) (by simpa using hu) fun h' st' sb => ?_
    have I1 : Inv X pins σ H { s with heap := h' } := I.turned (t' := s.toks) (fun b o hb e => (sb.2 b hb).trans e) f0 f1 f3 f4 f5
    obtain ⟨o, e, c, d⟩ := id st'
    exact ⟨u, rfl, qHj (s := { s with heap := h' }) e c d (by decide) ⟨x, H, I1, ru, ⟨rfl, fun ys hy => by rw [I.tuple_inj hy hq]; exact hx⟩, st', fun b hb => (hf b hb).1⟩⟩
  done := by
    intro X hP hw hK hc i pins s σ H E I hf st hg
    subst hP hw hK
    obtain ⟨xs, hq, hx⟩ := hg
    obtain ⟨its, rv, p, hz⟩ := I.tuple hq
    obtain ⟨f0, f1, f2, f3, f4, f5⟩ := hf it (by simp)
    have hl := rv.length
    exact wpAny_pyNext_tuple_end (I.ok.hd hc) st (show s.heap.IsTuple a its.toArray from p) (by simp; omega) fun h' eb => ⟨rfl, I.turned (t' := s.toks) (fun b o hb e => eb b o hb e) f0 f1 f3 f4 f5⟩
  self := fun _ _ _ _ _ st h => wpAny_pyIter_tupleiter st h
theorem qDl {P : Program} {w : World} {K : PySem.W.Frag} {tg : Expr} (it : Addr) (lo : Int) (n : Nat) : qIt P w K tg (Itr lo n) [it] it (fun i h => IsRangeIter h it (lo + (i : Nat) * 1) ((n : Int) - (i : Nat)) 1) where
  mem := by simp
  obj := fun i h st b hb => by
    have e : b = it := by simpa using hb
    subst e
    exact ⟨_, st, fun v z => by
      have z' : Data.fields _ = Data.cell v := z
      cases z'⟩
  keep := fun i h h' st k => k it (by simp) _ st
  item := by
    intro X hP hw hK hc i pins s σ H E I hf st hg
    subst hP hw hK
    obtain ⟨f0, f1, f2, f3, f4, f5⟩ := hf it (by simp)
    have W := Walks.range (prog := X.prog) (w := X.w) (I.ok.hd hc) it lo 1 n
    refine W.item i s _ _ hg st fun v h' tk hv st' kk => ?_
    obtain ⟨t, rfl⟩ := hv
    have I1 : Inv X pins σ H { s with heap := h', toks := tk } := I.turned (fun b o hb e => kk b o (by simpa using hb) e) f0 f1 f3 f4 f5
    refine ⟨_, rfl, qHj (s := { s with heap := h', toks := tk }) (n := "range_iterator") st' rfl rfl (by decide) ⟨.int (lo + i), H, I1, ⟨t, ?_⟩, ⟨rfl, rfl⟩, st', fun b hb => (hf b hb).1⟩⟩
    rw [Int.mul_one]
  done := by
    intro X hP hw hK hc i pins s σ H E I hf st hg
    subst hP hw hK
    obtain ⟨f0, f1, f2, f3, f4, f5⟩ := hf it (by simp)
    exact wpAny_pyNext_range_end (I.ok.hd hc) st (by have : n ≤ i := hg; omega) fun h' eb => ⟨rfl, I.turned (t' := s.toks) (fun b o hb e => eb b o hb e) f0 f1 f3 f4 f5⟩
  self := fun _ _ _ _ _ st h => wpAny_pyIter_rangeiter st h
end L2
namespace L2
open PySem PySem.Spec PyProof.Rows
section
variable {X : Cx} {tg : Expr}
def qIa (K : PySem.W.Frag) (tl : TE) : TI := fun σ H R => tl σ H fun x H1 => ∃ a, x = .ref a ∧ (∃ xs, SqL K H1 a xs) ∧ R (Itl K a) H1
def qKw (K : PySem.W.Frag) (tl : TE) : TI := fun σ H R => tl σ H fun x H1 => ∃ a, x = .ref a ∧ (∃ xs, SqT K H1 a xs) ∧ R (Itt K a) H1
theorem zH {l : Expr} {tl : TE} (hl : PE X l tl) : PI X tg l (qIa X.K tl) := by
  intro pins s σ H R I h
  refine thn (hl pins s σ H _ I h) fun v s1 ⟨x, H1, I1, r1, q1⟩ => ?_
  obtain ⟨a, e, ⟨xs, hq⟩, q⟩ := q1
  subst e
  cases r1
  obtain ⟨its, rv, p, hz⟩ := I1.list hq
  refine wpAny_pyIter_list p.isList ?_
  refine ⟨s1.heap.objs.size, [s1.heap.objs.size], _, _, H1, rfl, I1.kept (t' := s1.toks) fun b o e => Heap.get?_push_of_some _ e, qEh a _, ⟨_, Heap.get?_push_size _ rfl, rfl, rfl⟩, fun b hb => ?_, q⟩
  have e : b = s1.heap.objs.size := by simpa using hb
  subst e
  exact I1.fpOk (Nat.le_refl _) (I1.hok.fresh (Nat.le_refl _))
theorem qIk {l : Expr} {tl : TE} (hl : PE X l tl) : PI X tg l (qKw X.K tl) := by
  intro pins s σ H R I h
  refine thn (hl pins s σ H _ I h) fun v s1 ⟨x, H1, I1, r1, q1⟩ => ?_
  obtain ⟨a, e, ⟨xs, hq⟩, q⟩ := q1
  subst e
  cases r1
  obtain ⟨its, rv, p, hz⟩ := I1.tuple hq
  refine wpAny_pyIter_tuple (show s1.heap.IsTuple a its.toArray from p) ?_
  refine ⟨s1.heap.objs.size, [s1.heap.objs.size], _, _, H1, rfl, I1.kept (t' := s1.toks) fun b o e => Heap.get?_push_of_some _ e, qDn a _, ⟨_, Heap.get?_push_size _ rfl, rfl, rfl⟩, fun b hb => ?_, q⟩
  have e : b = s1.heap.objs.size := by simpa using hb
  subst e
  exact I1.fpOk (Nat.le_refl _) (I1.hok.fresh (Nat.le_refl _))
theorem qFr {pins : List (Addr × Obj)} {σ : St} {H : Hp} {s : Shared} {R : It → Hp → Prop} {E : Value → Shared → Prop} {lo hi : Int} {t u v : Tok} {tk : Nat} (I : Inv X pins σ H s) (h1 : -(2 ^ 62) ≤ lo) (h2 : lo < 2 ^ 62) (h3 : -(2 ^ 62) ≤ hi) (h4 : hi < 2 ^ 62)
    (q : R (Itr lo (hi - lo).toNat) H) : wpAny (model X.prog X.w) X.A (pyIter (.ref s.heap.objs.size)) (PIE X pins σ tg R) E { s with heap := s.heap.push { cls := .type "range", data := .fields #[.int lo t, .int hi u, .int 1 v] }, toks := tk } := by
  refine wpAny_pyIter_range (IsRange.new ..) (small_one h1 h2 h3 h4) ?_
  have I1 : Inv X pins σ H { s with heap := s.heap.push { cls := .type "range", data := .fields #[.int lo t, .int hi u, .int 1 v] }, toks := tk } := I.kept fun b o e => Heap.get?_push_of_some _ e
  refine ⟨(s.heap.push { cls := .type "range", data := .fields #[.int lo t, .int hi u, .int 1 v] }).objs.size, [(s.heap.push { cls := .type "range", data := .fields #[.int lo t, .int hi u, .int 1 v] }).objs.size], _, _, H, rfl,
    I1.kept (t' := tk) fun b o e => Heap.get?_push_of_some _ e, qDl _ lo (hi - lo).toNat, ?_, fun b hb => ?_, q⟩
  · have e1 : lo + ((0 : Nat) : Int) * 1 = lo := by simp
    have e2 : (((hi - lo).toNat : Nat) : Int) - ((0 : Nat) : Int) = Builtin.Range.rangeSize lo hi 1 := by rw [rangeSize_one]; split <;> omega
    show IsRangeIter _ _ (lo + ((0 : Nat) : Int) * 1) ((((hi - lo).toNat : Nat) : Int) - ((0 : Nat) : Int)) 1
    rw [e1, e2]
    exact Heap.get?_push_size _ rfl
  · have e : b = (s.heap.push { cls := .type "range", data := .fields #[.int lo t, .int hi u, .int 1 v] }).objs.size := by simpa using hb
    subst e
    exact I1.fpOk (Nat.le_refl _) (I1.hok.fresh (Nat.le_refl _))
def qJ1 (ta : TA) : TI := fun σ H R => ta σ H fun vs H1 => ∃ j : Int, vs = [.int j] ∧ -(2 ^ 62) ≤ j ∧ j < 2 ^ 62 ∧ R (Itr 0 j.toNat) H1
theorem kC {a : Expr} {ta : TA} {p pos : Pos} (hg : Gl X "range") (hm : X.mg "range" = none) (ha : PA X [a] ta) (hs : starEach [a] X.env = [(false, eval a X.env)] := by rfl) : PI X tg (.Call (.Name "range" p) [a] [] pos) (qJ1 ta) := by
  intro pins s σ H R I h
  refine Call_ (qAt I hg hm boot_range (PyProof.Rows.callWith_type1 (thn (ha pos pins s σ H _ I h) fun us s1 ⟨vs, H1, I1, r1, q1⟩ => ?_) hs rfl))
  obtain ⟨j, e, q1, q2, q⟩ := q1
  subst e
  cases r1 with
  | cons r rr =>
    cases rr
    obtain ⟨t, rfl⟩ := r
    exact call_range_1 (qFr I1 (by omega) (by omega) q1 q2 (by simpa using q))
def qLa (wi : TI) (g : TG) (tb : TS) : TS := fun D σ H => wi σ H fun J H1 => ∃ W : Nat → Nat → St → Hp → Prop, (∃ m, W 0 m σ H1) ∧ ∀ i m σ H, W i m σ H →
  (J.stop i H ∧ D.nx σ H) ∨ (J.go i H ∧ ∃ N : St → Hp → Prop, (∀ σ' H', N σ' H' → ∃ m', m' < m ∧ W (i + 1) m' σ' H') ∧ ∀ x H', J.yld i H x H' → g x σ H' fun σ2 H2 => tb { D with nx := N, ct := N, bk := D.nx } σ2 H2)
def qC6 (fp : List Addr) (h : Heap) : List (Addr × Obj) := fp.filterMap fun b => (h.get? b).map fun o => (b, o)
theorem kQ {fp : List Addr} {h : Heap} {b : Addr} {o : Obj} (hb : b ∈ fp) (e : h.get? b = some o) : (b, o) ∈ qC6 fp h := List.mem_filterMap.mpr ⟨b, hb, by rw [e]; rfl⟩
theorem qEg {fp : List Addr} {h : Heap} {p : Addr × Obj} (hp : p ∈ qC6 fp h) : p.1 ∈ fp ∧ h.get? p.1 = some p.2 := by
  obtain ⟨b, hb, e⟩ := List.mem_filterMap.mp hp
  cases q : h.get? b with
  | none => rw [q] at e; cases e
  | some o =>
    rw [q] at e
    have e' : (b, o) = p := Option.some.inj e
    subst e'
    exact ⟨hb, q⟩
theorem Inv.pinned {pins : List (Addr × Obj)} {σ : St} {H : Hp} {s : Shared} {fp : List Addr} (I : Inv X pins σ H s) (hf : ∀ b ∈ fp, qFu X pins H b) (ho : ∀ b ∈ fp, ∃ o, s.heap.get? b = some o ∧ ∀ v, o.data ≠ .cell v) : Inv X (pins ++ qC6 fp s.heap) σ H s :=
  I.pins_of fun p hp => (List.mem_append.mp hp).elim (fun z => I.pin p (List.mem_append_right _ z)) fun z => by
    obtain ⟨hb, e⟩ := qEg z
    obtain ⟨f0, f1, f2, _⟩ := hf p.1 hb
    obtain ⟨o, e', d⟩ := ho p.1 hb
    rw [e] at e'; cases e'
    exact ⟨e, f0, f1, f2, d⟩
theorem Inv.unpinned {pins pl : List (Addr × Obj)} {σ : St} {H : Hp} {s : Shared} (I : Inv X (pins ++ pl) σ H s) : Inv X pins σ H s := I.pins_of fun p hp => I.pin p (List.mem_append_right _ (List.mem_append_left _ hp))
theorem vo {iter : Expr} {body : List Stmt} {wi : TI} {g : TG} {tb : TS} {pos : Pos} (hp : PassesOwn (model X.prog X.w) X.A X.env X.xe) (hc : X.calm = true) (hi : PI X tg iter wi) (hg : PG X tg g) (hb : PSs X body tb)
    (hs : ∀ x, foldedSetIterable iter X.env x = pure x := by intro _; rfl) : PS X (.For tg iter body [] pos) (qLa wi g tb) := by
  intro pins s σ H D I h
  refine wpAny_For (thn (hi pins s σ H _ I h) fun v s1 h1 => thn h1 fun itv s2 h2 => ?_) hs
  obtain ⟨it, fp, tn, J, H2, e, I2, T, st2, f2, W, ⟨m0, w0⟩, turn⟩ := h2
  subst e
  have stat : ∀ {H' : Hp}, (∀ b ∈ fp, H' b = none) → ∀ b ∈ fp, qFu X pins H' b := fun hn b hb => ⟨hn b hb, (f2 b hb).2⟩
  refine codeAny_forLoop_any (fun n s' => ∃ i σ' H', Inv X pins σ' H' s' ∧ tn i s'.heap ∧ (∀ b ∈ fp, H' b = none) ∧ W i n σ' H') ?_ m0 ⟨0, σ, H2, I2, st2, fun b hb => (f2 b hb).1, w0⟩
  rintro n s3 ⟨i, σ3, H3, I3, st3, fr3, w3⟩
  rcases turn i n σ3 H3 w3 with ⟨stop, qn⟩ | ⟨go, N, hN, step⟩
  · refine wpAny_passesOwn hp (thn (T.done X rfl rfl rfl hc i pins s3 σ3 H3 X.xe I3 (stat fr3) st3 stop) fun r s4 ⟨hr, I4⟩ => ?_)
    subst hr
    exact wpAny_execs_nil ⟨σ3, H3, I4, qn⟩
  · refine wpAny_passesOwn hp (thn (T.item X rfl rfl rfl hc i pins s3 σ3 H3 X.xe I3 (stat fr3) st3 go) fun r s4 ⟨u, hr, h4⟩ => ?_)
    subst hr
    refine wpAny_passesOwn hp (thn h4 fun _ s5 ⟨x, H5, I5, r5, y5, st5, fr5⟩ => ?_)
    have I5' := I5.pinned (stat fr5) (T.obj _ _ st5)
    refine wpAny_passesOwn hp (thn (hg _ s5 σ3 H5 x u _ I5' r5 (step x H5 y5)) fun _ s6 ⟨σ6, H6, I6, q6⟩ => ?_)
    refine wpAny_passesOwn hp (thn (hb _ s6 σ6 H6 _ I6 q6) fun f s7 q7 => ?_)
    have again : ∀ {σ7 : St} {H7 : Hp}, Inv X (pins ++ qC6 fp s5.heap) σ7 H7 s7 → N σ7 H7 → ∃ m, m < n ∧ ∃ i σ' H', Inv X pins σ' H' s7 ∧ tn i s7.heap ∧ (∀ b ∈ fp, H' b = none) ∧ W i m σ' H' := fun {σ7 H7} I7 n7 => by
      obtain ⟨m', hm, w7⟩ := hN σ7 H7 n7
      refine ⟨m', hm, i + 1, σ7, H7, I7.unpinned, T.keep _ _ _ st5 fun b hb o e => (I7.pin (b, o) (List.mem_append_right _ (List.mem_append_right _ (kQ hb e)))).1, fun b hb => ?_, w7⟩
      obtain ⟨o, e, d⟩ := T.obj _ _ st5 b hb
      exact (I7.pin (b, o) (List.mem_append_right _ (List.mem_append_right _ (kQ hb e)))).2.1
    cases f with
    | next => obtain ⟨σ7, H7, I7, n7⟩ := q7; exact again I7 n7
    | cont => obtain ⟨σ7, H7, I7, n7⟩ := q7; exact again I7 n7
    | brk => obtain ⟨σ7, H7, I7, q7⟩ := q7; exact ⟨σ7, H7, I7.unpinned, q7⟩
    | ret v => obtain ⟨x7, σ7, H7, I7, r7, q7⟩ := q7; exact ⟨x7, σ7, H7, I7.unpinned, r7, q7⟩
end
theorem wz {K : PySem.W.Frag} {a : Addr} {xs : List V} {g : TG} {tb : TS} {D : qE4} {σ : St} {H : Hp} (Pv : Nat → St → Hp → Prop) (h0 : Pv 0 σ H) (hl : ∀ i σ H, i ≤ xs.length → Pv i σ H → SqL K H a xs)
    (hs : ∀ i x σ H, xs[i]? = some x → Pv i σ H → g x σ H fun σ2 H2 => tb { D with nx := Pv (i + 1), ct := Pv (i + 1), bk := D.nx } σ2 H2) (hd : ∀ σ H, Pv xs.length σ H → D.nx σ H) :
    ∃ W : Nat → Nat → St → Hp → Prop, (∃ m, W 0 m σ H) ∧ ∀ i m σ H, W i m σ H →
      ((Itl K a).stop i H ∧ D.nx σ H) ∨ ((Itl K a).go i H ∧ ∃ N : St → Hp → Prop, (∀ σ' H', N σ' H' → ∃ m', m' < m ∧ W (i + 1) m' σ' H') ∧ ∀ x H', (Itl K a).yld i H x H' → g x σ H' fun σ2 H2 => tb { D with nx := N, ct := N, bk := D.nx } σ2 H2) := by
  refine ⟨fun i m σ H => m = xs.length - i ∧ i ≤ xs.length ∧ Pv i σ H, ⟨xs.length, by simp, Nat.zero_le _, h0⟩, ?_⟩
  rintro i m σ H ⟨rfl, hi, p⟩
  have q := hl i σ H hi p
  by_cases hlt : i < xs.length
  · refine .inr ⟨⟨xs, xs[i], q, by simp [hlt]⟩, Pv (i + 1), fun σ' H' p' => ⟨xs.length - (i + 1), by omega, rfl, hlt, p'⟩, fun x H' y => ?_⟩
    obtain ⟨e, y⟩ := y
    subst e
    exact hs i x σ _ (y xs q) p
  · have e : i = xs.length := by omega
    subst e
    exact .inl ⟨⟨xs, q, Nat.le_refl _⟩, hd σ H p⟩
theorem vq {lo : Int} {n : Nat} {g : TG} {tb : TS} {D : qE4} {σ : St} {H : Hp} (Pv : Nat → St → Hp → Prop) (h0 : Pv 0 σ H)
    (hs : ∀ i σ H, i < n → Pv i σ H → g (.int (lo + i)) σ H fun σ2 H2 => tb { D with nx := Pv (i + 1), ct := Pv (i + 1), bk := D.nx } σ2 H2) (hd : ∀ σ H, Pv n σ H → D.nx σ H) :
    ∃ W : Nat → Nat → St → Hp → Prop, (∃ m, W 0 m σ H) ∧ ∀ i m σ H, W i m σ H →
      ((Itr lo n).stop i H ∧ D.nx σ H) ∨ ((Itr lo n).go i H ∧ ∃ N : St → Hp → Prop, (∀ σ' H', N σ' H' → ∃ m', m' < m ∧ W (i + 1) m' σ' H') ∧ ∀ x H', (Itr lo n).yld i H x H' → g x σ H' fun σ2 H2 => tb { D with nx := N, ct := N, bk := D.nx } σ2 H2) := by
  refine ⟨fun i m σ H => m = n - i ∧ i ≤ n ∧ Pv i σ H, ⟨n, by simp, Nat.zero_le _, h0⟩, ?_⟩
  rintro i m σ H ⟨rfl, hi, p⟩
  by_cases hlt : i < n
  · refine .inr ⟨hlt, Pv (i + 1), fun σ' H' p' => ⟨n - (i + 1), by omega, rfl, hlt, p'⟩, fun x H' y => ?_⟩
    obtain ⟨e, y⟩ := y
    subst e y
    exact hs i σ _ hlt p
  · have e : i = n := by omega
    subst e
    exact .inl ⟨Nat.le_refl _, hd σ H p⟩
theorem wf {c : TT} {tb : TS} {D : qE4} {σ : St} {H : Hp} (Pv : St → Hp → Prop) (μ : St → Hp → Nat) (h0 : Pv σ H)
    (hs : ∀ σ H, Pv σ H → c σ H fun b H1 => if b = true then tb { D with nx := fun σ' H' => Pv σ' H' ∧ μ σ' H' < μ σ H, ct := fun σ' H' => Pv σ' H' ∧ μ σ' H' < μ σ H, bk := D.nx } σ H1 else D.nx σ H1)
    (mono : ∀ σ H Q Q', (∀ b H1, Q b H1 → Q' b H1) → c σ H Q → c σ H Q') : qGv c tb D σ H := by
  refine ⟨fun m σ H => m = μ σ H ∧ Pv σ H, ⟨_, rfl, h0⟩, ?_⟩
  rintro m σ H ⟨rfl, p⟩
  refine mono σ H _ _ (fun b H1 q => ?_) (hs σ H p)
  cases b with
  | true => exact ⟨_, fun σ' H' ⟨p', l⟩ => ⟨_, l, rfl, p'⟩, q⟩
  | false => exact q
end L2
namespace L2
open PySem PySem.Spec PyProof.Rows
abbrev R2 := V → V → Hp → VK → Prop
def OpR (X : Cx) (f : Value → Value → Sem Value) (r : R2) : Prop :=
  ∀ (pins : List (Addr × Obj)) (s : Shared) (σ : St) (H : Hp) (x y : V) (v u : Value) (Q : VK), Inv X pins σ H s → RelV x v → RelV y u → r x y H Q →
    wpAny (model X.prog X.w) X.A (f v u) (EP X pins σ Q) X.xe s
def UnR (X : Cx) (f : Value → Sem Value) (r : V → Hp → VK → Prop) : Prop :=
  ∀ (pins : List (Addr × Obj)) (s : Shared) (σ : St) (H : Hp) (x : V) (v : Value) (Q : VK), Inv X pins σ H s → RelV x v → r x H Q →
    wpAny (model X.prog X.w) X.A (f v) (EP X pins σ Q) X.xe s
def CallR (X : Cx) (f : Value) (r : List V → Hp → VK → Prop) : Prop :=
  ∀ (pins : List (Addr × Obj)) (s : Shared) (σ : St) (H : Hp) (xs : List V) (us : List Value) (Q : VK), Inv X pins σ H s → Vals xs us → r xs H Q →
    wpAny (model X.prog X.w) X.A (call f us) (EP X pins σ Q) X.xe s
def tOp (r : R2) (ta tb : TE) : TE := fun σ H Q => ta σ H fun x H1 => tb σ H1 fun y H2 => r x y H2 Q
def tUn (r : V → Hp → VK → Prop) (ta : TE) : TE := fun σ H Q => ta σ H fun x H1 => r x H1 Q
def rI (C : Int → Int → Prop) (g : Int → Int → V) : R2 := fun x y H Q => ∃ i j, x = .int i ∧ y = .int j ∧ C i j ∧ Q (g i j) H
def rI0 (g : Int → Int → V) : R2 := fun x y H Q => ∃ i j, x = .int i ∧ y = .int j ∧ Q (g i j) H
def rU (g : Int → V) : V → Hp → VK → Prop := fun x H Q => ∃ i, x = .int i ∧ Q (g i) H
section
variable {X : Cx} {a b c : Expr} {ta tb tc : TE} {pos : Pos}
theorem qKa (ha : PE X a ta) (hb : PE X b tb) {pins : List (Addr × Obj)} {s : Shared} {σ : St} {H : Hp} {R : V → V → Hp → Prop} (I : Inv X pins σ H s)
    (h : ta σ H fun x H1 => tb σ H1 fun y H2 => R x y H2) {Q : Value → Shared → Prop} {f : Value → Value → Sem Value}
    (hf : ∀ v u s2 x y H2, Inv X pins σ H2 s2 → RelV x v → RelV y u → R x y H2 → wpAny (model X.prog X.w) X.A (f v u) Q X.xe s2) :
    wpAny (model X.prog X.w) X.A (eval a X.env) (fun v s₁ => wpAny (model X.prog X.w) X.A (eval b X.env) (fun u s₂ => wpAny (model X.prog X.w) X.A (f v u) Q X.xe s₂) X.xe s₁) X.xe s := by
  refine thn (ha pins s σ H _ I h) fun v s1 ⟨x, H1, I1, r1, q1⟩ => ?_
  refine thn (hb pins s1 σ H1 _ I1 q1) fun u s2 ⟨y, H2, I2, r2, q2⟩ => ?_
  exact hf v u s2 x y H2 I2 r1 r2 q2
theorem qP {op : Operator} {r : R2} (ho : OpR X (binaryOp op) r) (ha : PE X a ta) (hb : PE X b tb) : PE X (.BinOp a op b pos) (tOp r ta tb) := by
  intro pins s σ H Q I h
  exact wpAny_BinOp (qKa ha hb I h fun v u s2 x y H2 I2 rx ry q => ho pins s2 σ H2 x y v u Q I2 rx ry q)
theorem z9 {op : UnaryOp} {r : V → Hp → VK → Prop} (ho : UnR X (unaryOp op) r) (ha : PE X a ta) : PE X (.UnaryOp op a pos) (tUn r ta) := by
  intro pins s σ H Q I h
  exact UnaryOp_ (thn (ha pins s σ H _ I h) fun v s1 ⟨x, H1, I1, r1, q1⟩ => ho pins s1 σ H1 x v Q I1 r1 q1)
theorem opI {f : Value → Value → Sem Value} {C : Int → Int → Prop} {g : Int → Int → Int}
    (rule : ∀ (i j : Int) (t u : Tok) (s : Shared) (Q : Value → Shared → Prop) (E : Value → Shared → Prop), C i j → Q (.int (g i j) s.toks) { s with toks := s.toks + 1 } → wpAny (model X.prog X.w) X.A (f (.int i t) (.int j u)) Q E s) :
    OpR X f (rI C fun i j => .int (g i j)) := by
  intro pins s σ H x y v u Q I rx ry h
  obtain ⟨i, j, rfl, rfl, hc, q⟩ := h
  obtain ⟨t, rfl⟩ := rx
  obtain ⟨t', rfl⟩ := ry
  exact rule i j t t' s _ _ hc ⟨.int (g i j), H, I.tok _, ⟨_, rfl⟩, q⟩
theorem qKl {f : Value → Value → Sem Value} {g : Int → Int → Int}
    (rule : ∀ (i j : Int) (t u : Tok) (s : Shared) (Q : Value → Shared → Prop) (E : Value → Shared → Prop), Q (.int (g i j) s.toks) { s with toks := s.toks + 1 } → wpAny (model X.prog X.w) X.A (f (.int i t) (.int j u)) Q E s) :
    OpR X f (rI0 fun i j => .int (g i j)) := by
  intro pins s σ H x y v u Q I rx ry h
  obtain ⟨i, j, rfl, rfl, q⟩ := h
  obtain ⟨t, rfl⟩ := rx
  obtain ⟨t', rfl⟩ := ry
  exact rule i j t t' s _ _ ⟨.int (g i j), H, I.tok _, ⟨_, rfl⟩, q⟩
theorem qJf {f : Value → Value → Sem Value} {g : Int → Int → Bool}
    (rule : ∀ (i j : Int) (t u : Tok) (s : Shared) (Q : Value → Shared → Prop) (E : Value → Shared → Prop), Q (.bool (g i j)) s → wpAny (model X.prog X.w) X.A (f (.int i t) (.int j u)) Q E s) :
    OpR X f (rI0 fun i j => .bl (g i j)) := by
  intro pins s σ H x y v u Q I rx ry h
  obtain ⟨i, j, rfl, rfl, q⟩ := h
  obtain ⟨t, rfl⟩ := rx
  obtain ⟨t', rfl⟩ := ry
  exact rule i j t t' s _ _ ⟨.bl (g i j), H, I, rfl, q⟩
def qKg (i j : Int) : Prop := 0 ≤ j ∧ j ≤ 1000000 ∧ i.natAbs < 2 ^ 64
def CMul (i j : Int) : Prop := (-(2 ^ 64) < i ∧ i < 2 ^ 64) ∨ (-(2 ^ 64) < j ∧ j < 2 ^ 64)
theorem CMul.ok {i j : Int} (h : CMul i j) : IntMulOk i j := by
  rcases h with ⟨h1, h2⟩ | ⟨h1, h2⟩
  · exact .of_left (intBits_le_64 h1 h2)
  · exact .of_right (intBits_le_64 h1 h2)
theorem jF : OpR X (binaryOp .Add) (rI0 fun i j => .int (i + j)) := qKl fun _ _ _ _ _ _ _ q => add_int q
theorem jw : OpR X (binaryOp .Sub) (rI0 fun i j => .int (i - j)) := qKl fun _ _ _ _ _ _ _ q => sub_int q
theorem qg : OpR X (binaryOp .Mod) (rI (fun _ j => j ≠ 0) fun i j => .int (i.fmod j)) := opI fun _ _ _ _ _ _ _ hc q => mod_int' hc q
theorem wG : OpR X (binaryOp .Pow) (rI qKg fun i j => .int (i ^ j.toNat)) := opI fun _ _ _ _ _ _ _ hc q => pow_int_small hc.1 hc.2.1 hc.2.2 q
theorem unI {f : Value → Sem Value} {g : Int → Int}
    (rule : ∀ (i : Int) (t : Tok) (s : Shared) (Q : Value → Shared → Prop) (E : Value → Shared → Prop), Q (.int (g i) s.toks) { s with toks := s.toks + 1 } → wpAny (model X.prog X.w) X.A (f (.int i t)) Q E s) :
    UnR X f (rU fun i => .int (g i)) := by
  intro pins s σ H x v Q I rx h
  obtain ⟨i, rfl, q⟩ := h
  obtain ⟨t, rfl⟩ := rx
  exact rule i t s _ _ ⟨.int (g i), H, I.tok _, ⟨_, rfl⟩, q⟩
theorem xf : UnR X (unaryOp .USub) (rU fun i => .int (-i)) := unI fun _ _ _ _ _ q => neg_int q
end
def qKj : V → V → Bool
  | .non, .non => true | .non, .int _ => true | .int _, .non => true | .non, .bl _ => true | .bl _, .non => true | .non, .str _ => true | .str _, .non => true
  | .int _, .int _ => true | .bl _, .bl _ => true | .str _, .str _ => true | .byt _, .byt _ => true
  | .int _, .str _ => true | .str _, .int _ => true | .bl _, .str _ => true | .str _, .bl _ => true
  | _, _ => false
def rEq : R2 := fun x y H Q => qKj x y = true ∧ Q (.bl (decide (x = y))) H
def rNe : R2 := fun x y H Q => qKj x y = true ∧ Q (.bl (!decide (x = y))) H
theorem qEv {i j : Int} : decide (V.int i = V.int j) = (i == j) := by
  rw [Bool.eq_iff_iff]
  simp
theorem qG1 {i j : Bool} : decide (V.bl i = V.bl j) = (i == j) := by
  rw [Bool.eq_iff_iff]
  simp
theorem qEl {i j : Str} : decide (V.str i = V.str j) = (i == j) := by
  rw [Bool.eq_iff_iff]
  simp
theorem qFd {i j : Array UInt8} : decide (V.byt i = V.byt j) = (i.toList == j.toList) := by
  rw [Bool.eq_iff_iff]
  cases i
  cases j
  simp
section
variable {X : Cx} {a b c : Expr} {ta tb tc : TE} {pos : Pos}
theorem qq {pins : List (Addr × Obj)} {σ : St} {H : Hp} {s : Shared} {Q : VK} {k k' : Bool} (I : Inv X pins σ H s) (q : Q (.bl k) H) (e : k = k') : EP X pins σ Q (.bool k') s := by
  subst e
  exact ⟨.bl k, H, I, rfl, q⟩
theorem jv : OpR X (compareOp .Eq) rEq := by
  intro pins s σ H x y v u Q I rx ry h
  obtain ⟨hs, q⟩ := h
  cases x with
  | non =>
    cases rx
    cases y with
    | non => cases ry; exact PySem.EqNone.eq_none_none (qq I q (by simp))
    | bl j => cases ry; exact PySem.EqNone.eq_none_bool (qq I q (by simp))
    | int j => obtain ⟨t', rfl⟩ := ry; exact PySem.EqNone.eq_none_int (qq I q (by simp))
    | str j => obtain ⟨t', rfl⟩ := ry; exact PySem.EqNone.eq_none_str (qq I q (by simp))
    | _ => exact absurd (show false = true from hs) Bool.false_ne_true
  | bl i =>
    cases rx
    cases y with
    | non => cases ry; exact PySem.EqNone.eq_bool_none (qq I q (by simp))
    | bl j => cases ry; exact eq_bool (qq I q qG1)
    | str j => obtain ⟨t', rfl⟩ := ry; exact PySem.EqMixed.eq_bool_str (qq I q (by simp))
    | _ => exact absurd (show false = true from hs) Bool.false_ne_true
  | int i =>
    obtain ⟨t, rfl⟩ := rx
    cases y with
    | non => cases ry; exact PySem.EqNone.eq_int_none (qq I q (by simp))
    | int j => obtain ⟨t', rfl⟩ := ry; exact eq_int (qq I q qEv)
    | str j => obtain ⟨t', rfl⟩ := ry; exact PySem.EqMixed.eq_int_str (qq I q (by simp))
    | _ => exact absurd (show false = true from hs) Bool.false_ne_true
  | str i =>
    obtain ⟨t, rfl⟩ := rx
    cases y with
    | non => cases ry; exact PySem.EqNone.eq_str_none (qq I q (by simp))
    | bl j => cases ry; exact PySem.EqMixed.eq_str_bool (qq I q (by simp))
    | int j => obtain ⟨t', rfl⟩ := ry; exact PySem.EqMixed.eq_str_int (qq I q (by simp))
    | str j => obtain ⟨t', rfl⟩ := ry; exact eq_str (qq I q qEl)
    | _ => exact absurd (show false = true from hs) Bool.false_ne_true
  | byt i =>
    obtain ⟨t, rfl⟩ := rx
    cases y with
    | byt j => obtain ⟨t', rfl⟩ := ry; exact PySem.W.eq_bytes (qq I q qFd)
    | _ => exact absurd (show false = true from hs) Bool.false_ne_true
  | _ => cases y <;> exact absurd (show false = true from hs) Bool.false_ne_true
theorem kr : OpR X (compareOp .NotEq) rNe := by
  intro pins s σ H x y v u Q I rx ry h
  obtain ⟨hs, q⟩ := h
  cases x with
  | non =>
    cases rx
    cases y with
    | non => cases ry; exact PySem.EqNone.ne_none_none (qq I q (by simp))
    | bl j => cases ry; exact PySem.EqNone.ne_none_bool (qq I q (by simp))
    | int j => obtain ⟨t', rfl⟩ := ry; exact PySem.EqNone.ne_none_int (qq I q (by simp))
    | str j => obtain ⟨t', rfl⟩ := ry; exact PySem.EqNone.ne_none_str (qq I q (by simp))
    | _ => exact absurd (show false = true from hs) Bool.false_ne_true
  | bl i =>
    cases rx
    cases y with
    | non => cases ry; exact PySem.EqNone.ne_bool_none (qq I q (by simp))
    | bl j => cases ry; exact ne_bool (qq I q (congrArg not qG1))
    | str j => obtain ⟨t', rfl⟩ := ry; exact PySem.EqMixed.ne_bool_str (qq I q (by simp))
    | _ => exact absurd (show false = true from hs) Bool.false_ne_true
  | int i =>
    obtain ⟨t, rfl⟩ := rx
    cases y with
    | non => cases ry; exact PySem.EqNone.ne_int_none (qq I q (by simp))
    | int j => obtain ⟨t', rfl⟩ := ry; exact ne_int (qq I q (congrArg not qEv))
    | str j => obtain ⟨t', rfl⟩ := ry; exact PySem.EqMixed.ne_int_str (qq I q (by simp))
    | _ => exact absurd (show false = true from hs) Bool.false_ne_true
  | str i =>
    obtain ⟨t, rfl⟩ := rx
    cases y with
    | non => cases ry; exact PySem.EqNone.ne_str_none (qq I q (by simp))
    | bl j => cases ry; exact PySem.EqMixed.ne_str_bool (qq I q (by simp))
    | int j => obtain ⟨t', rfl⟩ := ry; exact PySem.EqMixed.ne_str_int (qq I q (by simp))
    | str j => obtain ⟨t', rfl⟩ := ry; exact ne_str (qq I q (congrArg not qEl))
    | _ => exact absurd (show false = true from hs) Bool.false_ne_true
  | byt i =>
    obtain ⟨t, rfl⟩ := rx
    cases y with
    | byt j => obtain ⟨t', rfl⟩ := ry; exact PySem.W.ne_bytes (qq I q (congrArg not qFd))
    | _ => exact absurd (show false = true from hs) Bool.false_ne_true
  | _ => cases y <;> exact absurd (show false = true from hs) Bool.false_ne_true
theorem kG : OpR X (compareOp .Lt) (rI0 fun i j => .bl (decide (i < j))) := qJf fun _ _ _ _ _ _ _ q => lt_int q
theorem v6 : OpR X (compareOp .LtE) (rI0 fun i j => .bl (decide (i ≤ j))) := qJf fun _ _ _ _ _ _ _ q => le_int q
theorem wB : OpR X (compareOp .Gt) (rI0 fun i j => .bl (decide (j < i))) := qJf fun _ _ _ _ _ _ _ q => gt_int q
theorem qIy : OpR X (compareOp .GtE) (rI0 fun i j => .bl (decide (j ≤ i))) := qJf fun _ _ _ _ _ _ _ q => ge_int q
theorem OpR.or {f : Value → Value → Sem Value} {r r' : R2} (h : OpR X f r) (h' : OpR X f r') : OpR X f (fun x y H Q => r x y H Q ∨ r' x y H Q) := by
  intro pins s σ H x y v u Q I rx ry q
  rcases q with q | q
  · exact h pins s σ H x y v u Q I rx ry q
  · exact h' pins s σ H x y v u Q I rx ry q
theorem qS (b : Expr) {op : CmpOp} (h : op ≠ .In := by decide) (h2 : op ≠ .NotIn := by decide) : behindInMarks op b = false := by
  have e1 : (op == CmpOp.In) = false := by cases op <;> first | rfl | exact absurd rfl h
  have e2 : (op == CmpOp.NotIn) = false := by cases op <;> first | rfl | exact absurd rfl h2
  cases b <;> simp [behindInMarks, e1, e2]
theorem ve {op : CmpOp} {r : R2} (ho : OpR X (compareOp op) r) (ha : PE X a ta) (hb : PE X b tb) (hm : behindInMarks op b = false) : PE X (.Compare a [op] [b] pos) (tOp r ta tb) := by
  intro pins s σ H Q I h
  exact wpAny_Compare1 (qKa ha hb I h fun v u s2 x y H2 I2 rx ry q => ho pins s2 σ H2 x y v u Q I2 rx ry q) hm
def qIj (t : TE) : TT := fun σ H Q => t σ H fun x H' => ∃ k, x = .bl k ∧ Q k H'
theorem qN {op : CmpOp} {r : R2} (ho : OpR X (compareOp op) r) (ha : PE X a ta) (hb : PE X b tb) (hm : behindInMarks op b = false) : PT X (.Compare a [op] [b] pos) (qIj (tOp r ta tb)) := by
  intro pins s σ H Q I h
  refine wpAny_isTrue_Compare1 (thn (ha pins s σ H _ I h) fun v s1 ⟨x, H1, I1, r1, q1⟩ => thn (hb pins s1 σ H1 _ I1 q1) fun u s2 ⟨y, H2, I2, r2, q2⟩ =>
    thn (ho pins s2 σ H2 x y v u _ I2 r1 r2 q2) fun c s3 ⟨z, H3, I3, r3, k, e, q3⟩ => ?_) hm
  subst e
  cases r3
  exact wpAny_truthy_bool ⟨H3, I3, q3⟩
def qGz (r r' : R2) (ta tb tc : TE) : TE := fun σ H Q => ta σ H fun x H1 => tb σ H1 fun y H2 => r x y H2 fun z H3 => ∃ k, z = .bl k ∧
  (if k = true then tc σ H3 fun w' H4 => r' y w' H4 Q else Q (.bl false) H3)
theorem qGu {op op' : CmpOp} {r r' : R2} (ho : OpR X (compareOp op) r) (ho' : OpR X (compareOp op') r') (ha : PE X a ta) (hb : PE X b tb) (hc : PE X c tc)
    (hm : lastMarks [op, op'] [b, c] = false := by with_unfolding_all rfl) : PE X (.Compare a [op, op'] [b, c] pos) (qGz r r' ta tb tc) := by
  intro pins s σ H Q I h
  refine Compare_chain (thn (ha pins s σ H _ I h) fun v s1 ⟨x, H1, I1, r1, q1⟩ => chain_link (thn (hb pins s1 σ H1 _ I1 q1) fun u s2 ⟨y, H2, I2, r2, q2⟩ =>
    thn (ho pins s2 σ H2 x y v u _ I2 r1 r2 q2) fun d s3 ⟨z, H3, I3, r3, k, e, q3⟩ => ?_)) hm
  subst e
  cases r3
  refine wpAny_truthy_bool ?_
  cases k with
  | false => exact ite_ff ⟨.bl false, H3, I3, rfl, q3⟩
  | true => exact ite_tt (chain_last (thn (hc pins s3 σ H3 _ I3 q3) fun w' s4 ⟨z', H4, I4, r4, q4⟩ => ho' pins s4 σ H4 y z' u w' Q I4 r2 r4 q4))
theorem ze {op op' : CmpOp} {r r' : R2} (ho : OpR X (compareOp op) r) (ho' : OpR X (compareOp op') r') (ha : PE X a ta) (hb : PE X b tb) (hc : PE X c tc)
    (hm : lastMarks [op, op'] [b, c] = false := by with_unfolding_all rfl) : PT X (.Compare a [op, op'] [b, c] pos) (qIj (qGz r r' ta tb tc)) := by
  intro pins s σ H Q I h
  refine isTrue_chain (thn (ha pins s σ H _ I h) fun v s1 ⟨x, H1, I1, r1, q1⟩ => test_link (thn (hb pins s1 σ H1 _ I1 q1) fun u s2 ⟨y, H2, I2, r2, q2⟩ =>
    thn (ho pins s2 σ H2 x y v u _ I2 r1 r2 q2) fun d s3 ⟨z, H3, I3, r3, k, e, q3⟩ => ?_)) hm
  subst e
  cases r3
  refine wpAny_truthy_bool ?_
  cases k with
  | false =>
    obtain ⟨k', e', q'⟩ := q3
    cases e'
    exact ite_ff ⟨H3, I3, q'⟩
  | true =>
    refine ite_tt (test_last (thn (hc pins s3 σ H3 _ I3 q3) fun w' s4 ⟨z', H4, I4, r4, q4⟩ => thn (ho' pins s4 σ H4 y z' u w' _ I4 r2 r4 q4) fun d' s5 ⟨z2, H5, I5, r5, k2, e2, q5⟩ => ?_))
    subst e2
    cases r5
    exact wpAny_truthy_bool ⟨H5, I5, q5⟩
theorem qCv : (sizeLine : Nat) < 2 ^ 63 := by rw [sizeLine_eq]; decide
theorem qBl {x : V} {us : List Value} (r : Vals [x] us) : ∃ u, us = [u] ∧ RelV x u := by
  cases r with
  | cons r1 r2 => cases r2; exact ⟨_, rfl, r1⟩
theorem qHi {x y : V} {us : List Value} (r : Vals [x, y] us) : ∃ u w', us = [u, w'] ∧ RelV x u ∧ RelV y w' := by
  cases r with
  | cons r1 r2 =>
    cases r2 with
    | cons r3 r4 => cases r4; exact ⟨_, _, rfl, r1, r3⟩
theorem vA : CallR X (.builtin "abs") (fun xs H Q => ∃ i, xs = [.int i] ∧ Q (.int (if i < 0 then -i else i)) H) := by
  intro pins s σ H xs us Q I r h
  obtain ⟨i, rfl, q⟩ := h
  obtain ⟨u, rfl, t, rfl⟩ := qBl r
  exact call_abs_int fun u tk => ⟨.int (if i < 0 then -i else i), H, I.tok _, ⟨_, rfl⟩, q⟩
theorem vd (hc : X.calm = true) : CallR X (.builtin "min") (fun xs H Q => ∃ i j, xs = [.int i, .int j] ∧ Q (.int (if j < i then j else i)) H) := by
  intro pins s σ H xs us Q I r h
  obtain ⟨i, j, rfl, q⟩ := h
  obtain ⟨u, w', rfl, ⟨t, rfl⟩, ⟨t', rfl⟩⟩ := qHi r
  refine min_two_ints (I.ok.hd hc) fun h' tk k => ⟨_, H, I.kept k, ?_, q⟩
  by_cases hj : j < i
  · rw [if_pos hj, if_pos hj]; exact ⟨_, rfl⟩
  · rw [if_neg hj, if_neg hj]; exact ⟨_, rfl⟩
theorem qEu : CallR X (.type "int") (fun xs H Q => (∃ i, xs = [.int i] ∧ Q (.int i) H) ∨ ∃ k, xs = [.bl k] ∧ Q (.int (if k then 1 else 0)) H) := by
  intro pins s σ H xs us Q I r h
  rcases h with ⟨i, rfl, q⟩ | ⟨k, rfl, q⟩
  · obtain ⟨u, rfl, t, rfl⟩ := qBl r
    exact call_int_int ⟨.int i, H, I, ⟨_, rfl⟩, q⟩
  · obtain ⟨u, rfl, r1⟩ := qBl r
    cases r1
    exact call_int_bool ⟨.int (if k then 1 else 0), H, I.tok _, ⟨_, rfl⟩, q⟩
end
end L2
namespace L2
open PySem PySem.Spec PyProof.Rows
structure ObjM (h : Heap) (x dx C : Addr) (mA : Str → Option Value) : Prop where
  obj : h.get? x = some (PySem.W.instObj C dx)
  ns : h.Ns1 dx mA
  ne : dx ≠ x
theorem qEr {h : Heap} {dx : Addr} {mA : Str → Option Value} (n : h.Ns1 dx mA) : ∃ od, h.get? dx = some od ∧ ∀ name, PySem.W.lookIn name od = some (mA name) := by
  obtain ⟨o, es, ep, ho, hd, hk, _, hm⟩ := n
  refine ⟨o, ho, fun name => ?_⟩
  have e := hm name
  unfold nsFind findBy at e
  rw [← Array.find?_toList] at e
  unfold PySem.W.lookIn
  rw [hd]
  dsimp only
  split
  · rename_i y q
    rw [q] at e
    exact congrArg some e
  · rename_i q
    rw [q] at e
    have a : es.toList.any (·.refKey) = false := by
      rw [List.any_eq_false]
      intro y hy
      obtain ⟨z, t, hkey⟩ := hk y (Array.mem_toList_iff.mp hy)
      simp [DictEntry.refKey, hkey]
    have a' : ¬ es.toList.any (·.refKey) = true := by rw [a]; exact Bool.false_ne_true
    rw [if_neg a']
    exact congrArg some e
theorem ObjM.look {h : Heap} {x dx C : Addr} {mA : Str → Option Value} (I : ObjM h x dx C mA) : ∃ od, PySem.W.InstAt h x (PySem.W.instObj C dx) C (some od) ∧ ∀ name, PySem.W.lookIn name od = some (mA name) :=
  let ⟨od, ho, hl⟩ := qEr I.ns
  ⟨od, ⟨I.obj, rfl, rfl, ho⟩, hl⟩
section
variable {prog : Program} {w : World} {A : Around} {E : Value → Shared → Prop} {s : Shared} {K : PySem.W.Frag} {x dx C f : Addr} {mA : Str → Option Value} {name : Str} {v : Value}
end
theorem RelO.some_of {v : V} {o : Option Value} (r : RelO (some v) o) : ∃ u, o = some u ∧ RelV v u := by
  cases o with
  | none => exact (show False from r).elim
  | some u => exact ⟨u, rfl, r⟩
section
variable {P : Program} {w : World} {H H' : Hp} {h h' : Heap} {a C dx : Addr} {fs fs' : List (Str × V)}
theorem qHu (hok : HOk P w H h) (e : H a = some (.ins C dx fs)) : ∃ mA, ObjM h a dx C mA ∧ (∀ f, RelO (fs.lookup f) (mA f)) ∧ PySem.Within mA (fs.map (·.1)) ∧ fs.length ≤ 1000 ∧ H dx = some (.own a) := by
  obtain ⟨d, z, ne, ob, mA, n, r, q⟩ := (show ObjOk P w H h a (.ins C dx fs) from hok a _ e)
  exact ⟨mA, ⟨ob, n, ne⟩, r, q, z, d⟩
end
structure Cls (K : PySem.W.Frag) (C : Addr) : Prop where
  pg : PySem.W.plainGet K C Str.empty = true
  hd : PySem.W.hasDictIn K C = true
  po : PySem.W.plainOver K C = true
  sa : PySem.W.findIn K (.ref C) "__setattr__" = some (some (.builtin "object.__setattr__"))
theorem Cls.get {K : PySem.W.Frag} {C : Addr} (c : Cls K C) (f : Str) : PySem.W.plainGet K C f = true := c.pg
structure Con (K : PySem.W.Frag) (C : Addr) (f : Str) (v : V) (u : Value) : Prop where
  at_ : PySem.W.findIn K (.ref C) f = some (some u)
  rel : RelV v u
  get : PySem.W.specialIn K u "__get__" = some none
  cp : PySem.W.copiedNames.contains f = false
structure Meth (K : PySem.W.Frag) (C : Addr) (m : Str) (f : Addr) : Prop where
  at_ : PySem.W.findIn K (.ref C) m = some (some (.ref f))
  fn : PySem.W.isFn K (.ref f) = true
  kp : PySem.W.keepIn K (.ref f) = true
section
variable {X : Cx} {pins : List (Addr × Obj)} {σ : St} {H : Hp} {s : Shared} {a C dx : Addr} {fs : List (Str × V)} {f : Str} {v : V} {A : Around} {E : Value → Shared → Prop}
theorem Inv.made (I : Inv X pins σ H s) : Inv X pins σ (upd (upd H s.heap.objs.size (.own (s.heap.objs.size + 1))) (s.heap.objs.size + 1) (.ins C s.heap.objs.size []))
    { s with heap := (s.heap.push PySem.W.emptyDict).push (PySem.W.instObj C s.heap.objs.size) } := by
  have e1 : (s.heap.push PySem.W.emptyDict).get? s.heap.objs.size = some PySem.W.emptyDict := Heap.get?_push_size s.heap rfl
  have e2 : ((s.heap.push PySem.W.emptyDict).push (PySem.W.instObj C s.heap.objs.size)).get? (s.heap.objs.size + 1) = some (PySem.W.instObj C s.heap.objs.size) := by
    have := Heap.get?_push_size (s.heap.push PySem.W.emptyDict) (o := PySem.W.instObj C s.heap.objs.size) rfl
    rwa [Heap.size_push] at this
  have e3 : (s.heap.push PySem.W.emptyDict).Ns s.heap.objs.size (fun _ => none) := ⟨PySem.W.emptyDict, #[], _, e1, rfl, (fun e he => absurd he (by simp)), fun _ => rfl⟩
  have I1 := I.laid (a := s.heap.objs.size) (o := .own (s.heap.objs.size + 1)) (h' := s.heap.push PySem.W.emptyDict) (t' := s.toks) (fun b u q => Heap.get?_push_of_some _ q) (Nat.le_refl _) ⟨_, e1⟩
  refine I1.laid (a := s.heap.objs.size + 1) (o := .ins C s.heap.objs.size []) (t' := s.toks) (fun b u q => Heap.get?_push_of_some _ q) (Nat.le_of_eq (Heap.size_push _ _)) ?_
  have ne : s.heap.objs.size ≠ s.heap.objs.size + 1 := Nat.ne_of_lt (Nat.lt_succ_self _)
  refine ⟨by rw [qV ne, qF], Nat.zero_le _, ne, e2, fun _ => none, (Heap.Ns1.of_empty e3).at fun o q => Heap.get?_push_of_some _ q, fun _ => True.intro, fun y hy => absurd rfl hy⟩
end
section
variable {X : Cx} {o e value : Expr} {f : Str} {pos pos' tpos : Pos} {ta tv : TE}
end
section
variable {X : Cx} {pins : List (Addr × Obj)} {σ : St} {H : Hp} {s : Shared} {A : Around} {E : Value → Shared → Prop} {Q : Value → Shared → Prop} {c : Value} {b : Bool}
inductive qCx (K : PySem.W.Frag) (H : Hp) : V → Value → Prop where
  | non : qCx K H .non (.type "NoneType")
  | bl (x : Bool) : qCx K H (.bl x) (.type "bool")
  | int (i : Int) : qCx K H (.int i) (.type "int")
  | str (x : Str) : qCx K H (.str x) (.type "str")
  | flt (x : UInt64) : qCx K H (.flt x) (.type "float")
  | lst {a : Addr} {xs : List V} (e : H a = some (.lst xs)) : qCx K H (.ref a) (.type "list")
  | frz {a : Addr} {o : Obj} {xs : List V} (e : H a = some (.frz o (.lst xs))) : qCx K H (.ref a) (.type "list")
  | tup {a : Addr} {xs : List V} (e : H a = some (.tup xs)) : qCx K H (.ref a) (.type "tuple")
  | dK {a : Addr} {kvs : List (Key × V)} (e : H a = some (.dK kvs)) : qCx K H (.ref a) (.type "dict")
  | dT {a : Addr} {kvs : List (List Key × V)} (e : H a = some (.dT kvs)) : qCx K H (.ref a) (.type "dict")
  | ins {a C dx : Addr} {fs : List (Str × V)} (e : H a = some (.ins C dx fs)) (cl : Cls K C) (ha : PySem.W.findIn K (.ref C) "__class__" = some (some (.builtin "object.__class__")))
      (hn : PySem.W.specialIn K (.builtin "object.__class__") "__get__" = some (some (.builtin "getset_descriptor.__get__"))) (htk : PySem.W.takesIn K (.builtin "object.__class__") = some true)
      (hm : PySem.W.mroIn K C (.type "object") = some true) : qCx K H (.ref a) (.ref C)
theorem qAl {x : V} {u t : Value} (I : Inv X pins σ H s) (rx : RelV x u) (ty : qCx X.K H x t) (e : PySem.W.kitOne X.K t c = some b) (h : ∀ tk, Q (.bool b) { s with toks := tk }) :
    wpAny (model X.prog X.w) A (call (.builtin "isinstance") [u, c]) Q E s := by
  cases ty with
  | non => cases (show u = Value.none from rx); exact PySem.W.kia_one PySem.W.kitx_none I.kIn True.intro e (fun z => nomatch z) h
  | bl y => cases (show u = Value.bool y from rx); exact PySem.W.kia_one PySem.W.kitx_bool I.kIn True.intro e (fun z => nomatch z) h
  | int i => obtain ⟨t, q⟩ := (show ∃ t, u = Value.int i t from rx); cases q; exact PySem.W.kia_one PySem.W.kitx_int I.kIn True.intro e (fun z => nomatch z) h
  | str y => obtain ⟨t, q⟩ := (show ∃ t, u = Value.str y t from rx); cases q; exact PySem.W.kia_one PySem.W.kitx_str I.kIn True.intro e (fun z => nomatch z) h
  | flt y => obtain ⟨t, q⟩ := (show ∃ t, u = Value.float y t from rx); cases q; exact PySem.W.kia_one PySem.W.kitx_float I.kIn True.intro e (fun z => nomatch z) h
  | @lst a xs ea =>
    cases (show u = Value.ref a from rx)
    obtain ⟨_, _, n, _, h1⟩ := (show ObjOk X.prog X.w H s.heap a (.lst xs) from I.hok a _ ea)
    exact PySem.W.kia_one PySem.W.kitx_list I.kIn ⟨_, h1, rfl⟩ e (fun z => nomatch z) h
  | @frz a ob xs ea =>
    cases (show u = Value.ref a from rx)
    obtain ⟨_, _, _, n, _, h1⟩ := (show ObjOk X.prog X.w H s.heap a (.frz ob (.lst xs)) from I.hok a _ ea)
    exact PySem.W.kia_one PySem.W.kitx_list I.kIn ⟨_, h1, rfl⟩ e (fun z => nomatch z) h
  | @tup a xs ea =>
    cases (show u = Value.ref a from rx)
    obtain ⟨_, _, _, p⟩ := (show ObjOk X.prog X.w H s.heap a (.tup xs) from I.hok a _ ea)
    obtain ⟨o, h1, h2, _⟩ := p
    exact PySem.W.kia_one PySem.W.kitx_tuple I.kIn ⟨o, h1, h2⟩ e (fun z => nomatch z) h
  | @dK a kvs ea =>
    cases (show u = Value.ref a from rx)
    obtain ⟨_, _, vs, _, p⟩ := (show ObjOk X.prog X.w H s.heap a (.dK kvs) from I.hok a _ ea)
    obtain ⟨o, es, ep, h1, h2, _⟩ := p
    exact PySem.W.kia_one PySem.W.kitx_dict I.kIn ⟨o, h1, h2.1⟩ e (fun z => nomatch z) h
  | @dT a kvs ea =>
    cases (show u = Value.ref a from rx)
    obtain ⟨_, _, xs, _, o, es, ep, h1, h2, _⟩ := (show ObjOk X.prog X.w H s.heap a (.dT kvs) from I.hok a _ ea)
    exact PySem.W.kia_one PySem.W.kitx_dict I.kIn ⟨o, h1, h2.1⟩ e (fun z => nomatch z) h
  | @ins a C dx fs ea cl ha hn htk hm =>
    cases (show u = Value.ref a from rx)
    obtain ⟨mA, O, _⟩ := qHu I.hok ea
    obtain ⟨od, J, _⟩ := O.look
    exact PySem.W.kia_one (PySem.W.kitx_own (cl.get _) cl.hd ha hn htk hm) I.kIn J e (fun z => nomatch z) h
end
end L2
namespace L2
open PySem PySem.Spec PyProof.Rows
structure Room (k : Nat) (A : Around) : Prop where
  hd : A.handled = none
  dp : A.depth + 3 * k + 5 < recursionLimit
  un : A.units + 16 * k + 200 < cLine
theorem Room.mono {j k : Nat} {A : Around} (r : Room k A) (h : j ≤ k) : Room j A := ⟨r.hd, by have := r.dp; omega, by have := r.un; omega⟩
theorem Room.deeper {k : Nat} {A : Around} (r : Room (k + 1) A) (env : Env) : Room k (A.deeper env) :=
  ⟨r.hd, by have := r.dp; show A.depth + 1 + 3 * k + 5 < _; omega, by have := r.un; show A.units + 3 + 16 * k + 200 < _; omega⟩
theorem Room.in1 {k : Nat} {A : Around} (r : Room (k + 1) A) : Room k A.in1 :=
  ⟨r.hd, by have := r.dp; show A.depth + 3 * k + 5 < _; omega, by have := r.un; show A.units + 1 + 16 * k + 200 < _; omega⟩
theorem qD2 {A : Around} {C : Addr} {us : List Value} {kw : List (Str × Value)} : (A.under (.builtin "type.__call__" ⟨.ref C :: us, kw⟩)).depth = A.depth + 1 := by
  first | rfl | simp [Around.under, Code.weight, Code.isCreation, Code.isGuard, Code.isCaller, Code.frames, Code.isFrame, guardIds]
theorem qDg {A : Around} {C : Addr} {us : List Value} {kw : List (Str × Value)} : (A.under (.builtin "type.__call__" ⟨.ref C :: us, kw⟩)).units = A.units + 1 := by
  first | rfl | simp [Around.under, Code.cUnits, Code.frames, Code.isFrame]
theorem Room.make {k : Nat} {A : Around} (r : Room (k + 1) A) (C : Addr) (us : List Value) (kw : List (Str × Value)) : Room k (A.under (.builtin "type.__call__" ⟨.ref C :: us, kw⟩)) :=
  ⟨r.hd, by have := r.dp; rw [qD2]; omega, by have := r.un; rw [qDg]; omega⟩
theorem Room.depth {k : Nat} {A : Around} (r : Room k A) : A.depth < recursionLimit := by have := r.dp; omega
theorem Room.units {k : Nat} {A : Around} (r : Room k A) : A.units + 64 < cLine := by have := r.un; omega
theorem Room.units0 {k : Nat} {A : Around} (r : Room k A) : A.units < cLine := by have := r.un; omega
def qKr : TA := fun _ H Q => Q [] H
def qJz (ta : TE) (tr : TA) : TA := fun σ H Q => ta σ H fun x H1 => tr σ H1 fun xs H2 => Q (x :: xs) H2
section
variable {X : Cx} {e : Expr} {es : List Expr} {te : TE} {t : TA} {pos : Pos}
theorem qD : PA X [] qKr := fun _ _ _ _ H Q I h => Calls.spliced_nil ⟨[], H, I, .nil, h⟩
theorem qA (ha : PE X e te) (hr : PA X es t) (hs : starEach (e :: es) X.env = (false, eval e X.env) :: starEach es X.env := by rfl) : PA X (e :: es) (qJz te t) := by
  intro pos pins s σ H Q I h
  rw [hs]
  show wpAny _ _ (spliced ((false, eval e X.env) :: backTo pos (starEach es X.env))) _ _ s
  refine Calls.spliced_cons (thn (ha pins s σ H _ I h) fun u s1 ⟨x, H1, I1, r1, q1⟩ => ?_)
  exact thn (hr pos pins s1 σ H1 _ I1 q1) fun us s2 ⟨xs, H2, I2, r2, q2⟩ => ⟨x :: xs, H2, I2, .cons r1 r2, q2⟩
def qK9 (t : TA) : TE := fun σ H Q => t σ H fun xs H1 => xs.length ≤ sizeLine ∧ ∀ p, H1 p = none → Q (.ref p) (upd H1 p (.tup xs))
def qKo (t : TA) : TE := fun σ H Q => t σ H fun xs H1 => xs.length ≤ sizeLine ∧ ∀ p, H1 p = none → Q (.ref p) (upd H1 p (.lst xs))
theorem jB {x1} (h : PA X es t) : PE X (.Tuple es x1 pos) (qK9 t) := by
  intro pins s σ H Q I hq
  refine wpAny_Tuple_spliced (thn (h pos pins s σ H _ I hq) fun us s1 ⟨xs, H1, I1, r, z, q⟩ => ⟨by rw [← r.length]; exact z, ?_⟩)
  have hf : H1 s1.heap.objs.size = none := I1.hok.fresh (Nat.le_refl _)
  refine ⟨.ref s1.heap.objs.size, upd H1 s1.heap.objs.size (.tup xs), I1.laid (t' := s1.toks) (fun b u e => Heap.get?_push_of_some _ e) (Nat.le_refl _) ?_, rfl, q _ hf⟩
  exact ⟨z, us, r, ⟨_, Heap.get?_push_size _ rfl, rfl, _, rfl⟩⟩
theorem q8 (h : PA X es t) : PE X (.List es pos) (qKo t) := by
  intro pins s σ H Q I hq
  refine wpAny_List_spliced (thn (h pos pins s σ H _ I hq) fun us s1 ⟨xs, H1, I1, r, z, q⟩ => ⟨by rw [← r.length]; exact z, ?_⟩)
  have hf : H1 s1.heap.objs.size = none := I1.hok.fresh (Nat.le_refl _)
  refine ⟨.ref s1.heap.objs.size, upd H1 s1.heap.objs.size (.lst xs), I1.laid (t' := s1.toks) (fun b u e => Heap.get?_push_of_some _ e) (Nat.le_refl _) ?_, rfl, q _ hf⟩
  exact ⟨z, us, 0, r, Heap.get?_push_size _ rfl⟩
end
abbrev Sp := List V → Hp → VK → XK → Prop
abbrev CXT := List Env → Hp → Shared → XK → Value → Shared → Prop
structure Env0 (P : Program) (w : World) (K : PySem.W.Frag) (mg : Str → Option Value) (base : Heap) (A : Around) (outer : List Env) (s : Shared) (H : Hp) : Prop where
  frames : A.frames = some outer
  mod : Mod K mg base
  bs : ∀ b o, base.get? b = some o → s.heap.get? b = some o ∧ H b = none
  bsz : base.objs.size ≤ s.heap.objs.size
  funs : s.heap.FunFrames base outer
  frf : ∀ b ∈ frs outer, H b = none
  hok : HOk P w H s.heap
  bare : AllBare s.gens
def CE (outer : List Env) (P : Program) (w : World) (H : Hp) (s : Shared) (Q : VK) (u : Value) (s' : Shared) : Prop :=
  ∃ v H', s'.os = s.os ∧ AllBare s'.gens ∧ Un (frs outer) [] H H' s.heap s'.heap ∧ HOk P w H' s'.heap ∧ RelV v u ∧ Q v H'
def CR (CX : CXT) (outer : List Env) (P : Program) (w : World) (H : Hp) (s : Shared) (Q : VK) (E : XK) (r : Result) (s' : Shared) : Prop :=
  match r with
  | .ok (.ret u) => CE outer P w H s Q u s'
  | .ok _ => False
  | .error e => CX outer H s E e s'
structure FnOk (P : Program) (w : World) (K : PySem.W.Frag) (mg : Str → Option Value) (base : Heap) (CX : CXT) (k : Nat) (f : Addr) (fd : FuncData) (ps : List Str) (sp : Sp) : Prop where
  len : ∀ vs H Q E, sp vs H Q E → vs.length = ps.length
  run : ∀ (A : Around) (outer : List Env) (s : Shared) (H : Hp) (args : Args) (us : List Value) (vs : List V) (Q : VK) (E : XK), Room k A → Env0 P w K mg base A outer s H → BindsTo s fd args (ps.zip us) → Vals vs us → sp vs H Q E →
    codeAny (model P w) A (.call (.ref f) args) (CR CX outer P w H s Q E) s
theorem FnOk.mono {P : Program} {w : World} {K : PySem.W.Frag} {mg : Str → Option Value} {base : Heap} {CX : CXT} {j k : Nat} {f : Addr} {fd : FuncData} {ps : List Str} {sp : Sp} (F : FnOk P w K mg base CX j f fd ps sp) (h : j ≤ k) :
    FnOk P w K mg base CX k f fd ps sp := ⟨F.len, fun A outer s H args us vs Q E hr => F.run A outer s H args us vs Q E (hr.mono h)⟩
theorem Env0.make {P : Program} {w : World} {K : PySem.W.Frag} {mg : Str → Option Value} {base : Heap} {A : Around} {outer : List Env} {s : Shared} {H : Hp} (e : Env0 P w K mg base A outer s H) (C : Addr) (us : List Value) (kw : List (Str × Value)) :
    Env0 P w K mg base (A.under (.builtin "type.__call__" ⟨.ref C :: us, kw⟩)) outer s H := ⟨by first | exact e.frames | (simpa [Around.under, Code.envs, Code.isFrame, pushEnvs] using e.frames), e.mod, e.bs, e.bsz, e.funs, e.frf, e.hok, e.bare⟩
theorem Env0.in1 {P : Program} {w : World} {K : PySem.W.Frag} {mg : Str → Option Value} {base : Heap} {A : Around} {outer : List Env} {s : Shared} {H : Hp} (e : Env0 P w K mg base A outer s H) :
    Env0 P w K mg base A.in1 outer s H := ⟨e.frames, e.mod, e.bs, e.bsz, e.funs, e.frf, e.hok, e.bare⟩
section
variable {X : Cx} {pins : List (Addr × Obj)} {σ : St} {H : Hp} {s s' : Shared}
theorem Inv.env0 (I : Inv X pins σ H s) : Env0 X.prog X.w X.K X.mg X.base X.A X.stack s H :=
  ⟨I.ok.frames, I.ok.mod, I.bs, Nat.le_trans I.ok.bsz I.sz, I.stack, I.stkFree, I.hok, I.bare⟩
theorem Inv.after {Q : VK} {u : Value} (I : Inv X pins σ H s) (h : CE X.stack X.prog X.w H s Q u s') : EP X pins σ Q u s' := by
  obtain ⟨v, H', os, bare, un, hok, r, q⟩ := h
  obtain ⟨hh, g, d, t, os'⟩ := s'
  obtain rfl : os' = s.os := os
  exact ⟨v, H', I.call (h' := hh) (g' := g) (d' := d) (t' := t) (ch := []) un hok bare (fun b z => absurd z (by simp)), r, q⟩
end
def qHm (sp : Sp) (dvs : List V) (E : XK) (t : TA) : TE := fun σ H Q => t σ H fun vs H1 => sp (vs ++ dvs) H1 Q E
def Binds (K : PySem.W.Frag) (fd : FuncData) (ps : List Str) (ds : List Value) : Prop :=
  ∀ (s : Shared) (us : List Value), K.In s.heap → (us ++ ds).length = ps.length → BindsTo s fd ⟨us, []⟩ (ps.zip (us ++ ds))
theorem Binds.all {K : PySem.W.Frag} {fd : FuncData} {ps : List Str} (h : ∀ us : List Value, us.length = ps.length → bindArgs fd ⟨us, []⟩ = pure (ps.zip us)) : Binds K fd ps [] := fun s us _ hl => by
  rw [List.append_nil] at hl ⊢
  exact .of_eq (h us hl)
def qDc (CX : CXT) (X : Cx) (E : XK) : Prop := ∀ (pins : List (Addr × Obj)) (σ : St) (H : Hp) (s : Shared) (e : Value) (s' : Shared), Inv X pins σ H s → CX X.stack H s E e s' → X.xe e s'
section
variable {X : Cx} {CX : CXT} {k : Nat} {f C : Addr} {fd : FuncData} {ps : List Str} {sp : Sp} {dvs : List V} {ds : List Value} {E : XK} {x m : Str} {p pos apos : Pos} {e o : Expr} {es : List Expr} {ta : TE} {t : TA}
theorem qI5 {pins : List (Addr × Obj)} {σ : St} {H : Hp} {s : Shared} {Q : VK} {us : List Value} {vs : List V} (F : FnOk X.prog X.w X.K X.mg X.base CX k f fd ps sp) (hr : Room k X.A) (hb : Binds X.K fd ps ds) (hd : Vals dvs ds) (hx : qDc CX X E)
    (I : Inv X pins σ H s) (r : Vals vs us) (h : sp (vs ++ dvs) H Q E) : wpAny (model X.prog X.w) X.A (call (.ref f) us) (EP X pins σ Q) X.xe s := by
  have r2 : Vals (vs ++ dvs) (us ++ ds) := r.append hd
  have hl : (us ++ ds).length = ps.length := by rw [← r2.length]; exact F.len _ _ _ _ h
  refine wpAny_call (codeAny_mono (F.run X.A X.stack s H ⟨us, []⟩ (us ++ ds) (vs ++ dvs) Q E hr I.env0 (hb s us I.kIn hl) r2 h) fun r s' hq => ?_)
  cases r with
  | error e => exact hx pins σ H s e s' I hq
  | ok fl =>
    cases fl with
    | ret u => exact I.after hq
    | next => exact False.elim hq
    | brk => exact False.elim hq
    | cont => exact False.elim hq
theorem qE3 (F : FnOk X.prog X.w X.K X.mg X.base CX k f fd ps sp) (hr : Room k X.A) (hg : Gl X x) (hm : X.mg x = some (.ref f)) (hk : PySem.W.keepIn X.K (.ref f) = true) (hb : Binds X.K fd ps ds) (hd : Vals dvs ds) (hx : qDc CX X E)
    (ha : PA X (e :: es) t) (hdb : (x == ("__debug__" : Str)) = false := by decide) (he : starEach (e :: es) X.env = (false, eval e X.env) :: starEach es X.env := by rfl) (hpl : (backTo pos (starEach es X.env)).any (·.1) = false := by rfl) :
    PE X (.Call (.Name x p) (e :: es) [] pos) (qHm sp dvs E t) := by
  intro pins s σ H Q I h
  refine wpAny_Call_Name_kw (vK I hg hm ?_ hdb)
  refine PySem.W.callWith_K (h₀ := X.base) I.ok.mod.kin hk (thn (ha pos pins s σ H _ I h) fun us s1 ⟨vs, H1, I1, r, q⟩ => ⟨I1.kIn, ?_⟩) he hpl
  exact qI5 F hr hb hd hx I1 r q
structure Mk (K : PySem.W.Frag) (C f : Addr) : Prop where
  makes : PySem.W.makesIn K C = true
  init : PySem.W.findIn K (.ref C) "__init__" = some (some (.ref f))
  fn : PySem.W.isFn K (.ref f) = true
  kp : PySem.W.keepIn K (.ref C) = true
end
section
variable {X : Cx} {CX : CXT} {k : Nat} {f C : Addr} {fd : FuncData} {ps ks : List Str} {sp : Sp} {E : XK} {x m : Str} {p pos apos kpos : Pos} {e o : Expr} {es : List Expr} {kws : List Keyword} {te ta : TE} {t tk : TA} {nm : Option Str}
structure KBinds (K : PySem.W.Frag) (fd : FuncData) (ps ks : List Str) (g : List Value → List Value → List Value) (gV : List V → List V → List V) : Prop where
  to : ∀ (s : Shared) (us ws : List Value), K.In s.heap → (g us ws).length = ps.length → BindsTo s fd ⟨us, ks.zip ws⟩ (ps.zip (g us ws))
  rel : ∀ {vs : List V} {us : List Value} {zs : List V} {ws : List Value}, Vals vs us → Vals zs ws → Vals (gV vs zs) (g us ws)
variable {g : List Value → List Value → List Value} {gV : List V → List V → List V}
end
structure qQ (N P : List Str) (sc : Scope) : Prop where
  kind : sc.kind = .function
  co : sc.isCoroutine = false
  gen : sc.isGenerator = false
  nd : N.Nodup
  pre : N.take P.length = P
  par : ∀ x ∈ P, sc.names.lookup x = some .local ∨ sc.names.lookup x = some .cell
  nofree : ∀ y ∈ sc.names, y.2 ≠ .free
theorem qAc {kindOf : Str → Option NameKind} {x : Str} : ∀ {binds : List (Str × Value)} {m : Str → Option Value}, (∀ v, (x, v) ∉ binds) → bindL kindOf binds m x = m x
  | [], _, _ => rfl
  | (n, v) :: r, m, h => by
    unfold bindL
    rw [qAc fun w hw => h w (List.mem_cons_of_mem _ hw)]
    split
    · have : x ≠ n := by rintro rfl; exact h v List.mem_cons_self
      simp [this]
    · rfl
theorem qAp {kindOf : Str → Option NameKind} {x : Str} : ∀ {binds : List (Str × Value)} {m : Str → Option Value}, (∀ v, (x, v) ∉ binds) → bindC kindOf binds m x = m x
  | [], _, _ => rfl
  | (n, v) :: r, m, h => by
    unfold bindC
    rw [qAp fun w hw => h w (List.mem_cons_of_mem _ hw)]
    split
    · rfl
    · have : x ≠ n := by rintro rfl; exact h v List.mem_cons_self
      simp [this]
theorem qBj {kindOf : Str → Option NameKind} {x : Str} {v : Value} : ∀ {P : List Str} {vs : List Value} {i : Nat} {m : Str → Option Value}, P.Nodup → P[i]? = some x → vs[i]? = some v → kindOf x = some .local →
    bindL kindOf (P.zip vs) m x = some v
  | [], _, _, _, _, h, _, _ => by simp at h
  | _ :: _, [], _, _, _, _, h, _ => by simp at h
  | p :: P, w :: vs, 0, m, nd, h1, h2, hk => by
    simp at h1 h2; subst h1; subst h2
    show bindL kindOf ((p, w) :: P.zip vs) m p = _
    unfold bindL
    rw [qAc fun v hv => (List.nodup_cons.mp nd).1 (List.of_mem_zip hv).1, if_pos hk]
    simp
  | p :: P, w :: vs, i + 1, m, nd, h1, h2, hk => by
    show bindL kindOf ((p, w) :: P.zip vs) m x = _
    unfold bindL
    exact qBj (i := i) (List.nodup_cons.mp nd).2 (by simpa using h1) (by simpa using h2) hk
theorem qAm {kindOf : Str → Option NameKind} {x : Str} {v : Value} : ∀ {P : List Str} {vs : List Value} {i : Nat} {m : Str → Option Value}, P.Nodup → P[i]? = some x → vs[i]? = some v → kindOf x ≠ some .local →
    bindC kindOf (P.zip vs) m x = some v
  | [], _, _, _, _, h, _, _ => by simp at h
  | _ :: _, [], _, _, _, _, h, _ => by simp at h
  | p :: P, w :: vs, 0, m, nd, h1, h2, hk => by
    simp at h1 h2; subst h1; subst h2
    show bindC kindOf ((p, w) :: P.zip vs) m p = _
    unfold bindC
    rw [qAp fun v hv => (List.nodup_cons.mp nd).1 (List.of_mem_zip hv).1, if_neg hk]
    simp
  | p :: P, w :: vs, i + 1, m, nd, h1, h2, hk => by
    show bindC kindOf ((p, w) :: P.zip vs) m x = _
    unfold bindC
    exact qAm (i := i) (List.nodup_cons.mp nd).2 (by simpa using h1) (by simpa using h2) hk
def wa (N : List Str) (vs : List V) : St := vs.map some ++ List.replicate (N.length - vs.length) none
def qFn (CX : CXT) (P : Program) (w : World) (K : PySem.W.Frag) (mg : Str → Option Value) (base : Heap) (N : List Str) (qual : Str) (scope : Scope) (f : Addr) (cd : Value) (A : Around) (outer : List Env) (s : Shared) (H : Hp) (E : XK) : Cx where
  prog := P
  w := w
  K := K
  mg := mg
  base := base
  A := A.deeper (envOfC qual scope s.heap.objs.size f cd)
  N := N
  s₀ := s
  H₀ := H
  env := envOfC qual scope s.heap.objs.size f cd
  outer := outer
  stack := envOfC qual scope s.heap.objs.size f cd :: outer
  ex := []
  calm := true
  fn := fun _ => true
  pn := []
  xe := fun e s' => wpAny (model P w) (A.deeper (envOfC qual scope s.heap.objs.size f cd)) (leaving (envOfC qual scope s.heap.objs.size f cd) e) (fun _ s'' => CX outer H s E e s'') (fun e' s'' => CX outer H s E e' s'') s'
theorem qCt {sc : Scope} {n : Nat} {x : Str} (h : sc.names.lookup x = some .cell) : ∃ c, (cellsFrom n sc.names []).lookup x = some c := by
  have q := PySem.W.cellsFrom_some sc.names n [] (.inl h)
  exact Option.isSome_iff_exists.mp q
theorem qD8 {CX : CXT} {P : Program} {w : World} {K : PySem.W.Frag} {mg : Str → Option Value} {base : Heap} {N ps : List Str} {qual : Str} {scope : Scope} {f : Addr} {cd : Value} {A : Around} {outer : List Env} {s s1 : Shared} {H : Hp} {E : XK} {us : List Value} {vs : List V}
    (S : qQ N ps scope) (hd : A.handled = none) (e0 : Env0 P w K mg base A outer s H) (hl : vs.length = ps.length) (r : Vals vs us)
    (x : InCallC s s.heap.objs.size (bindL (envOfC qual scope s.heap.objs.size f cd).kindOf (ps.zip us) fun _ => none) (cellsFrom (s.heap.objs.size + 1) scope.names []) (bindC (envOfC qual scope s.heap.objs.size f cd).kindOf (ps.zip us) fun _ => none) s1) :
    Inv (qFn CX P w K mg base N qual scope f cd A outer s H E) [] (wa N vs) H s1 := by
  have hpl : ps.length ≤ N.length := by have := congrArg List.length S.pre; rw [List.length_take] at this; omega
  obtain ⟨h1, tk, rfl, hk⟩ := x.done
  have noA : ∀ b : Addr, b ∉ (qFn CX P w K mg base N qual scope f cd A outer s H E).ex := fun b z => absurd (show b ∈ ([] : List Addr) from z) (by simp)
  refine ⟨⟨e0.mod, S.kind, rfl, rfl, Nat.le_refl _, fun y z c h1 h2 => ?_, fun y hy => ?_, fun y c _ h => ?_, fun _ => hd, Around.frames_deeper e0.frames, .inr ⟨rfl, rfl⟩, fun b z => absurd z (noA b), e0.bs, e0.bsz, fun b _ _ => noA b, fun b z => absurd z (noA b), e0.funs, e0.frf⟩,
    rfl, e0.bare, Un.kept hk, ⟨_, x.toInCall.ns, fun i y v h1 h2 h3 => ?_⟩, fun y c h => ⟨_, x.cell y c h⟩, e0.hok.fresh (Nat.le_refl _), fun y c h => ?_, fun p hp => absurd (show p ∈ ([] : List (Addr × Obj)) from hp) (by simp), e0.hok.kept hk, ?_⟩
  · exact name_of_addr x.apart (PySem.mem_of_lookup h1) (PySem.mem_of_lookup h2)
  · have hy : scope.names.lookup y = some .cell ∨ scope.names.lookup y = some .free := hy
    rcases hy with hy | hy
    · exact qCt hy
    · exact absurd rfl (S.nofree _ (PySem.mem_of_lookup hy))
  · exact Nat.le_of_lt (x.above y c (PySem.mem_of_lookup h))
  · have hi : i < vs.length := by
      unfold wa at h2
      by_cases hi : i < vs.length
      · exact hi
      · rw [List.getElem?_append_right (by simpa using hi)] at h2
        rw [List.getElem?_replicate] at h2
        split at h2 <;> cases h2
    have ha : vs[i]? = some v := by
      unfold wa at h2
      rw [List.getElem?_append_left (by simpa using hi), List.getElem?_map] at h2
      cases e : vs[i]? with
      | none => rw [e] at h2; cases h2
      | some a => rw [e] at h2; cases h2; rfl
    obtain ⟨u, hu, rv⟩ := r.get ha
    have hp : ps[i]? = some y := by
      rw [← S.pre, List.getElem?_take_of_lt (by omega)]; exact h1
    have ndP : ps.Nodup := by rw [← S.pre]; exact S.nd.sublist (List.take_sublist _ _)
    refine ⟨u, rv, ?_⟩
    rcases S.par y (List.mem_of_getElem? hp) with k | k
    · exact .inl ⟨k, qBj ndP hp hu k⟩
    · obtain ⟨c, e⟩ := qCt (n := s.heap.objs.size + 1) k
      refine .inr ⟨.inl k, c, e, ?_⟩
      have q := x.cell y c e
      rw [qAm ndP hp hu (by show scope.names.lookup y ≠ _; rw [k]; decide)] at q
      exact q
  · exact e0.hok.fresh (Nat.le_of_lt (x.above y c (PySem.mem_of_lookup h)))
  · unfold wa
    show _ = N.length
    rw [List.length_append, List.length_map, List.length_replicate]
    omega
theorem qIh {CX : CXT} {P : Program} {w : World} {K : PySem.W.Frag} {mg : Str → Option Value} {base : Heap} {k : Nat} {f : Addr} {name qual : Str} {params : Arguments} {body : List Stmt} {scope : Scope} {dV kV doc pm cdv ct oc : Value} {an od : Option Addr}
    {osl : Array (Option Value)} {N ps : List Str} {sp : Sp} (lk : K.lookup f = some ⟨oc, od, .func (PySem.W.fnOf name qual params body scope dV kV doc pm an cdv ct), osl⟩) (hcd : PySem.W.codeIn K cdv qual = true) (S : qQ N ps scope)
    (len : ∀ vs H Q E, sp vs H Q E → vs.length = ps.length)
    (hbody : ∀ (A : Around) (outer : List Env) (s : Shared) (H : Hp) (vs : List V) (Q : VK) (E : XK), Room k (A.deeper (envOfC qual scope s.heap.objs.size f cdv)) → sp vs H Q E →
      ∃ t, PSs (qFn CX P w K mg base N qual scope f cdv A outer s H E) body t ∧ t { nx := fun _ H' => Q .non H', rt := Q } (wa N vs) H) :
    FnOk P w K mg base CX (k + 1) f (PySem.W.fnOf name qual params body scope dV kV doc pm an cdv ct) ps sp := by
  refine ⟨len, fun A outer s H args us vs Q E hr e0 hb r hsp => ?_⟩
  have hl := len _ _ _ _ hsp
  have KX : K.In s.heap := e0.mod.kin.keeps fun b o e => (e0.bs b o e).1
  have lim : s.heap.NoLimit := e0.mod.nolimit.keeps fun b o e => (e0.bs b o e).1
  have hkind : ∀ y ∈ ps.zip us, scope.names.lookup y.1 = some .local ∨ (scope.names.lookup y.1 = some .cell ∧ ((cellsFrom (s.heap.objs.size + 1) scope.names []).lookup y.1).isSome = true) := fun ⟨n, v⟩ hy => by
    rcases S.par n (List.of_mem_zip hy).1 with q | q
    · exact .inl q
    · exact .inr ⟨q, PySem.W.cellsFrom_some _ _ _ (.inl q)⟩
  refine codeAny_call_function hr.depth (KX _ _ lk) rfl S.co S.gen rfl (PySem.W.codeRec_of KX hcd) (hb _ _ _ _ ?_)
  refine wpAny_newFunctionEnv_cells S.kind hkind fun env he s1 x => ?_
  subst he
  refine ⟨lim.keeps x.toInCall.keep, codeAny_func ?_⟩
  obtain ⟨t, ht, hq⟩ := hbody A outer s H vs Q E (hr.deeper _) hsp
  have I : Inv (qFn CX P w K mg base N qual scope f cdv A outer s H E) [] (wa N vs) H s1 := qD8 S hr.hd e0 hl r x
  refine wpAny_mono (ht [] s1 (wa N vs) H _ I hq) (fun fl s' hs => ?_) fun e s' hs => hs
  have fin : ∀ {σ' : St} {H' : Hp} {v : V} {u : Value}, Inv (qFn CX P w K mg base N qual scope f cdv A outer s H E) [] σ' H' s' → RelV v u → Q v H' → CE outer P w H s Q u s' :=
    fun {σ' H' v u} J rv q => ⟨v, H', J.os, J.bare, J.base, J.hok, rv, q⟩
  cases fl with
  | ret u =>
    obtain ⟨v, σ', H', J, rv, q⟩ := hs
    exact fin J rv q
  | next =>
    obtain ⟨σ', H', J, q⟩ := hs
    exact fin (v := V.non) (u := Value.none) J rfl q
  | brk =>
    obtain ⟨_, _, _, q⟩ := hs
    exact False.elim q
  | cont =>
    obtain ⟨_, _, _, q⟩ := hs
    exact False.elim q
end L2
namespace L2
open PySem PySem.Spec PyProof.Rows
section
variable {X : Cx} {x : Str} {p pos : Pos} {e : Expr} {es : List Expr} {t : TA} {id T : String} {r : List V → Hp → VK → Prop}
def tCB (r : List V → Hp → VK → Prop) (t : TA) : TE := fun σ H Q => t σ H fun vs H1 => r vs H1 Q
theorem qY (hc : CallR X (.builtin id) r) (hg : Gl X x) (hm : X.mg x = none) (hv : bootBuiltins x = some (.builtin id)) (ha : PA X (e :: es) t) (hn : x ≠ "__name__" := by decide) (hdb : (x == ("__debug__" : Str)) = false := by decide)
    (he : starEach (e :: es) X.env = (false, eval e X.env) :: starEach es X.env := by rfl) (hpl : (backTo pos (starEach es X.env)).any (·.1) = false := by rfl) : PE X (.Call (.Name x p) (e :: es) [] pos) (tCB r t) := by
  intro pins s σ H Q I h
  refine wpAny_Call_Name_kw (qAt I hg hm hv ?_ hn hdb)
  exact PyProof.Rows.callWith_builtin1 (thn (ha pos pins s σ H _ I h) fun us s1 ⟨vs, H1, I1, r1, q1⟩ => hc pins s1 σ H1 vs us Q I1 r1 q1) he hpl
theorem xc (hc : CallR X (.type T) r) (hg : Gl X x) (hm : X.mg x = none) (hv : bootBuiltins x = some (.type T)) (ha : PA X (e :: es) t) (hn : x ≠ "__name__" := by decide) (hdb : (x == ("__debug__" : Str)) = false := by decide)
    (he : starEach (e :: es) X.env = (false, eval e X.env) :: starEach es X.env := by rfl) (hpl : (backTo pos (starEach es X.env)).any (·.1) = false := by rfl) : PE X (.Call (.Name x p) (e :: es) [] pos) (tCB r t) := by
  intro pins s σ H Q I h
  refine wpAny_Call_Name_kw (qAt I hg hm hv ?_ hn hdb)
  exact PyProof.Rows.callWith_type1 (thn (ha pos pins s σ H _ I h) fun us s1 ⟨vs, H1, I1, r1, q1⟩ => hc pins s1 σ H1 vs us Q I1 r1 q1) he hpl
end
end L2
namespace HT
open PySem PyProof.Rows
section
open PySem.SeqAt
open PySem.AutoSeq1 (wpAny_loadPart')
open PySem.MeetsSeq PySem.MeetsSeq2 PySem.MeetsSeq3
end
section
variable {prog : Program} {w : World} {A : Around} {E : Value → Shared → Prop} {s : Shared}
def sIx (n d : Nat) : Option Int → Nat
  | none => d
  | some v => if v < 0 then (v + (n : Int)).toNat else min v.toNat n
end
end HT
namespace L2
open PySem PySem.Spec PyProof.Rows
abbrev TO := St → Hp → (Option Int → Hp → Prop) → Prop
def PO (X : Cx) (e : Option Expr) (t : TO) : Prop :=
  ∀ (pins : List (Addr × Obj)) (s : Shared) (σ : St) (H : Hp) (Q : Option Int → Hp → Prop), Inv X pins σ H s → t σ H Q →
    wpAny (model X.prog X.w) X.A (evalPart e X.env) (fun u s' => ∃ o H', Inv X pins σ H' s' ∧ IsPart u o ∧ Q o H') X.xe s
def qHh : TO := fun _ H Q => Q none H
def qKe (t : TE) : TO := fun σ H Q => t σ H fun x H1 => ∃ i, x = .int i ∧ Q (some i) H1
section
variable {X : Cx} {e : Expr} {te : TE} {lo hi : Option Expr} {tl th : TO} {pos p2 : Pos}
theorem qG5 : PO X none qHh := by
  intro pins s σ H Q I h
  rw [evalPart_none]
  exact wpAny_pure ⟨none, H, I, .none, h⟩
theorem qBz (h : PE X e te) : PO X (some e) (qKe te) := by
  intro pins s σ H Q I hw
  rw [evalPart_some]
  refine thn (h pins s σ H _ I hw) fun u s1 ⟨x, H1, I1, r1, q1⟩ => ?_
  obtain ⟨i, rfl, q⟩ := q1
  obtain ⟨t, rfl⟩ := r1
  exact ⟨some i, H1, I1, .int i t, q⟩
def SlR (X : Cx) (r : V → Option Int → Option Int → Hp → VK → Prop) : Prop :=
  ∀ (pins : List (Addr × Obj)) (s : Shared) (σ : St) (H : Hp) (x : V) (v vl vu : Value) (lo hi : Option Int) (sl : Addr) (Q : VK), Inv X pins σ H s → RelV x v → s.heap.IsSliceOf sl vl vu .none → IsPart vl lo → IsPart vu hi → r x lo hi H Q →
    ∃ T id, typeLookup (.type T) "__getitem__" = pure (some (.builtin id)) ∧ s.TypeIs v T ∧ wpAny (model X.prog X.w) X.A (getItem v (.ref sl)) (EP X pins σ Q) X.xe s
theorem SlR.or {r r' : V → Option Int → Option Int → Hp → VK → Prop} (h : SlR X r) (h' : SlR X r') : SlR X (fun x lo hi H Q => r x lo hi H Q ∨ r' x lo hi H Q) := by
  intro pins s σ H x v vl vu lo hi sl Q I rx hs pl pu q
  rcases q with q | q
  · exact h pins s σ H x v vl vu lo hi sl Q I rx hs pl pu q
  · exact h' pins s σ H x v vl vu lo hi sl Q I rx hs pl pu q
def tSl (r : V → Option Int → Option Int → Hp → VK → Prop) (te : TE) (tl th : TO) : TE := fun σ H Q => te σ H fun x H1 => tl σ H1 fun l H2 => th σ H2 fun u H3 => r x l u H3 Q
theorem qCz {r : V → Option Int → Option Int → Hp → VK → Prop} (hr : SlR X r) (he : PE X e te) (hl : PO X lo tl) (hu : PO X hi th) : PE X (.Subscript e (.Slice lo hi none p2) pos) (tSl r te tl th) := by
  intro pins s σ H Q I h
  refine Subscript_ (thn (he pins s σ H _ I h) fun v s1 ⟨x, H1, I1, r1, q1⟩ => ?_)
  refine wpAny_Slice (thn (hl pins s1 σ H1 _ I1 q1) fun vl s2 ⟨l, H2, I2, pl, q2⟩ => thn (hu pins s2 σ H2 _ I2 q2) fun vu s3 ⟨u, H3, I3, pu, q3⟩ => ?_)
  rw [evalPart_none]
  refine wpAny_pure ?_
  have I4 : Inv X pins σ H3 { s3 with heap := s3.heap.push { cls := .type "slice", data := .fields #[vl, vu, .none] } } := I3.kept (t' := s3.toks) fun b ob q => Heap.get?_push_of_some _ q
  obtain ⟨T, id, hT, ht, hg⟩ := hr pins { s3 with heap := s3.heap.push { cls := .type "slice", data := .fields #[vl, vu, .none] } } σ H3 x v vl vu l u s3.heap.objs.size Q I4 r1 (Heap.IsSliceOf.new ..) pl pu q3
  show wpAny (model X.prog X.w) X.A (subscriptTail e (.Slice lo hi none p2) v (.ref s3.heap.objs.size)) (EP X pins σ Q) X.xe { s3 with heap := s3.heap.push { cls := .type "slice", data := .fields #[vl, vu, .none] } }
  exact tail_any (ops := [.ref s3.heap.objs.size, v]) ht hT hg (by with_unfolding_all rfl)
def qDt (xs : List V) (lo hi : Option Int) : List V := (xs.drop (HT.sIx xs.length 0 lo)).take (HT.sIx xs.length xs.length hi - HT.sIx xs.length 0 lo)
theorem qB3 (xs : List V) (lo hi : Option Int) : (qDt xs lo hi).length ≤ xs.length := by
  unfold qDt
  rw [List.length_take, List.length_drop]
  omega
end
end L2
namespace L2
open PySem PySem.Spec PyProof.Rows
def ixN (n : Nat) (i : Int) : Option Nat := if 0 ≤ i then (if i < n then some i.toNat else none) else if -(n : Int) ≤ i then some (i + n).toNat else none
def atI {α : Type} (xs : List α) (i : Int) : Option α := (ixN xs.length i).bind fun j => xs[j]?
theorem qEz {n : Nat} {i : Int} {j : Nat} (h : ixN n i = some j) : seqIndex? i n = some j ∧ j < n ∧ -(n : Int) ≤ i ∧ i < n := by
  unfold ixN at h
  by_cases h0 : 0 ≤ i
  · rw [if_pos h0] at h
    by_cases h1 : i < n
    · rw [if_pos h1] at h
      have e : i.toNat = j := Option.some.inj h
      exact ⟨by rw [seqIndex_of h0 h1, e], by omega, by omega, h1⟩
    · rw [if_neg h1] at h; cases h
  · rw [if_neg h0] at h
    by_cases h1 : -(n : Int) ≤ i
    · rw [if_pos h1] at h
      have e : (i + n).toNat = j := Option.some.inj h
      exact ⟨by rw [seqIndex_neg (by omega) h1, e], by omega, h1, by omega⟩
    · rw [if_neg h1] at h; cases h
theorem qEt {α : Type} {xs : List α} {i : Int} {v : α} (h : atI xs i = some v) : ∃ j, seqIndex? i xs.length = some j ∧ xs[j]? = some v ∧ j < xs.length ∧ -(xs.length : Int) ≤ i ∧ i < xs.length := by
  unfold atI at h
  cases e : ixN xs.length i with
  | none => rw [e] at h; cases h
  | some j =>
    rw [e] at h
    obtain ⟨h1, h2, h3, h4⟩ := qEz e
    exact ⟨j, h1, h, h2, h3, h4⟩
theorem jc {α : Type} {xs : List α} {j : Nat} {v : α} (h : xs[j]? = some v) : atI xs (j : Int) = some v := by
  have hj : j < xs.length := (List.getElem?_eq_some_iff.mp h).1
  have e : ixN xs.length (j : Int) = some j := by
    unfold ixN
    rw [if_pos (by omega), if_pos (by omega)]; simp
  unfold atI; rw [e]; exact h
def qH7 (b : Expr) : Prop := ∀ o i, subscripted b false o i = operate [o, i] (getItem o i)
def IxR (X : Cx) (r : R2) : Prop :=
  ∀ (value slice : Expr) (pins : List (Addr × Obj)) (s : Shared) (σ : St) (H : Hp) (x y : V) (v u : Value) (Q : VK), Inv X pins σ H s → RelV x v → RelV y u → r x y H Q →
    subscripted slice false v u = operate [v, u] (getItem v u) → wpAny (model X.prog X.w) X.A (subscriptTail value slice v u) (EP X pins σ Q) X.xe s
def MtR (X : Cx) (id : String) (r : V → List V → Hp → VK → Prop) : Prop :=
  ∀ (pins : List (Addr × Obj)) (s : Shared) (σ : St) (H : Hp) (x : V) (xs : List V) (v : Value) (us : List Value) (Q : VK), Inv X pins σ H s → RelV x v → Vals xs us → r x xs H Q →
    wpAny (model X.prog X.w) X.A (call (.builtin id) (v :: us)) (EP X pins σ Q) X.xe s
section
variable {X : Cx} {a b : Expr} {ta tb : TE} {pos : Pos}
theorem IxR.or {r r' : R2} (h : IxR X r) (h' : IxR X r') : IxR X (fun x y H Q => r x y H Q ∨ r' x y H Q) := by
  intro value slice pins s σ H x y v u Q I rx ry q hs
  rcases q with q | q
  · exact h value slice pins s σ H x y v u Q I rx ry q hs
  · exact h' value slice pins s σ H x y v u Q I rx ry q hs
theorem MtR.or {id : String} {r r' : V → List V → Hp → VK → Prop} (h : MtR X id r) (h' : MtR X id r') : MtR X id (fun x xs H Q => r x xs H Q ∨ r' x xs H Q) := by
  intro pins s σ H x xs v us Q I rx rs q
  rcases q with q | q
  · exact h pins s σ H x xs v us Q I rx rs q
  · exact h' pins s σ H x xs v us Q I rx rs q
theorem qM {r : R2} (hr : IxR X r) (ha : PE X a ta) (hb : PE X b tb) (hs : qH7 b) : PE X (.Subscript a b pos) (tOp r ta tb) := by
  intro pins s σ H Q I h
  exact Subscript_ (qKa ha hb I h fun v u s2 x y H2 I2 rx ry q => hr a b pins s2 σ H2 x y v u Q I2 rx ry q (hs _ _))
def qJi (K : PySem.W.Frag) : R2 := fun x y H Q => ∃ p xs i v, x = .ref p ∧ y = .int i ∧ SqL K H p xs ∧ atI xs i = some v ∧ Q v H
def qJ9 (K : PySem.W.Frag) : R2 := fun x y H Q => ∃ p xs i v, x = .ref p ∧ y = .int i ∧ SqT K H p xs ∧ atI xs i = some v ∧ Q v H
theorem qc : IxR X (qJi X.K) := by
  intro value slice pins s σ H x y v u Q I rx ry h hs
  obtain ⟨p, xs, i, z, rfl, rfl, hq, he, q⟩ := h
  cases rx
  obtain ⟨t, rfl⟩ := ry
  obtain ⟨its, r, pl, hz⟩ := I.list hq
  obtain ⟨j, h1, h2, h3, h4, h5⟩ := qEt he
  obtain ⟨w, ew, rw'⟩ := r.get h2
  have hl := r.length
  have hn := qCv
  have fin : EP X pins σ Q w s := ⟨z, H, I, rw', q⟩
  by_cases h0 : 0 ≤ i
  · have hj : i.toNat = j := by
      rw [seqIndex_of h0 h5] at h1
      exact Option.some.inj h1
    exact item_listR pl.isList h0 (by omega) (by rw [hj]; simpa using ew) fin hs
  · have hj : (i + (its.toArray.size : Int)).toNat = j := by
      rw [seqIndex_neg (by omega) h4] at h1
      rw [List.size_toArray, ← hl]
      exact Option.some.inj h1
    exact subscriptTail_builtinR (x := w) pl.isList.typeIs slot_list_getitem.lookup
      (wpAny_getItem_list_neg (Q := fun r s' => r = w ∧ EP X pins σ Q r s') pl.isList (by omega) (by rw [List.size_toArray] <;> omega) (by omega) (by rw [hj]; simpa using ew) ⟨rfl, fin⟩) hs
theorem qK : IxR X (qJ9 X.K) := by
  intro value slice pins s σ H x y v u Q I rx ry h hs
  obtain ⟨p, xs, i, z, rfl, rfl, hq, he, q⟩ := h
  cases rx
  obtain ⟨t, rfl⟩ := ry
  obtain ⟨its, r, pl, hz⟩ := I.tuple hq
  obtain ⟨j, h1, h2, h3, h4, h5⟩ := qEt he
  obtain ⟨w, ew, rw'⟩ := r.get h2
  have hl := r.length
  have hn := qCv
  have fin : EP X pins σ Q w s := ⟨z, H, I, rw', q⟩
  exact subscriptTail_builtinR (x := w) pl.typeIs slot_tuple_getitem.lookup
    (getItem_tuple (j := j) (Q := fun r s' => r = w ∧ EP X pins σ Q r s') pl (by omega) (by omega) (by rw [List.size_toArray, ← hl]; exact h1) (by simpa using ew) ⟨rfl, fin⟩) hs
theorem qDm (its : List Value) (n j : Nat) (u : Value) : Obj.mapSeq (·.setIfInBounds j u) { cls := .type "list", data := .seq its.toArray n } = { cls := .type "list", data := .seq (its.set j u).toArray n } := by
  simp [Obj.mapSeq]
theorem Inv.lst {pins : List (Addr × Obj)} {σ : St} {H : Hp} {s : Shared} {p : Addr} {xs : List V} (I : Inv X pins σ H s) (h : H p = some (.lst xs)) :
    ∃ (its : List Value) (n : Nat), Vals xs its ∧ s.heap.get? p = some { cls := .type "list", data := .seq its.toArray n } ∧ xs.length ≤ sizeLine := by
  obtain ⟨z, its, n, r, e⟩ := I.hok p _ h
  exact ⟨its, n, r, e, z⟩
theorem Inv.lstUpd {pins : List (Addr × Obj)} {σ : St} {H : Hp} {s : Shared} {p : Addr} {xs ys : List V} {its its' : List Value} {n n' : Nat} {f : Obj → Obj} (I : Inv X pins σ H s) (h : H p = some (.lst xs))
    (ho : s.heap.get? p = some { cls := .type "list", data := .seq its.toArray n }) (hf : f { cls := .type "list", data := .seq its.toArray n } = { cls := .type "list", data := .seq its'.toArray n' }) (r : Vals ys its') (hz : ys.length ≤ sizeLine) (t : Nat) :
    Inv X pins σ (upd H p (.lst ys)) { s with heap := s.heap.update p f, toks := t } := by
  have e : (s.heap.update p f).get? p = some { cls := .type "list", data := .seq its'.toArray n' } := by
    rw [Heap.get?_update_self f ho (by rw [hf] <;> rfl), hf]
  refine I.write (x := p) (e := p) (by rw [h]; trivial) (.inl rfl) (fun b u hb q => (Heap.get?_update_other _ _ (Ne.symm hb)).trans q) ⟨_, e⟩ ?_
  exact ⟨hz, its', n', r, e⟩
def qJj : V → V → V → Hp → (Hp → Prop) → Prop := fun o i v H Q => ∃ p xs k j, o = .ref p ∧ i = .int k ∧ H p = some (.lst xs) ∧ ixN xs.length k = some j ∧ Q (upd H p (.lst (xs.set j v)))
theorem vE : qKh X qJj := by
  intro pins s σ H o i v ov iv u Q I ro ri rv h
  obtain ⟨p, xs, k, j, rfl, rfl, hp, hj, q⟩ := h
  cases ro
  obtain ⟨t, rfl⟩ := ri
  obtain ⟨its, n, r, ho, hz⟩ := I.lst hp
  obtain ⟨h1, h2, h3, h4⟩ := qEz hj
  have hl := r.length
  have hn := qCv
  have I' : Inv X pins σ (upd H p (.lst (xs.set j v))) { s with heap := s.heap.update p (Obj.mapSeq (·.setIfInBounds j u)) } :=
    I.lstUpd hp ho (qDm its n j u) (r.set rv j) (by rw [List.length_set]; exact hz) s.toks
  by_cases h0 : 0 ≤ k
  · have hk : k.toNat = j := by
      rw [seqIndex_of h0 h4] at h1
      exact Option.some.inj h1
    exact PySem.W.ki_setAt ho h0 (by omega) (by rw [List.size_toArray, ← hl]; exact h4) (by rw [hk]; exact ⟨_, I', q⟩)
  · have hk : (k + (its.toArray.size : Int)).toNat = j := by
      rw [seqIndex_neg (by omega) h3] at h1
      rw [List.size_toArray, ← hl]
      exact Option.some.inj h1
    exact PySem.W.ki_setBack ho (by omega) (by rw [List.size_toArray, ← hl]; exact h3) (by omega) (by rw [hk]; exact ⟨_, I', q⟩)
theorem qAv (lo hi : Option Int) (n : Nat) : (sliceBounds lo hi none n).1 = ((HT.sIx n 0 lo : Nat) : Int) ∧ (sliceBounds lo hi none n).2.1 = ((HT.sIx n n hi : Nat) : Int) ∧ (sliceBounds lo hi none n).2.2 = 1 := by
  refine ⟨?_, ?_, rfl⟩
  · cases lo with
    | none => simp [sliceBounds, HT.sIx]
    | some i =>
      simp only [sliceBounds, HT.sIx, Option.getD_none, show (1 : Int) > 0 by decide, if_true]
      by_cases h : i < 0
      · simp only [h, if_true] <;> omega
      · simp only [h, if_false] <;> omega
  · cases hi with
    | none => simp [sliceBounds, HT.sIx]
    | some i =>
      simp only [sliceBounds, HT.sIx, Option.getD_none, show (1 : Int) > 0 by decide, if_true]
      by_cases h : i < 0
      · simp only [h, if_true] <;> omega
      · simp only [h, if_false] <;> omega
theorem wt (its : List Value) (lo hi : Option Int) : slicePick its.toArray lo hi none = ((its.drop (HT.sIx its.length 0 lo)).take (HT.sIx its.length its.length hi - HT.sIx its.length 0 lo)).toArray := by
  obtain ⟨h1, h2, h3⟩ := qAv lo hi its.toArray.size
  unfold slicePick
  rw [h1, h2, h3]
  simp only [sliceRange_one, pick_run, List.size_toArray] <;> rfl
def qKk (K : PySem.W.Frag) : V → Option Int → Option Int → Hp → VK → Prop := fun x lo hi H Q => ∃ a xs, x = .ref a ∧ SqL K H a xs ∧ ∀ p, H p = none → Q (.ref p) (upd H p (.lst (qDt xs lo hi)))
theorem qEb : SlR X (qKk X.K) := by
  intro pins s σ H x v vl vu lo hi sl Q I rx hs pl pu h
  obtain ⟨a, xs, rfl, hx, q⟩ := h
  cases rx
  obtain ⟨its, r, ht, hz⟩ := I.list hx
  have hlen := r.length
  refine ⟨"list", _, slot_list_getitem.lookup, ht.isList.typeIs, ?_⟩
  refine wpAny_getItem_list_slice ht.isList hs pl pu .none (by simp) ?_ (by rw [List.size_toArray] <;> omega)
  rw [wt, ← hlen]
  refine ⟨.ref s.heap.objs.size, _, I.laid (t' := s.toks) (o := .lst (qDt xs lo hi)) (fun b ob q => Heap.get?_push_of_some _ q) (Nat.le_refl _) ?_, rfl, q _ (I.hok.fresh (Nat.le_refl _))⟩
  exact ⟨Nat.le_trans (qB3 xs lo hi) hz, _, 0, (r.drop (HT.sIx xs.length 0 lo)).take (HT.sIx xs.length xs.length hi - HT.sIx xs.length 0 lo), Heap.get?_push_size _ rfl⟩
def xL : V → Bool
  | .non => true
  | .bl _ => true
  | .int _ => true
  | .str _ => true
  | _ => false
def eqV : V → V → Bool
  | .non, .non => true
  | .bl a, .bl b => a == b
  | .bl a, .int b => (if a then 1 else 0) == b
  | .int a, .bl b => a == (if b then 1 else 0)
  | .int a, .int b => a == b
  | .str a, .str b => a == b
  | _, _ => false
theorem qBc {A : Around} {s : Shared} {y x : V} {u v : Value} (ry : RelV y u) (rx : RelV x v) (fy : xL y = true) (fx : xL x = true) : SeqAt.EqAt A s u v (eqV y x) := by
  cases y with
  | non =>
    cases ry
    cases x with
    | non => cases rx; exact SeqAt.EqAt.same _
    | bl b => cases rx; exact SeqAt.EqAt.none_bool b
    | int b => obtain ⟨t, rfl⟩ := rx; exact SeqAt.EqAt.none_int b t
    | str b => obtain ⟨t, rfl⟩ := rx; exact SeqAt.EqAt.none_str b t
    | _ => exact absurd (show false = true from fx) Bool.false_ne_true
  | bl a =>
    cases ry
    cases x with
    | non => cases rx; exact SeqAt.EqAt.bool_none a
    | bl b => cases rx; exact SeqAt.EqAt.bool_bool a b
    | int b => obtain ⟨t, rfl⟩ := rx; exact SeqAt.EqAt.bool_int a b t
    | str b => obtain ⟨t, rfl⟩ := rx; exact SeqAt.EqAt.bool_str a b t
    | _ => exact absurd (show false = true from fx) Bool.false_ne_true
  | int a =>
    obtain ⟨t', rfl⟩ := ry
    cases x with
    | non => cases rx; exact SeqAt.EqAt.int_none a t'
    | bl b => cases rx; exact SeqAt.EqAt.int_bool a t' b
    | int b => obtain ⟨t, rfl⟩ := rx; exact SeqAt.EqAt.int_int a t' b t
    | str b => obtain ⟨t, rfl⟩ := rx; exact SeqAt.EqAt.int_str a t' b t
    | _ => exact absurd (show false = true from fx) Bool.false_ne_true
  | str a =>
    obtain ⟨t', rfl⟩ := ry
    cases x with
    | non => cases rx; exact SeqAt.EqAt.str_none a t'
    | bl b => cases rx; exact SeqAt.EqAt.str_bool a t' b
    | int b => obtain ⟨t, rfl⟩ := rx; exact SeqAt.EqAt.str_int a t' b t
    | str b => obtain ⟨t, rfl⟩ := rx; exact SeqAt.EqAt.str_str a t' b t
    | _ => exact absurd (show false = true from fx) Bool.false_ne_true
  | _ => exact absurd (show false = true from fy) Bool.false_ne_true
def eqU (x : V) (u : Value) : Bool := match u with
  | .none => eqV .non x
  | .bool b => eqV (.bl b) x
  | .int i _ => eqV (.int i) x
  | .str z _ => eqV (.str z) x
  | _ => false
theorem qGx {x y : V} {u : Value} (r : RelV y u) (f : xL y = true) : eqU x u = eqV y x := by
  cases y with
  | non => cases r; rfl
  | bl b => cases r; rfl
  | int i => obtain ⟨t, rfl⟩ := r; rfl
  | str z => obtain ⟨t, rfl⟩ := r; rfl
  | _ => exact absurd (show false = true from f) Bool.false_ne_true
theorem qCf {x : V} : ∀ {xs : List V} {us : List Value}, Vals xs us → xs.all xL = true → us.any (eqU x) = xs.any fun y => eqV y x
  | _, _, .nil, _ => rfl
  | y :: xs, u :: us, .cons r t, f => by
    rw [List.all_cons, Bool.and_eq_true] at f
    rw [List.any_cons, List.any_cons, qGx r f.1, qCf t f.2]
theorem wp {A : Around} {s : Shared} {x : V} {v : Value} (rx : RelV x v) (fx : xL x = true) : ∀ {xs : List V} {us : List Value}, Vals xs us → xs.all xL = true → ∀ u ∈ us, SeqAt.EqAt A s u v (eqU x u)
  | _, _, .nil, _ => fun u hu => by cases hu
  | y :: xs, u :: us, .cons r t, f => fun u' hu => by
    rw [List.all_cons, Bool.and_eq_true] at f
    rcases List.mem_cons.mp hu with rfl | hu
    · rw [qGx r f.1]; exact qBc r rx f.1 fx
    · exact wp rx fx t f.2 u' hu
def inV (x : V) (xs : List V) : Bool := xs.any fun y => eqV y x
def rIn (K : PySem.W.Frag) (neg : Bool) : R2 := fun x y H Q => ∃ p xs, y = .ref p ∧ (SqL K H p xs ∨ SqT K H p xs) ∧ xL x = true ∧ xs.all xL = true ∧ Q (.bl (if neg then !inV x xs else inV x xs)) H
theorem vh : OpR X (compareOp .In) (rIn X.K false) := by
  intro pins s σ H x y v u Q I rx ry h
  obtain ⟨p, xs, rfl, hq, fx, fs, q⟩ := h
  cases ry
  rcases hq with hq | hq
  · obtain ⟨its, r, pl, hz⟩ := I.list hq
    refine SeqAt.in_listAt (eqU x) pl.isList (fun w hw => wp rx fx r fs w (by simpa using hw)) ⟨.bl _, H, I, rfl, ?_⟩
    rw [show its.toArray.any (eqU x) = its.any (eqU x) by simp, qCf r fs]
    exact q
  · obtain ⟨its, r, pl, hz⟩ := I.tuple hq
    refine SeqAt.in_tupleAt (eqU x) pl (fun w hw => wp rx fx r fs w (by simpa using hw)) ⟨.bl _, H, I, rfl, ?_⟩
    rw [show its.toArray.any (eqU x) = its.any (eqU x) by simp, qCf r fs]
    exact q
theorem qd : CallR X (.builtin "len") (fun xs H Q => ∃ p ys, xs = [.ref p] ∧ (SqL X.K H p ys ∨ SqT X.K H p ys) ∧ Q (.int ys.length) H) := by
  intro pins s σ H xs us Q I r h
  obtain ⟨p, ys, rfl, hq, q⟩ := h
  obtain ⟨u, rfl, rx⟩ := qBl r
  cases rx
  have hn := qCv
  rcases hq with hq | hq
  · obtain ⟨its, r', pl, hz⟩ := I.list hq
    have hlen := r'.length
    exact Calls.call_len_list pl.isList (by simp only [List.size_toArray] <;> omega) ⟨.int ys.length, H, I.tok _, ⟨s.toks + 1, by rw [List.size_toArray, hlen]⟩, q⟩
  · obtain ⟨its, r', pl, hz⟩ := I.tuple hq
    have hlen := r'.length
    exact len_tuple pl (by simp only [List.size_toArray] <;> omega) ⟨.int ys.length, H, I.tok _, ⟨s.toks + 1, by rw [List.size_toArray, hlen]⟩, q⟩
theorem CallR.or {f : Value} {r r' : List V → Hp → VK → Prop} (h : CallR X f r) (h' : CallR X f r') : CallR X f (fun xs H Q => r xs H Q ∨ r' xs H Q) := by
  intro pins s σ H xs us Q I rs q
  rcases q with q | q
  · exact h pins s σ H xs us Q I rs q
  · exact h' pins s σ H xs us Q I rs q
theorem xl : CallR X (.type "list") (fun xs H Q => ∃ p ys, xs = [.ref p] ∧ (SqL X.K H p ys ∨ SqT X.K H p ys) ∧ ∀ l, H l = none → Q (.ref l) (upd H l (.lst ys))) := by
  intro pins s σ H xs us Q I r h
  obtain ⟨p, ys, rfl, hq, q⟩ := h
  obtain ⟨u, rfl, rx⟩ := qBl r
  cases rx
  have fin : ∀ (its : List Value), Vals ys its → ys.length ≤ sizeLine → ∀ (h' : Heap) (c' : Nat), (∀ b o', s.heap.get? b = some o' → h'.get? b = some o') →
      h'.get? s.heap.objs.size = some { cls := .type "list", dict := none, data := .seq its.toArray c', slots := #[] } → EP X pins σ Q (.ref s.heap.objs.size) { s with heap := h' } := fun its r' hz h' c' kp e =>
    ⟨.ref s.heap.objs.size, _, I.laid (t' := s.toks) kp (Nat.le_refl _) (show ObjOk X.prog X.w _ h' _ (.lst ys) from ⟨hz, its, c', r', e⟩), rfl, q _ (I.hok.fresh (Nat.le_refl _))⟩
  rcases hq with hq | hq
  · obtain ⟨its, r', pl, hz⟩ := I.list hq
    have hlen := r'.length
    obtain ⟨o, ho, hc, n, hd⟩ := pl.isList
    exact call_list_seq p (.inl rfl) ho hc hd (fun h' c' kp e => fin its r' hz h' c' kp e) (by simp only [List.size_toArray] <;> omega)
  · obtain ⟨its, r', pl, hz⟩ := I.tuple hq
    have hlen := r'.length
    obtain ⟨o, ho, hc, n, hd⟩ := pl
    exact call_list_seq p (.inr rfl) ho hc hd (fun h' c' kp e => fin its r' hz h' c' kp e) (by simp only [List.size_toArray] <;> omega)
def tyV (K : PySem.W.Frag) (T : String) (x : V) (H : Hp) : Prop := match x with
  | .str _ => T = "str"
  | .int _ => T = "int"
  | .ref p => (T = "list" ∧ ∃ xs, SqL K H p xs) ∨ (T = "tuple" ∧ ∃ o, K.lookup p = some o ∧ o.cls = .type "tuple" ∧ o.dict = none) ∨
      (T = "dict" ∧ ((∃ kvs, H p = some (.dK kvs)) ∨ ∃ kvs, H p = some (.dT kvs))) ∨ (T = "set" ∧ ∃ S n, H p = some (.set S n))
  | _ => False
theorem qI3 {pins : List (Addr × Obj)} {σ : St} {H : Hp} {s : Shared} {T : String} {x : V} {v : Value} (I : Inv X pins σ H s) (r : RelV x v) (ty : tyV X.K T x H) :
    s.TypeIs v T ∧ ∀ a, v = .ref a → ∃ ob, s.heap.get? a = some ob ∧ ob.dict = none := by
  cases x with
  | str z =>
    obtain ⟨t, rfl⟩ := r
    cases (show T = "str" from ty)
    exact ⟨typeIs_str s z t, fun _ e => nomatch e⟩
  | int i =>
    obtain ⟨t, rfl⟩ := r
    cases (show T = "int" from ty)
    exact ⟨typeIs_int s i t, fun _ e => nomatch e⟩
  | ref p =>
    cases r
    rcases ty with ⟨rfl, xs, hq⟩ | ⟨rfl, o, hk, hc, hd⟩ | ⟨rfl, hk⟩ | ⟨rfl, S, n, hk⟩
    · obtain ⟨its, _, pl, _⟩ := I.list hq
      refine ⟨pl.isList.typeIs, fun a e => ?_⟩
      cases e
      obtain ⟨o, n, e, c, hd, _⟩ := pl
      exact ⟨o, e, hd⟩
    · refine ⟨⟨o, I.kIn p o hk, hc⟩, fun a e => ?_⟩
      cases e
      exact ⟨o, I.kIn _ o hk, hd⟩
    · have z : ∃ o, s.heap.get? p = some o ∧ o.ExactDict := by
        rcases hk with ⟨kvs, hk⟩ | ⟨kvs, hk⟩
        · obtain ⟨_, _, _, _, o, _, _, e, ex, _⟩ := I.hok p _ hk
          exact ⟨o, e, ex⟩
        · obtain ⟨_, _, _, _, o, _, _, e, ex, _⟩ := I.hok p _ hk
          exact ⟨o, e, ex⟩
      obtain ⟨o, e, ex⟩ := z
      refine ⟨⟨o, e, ex.1⟩, fun a e2 => ?_⟩
      cases e2
      exact ⟨o, e, ex.2.1⟩
    · obtain ⟨o, _, _, _, e, ex, _⟩ := I.hok p _ hk
      refine ⟨⟨o, e, ex.1⟩, fun a e2 => ?_⟩
      cases e2
      exact ⟨o, e, ex.2.1⟩
  | _ => exact False.elim ty
def tBM (K : PySem.W.Frag) (T : String) (r : V → List V → Hp → VK → Prop) (to : TE) (t : TA) : TE := fun σ H Q => to σ H fun x H1 => tyV K T x H1 ∧ t σ H1 fun xs H2 => r x xs H2 Q
variable {o e : Expr} {es : List Expr} {to : TE} {t : TA} {name : Str} {apos cpos : Pos} {T id : String} {r : V → List V → Hp → VK → Prop}
theorem qA1 (pa : PlainAttrs T) (slot : Slot T name id) (hty : typeOf (.builtin id) = pure (.type "method_descriptor")) (hm : MtR X id r) (ho : PE X o to) (ha : PA X (e :: es) t)
    (hbase : attributeBase o name X.env (eval o X.env) = eval o X.env := by rfl)
    (hfew : ((backTo cpos (starEach (e :: es) X.env)).all (fun x => !x.1) && (backToKw cpos (keywordEach [] X.env)).all (fun x => x.1.isSome)
      && decide ((e :: es).length + ([] : List Keyword).length + (if ([] : List Keyword).isEmpty then 0 else 1) < 30)) = true := by rfl)
    (hline : (apos.endLine == cpos.line) = true := by rfl) (hs : starEach (e :: es) X.env = (false, eval e X.env) :: starEach es X.env := by rfl) (hplain : (backTo cpos (starEach es X.env)).any (·.1) = false := by rfl) :
    PE X (.Call (.Attribute o name apos) (e :: es) [] cpos) (tBM X.K T r to t) := by
  intro pins s σ H Q I h
  refine wpAny_Call_method_late hbase hfew hline rfl (thn (ho pins s σ H _ I h) fun v s1 ⟨x, H1, I1, r1, ty, q1⟩ => ?_)
  obtain ⟨h1, h2⟩ := qI3 I1 r1 ty
  refine ⟨T, id, pa, slot, hty, h1, h2, ?_⟩
  have hA := ha cpos pins s1 σ H1 _ I1 q1
  rw [hs] at hA ⊢
  refine Calls.callWith_builtin (by show (false || (backTo cpos (starEach es X.env)).any (·.1)) = false; rw [hplain] <;> rfl) (Calls.evalArgs_plain ?_)
  exact thn hA fun us s2 ⟨vs, H2, I2, r2, q2⟩ => hm pins s2 σ H2 x vs v us Q I2 r1 r2 q2
end
end L2
namespace L2
open PySem PySem.Spec PyProof.Rows
def MtM (X : Cx) (id : String) (r : V → List V → Hp → VK → Prop) : Prop :=
  ∀ (pins : List (Addr × Obj)) (s : Shared) (σ : St) (H : Hp) (x : V) (xs : List V) (v : Value) (us : List Value) (Q : VK), Inv X pins σ H s → RelV x v → Vals xs us → r x xs H Q →
    wpAny (model X.prog X.w) X.A (call (.builtin id) (v :: us)) (EP X pins σ Q) X.xe s
theorem Vals.one : ∀ {x : V} {us : List Value}, Vals [x] us → ∃ u, us = [u] ∧ RelV x u
  | _, _, .cons r .nil => ⟨_, rfl, r⟩
theorem Vals.two : ∀ {x y : V} {us : List Value}, Vals [x, y] us → ∃ u v, us = [u, v] ∧ RelV x u ∧ RelV y v
  | _, _, _, .cons r (.cons q .nil) => ⟨_, _, rfl, r, q⟩
theorem Vals.zero : ∀ {us : List Value}, Vals [] us → us = []
  | _, .nil => rfl
theorem Vals.dropLast {xs : List V} {us : List Value} (h : Vals xs us) : Vals xs.dropLast us.dropLast := by
  induction h with
  | nil => exact .nil
  | cons r t ih =>
    cases t with
    | nil => exact .nil
    | cons q t' => exact .cons r ih
theorem Vals.reverse {xs : List V} {us : List Value} (h : Vals xs us) : Vals xs.reverse us.reverse := by
  induction h with
  | nil => exact .nil
  | cons r t ih => rw [List.reverse_cons, List.reverse_cons]; exact Vals.append ih (.cons r .nil)
theorem Vals.rep {xs : List V} {us : List Value} (h : Vals xs us) : ∀ k : Nat, Vals (List.replicate k xs).flatten (List.replicate k us).flatten
  | 0 => .nil
  | k + 1 => by
    rw [List.replicate_succ, List.replicate_succ, List.flatten_cons, List.flatten_cons]
    exact Vals.append h (Vals.rep h k)
section
variable {X : Cx} {pins : List (Addr × Obj)} {σ : St} {H : Hp} {s : Shared} {l b : Addr} {xs ys zs : List V}
theorem Inv.lset {its its' : List Value} {n : Nat} {f : Array Value → Array Value} {t' : Nat} (I : Inv X pins σ H s) (hH : H l = some (.lst xs))
    (e : s.heap.get? l = some { cls := .type "list", data := .seq its.toArray n }) (hf : f its.toArray = its'.toArray) (hv : Vals ys its') (hz : ys.length ≤ sizeLine) :
    Inv X pins σ (upd H l (.lst ys)) { s with heap := s.heap.update l (Obj.mapSeq f), toks := t' } := by
  have q := PySem.IsL.update e f
  rw [hf] at q
  refine I.write (x := l) (e := l) (by rw [hH]; exact trivial) (.inl rfl) (fun b' u hb hu => (Heap.get?_update_other s.heap (Obj.mapSeq f) (Ne.symm hb)).trans hu) ⟨_, q⟩ ?_
  exact ⟨hz, its', _, hv, q⟩
theorem Inv.lnew {its : List Value} {t' : Nat} (I : Inv X pins σ H s) (hv : Vals ys its) (hz : ys.length ≤ sizeLine) :
    Inv X pins σ (upd H s.heap.objs.size (.lst ys)) { s with heap := s.heap.push { cls := .type "list", data := .seq its.toArray }, toks := t' } :=
  I.laid (fun _ _ q => Heap.get?_push_of_some _ q) (Nat.le_refl _) ⟨hz, its, 0, hv, Heap.get?_push_size _ rfl⟩
theorem Inv.fresh (I : Inv X pins σ H s) : H s.heap.objs.size = none := I.hok.fresh (Nat.le_refl _)
theorem Inv.lstM (I : Inv X pins σ H s) (hH : H l = some (.lst xs)) : xs.length ≤ sizeLine ∧ ∃ (its : List Value) (n : Nat), Vals xs its ∧ xs.length = its.length ∧ s.heap.get? l = some { cls := .type "list", data := .seq its.toArray n } := by
  obtain ⟨z, its, n, r, e⟩ := I.hok l _ hH
  exact ⟨z, its, n, r, r.length, e⟩
end
section
variable {X : Cx}
def qHw : V → List V → Hp → VK → Prop := fun x vs H Q => ∃ l xs y, x = .ref l ∧ vs = [y] ∧ H l = some (.lst xs) ∧ xs.length < sizeLine ∧ Q .non (upd H l (.lst (xs ++ [y])))
theorem xY : MtM X "list.append" qHw := by
  intro pins s σ H x vs v us Q I rx rv h
  obtain ⟨l, xs, y, rfl, rfl, hH, hz, q⟩ := h
  cases rx
  obtain ⟨u, rfl, ru⟩ := rv.one
  obtain ⟨z, its, n, r, hl, e⟩ := I.lstM hH
  refine call_meets F.slot_list_append ⟨_, e, rfl⟩ F.entry_list_append (F.args_list_append_2 _ _) (PySem.list_append l its.toArray n u (by rw [List.size_toArray]; omega)) ⟨e, ?_⟩
  refine ⟨.non, _, I.lset (its' := its ++ [u]) hH e (by simp) (r.append (.cons ru .nil)) ?_, rfl, q⟩
  rw [List.length_append, List.length_singleton]
  omega
def qK3 : R2 := fun x y H Q => ∃ l b xs zs, x = .ref l ∧ y = .ref b ∧ H l = some (.lst xs) ∧ H b = some (.lst zs) ∧ xs.length + zs.length ≤ sizeLine ∧ ∀ p, H p = none → Q (.ref p) (upd H p (.lst (xs ++ zs)))
theorem qIb : OpR X (binaryOp .Add) qK3 := by
  intro pins s σ H x y v u Q I rx ry h
  obtain ⟨l, b, xs, zs, rfl, rfl, hH, hB, hz, q⟩ := h
  cases rx
  cases ry
  obtain ⟨z, its, n, r, hl, e⟩ := I.lstM hH
  obtain ⟨z2, its2, n2, r2, hl2, e2⟩ := I.lstM hB
  refine PySem.P.add_list e e2 ?_ (by rw [List.size_toArray, List.size_toArray]; omega)
  have ea : its.toArray ++ its2.toArray = (its ++ its2).toArray := by simp
  rw [ea]
  exact ⟨.ref _, _, I.lnew (t' := s.toks) (r.append r2) (by rw [List.length_append]; omega), rfl, q _ I.fresh⟩
end
section
variable {prog : Program} {w : World} {A : Around} {E : Value → Shared → Prop} {s : Shared}
end
section
variable {X : Cx}
end
end L2
namespace Att
open PySem PySem.W PySem.Calls PyProof.Rows
theorem vN {P : Params} {h : Heap} : ∀ (ns : List Int) (vs : List Value), WellAll P h vs (ns.map WData.int) → IntsAre vs ns := by
  intro ns
  induction ns with
  | nil =>
    intro vs w
    rw [List.map_nil] at w
    cases w
    exact .nil
  | cons n ns ih =>
    intro vs w
    rw [List.map_cons] at w
    cases w with
    | cons a b =>
      cases a
      exact .cons _ _ (ih _ b)
theorem qEd {l : OpenLaw} {n : Nat} (hn : l.most = some n) {P : Params} {h : Heap} {args : List WData} {vals : List Value}
    (hpre : l.row.toRowW.claim.pre args = true) (hwl : WellAll P h vals args) :
    ∃ a vs ns, vals = [Value.ref a] ∧ args = [WData.list (ns.map WData.int)] ∧ h.get? a = some { cls := .type "list", data := .seq vs.toArray } ∧ IntsAre vs ns ∧ ns.length ≤ n := by
  have hsh : WShape.hasAll [] args [.list .int] = true := (pre_splitW hpre).1
  have hc : l.pre.holds [] { args := args } = true := (pre_splitW hpre).2
  obtain ⟨d, r, rfl, h1, h2⟩ := hasAllW_cons hsh
  obtain rfl := hasAllW_nil h2
  obtain ⟨xs, rfl, h3⟩ := hasW_list h1
  obtain ⟨ns, rfl⟩ := items_int h3
  have hlen : ns.length ≤ n := by
    unfold OpenLaw.pre at hc
    have h4 : (WTm.not (.lt (.lit (.int (n : Int))) (.len (.arg 0)))).holds [] { args := [.list (ns.map .int)] } = true := by
      have h4 := (holds_andW hc).1
      rw [hn] at h4
      exact h4
    have h5 := condW_of h4 (w_not (w_lt w_lit (w_len_list (w_arg rfl))))
    rw [List.length_map] at h5
    refine Nat.le_of_not_lt fun q => ?_
    have q' : (n : Int) < ((ns.length : Nat) : Int) := by omega
    first
      | (rw [decide_eq_true q'] at h5; exact absurd h5 (by decide))
      | (simp at h5; omega)
  cases hwl with
  | cons w1 w2 =>
    cases w2
    cases w1 with
    | list ho hall => exact ⟨_, _, ns, rfl, rfl, ho, vN ns _ hall, hlen⟩
theorem qFh (l : OpenLaw) (args : List WData) : l.row.toRowW.claim.post args (.bool true) args = true :=
  postW_of (r := l.row.toRowW) (X := (true == true))
    (show WShape.has [] (.bool true) .bool = true by first | rfl | decide | simp [WShape.has, WShape.arms, WShape.armsAll])
    (show (WTm.eq .res (.lit (.bool true))).value [] { args := args, res := some (.bool true), after := args } = some (.bool (true == true)) from w_eq_bool (w_res rfl) w_lit) rfl
theorem attach_call {l : OpenLaw} {n : Nat} {q : Program} {loose : List Str} {XP : (Str → Option Value) → Heap → Prop} {YP : World → Heap → Prop} {d : DefRec}
    (hn : l.most = some n) (hdf : d.params.defaults = [])
    (call : ∀ (w : World) (s₀ s₁ : Shared) (mg mb : Str → Option Value) (fa : Addr) (o : Obj) (pm cd doc : Value) (a : Addr) (vs : List Value) (ns : List Int),
      Ground q loose [] XP w s₀ mg mb s₁.heap → YP w s₁.heap →
      s₁.heap.get? fa = some o → o.data = .func (docDef d.name d.params d.body d.scope pm cd doc) → s₁.heap.CodeRec cd d.name → mg d.name = some (.ref fa) →
      s₁.heap.get? a = some { cls := .type "list", data := .seq vs.toArray } → IntsAre vs ns → ns.length ≤ n → s₁.gens = #[] →
      codeAny (model l.prog w) callerA (.call (.ref fa) ⟨[.ref a], []⟩) (fun r s' => r = .ok (.ret (.bool true)) ∧ OldK s₁.heap s'.heap ∧ s'.os = s₁.os ∧ AllBare s'.gens) s₁) :
    WalkO q loose XP YP l.row.toRowW d [] (fun f vs => PySem.call f vs) := by
  intro w s₀ s₁ mg mb G Y fa o pm cd doc dV kV ho hd hcd hD hmg hg args vals as hpre hlay hrd hwl hlo
  obtain rfl : dV = .none := Dflts.none hD hdf
  obtain rfl : kV = .none := Dflts.noKw hD
  obtain ⟨a, vs, ns, rfl, rfl, hobj, hints, hlen⟩ := qEd hn hpre hwl
  refine enter_call (codeAny_mono (call w s₀ s₁ mg mb fa o pm cd doc a vs ns G Y ho (fd_plain hd) hcd hmg hobj hints hlen hg) fun r s' hq => ?_)
  obtain ⟨rfl, h2, h3, h4⟩ := hq
  exact ⟨.inl ⟨.bool true, .bool true, [], rfl, fun _ => rfl, .bool true, qFh l _, fun _ => ⟨List.Pairwise.nil, fun _ hm => (nomatch hm)⟩⟩, h2, h3, h4⟩
section
variable {prog : Program} {w : World} {A : Around} {E : Value → Shared → Prop} {s : Shared} {K : Frag}
def ledger (h : Heap) (L d : Addr) : List (Addr × Obj) := (List.range h.objs.size).filterMap fun a => if a = L ∨ a = d then none else (h.get? a).map fun o => (a, o)
end
end Att
namespace L2
open PySem PySem.Spec PyProof.Rows
theorem qBb : ∀ {vs : List Value} {ns : List Int}, IntsAre vs ns → Vals (ns.map V.int) vs
  | _, _, .nil => .nil
  | _, _, .cons n t h => .cons ⟨t, rfl⟩ (qBb h)
def qJl (H : Hp) : Prop := ∀ b, H b = none ∨ ∃ o xs, H b = some (.frz o (.lst xs))
theorem qFt {P : Program} {w : World} {K : PySem.W.Frag} {mg mb : Str → Option Value} {CX : CXT} {k : Nat} {fa a : Addr} {fd : FuncData} {x : Str} {sp : Sp} {s₁ : Shared} {vs : List Value} {ns : List Int}
    (KX : K.In s₁.heap) (hns : s₁.heap.Ns mainGlobals mg) (hb : s₁.heap.Ns builtinsNs mb) (hbb : ∀ x : Str, x ≠ "__name__" → mb x = bootBuiltins x) (hlim : s₁.heap.NoLimit) (hg : s₁.gens = #[])
    (ha : s₁.heap.get? a = some { cls := .type "list", data := .seq vs.toArray }) (hi : IntsAre vs ns) (hl : ns.length ≤ sizeLine) (hr : Room k callerA)
    (F : ∀ base : Heap, K.In base → base.Ns mainGlobals mg → FnOk P w K mg base CX k fa fd [x] sp) (hbind : ∀ (s : Shared) (u : Value), BindsTo s fd ⟨[u], []⟩ [(x, u)])
    (hsp : ∀ H : Hp, qJl H → SqL K H a (ns.map V.int) → sp [.ref a] H (fun v _ => v = .bl true) fun _ _ _ => False)
    (hCX : ∀ H e s', CX [] H s₁ (fun _ _ _ => False) e s' → False) :
    codeAny (model P w) callerA (.call (.ref fa) ⟨[.ref a], []⟩) (fun r s' => r = .ok (.ret (.bool true)) ∧ OldK s₁.heap s'.heap ∧ s'.os = s₁.os ∧ AllBare s'.gens) s₁ := by
  have rv := qBb hi
  have lenV := hi.length
  have core : ∀ H : Hp, qJl H → SqL K H a (ns.map V.int) → HOk P w H s₁.heap → (∀ b, H b ≠ none → b = a) → (H a ≠ none → K.lookup a = none) →
      codeAny (model P w) callerA (.call (.ref fa) ⟨[.ref a], []⟩) (fun r s' => r = .ok (.ret (.bool true)) ∧ OldK s₁.heap s'.heap ∧ s'.os = s₁.os ∧ AllBare s'.gens) s₁ := by
    intro H hO hS hok hA hK
    have base_of : ∀ {b : Addr} {o : Obj}, s₁.heap.get? b = some o → H b = none → (qFy s₁.heap H).get? b = some o := fun e n => qGk e n
    have noA : ∀ {b : Addr} {o : Obj} {es : Array DictEntry} {ep : Nat}, s₁.heap.get? b = some o → o.data = .dict es ep → H b = none := fun {b o es ep} e d => by
      cases q : H b with
      | none => rfl
      | some u =>
        have e' : b = a := hA b (by rw [q]; simp)
        subst e'
        rw [ha] at e; cases e
        have d' : Data.seq vs.toArray _ = Data.dict es ep := d
        cases d'
    have nsK : ∀ {b : Addr} {m : Str → Option Value}, s₁.heap.Ns b m → (qFy s₁.heap H).Ns b m := fun {b m} ⟨o, es, ep, e, d, r⟩ => ⟨o, es, ep, base_of e (noA e d), d, r⟩
    have hKb : K.In (qFy s₁.heap H) := fun b o e => base_of (KX b o e) (by
      cases q : H b with
      | none => rfl
      | some u =>
        have e' : b = a := hA b (by rw [q]; simp)
        subst e'
        rw [hK (by rw [q]; simp)] at e; cases e)
    have hM : Mod K mg (qFy s₁.heap H) := ⟨hKb, nsK hns, ⟨mb, nsK hb, hbb⟩, let ⟨mc, h1, h2⟩ := hlim; ⟨mc, nsK h1, h2⟩⟩
    have e0 : Env0 P w K mg (qFy s₁.heap H) callerA [] s₁ H := ⟨rfl, hM, fun b o e => qHo e, Nat.le_of_eq (qFe _ _), trivial, fun b hb => absurd (show b ∈ ([] : List Addr) from hb) (by simp), hok, .of_eq hg⟩
    refine codeAny_mono ((F _ hKb (nsK hns)).run callerA [] s₁ H ⟨[.ref a], []⟩ [.ref a] [.ref a] _ _ hr e0 (hbind s₁ (.ref a)) (.cons rfl .nil) (hsp H hO hS)) fun r s' h => ?_
    cases r with
    | error e => exact (hCX H e s' h).elim
    | ok fl =>
      cases fl with
      | next => exact False.elim h
      | brk => exact False.elim h
      | cont => exact False.elim h
      | ret u =>
        obtain ⟨v, H', os, bare, un, hok', r', q⟩ := h
        have q' : v = .bl true := q
        subst q'
        obtain rfl : u = Value.bool true := r'
        refine ⟨rfl, OldK.of_keep fun b o e => ?_, os, bare⟩
        cases q : H b with
        | none => exact un.keep b o e q (by intro z; exact absurd (show b ∈ ([] : List Addr) from z) (by simp)) (by simp)
        | some u =>
          rcases hO b with z | ⟨ob, xs, z⟩
          · rw [q] at z; cases z
          · have z2 := un.frzs b ob _ z
            obtain ⟨e1, _⟩ := hok b _ z
            obtain ⟨e2, _⟩ := hok' b _ z2
            rw [e] at e1; cases e1
            exact e2
  cases hk : K.lookup a with
  | some o =>
    have e := KX a o hk
    rw [ha] at e
    cases e
    refine core (fun _ => none) (fun _ => .inl rfl) (.inr ⟨_, vs.toArray, _, hk, rfl, rfl, rfl, by rw [List.size_toArray, lenV]; exact hl, by simpa using rv⟩) (fun b u z => by have z' : (none : Option HO) = some u := z; cases z') (fun b z => absurd rfl z) fun z => absurd rfl z
  | none =>
    refine core (fun b => if b = a then some (.frz { cls := .type "list", data := .seq vs.toArray } (.lst (ns.map V.int))) else none) (fun b => ?_) (.inl (.inr ⟨{ cls := .type "list", data := .seq vs.toArray }, if_pos rfl⟩)) (fun b u z => ?_) (fun b z => ?_) fun _ => hk
    · by_cases hb : b = a
      · exact .inr ⟨_, _, if_pos hb⟩
      · exact .inl (if_neg hb)
    · by_cases hb : b = a
      · have z' := (if_pos hb).symm.trans z
        cases z'
        subst hb
        exact ⟨ha, by rw [List.length_map]; exact hl, vs, _, rv, ha⟩
      · have z' := (if_neg hb).symm.trans z
        cases z'
    · by_cases hb : b = a
      · exact hb
      · exact absurd (if_neg hb) z
end L2
namespace L2
open PySem PySem.Spec PyProof.Rows
theorem walk_of {l : PySem.W.OpenLaw} {n k : Nat} {q : Program} {loose : List Str} {XP : (Str → Option Value) → Heap → Prop} {YP : World → Heap → Prop} {d : DefRec} {K : Params → PySem.W.Frag} {CX : World → CXT} {sp : World → Sp} {x : Str}
    (hn : l.most = some n) (hn2 : n ≤ sizeLine) (hdf : d.params.defaults = []) (hr : Room k callerA)
    (hY : ∀ (w : World) (h : Heap), YP w h → (K w.params).In h)
    (F : ∀ (w : World) (mg : Str → Option Value) (fa : Addr) (h : Heap), (K w.params).In h → h.Ns mainGlobals mg → mg d.name = some (.ref fa) →
      ∃ fd : FuncData, (∀ (s : Shared) (u : Value), BindsTo s fd ⟨[u], []⟩ [(x, u)]) ∧
        ∀ base : Heap, (K w.params).In base → base.Ns mainGlobals mg → FnOk l.prog w (K w.params) mg base (CX w) k fa fd [x] (sp w))
    (hsp : ∀ (w : World) (H : Hp) (a : Addr) (ns : List Int), ns.length ≤ n → qJl H → SqL (K w.params) H a (ns.map V.int) → sp w [.ref a] H (fun v _ => v = .bl true) fun _ _ _ => False)
    (hCX : ∀ (w : World) (H : Hp) (s : Shared) (e : Value) (s' : Shared), CX w [] H s (fun _ _ _ => False) e s' → False) :
    PySem.W.WalkO q loose XP YP l.row.toRowW d [] (fun f vs => PySem.call f vs) := by
  refine Att.attach_call hn hdf fun w s₀ s₁ mg mb fa o pm cd doc a vs ns G Y ho hd hcd hmg hobj hints hlen hg => ?_
  have KX := hY w _ Y
  obtain ⟨fd, hb, hF⟩ := F w mg fa _ KX G.T.g hmg
  exact qFt KX G.T.g G.T.b G.T.builtins G.T.nolimit hg hobj hints (Nat.le_trans hlen hn2) hr hF hb (fun H hO hS => hsp w H a ns hlen hO hS) fun H e s' => hCX w H s₁ e s'
end L2
namespace L2
open PySem PySem.Spec PyProof.Rows
def qG4 (s : Stmt) (j : Nat) : Stmt := match s with
  | .ClassDef _ _ _ body _ _ _ _ _ _ _ => body.getD j (.Pass ⟨0, 0, 0, 0⟩)
  | _ => .Pass ⟨0, 0, 0, 0⟩
def qJ (s : Stmt) : Arguments := match s with
  | .FunctionDef _ a _ _ _ _ _ _ _ _ => a
  | _ => { posonlyargs := [], args := [], vararg := none, kwonlyargs := [], kw_defaults := [], kwarg := none, defaults := [] }
def qI (s : Stmt) : List Stmt := match s with
  | .FunctionDef _ _ b _ _ _ _ _ _ _ => b
  | _ => []
def qC (s : Stmt) : Scope := match s with
  | .FunctionDef _ _ _ _ _ _ sc _ _ _ => sc
  | _ => { kind := .function, names := [], isGenerator := false, isCoroutine := false }
abbrev CX0 : CXT := fun _ _ _ _ _ _ => False
abbrev E0 : XK := fun _ _ _ => False
theorem qJ8 {X : Cx} : qDc CX0 X E0 := fun _ _ _ _ _ _ _ h => h.elim
structure Fun (K : PySem.W.Frag) (x qual : Str) (st : Stmt) (f : Addr) (fd : FuncData) : Prop where
  ex : ∃ (oc : Value) (od : Option Addr) (kV doc pm : Value) (an : Option Addr) (cdv ct : Value) (osl : Array (Option Value)),
    fd = PySem.W.fnOf x qual (qJ st) (qI st) (qC st) .none kV doc pm an cdv ct ∧ K.lookup f = some ⟨oc, od, .func fd, osl⟩ ∧ PySem.W.codeIn K cdv qual = true
  kp : PySem.W.keepIn K (.ref f) = true
section
variable {P : Program} {w : World} {K : PySem.W.Frag} {mg : Str → Option Value} {base : Heap}
theorem Fun.ok {x qual : Str} {st : Stmt} {f : Addr} {fd : FuncData} {N ps : List Str} {k : Nat} {sp : Sp} (F : Fun K x qual st f fd) (S : qQ N ps (qC st)) (len : ∀ vs H Q E, sp vs H Q E → vs.length = ps.length)
    (hbody : ∀ (cdv : Value) (A : Around) (outer : List Env) (s : Shared) (H : Hp) (vs : List V) (Q : VK) (E : XK), Room k (A.deeper (envOfC qual (qC st) s.heap.objs.size f cdv)) → sp vs H Q E →
      ∃ t, PSs (qFn CX0 P w K mg base N qual (qC st) f cdv A outer s H E).nox (qI st) t ∧ t { nx := fun _ H' => Q .non H', rt := Q } (wa N vs) H) : FnOk P w K mg base CX0 (k + 1) f fd ps sp := by
  obtain ⟨oc, od, kV, doc, pm, an, cdv, ct, osl, rfl, lk, hcd⟩ := F.ex
  refine qIh lk hcd S len fun A outer s H vs Q E hr hsp => ?_
  obtain ⟨t, h, q⟩ := hbody cdv A outer s H vs Q E hr hsp
  exact ⟨t, h.nox, q⟩
theorem Fun.binds {x qual : Str} {st : Stmt} {f : Addr} {fd : FuncData} {ps : List Str} (F : Fun K x qual st f fd)
    (h : ∀ (kV doc pm : Value) (an : Option Addr) (cdv ct : Value) (us : List Value), us.length = ps.length → bindArgs (PySem.W.fnOf x qual (qJ st) (qI st) (qC st) .none kV doc pm an cdv ct) ⟨us, []⟩ = pure (ps.zip us)) : Binds K fd ps [] := by
  obtain ⟨oc, od, kV, doc, pm, an, cdv, ct, osl, rfl, lk, hcd⟩ := F.ex
  exact .all (h kV doc pm an cdv ct)
theorem qO {x qual : Str} {st : Stmt} {f : Addr} {oc : Value} {od an : Option Addr} {osl : Array (Option Value)} {kV doc pm cdv ct : Value} (l : K.lookup f = some ⟨oc, od, .func (PySem.W.fnOf x qual (qJ st) (qI st) (qC st) .none kV doc pm an cdv ct), osl⟩)
    (c : PySem.W.codeIn K cdv qual = true) (k : PySem.W.keepIn K (.ref f) = true) : Fun K x qual st f (PySem.W.fnOf x qual (qJ st) (qI st) (qC st) .none kV doc pm an cdv ct) := ⟨⟨oc, od, kV, doc, pm, an, cdv, ct, osl, rfl, l, c⟩, k⟩
end
theorem qEp {A : Around} {k : Nat} (hr : Room k A) : A.units + 1 < cLine := Nat.lt_of_le_of_lt (Nat.add_le_add_left (by decide : 1 ≤ 64) _) hr.units
theorem qj {n : Nat} (h : n ≤ 1000) : n < sizeLine := Nat.lt_of_le_of_lt h (by decide)
section
variable {X : Cx}
theorem pv (i : Nat) {x : Str} {pos : Pos} (hN : X.N[i]? = some x := by rfl) (hv : Vis X.env.scope x := by first | exact Or.inl rfl | exact Or.inr (Or.inl rfl) | exact Or.inr (Or.inr rfl)) (hd : (x == ("__debug__" : Str)) = false := by decide)
    (hcd : (x == ("__classdict__" : Str)) = false := by decide) : PE X (.Name x pos) (qJd i) := qH9 hN hv hd hcd
end
theorem xq {A B : Prop} (h : B) : if false = true then A else B := by
  rw [if_neg Bool.false_ne_true]
  exact h
theorem ju {A B : Prop} (h : A) : if true = true then A else B := by
  rw [if_pos rfl]
  exact h
theorem xG {c A B : Prop} [Decidable c] (h1 : c → A) (h2 : ¬ c → B) : if c then A else B := by
  by_cases h : c
  · rw [if_pos h]
    exact h1 h
  · rw [if_neg h]
    exact h2 h
def Same (H H' : Hp) : Prop := ∀ b o, H b = some o → H' b = some o
theorem Same.refl (H : Hp) : Same H H := fun _ _ h => h
theorem Same.trans {H H1 H2 : Hp} (a : Same H H1) (b : Same H1 H2) : Same H H2 := fun c o h => b c o (a c o h)
theorem Same.free {H H' : Hp} (e : Same H H') {l : Addr} (h : H' l = Option.none) : H l = Option.none := by
  cases q : H l with
  | none => rfl
  | some o =>
    rw [e l o q] at h
    cases h
theorem Same.seq {K : PySem.W.Frag} {H H' : Hp} {a : Addr} {xs : List V} (e : Same H H') (h : SqL K H a xs) : SqL K H' a xs := by
  rcases h with (h | ⟨o, h⟩) | h
  · exact .inl (.inl (e _ _ h))
  · exact .inl (.inr ⟨o, e _ _ h⟩)
  · exact .inr h
end L2
namespace L2
open PySem PySem.Spec PyProof.Rows
section
variable {κ : Type} [DecidableEq κ]
def vx (kvs : List (κ × V)) (k : κ) : Option V := (kvs.find? fun kv => decide (kv.1 = k)).map (·.2)
def qC2 (kvs : List (κ × V)) (k : κ) (v : V) : List (κ × V) :=
  if (kvs.any fun kv => decide (kv.1 = k)) = true then kvs.map (fun kv => if kv.1 = k then (kv.1, v) else kv) else kvs ++ [(k, v)]
def qIs (kvs : List (κ × V)) (k : κ) : List (κ × V) := kvs.filter fun kv => decide (kv.1 ≠ k)
theorem zn {p : κ × V} {r : List (κ × V)} {k : κ} (e : p.1 = k) : vx (p :: r) k = some p.2 := by simp [vx, List.find?_cons, e]
theorem xM {p : κ × V} {r : List (κ × V)} {k : κ} (e : ¬ p.1 = k) : vx (p :: r) k = vx r k := by simp [vx, List.find?_cons, e]
theorem wx (k : κ) : ∀ kvs : List (κ × V), (kvs.any fun kv => decide (kv.1 = k)) = (vx kvs k).isSome
  | [] => rfl
  | p :: r => by
    rw [List.any_cons]
    by_cases e : p.1 = k
    · simp only [zn e, decide_eq_true e, Bool.true_or, Option.isSome_some]
    · rw [xM e, decide_eq_false e, Bool.false_or]; exact wx k r
theorem vf (kvs : List (κ × V)) (k : κ) (v : V) : (qC2 kvs k v).length ≤ kvs.length + 1 := by
  unfold qC2
  split
  · rw [List.length_map]; omega
  · rw [List.length_append, List.length_cons, List.length_nil]; omega
theorem qGl {kvs : List (κ × V)} {k : κ} (v : V) (h : vx kvs k = none) : qC2 kvs k v = kvs ++ [(k, v)] := by
  unfold qC2
  rw [wx, h]
  exact if_neg (by decide)
theorem RelO.isSome_eq {o : Option V} {u : Option Value} (r : RelO o u) : o.isSome = u.isSome := by
  cases o with
  | none => cases u with
    | none => rfl
    | some _ => exact (show False from r).elim
  | some _ => cases u with
    | none => exact (show False from r).elim
    | some _ => rfl
theorem RelO.getD {o : Option V} {u : Option Value} {d : V} {d' : Value} (r : RelO o u) (rd : RelV d d') : RelV (o.getD d) (u.getD d') := by
  cases o with
  | none => cases u with
    | none => exact rd
    | some _ => exact (show False from r).elim
  | some _ => cases u with
    | none => exact (show False from r).elim
    | some _ => exact r
theorem KV.val {kvs : List (κ × V)} {vs : List (κ × Value)} (r : KV kvs vs) (k : κ) : RelO (vx kvs k) (valueAt vs k) := by
  unfold KV at r
  induction r with
  | nil => exact True.intro
  | @cons p q ps qs h t ih =>
    obtain ⟨h1, h2⟩ := h
    by_cases e : p.1 = k
    · have e' : q.1 = k := h1.symm.trans e
      have b : valueAt (q :: qs) k = some q.2 := by simp [valueAt, List.find?_cons, e']
      rw [zn e, b]; exact h2
    · have e' : ¬ q.1 = k := fun z => e (h1.trans z)
      have b : valueAt (q :: qs) k = valueAt qs k := by simp [valueAt, List.find?_cons, e']
      rw [xM e, b]; exact ih
theorem KV.any {kvs : List (κ × V)} {vs : List (κ × Value)} (r : KV kvs vs) (k : κ) : (kvs.any fun kv => decide (kv.1 = k)) = vs.any fun kv => decide (kv.1 = k) := by
  unfold KV at r
  induction r with
  | nil => rfl
  | cons h t ih => rw [List.any_cons, List.any_cons, ih, h.1]
theorem KV.repl {kvs : List (κ × V)} {vs : List (κ × Value)} (r : KV kvs vs) (k : κ) {y : V} {u : Value} (ry : RelV y u) :
    KV (kvs.map fun kv => if kv.1 = k then (kv.1, y) else kv) (vs.map fun kv => if kv.1 = k then (kv.1, u) else kv) := by
  unfold KV at r ⊢
  induction r with
  | nil => exact .nil
  | @cons p q ps qs h t ih =>
    rw [List.map_cons, List.map_cons]
    refine .cons ?_ ih
    obtain ⟨h1, h2⟩ := h
    by_cases e : p.1 = k
    · rw [if_pos e, if_pos (h1.symm.trans e)]; exact ⟨h1, ry⟩
    · rw [if_neg e, if_neg (fun z => e (h1.trans z))]; exact ⟨h1, h2⟩
theorem KV.put {kvs : List (κ × V)} {vs : List (κ × Value)} (r : KV kvs vs) (k : κ) {y : V} {u : Value} (ry : RelV y u) : KV (qC2 kvs k y) (stored vs k u) := by
  unfold qC2 stored
  rw [r.any k]
  by_cases e : (vs.any fun kv => decide (kv.1 = k)) = true
  · rw [if_pos e, if_pos e]; exact r.repl k ry
  · rw [if_neg e, if_neg e]; exact Paired.snoc r ⟨rfl, ry⟩
theorem KV.drop {kvs : List (κ × V)} {vs : List (κ × Value)} (r : KV kvs vs) (k : κ) : KV (qIs kvs k) (without vs k) := by
  unfold KV at r ⊢
  unfold qIs without
  induction r with
  | nil => exact .nil
  | @cons p q ps qs h t ih =>
    obtain ⟨h1, h2⟩ := h
    rw [List.filter_cons, List.filter_cons]
    by_cases e : p.1 = k
    · have a : ¬ decide (p.1 ≠ k) = true := by simp [e]
      have b : ¬ decide (q.1 ≠ k) = true := by simp [h1.symm.trans e]
      rw [if_neg a, if_neg b]; exact ih
    · have e' : ¬ q.1 = k := fun z => e (h1.trans z)
      have a : decide (p.1 ≠ k) = true := by simp [e]
      have b : decide (q.1 ≠ k) = true := by simp [e']
      rw [if_pos a, if_pos b]; exact .cons ⟨h1, h2⟩ ih
theorem KV.keys {kvs : List (κ × V)} {vs : List (κ × Value)} (r : KV kvs vs) : kvs.map (·.1) = vs.map (·.1) := by
  unfold KV at r
  induction r with
  | nil => rfl
  | cons h t ih => rw [List.map_cons, List.map_cons, ih, h.1]
theorem KV.length {kvs : List (κ × V)} {vs : List (κ × Value)} (r : KV kvs vs) : kvs.length = vs.length := Paired.length r
end
theorem qHa {P : Program} {w : World} {k : Key} {u : Value} (r : RelV (kV k) u) : (jn P w).is k u = true := by
  cases k with
  | inl i => obtain ⟨t, e⟩ := (show ∃ t, u = Value.int i t from r); subst e; exact qBt P w i t
  | inr x => obtain ⟨t, e⟩ := (show ∃ t, u = Value.str x t from r); subst e; exact qB4 P w x t
theorem qBg {P : Program} {w : World} : ∀ {ks : List Key} {us : List Value}, Vals (ks.map kV) us → ItemsAre (jn P w) ks us
  | [], _, r => by rw [List.map_nil] at r; cases r; exact .nil
  | k :: ks, _, r => by
    rw [List.map_cons] at r
    cases r with
    | cons h t => exact .cons (qHa h) (qBg t)
abbrev KT (H : Hp) : List (List Key × V) → List (List Key × Addr × Value) → Prop := Paired fun p q => p.1 = q.1 ∧ H q.2.1 = some (.tup (p.1.map kV)) ∧ RelV p.2 q.2.2
theorem KT.val {H : Hp} {kvs : List (List Key × V)} {xs : List (List Key × Addr × Value)} (r : KT H kvs xs) (k : List Key) : RelO (vx kvs k) ((atKey xs k).map (·.2)) := by
  induction r with
  | nil => exact True.intro
  | @cons p q ps qs h t ih =>
    obtain ⟨h1, _, h2⟩ := h
    by_cases e : p.1 = k
    · have e' : q.1 = k := h1.symm.trans e
      have b : atKey (q :: qs) k = some q.2 := by simp [atKey, List.find?_cons, e']
      rw [zn e, b]; exact h2
    · have e' : ¬ q.1 = k := fun z => e (h1.trans z)
      have b : atKey (q :: qs) k = atKey qs k := by simp [atKey, List.find?_cons, e']
      rw [xM e, b]; exact ih
theorem KT.repl {H : Hp} {kvs : List (List Key × V)} {xs : List (List Key × Addr × Value)} (r : KT H kvs xs) (k : List Key) {y : V} {u : Value} (ry : RelV y u) :
    KT H (kvs.map fun kv => if kv.1 = k then (kv.1, y) else kv) (xs.map (putAt k u)) := by
  induction r with
  | nil => exact .nil
  | @cons p q ps qs h t ih =>
    rw [List.map_cons, List.map_cons]
    refine .cons ?_ ih
    obtain ⟨h1, h2, h3⟩ := h
    unfold putAt
    by_cases e : p.1 = k
    · rw [if_pos e, if_pos (h1.symm.trans e)]; exact ⟨h1, h2, ry⟩
    · rw [if_neg e, if_neg (fun z => e (h1.trans z))]; exact ⟨h1, h2, h3⟩
theorem KT.put {H : Hp} {kvs : List (List Key × V)} {xs : List (List Key × Addr × Value)} (r : KT H kvs xs) (k : List Key) {b : Addr} {y : V} {u : Value} (hb : H b = some (.tup (k.map kV))) (ry : RelV y u) :
    KT H (qC2 kvs k y) (storedH xs k b u) := by
  have e : (kvs.any fun kv => decide (kv.1 = k)) = (atKey xs k).isSome := by
    rw [wx, (r.val k).isSome_eq, Option.isSome_map]
  unfold qC2 storedH
  rw [e]
  by_cases q : (atKey xs k).isSome = true
  · rw [if_pos q, if_pos q]; exact r.repl k ry
  · rw [if_neg q, if_neg q]; exact Paired.snoc r ⟨rfl, hb, ry⟩
theorem KT.keeps {H H' : Hp} {kvs : List (List Key × V)} {xs : List (List Key × Addr × Value)} (r : KT H kvs xs) (ht : ∀ b ys, H b = some (.tup ys) → H' b = some (.tup ys)) : KT H' kvs xs :=
  Paired.mapP r fun _ _ z => ⟨z.1, ht _ _ z.2.1, z.2.2⟩
section
variable {P : Program} {w : World} {H : Hp} {h : Heap} {a : Addr}
theorem qIp {u : HO} (ok : HOk P w H h) (e : Rd H a u) : ObjOk P w H h a u := e.ok ok
theorem qFl {kvs : List (Key × V)} (ok : HOk P w H h) (e : Rd H a (.dK kvs)) : kvs.length ≤ sizeLine ∧ (a == sysModules) = false ∧ ∃ vs, KV kvs vs ∧ h.DictOf (jn P w) a vs :=
  show ObjOk P w H h a (.dK kvs) from qIp ok e
theorem qJp {kvs : List (Key × V)} (ok : HOk P w H h) (e : H a = some (.dK kvs)) : kvs.length ≤ sizeLine ∧ (a == sysModules) = false ∧ ∃ vs, KV kvs vs ∧ h.DictOf (jn P w) a vs := qFl ok (.inl e)
theorem qE7 {ks : List Key} (ok : HOk P w H h) (e : H a = some (.tup (ks.map kV))) : (tupleKind (jn P w)).is h ks a := by
  obtain ⟨_, its, r, o, h1, h2, n, h3⟩ := (show ObjOk P w H h a (.tup (ks.map kV)) from ok a _ e)
  exact ⟨o, its.toArray, n, h1, h2, h3, by simpa using qBg r⟩
theorem qG8 {kvs : List (List Key × V)} (ok : HOk P w H h) (e : Rd H a (.dT kvs)) : kvs.length ≤ sizeLine ∧ (a == sysModules) = false ∧
    ∃ xs, KT H kvs xs ∧ h.DictOfH (tupleKind (jn P w)) a xs := by
  obtain ⟨z, y, xs, r, o, es, ep, h1, h2, h3, h4, h5⟩ := (show ObjOk P w H h a (.dT kvs) from qIp ok e)
  refine ⟨z, y, xs, r, o, es, ep, h1, h2, h3, h4, fun x hx => ?_, h5⟩
  have all : ∀ {l : List (List Key × V)} {m : List (List Key × Addr × Value)}, KT H l m → ∀ x ∈ m, (tupleKind (jn P w)).is h x.1 x.2.1 := by
    intro l m q
    induction q with
    | nil => intro x hx; exact nomatch hx
    | @cons p q ps qs hq t ih =>
      intro x hx
      rcases List.mem_cons.mp hx with e | hx
      · subst e
        exact qE7 ok (by rw [← hq.1]; exact hq.2.1)
      · exact ih x hx
  exact all r x hx
theorem qJx {kvs : List (List Key × V)} (ok : HOk P w H h) (e : H a = some (.dT kvs)) : kvs.length ≤ sizeLine ∧ (a == sysModules) = false ∧
    ∃ xs, KT H kvs xs ∧ h.DictOfH (tupleKind (jn P w)) a xs := qG8 ok (.inl e)
end
def DGet (H : Hp) (a : Addr) (y : V) (r : Option V) : Prop :=
  (∃ kvs k, Rd H a (.dK kvs) ∧ y = kV k ∧ r = vx kvs k) ∨ ∃ kvs k b, Rd H a (.dT kvs) ∧ y = .ref b ∧ H b = some (.tup (k.map kV)) ∧ r = vx kvs k
def DPut (H : Hp) (a : Addr) (y v : V) (H' : Hp) : Prop :=
  (∃ kvs k, H a = some (.dK kvs) ∧ y = kV k ∧ kvs.length < sizeLine ∧ H' = upd H a (.dK (qC2 kvs k v))) ∨
  ∃ kvs k b, H a = some (.dT kvs) ∧ y = .ref b ∧ H b = some (.tup (k.map kV)) ∧ kvs.length < sizeLine ∧ H' = upd H a (.dT (qC2 kvs k v))
theorem DGet.k {H : Hp} {a : Addr} {kvs : List (Key × V)} {k : Key} (e : H a = some (.dK kvs)) : DGet H a (kV k) (vx kvs k) := .inl ⟨kvs, k, .inl e, rfl, rfl⟩
theorem DGet.t {H : Hp} {a b : Addr} {kvs : List (List Key × V)} {k : List Key} (e : H a = some (.dT kvs)) (eb : H b = some (.tup (k.map kV))) : DGet H a (.ref b) (vx kvs k) := .inr ⟨kvs, k, b, .inl e, rfl, eb, rfl⟩
theorem DPut.k {H : Hp} {a : Addr} {kvs : List (Key × V)} {k : Key} {v : V} (e : H a = some (.dK kvs)) (hl : kvs.length < sizeLine) : DPut H a (kV k) v (upd H a (.dK (qC2 kvs k v))) := .inl ⟨kvs, k, e, rfl, hl, rfl⟩
theorem DPut.t {H : Hp} {a b : Addr} {kvs : List (List Key × V)} {k : List Key} {v : V} (e : H a = some (.dT kvs)) (eb : H b = some (.tup (k.map kV))) (hl : kvs.length < sizeLine) :
    DPut H a (.ref b) v (upd H a (.dT (qC2 kvs k v))) := .inr ⟨kvs, k, b, e, rfl, eb, hl, rfl⟩
section
variable {X : Cx} {pins : List (Addr × Obj)} {σ : St} {H : Hp} {s : Shared} {a : Addr} {y v : V} {u r : Value} {o : Option V} {A : Around} {E : Value → Shared → Prop}
theorem Inv.big (I : Inv X pins σ H s) : sysModules < s.heap.objs.size := by
  have h : mainGlobals < s.heap.objs.size := (I.mod.glob.keeps I.bk).lt
  exact Nat.lt_trans (by decide) h
theorem qE8 {Q : Value → Shared → Prop} (hu : A.units + 1 < cLine) (I : Inv X pins σ H s) (g : DGet H a y (some v)) (ry : RelV y u) (h : ∀ w' s', Inv X pins σ H s' → RelV v w' → Q w' s') :
    wpAny (model X.prog X.w) A (getItem (.ref a) u) Q E s := by
  rcases g with ⟨kvs, k, e, ey, l⟩ | ⟨kvs, k, b, e, ey, eb, l⟩
  · subst ey
    obtain ⟨z, hd, vs, rel, dd⟩ := qFl I.hok e
    obtain ⟨w', hw, rw'⟩ := RelO.some_of (v := v) (o := valueAt vs k) (by rw [l]; exact rel.val k)
    exact wpAny_getItem_of (qHa ry) dd.mapOf hw (h w' _ (I.tok _) rw')
  · subst ey
    cases (show u = Value.ref b from ry)
    obtain ⟨z, hd, xs, rel, dd⟩ := qG8 I.hok e
    obtain ⟨w', hw, rw'⟩ := RelO.some_of (v := v) (o := (atKey xs k).map (·.2)) (by rw [l]; exact rel.val k)
    obtain ⟨p, hp, hp2⟩ := Option.map_eq_some_iff.mp hw
    refine wpAny_getItem_heap (tupleKind_room_in1 hu) (qE7 I.hok eb) dd hp ?_
    rw [hp2]
    exact h w' _ (I.tok _) rw'
theorem qD7 {h' : Heap} {t' : Nat} {ob : HO} (I : Inv X pins σ H s) (mu : Mut (H a)) (hs : Heap.SameBut a s.heap h') (he : ∃ q, h'.get? a = some q) (new : ObjOk X.prog X.w (upd H a ob) h' a ob) :
    Inv X pins σ (upd H a ob) { s with heap := h', toks := t' } :=
  I.write (x := a) (e := a) mu (.inl rfl) (fun b q hb z => (hs.2 b hb).trans z) he new
theorem qIf {P : Program} {w : World} {H' : Hp} {h' : Heap} {kvs : List (Key × V)} {vs : List (Key × Value)} (z : kvs.length ≤ sizeLine) (hd : (a == sysModules) = false) (rel : KV kvs vs) (dd : h'.DictOf (jn P w) a vs) :
    ObjOk P w H' h' a (.dK kvs) := ⟨z, hd, vs, rel, dd⟩
theorem qD6 {H' : Hp} {Q : Unit → Shared → Prop} (hu : A.units + 1 < cLine) (I : Inv X pins σ H s) (g : DPut H a y v H') (ry : RelV y u) (rv : RelV v r) (h : ∀ s', Inv X pins σ H' s' → Q () s') :
    wpAny (model X.prog X.w) A (setItem (.ref a) u r) Q E s := by
  rcases g with ⟨kvs, k, e, ey, l, eH⟩ | ⟨kvs, k, b, e, ey, eb, l, eH⟩
  · subst ey eH
    obtain ⟨z, hd, vs, rel, dd⟩ := qJp I.hok e
    have hz : vs.length ≤ sizeLine := by rw [← rel.length]; exact z
    have hl : (qC2 kvs k v).length ≤ sizeLine := by have := vf kvs k v; omega
    refine wpAny_setItem_pairs (hsz := hz) (qHa ry) dd fun h' dd' hs => h _ ?_
    have he : ∃ q, h'.get? a = some q := let ⟨q, _, _, hq, _⟩ := dd'; ⟨q, hq⟩
    exact qD7 I (by rw [e]; exact True.intro) hs he (qIf hl hd (rel.put k rv) dd')
  · subst ey eH
    cases (show u = Value.ref b from ry)
    obtain ⟨z, hd, xs, rel, dd⟩ := qJx I.hok e
    have hz : xs.length ≤ sizeLine := by rw [← Paired.length rel]; exact z
    have hl : (qC2 kvs k v).length ≤ sizeLine := by have := vf kvs k v; omega
    refine wpAny_setItem_heap (hsz := hz) (tupleKind_room_in1 hu) (qE7 I.hok eb) dd fun h' dd' hs => h _ ?_
    obtain ⟨q, es, ep, hq, h2, h3, h4, _, h5⟩ := dd'
    refine qD7 I (by rw [e]; exact True.intro) hs ⟨q, hq⟩ ⟨hl, hd, _, (rel.put k eb rv).keeps fun c ys ec => ?_, q, es, ep, hq, h2, h3, h4, h5⟩
    rw [qV (qI7 ec e (fun z => nomatch z))]
    exact ec
end
section
variable {X : Cx} {pins : List (Addr × Obj)} {σ : St} {H : Hp} {s : Shared} {a : Addr} {kvs : List (Key × V)} {k : Key} {u : Value} {A : Around} {E : Value → Shared → Prop}
end
def qKm (i : Expr) : Prop := ∀ ov iv, subscripted i false ov iv = operate [ov, iv] (getItem ov iv)
theorem qHq {prog : Program} {w : World} {A : Around} {E : Value → Shared → Prop} {s : Shared} {env : Env} {value slice : Expr} {pos : Pos} {T id : String} {Q : Value → Shared → Prop}
    (hl : typeLookup (.type T) "__getitem__" = pure (some (.builtin id))) (hs : qKm slice)
    (h : wpAny (model prog w) A (eval value env) (fun o s₁ => wpAny (model prog w) A (eval slice env) (fun i s₂ => s₂.TypeIs o T ∧ wpAny (model prog w) A (getItem o i) Q E s₂) E s₁) E s) :
    wpAny (model prog w) A (eval (.Subscript value slice pos) env) Q E s := by
  refine Subscript_ (wpAny_mono h (fun o s₁ h₁ => wpAny_mono h₁ (fun i s₂ h₂ => ?_) fun _ _ x => x) fun _ _ x => x)
  obtain ⟨hT, h₂⟩ := h₂
  unfold subscriptTail
  refine wpAny_bind ?_
  rw [getitemInPython_of_ne hT.not_modules]
  refine wpAny_bind (wpAny_specialOf hT hl ?_)
  have fin : wpAny (model prog w) A (subscripted slice false o i) (fun r s₃ => wpAny (model prog w) A (letTemporaryGo value o r >>= fun _ => pure r) Q E s₃) E s₂ := by
    rw [hs o i]
    exact wpAny_operating (wpAny_mono h₂ (fun r s₃ h₃ => wpAny_bind (wpAny_letTemporaryGo (wpAny_pure h₃))) fun _ _ x => x)
  first
    | exact wpAny_pure (wpAny_bind fin)
    | exact wpAny_bind (wpAny_pure (wpAny_bind fin))
    | exact wpAny_bind fin
theorem qBx {X : Cx} {pins : List (Addr × Obj)} {σ : St} {H : Hp} {s : Shared} {a : Addr} {y : V} {o : Option V} (I : Inv X pins σ H s) (g : DGet H a y o) : s.TypeIs (.ref a) "dict" := by
  rcases g with ⟨kvs, k, e, _, _⟩ | ⟨kvs, k, b, e, _, _, _⟩
  · obtain ⟨_, _, vs, _, dd⟩ := qFl I.hok e
    exact dd.typeIs
  · obtain ⟨_, _, xs, _, dd⟩ := qG8 I.hok e
    exact dd.typeIs
def qJs (td ty : TE) : TE := fun σ H Q => td σ H fun x H1 => ty σ H1 fun y H2 => ∃ a v, x = .ref a ∧ DGet H2 a y (some v) ∧ Q v H2
def qJr (td ty tv : TE) : TS := fun D σ H => tv σ H fun v H1 => td σ H1 fun x H2 => ty σ H2 fun y H3 => ∃ a H4, x = .ref a ∧ DPut H3 a y v H4 ∧ D.nx σ H4
section
variable {X : Cx} {o i e value : Expr} {pos pos' tpos : Pos} {td ty tv : TE}
theorem wP (hu : X.A.units + 1 < cLine) (ho : PE X o td) (hi : PE X i ty) (hs : qKm i) : PE X (.Subscript o i pos) (qJs td ty) := by
  intro pins s σ H Q I h
  refine qHq PySem.F.slot_dict_getitem.lookup hs (thn (ho pins s σ H _ I h) fun u s1 ⟨x, H1, I1, rx, q1⟩ => thn (hi pins s1 σ H1 _ I1 q1) fun iv s2 ⟨y, H2, I2, ry, a, v, ex, g, q2⟩ => ?_)
  subst ex
  obtain rfl : u = Value.ref a := rx
  exact ⟨qBx I2 g, qE8 hu I2 g ry fun w' s3 I3 rw' => ⟨v, H2, I3, rw', q2⟩⟩
theorem qHf (hu : X.A.units + 1 < cLine) (ho : PE X o td) (hi : PE X i ty) (hv : PE X value tv) (hs : swapsWith value (some (.Subscript o i pos')) pos.line X.env = pure false) :
    PS X (.Assign [.Subscript o i pos'] value pos) (qJr td ty tv) := by
  intro pins s σ H D I h
  refine wpAny_Assign_Subscript (thn (hv pins s σ H _ I h) fun r s1 ⟨v, H1, I1, rv, q1⟩ => thn (ho pins s1 σ H1 _ I1 q1) fun u s2 ⟨x, H2, I2, rx, q2⟩ => thn (hi pins s2 σ H2 _ I2 q2) fun iv s3 ⟨y, H3, I3, ry, a, H4, ex, g, q3⟩ => ?_) hs
  subst ex
  obtain rfl : u = Value.ref a := rx
  exact qD6 hu I3 g ry rv fun s4 I4 => ⟨σ, H4, I4, q3⟩
end
theorem qGq {P : Program} {w : World} {H : Hp} (h : Heap) (hb : sysModules < h.objs.size) : ObjOk P w H (h.push { cls := .type "dict", data := .dict #[] }) h.objs.size (.dK []) :=
  ⟨Nat.zero_le _, beq_eq_false_iff_ne.mpr (Ne.symm (Nat.ne_of_lt hb)), [], .nil, Heap.DictOf.new h⟩
def qIc : TE := fun _ H Q => ∀ p, H p = none → Q (.ref p) (upd H p (.dK []))
section
variable {X : Cx} {pos : Pos}
theorem qGt : PE X (.Dict [] [] pos) qIc := fun pins s σ H Q I h =>
  wpAny_Dict_empty ⟨.ref s.heap.objs.size, _, I.laid (a := s.heap.objs.size) (o := .dK []) (t' := s.toks) (fun _ _ q => Heap.get?_push_of_some _ q) (Nat.le_refl _) (qGq s.heap I.big), rfl, h _ (I.hok.fresh (Nat.le_refl _))⟩
end
structure M1 (X : Cx) (o : Expr) (m : Str) (apos : Pos) (e : Expr) (cpos : Pos) : Prop where
  base : attributeBase o m X.env (eval o X.env) = eval o X.env
  few : ((backTo cpos (starEach [e] X.env)).all (fun x => !x.1) && (backToKw cpos (keywordEach [] X.env)).all (fun x => x.1.isSome)
    && decide (([e] : List Expr).length + ([] : List Keyword).length + (if ([] : List Keyword).isEmpty then 0 else 1) < 30)) = true
  line : (apos.endLine == cpos.line) = true
  trees : backTo cpos (starEach [e] X.env) = [(false, eval e X.env)]
structure M2 (X : Cx) (o : Expr) (m : Str) (apos : Pos) (e f : Expr) (cpos : Pos) : Prop where
  base : attributeBase o m X.env (eval o X.env) = eval o X.env
  few : ((backTo cpos (starEach [e, f] X.env)).all (fun x => !x.1) && (backToKw cpos (keywordEach [] X.env)).all (fun x => x.1.isSome)
    && decide (([e, f] : List Expr).length + ([] : List Keyword).length + (if ([] : List Keyword).isEmpty then 0 else 1) < 30)) = true
  line : (apos.endLine == cpos.line) = true
  trees : backTo cpos (starEach [e, f] X.env) = [(false, eval e X.env), (false, eval f X.env)]
section
variable {X : Cx} {pins : List (Addr × Obj)} {σ : St} {H : Hp} {s : Shared} {a : Addr} {y d : V} {u r : Value} {o : Option V} {A : Around} {E : Value → Shared → Prop}
end
section
variable {X : Cx} {o e f : Expr} {apos cpos : Pos} {td ty tx : TE}
end
section
variable {X : Cx} {pins : List (Addr × Obj)} {σ : St} {H : Hp} {s : Shared} {a : Addr} {kvs : List (Key × V)} {A : Around} {E : Value → Shared → Prop}
end
section
variable {X : Cx} {pins : List (Addr × Obj)} {σ : St} {H : Hp} {s : Shared} {a : Addr} {y : V} {u : Value} {A : Around} {E : Value → Shared → Prop}
end
end L2
namespace Att
open PySem PySem.W PySem.Calls PyProof.Rows
section
variable {prog : Program} {w : World} {A : Around} {E : Value → Shared → Prop} {s : Shared} {K : Frag}
end
end Att
namespace L2
open PySem PySem.Spec PyProof.Rows
end L2
namespace L2
open PySem PySem.Spec PyProof.Rows
end L2
namespace L2
open PySem PySem.Spec PyProof.Rows
section
variable {P : Program} {w : World} {K : PySem.W.Frag} {mg : Str → Option Value} {base : Heap}
end
section
variable {X : Cx}
end
section
variable {κ : Type} [DecidableEq κ]
end
end L2
namespace Mt
theorem qH3 (a b : Int) : a.fmod b = a - b * a.fdiv b := by
  have := Int.fmod_add_mul_fdiv a b
  omega
theorem qC9 (a b : Int) : Int.gcd b (a.fmod b) = Int.gcd a b := by
  apply Nat.dvd_antisymm
  · refine Int.dvd_gcd ?_ (Int.gcd_dvd_left b (a.fmod b))
    have h1 : ((Int.gcd b (a.fmod b) : Nat) : Int) ∣ b := Int.gcd_dvd_left ..
    have h2 : ((Int.gcd b (a.fmod b) : Nat) : Int) ∣ a.fmod b := Int.gcd_dvd_right ..
    have h3 := Int.dvd_add h2 (Int.dvd_trans h1 (Int.dvd_mul_right b (a.fdiv b)))
    have e : a.fmod b + b * a.fdiv b = a := Int.fmod_add_mul_fdiv a b
    rwa [e] at h3
  · refine Int.dvd_gcd (Int.gcd_dvd_right ..) ?_
    rw [qH3]
    exact Int.dvd_sub (Int.gcd_dvd_left ..) (Int.dvd_trans (Int.gcd_dvd_right ..) (Int.dvd_mul_right ..))
theorem qE0 (a b : Int) (h : b ≠ 0) : (a.fmod b).natAbs < b.natAbs := by
  rcases Int.lt_or_gt_of_ne h with h | h
  · have h1 := Int.fmod_lt_of_pos (-a) (show 0 < -b by omega)
    have h2 := Int.fmod_nonneg_of_pos (-a) (show 0 < -b by omega)
    rw [Int.neg_fmod_neg] at h1 h2
    omega
  · have h1 := Int.fmod_lt_of_pos a h
    have h2 := Int.fmod_nonneg_of_pos a h
    omega
def sg (t b : Int) : Int := if b < 0 then -((Int.gcd t b : Nat) : Int) else ((Int.gcd t b : Nat) : Int)
def xK (t b : Int) : Int := t.fdiv (sg t b)
def jk (t b : Int) : Int := b.fdiv (sg t b)
theorem kd {t b : Int} (h : b ≠ 0) : 0 < Int.gcd t b := by
  rcases Nat.eq_zero_or_pos (Int.gcd t b) with z | z
  · rw [Int.gcd_eq_zero_iff] at z
    exact absurd z.2 h
  · exact z
theorem qJ5 {t b : Int} (h : b ≠ 0) : sg t b ≠ 0 := by
  have := kd (t := t) h
  unfold sg; split <;> omega
theorem qGe (t b : Int) : sg t b ∣ t := by
  unfold sg; split
  · exact Int.neg_dvd.mpr (Int.gcd_dvd_left ..)
  · exact Int.gcd_dvd_left ..
theorem qF7 (t b : Int) : sg t b ∣ b := by
  unfold sg; split
  · exact Int.neg_dvd.mpr (Int.gcd_dvd_right ..)
  · exact Int.gcd_dvd_right ..
theorem qC3 (t b : Int) : (sg t b).natAbs = Int.gcd t b := by
  unfold sg; split <;> omega
theorem qGi (t b : Int) : xK t b * sg t b = t := Int.fdiv_mul_cancel (qGe t b)
theorem qEk (t b : Int) : jk t b * sg t b = b := Int.fdiv_mul_cancel (qF7 t b)
theorem xo {t b : Int} (h : b ≠ 0) : 0 < jk t b := by
  have e := qEk t b
  have g := kd (t := t) h
  by_cases hb : b < 0
  · have s : sg t b = -((Int.gcd t b : Nat) : Int) := by unfold sg; rw [if_pos hb]
    rw [s] at e
    rcases Int.lt_trichotomy (jk t b) 0 with z | z | z
    · have := Int.mul_pos_of_neg_of_neg z (show -((Int.gcd t b : Nat) : Int) < 0 by omega)
      omega
    · rw [z] at e; omega
    · exact z
  · have s : sg t b = ((Int.gcd t b : Nat) : Int) := by unfold sg; rw [if_neg hb]
    rw [s] at e
    rcases Int.lt_trichotomy (jk t b) 0 with z | z | z
    · have := Int.mul_neg_of_neg_of_pos z (show 0 < ((Int.gcd t b : Nat) : Int) by omega)
      omega
    · rw [z] at e; omega
    · exact z
theorem qCh {t b : Int} (h : b ≠ 0) : Int.gcd (xK t b) (jk t b) = 1 := by
  have e := Int.gcd_mul_right (xK t b) (sg t b) (jk t b)
  rw [qGi, qEk, qC3] at e
  have g := kd (t := t) h
  have e' : 1 * Int.gcd t b = (xK t b).gcd (jk t b) * Int.gcd t b := by omega
  exact (Nat.eq_of_mul_eq_mul_right g e').symm
theorem zV (t b : Int) : xK t b * b = t * jk t b := by
  have e1 := qGi t b
  have e2 := qEk t b
  calc xK t b * b = xK t b * (jk t b * sg t b) := by rw [e2]
    _ = (xK t b * sg t b) * jk t b := by rw [Int.mul_comm (jk t b), Int.mul_assoc]
    _ = t * jk t b := by rw [e1]
theorem vC {t b : Int} (h : b ≠ 0) : (xK t b).natAbs ≤ t.natAbs := by
  have e := congrArg Int.natAbs (qGi t b)
  rw [Int.natAbs_mul, qC3] at e
  have g := kd (t := t) h
  rw [← e]
  exact Nat.le_mul_of_pos_right _ g
theorem zh {t b : Int} (h : b ≠ 0) : (jk t b).natAbs ≤ b.natAbs := by
  have e := congrArg Int.natAbs (qEk t b)
  rw [Int.natAbs_mul, qC3] at e
  have g := kd (t := t) h
  have := Nat.le_mul_of_pos_right (jk t b).natAbs g
  omega
end Mt
namespace Mt
theorem qH0 {p q p' q' : Int} (hq : 0 < q) (hq' : 0 < q') (g : Int.gcd p q = 1) (g' : Int.gcd p' q' = 1) (c : p * q' = p' * q) : p = p' ∧ q = q' := by
  have d1 : q ∣ q' := by
    have h : q ∣ p * q' := by rw [c]; exact Int.dvd_mul_left ..
    have n : q.natAbs ∣ p.natAbs * q'.natAbs := by
      have := Int.natAbs_dvd_natAbs.mpr h
      rwa [Int.natAbs_mul] at this
    have co : Nat.Coprime q.natAbs p.natAbs := by
      show Nat.gcd q.natAbs p.natAbs = 1
      rw [Nat.gcd_comm]; exact g
    exact Int.natAbs_dvd_natAbs.mp (Nat.Coprime.dvd_of_dvd_mul_left co n)
  have d2 : q' ∣ q := by
    have h : q' ∣ p' * q := by rw [← c]; exact Int.dvd_mul_left ..
    have n : q'.natAbs ∣ p'.natAbs * q.natAbs := by
      have := Int.natAbs_dvd_natAbs.mpr h
      rwa [Int.natAbs_mul] at this
    have co : Nat.Coprime q'.natAbs p'.natAbs := by
      show Nat.gcd q'.natAbs p'.natAbs = 1
      rw [Nat.gcd_comm]; exact g'
    exact Int.natAbs_dvd_natAbs.mp (Nat.Coprime.dvd_of_dvd_mul_left co n)
  have e : q = q' := by
    have h1 := Int.le_of_dvd hq' d1
    have h2 := Int.le_of_dvd hq d2
    omega
  subst e
  exact ⟨Int.eq_of_mul_eq_mul_right (by omega) c, rfl⟩
theorem qCs {t b p q : Int} (h : b ≠ 0) (hq : 0 < q) (g : Int.gcd p q = 1) (c : p * b = t * q) : xK t b = p ∧ jk t b = q := by
  have e := zV t b
  have k : xK t b * q = p * jk t b := by
    have : (xK t b * q) * b = (p * jk t b) * b := by
      calc (xK t b * q) * b = (xK t b * b) * q := by rw [Int.mul_assoc, Int.mul_comm q b, ← Int.mul_assoc]
        _ = (t * jk t b) * q := by rw [e]
        _ = (t * q) * jk t b := by rw [Int.mul_assoc, Int.mul_comm (jk t b) q, ← Int.mul_assoc]
        _ = (p * b) * jk t b := by rw [c]
        _ = (p * jk t b) * b := by rw [Int.mul_assoc, Int.mul_comm b, ← Int.mul_assoc]
    exact Int.eq_of_mul_eq_mul_right h this
  exact qH0 (xo h) hq (qCh h) g k
theorem qC8 {p q : Int} (hq : 0 < q) (g : Int.gcd p q = 1) : xK p q = p ∧ jk p q = q := qCs (by omega) hq g rfl
theorem j8 {p q : Int} (hq : 0 < q) : p.fdiv q * q ≤ p ∧ p < (p.fdiv q + 1) * q := by
  have e := Int.fmod_add_mul_fdiv p q
  have h1 := Int.fmod_nonneg_of_pos p hq
  have h2 := Int.fmod_lt_of_pos p hq
  have c : q * p.fdiv q = p.fdiv q * q := Int.mul_comm ..
  have d : (p.fdiv q + 1) * q = p.fdiv q * q + q := by rw [Int.add_mul, Int.one_mul]
  omega
end Mt
namespace Mt
theorem wL {A B C D : Int} (hB : 0 < B) (hD : 0 < D) (h : A * D = C * B) : A.fdiv B = C.fdiv D := by
  obtain ⟨h1, h2⟩ := j8 (p := A) hB
  obtain ⟨h3, h4⟩ := j8 (p := C) hD
  generalize A.fdiv B = f at h1 h2 ⊢
  generalize C.fdiv D = g at h3 h4 ⊢
  have k1 : f * B * D ≤ A * D := Int.mul_le_mul_of_nonneg_right h1 (by omega)
  have k2 : C * B < (g + 1) * D * B := Int.mul_lt_mul_of_pos_right h4 hB
  have k3 : g * D * B ≤ C * B := Int.mul_le_mul_of_nonneg_right h3 (by omega)
  have k4 : A * D < (f + 1) * B * D := Int.mul_lt_mul_of_pos_right h2 hD
  have p := Int.mul_pos hB hD
  have e1 : f * (B * D) < (g + 1) * (B * D) := by grind
  have e2 : g * (B * D) < (f + 1) * (B * D) := by grind
  have := Int.lt_of_mul_lt_mul_right e1 (by omega)
  have := Int.lt_of_mul_lt_mul_right e2 (by omega)
  omega
def plP (p q r s k : Int) : Int := xK (p * s + k * r * q) (q * s)
def plQ (p q r s k : Int) : Int := jk (p * s + k * r * q) (q * s)
theorem qJc {p q r s k : Int} (hq : 0 < q) (hs : 0 < s) : 0 < plQ p q r s k := xo (Int.ne_of_gt (Int.mul_pos hq hs))
theorem qFk {p q r s : Int} (hq : 0 < q) (hs : 0 < s) (g : Int.gcd p q = 1) : plP p q r s 0 = p ∧ plQ p q r s 0 = q := by
  refine qCs (Int.ne_of_gt (Int.mul_pos hq hs)) hq g ?_
  grind
theorem qHk {p q r s k : Int} (hq : 0 < q) (hs : 0 < s) : (plP p q r s k).natAbs ≤ (p * s + k * r * q).natAbs := vC (Int.ne_of_gt (Int.mul_pos hq hs))
theorem qHn {p q r s k : Int} (hq : 0 < q) (hs : 0 < s) : (plQ p q r s k).natAbs ≤ (q * s).natAbs := zh (Int.ne_of_gt (Int.mul_pos hq hs))
end Mt
namespace Mt
def InR (N D m : Int) : Prop := 0 ≤ N ∧ N < m * D
theorem qHv {N D m : Int} (hD : 0 < D) : InR N D m ↔ (0 ≤ N.fdiv D ∧ N.fdiv D < m) := by
  obtain ⟨h1, h2⟩ := j8 (p := N) hD
  generalize N.fdiv D = f at h1 h2 ⊢
  unfold InR
  constructor
  · rintro ⟨a, b⟩
    constructor
    · have : 0 * D < (f + 1) * D := by rw [Int.zero_mul]; omega
      have := Int.lt_of_mul_lt_mul_right this (by omega)
      omega
    · exact Int.lt_of_mul_lt_mul_right (a := D) (by omega) (by omega)
  · rintro ⟨a, b⟩
    constructor
    · have := Int.mul_nonneg a (by omega : 0 ≤ D)
      omega
    · have : (f + 1) * D ≤ m * D := Int.mul_le_mul_of_nonneg_right (by omega) (by omega)
      omega
def qAw (N R D m : Int) : Int :=
  if R = 0 then 1000000 else if ¬ (0 ≤ N.fdiv D ∧ N.fdiv D < m) then 0
  else if 1000000 < (if R < 0 then N.fdiv (-R) + 1 else -((N - m * D).fdiv R)) then 1000000 else (if R < 0 then N.fdiv (-R) + 1 else -((N - m * D).fdiv R))
end Mt
set_option maxHeartbeats 4000000
namespace L3
open PySem PySem.Spec PyProof.Rows L2
def CMulB (i j : Int) : Prop := CMul i j ∨ (i.natAbs < 2 ^ 60000 ∧ j.natAbs < 2 ^ 60000)
theorem kE {i : Int} (h : i.natAbs < 2 ^ 60000) : Builtin.Int.intBits i ≤ 2 ^ 20 := by
  unfold Builtin.Int.intBits
  split
  · exact Nat.zero_le _
  · rename_i h0
    have hz : i.natAbs ≠ 0 := by
      intro z
      apply h0
      have : i = 0 := by omega
      rw [this]; rfl
    have := (Nat.log2_lt hz).mpr h
    have e : (2 : Nat) ^ 20 = 1048576 := by decide
    omega
theorem CMulB.ok {i j : Int} (h : CMulB i j) : IntMulOk i j := by
  rcases h with h | ⟨h1, h2⟩
  · exact h.ok
  · exact IntMulOk.of_bits (kE h1) (kE h2)
def CDivB (_ j : Int) : Prop := j ≠ 0 ∧ j.natAbs < 2 ^ 8000
theorem CDivB.ok {i j : Int} (h : CDivB i j) : Builtin.divisionGoesByPylong i j = false := by
  refine PyProof.noPylong_of_log2 ?_
  have hz : j.natAbs ≠ 0 := by have := h.1; omega
  have := (Nat.log2_lt hz).mpr h.2
  omega
section
variable {X : Cx}
theorem jA : OpR X (binaryOp .Mult) (rI CMulB fun i j => .int (i * j)) := opI fun _ _ _ _ _ _ _ hc q => mul_int q hc.ok
theorem qf : OpR X (binaryOp .FloorDiv) (rI CDivB fun i j => .int (i.fdiv j)) := opI fun _ _ _ _ _ _ _ hc q => floordiv_int hc.1 q (.inl hc.ok)
theorem j6 : CallR X (.builtin "isinstance") (fun xs H Q => ∃ x c t b, xs = [x, c] ∧ qCx X.K H x t ∧
    (∃ n, c = .ty n ∧ PySem.W.kitOne X.K t (.type n) = some b ∨ ∃ a, c = .ref a ∧ PySem.W.kitOne X.K t (.ref a) = some b) ∧ Q (.bl b) H) := by
  intro pins s σ H xs us Q I r h
  obtain ⟨x, c, t, b, rfl, ty, hk, q⟩ := h
  obtain ⟨u, u', rfl, rx, rc⟩ := qHi r
  obtain ⟨n, ⟨rfl, e⟩ | ⟨a, rfl, e⟩⟩ := hk
  · cases rc
    exact qAl I rx ty e fun tk => ⟨.bl b, H, I.tok _, rfl, q⟩
  · cases rc
    exact qAl I rx ty e fun tk => ⟨.bl b, H, I.tok _, rfl, q⟩
def qDy (xs ys : List V) : Bool := (List.range (min xs.length ys.length)).all (fun j => eqV (xs.getD j .non) (ys.getD j .non)) && xs.length == ys.length
theorem wD {A : Around} {s : Shared} {xs ys : List V} {us ws : List Value} (r1 : Vals xs us) (r2 : Vals ys ws) (f1 : xs.all xL = true) (f2 : ys.all xL = true) :
    ∀ j (h1 : j < us.toArray.size) (h2 : j < ws.toArray.size), SeqAt.EqAt A s us.toArray[j] ws.toArray[j] (eqV (xs.getD j .non) (ys.getD j .non)) := by
  intro j h1 h2
  have l1 := r1.length
  have l2 := r2.length
  rw [List.size_toArray] at h1 h2
  have g1 : xs[j]? = some xs[j] := List.getElem?_eq_getElem (by omega)
  have g2 : ys[j]? = some ys[j] := List.getElem?_eq_getElem (by omega)
  obtain ⟨u, e1, q1⟩ := r1.get g1
  obtain ⟨w, e2, q2⟩ := r2.get g2
  have d1 : xs.getD j .non = xs[j] := by rw [List.getD_eq_getElem?_getD, g1]; rfl
  have d2 : ys.getD j .non = ys[j] := by rw [List.getD_eq_getElem?_getD, g2]; rfl
  have c1 : us.toArray[j] = u := by
    have := (List.getElem?_eq_some_iff.mp e1).2
    simpa using this
  have c2 : ws.toArray[j] = w := by
    have := (List.getElem?_eq_some_iff.mp e2).2
    simpa using this
  rw [d1, d2, c1, c2]
  exact qBc q1 q2 (List.all_eq_true.mp f1 _ (List.getElem_mem _)) (List.all_eq_true.mp f2 _ (List.getElem_mem _))
def qK2 (K : PySem.W.Frag) (neg : Bool) : R2 := fun x y H Q => ∃ p q xs ys, x = .ref p ∧ y = .ref q ∧ SqT K H p xs ∧ SqT K H q ys ∧ xs.all xL = true ∧ ys.all xL = true ∧ Q (.bl (if neg then !qDy xs ys else qDy xs ys)) H
theorem qIz (hu : X.A.units < cLine) : OpR X (compareOp .Eq) (qK2 X.K false) := by
  intro pins s σ H x y v u Q I rx ry h
  obtain ⟨p, q, xs, ys, rfl, rfl, h1, h2, f1, f2, k⟩ := h
  cases rx; cases ry
  obtain ⟨us, r1, t1, _⟩ := I.tuple h1
  obtain ⟨ws, r2, t2, _⟩ := I.tuple h2
  have l1 : us.toArray.size = xs.length := by rw [List.size_toArray]; exact r1.length.symm
  have l2 : ws.toArray.size = ys.length := by rw [List.size_toArray]; exact r2.length.symm
  refine SeqAt.eq_tupleAt t1 t2 hu (wD r1 r2 f1 f2) ?_
  rw [l1, l2]
  exact ⟨.bl (qDy xs ys), H, I, rfl, k⟩
end
end L3
set_option maxHeartbeats 4000000
namespace L3
open PySem PySem.Spec PyProof.Rows L2
def xz (X : Cx) (scope : Scope) (cl : List (Str × Addr)) (C : Addr) (N : List Str) (s : Shared) (H : Hp) (fp : List Addr) : Cx :=
  { X with N := N, s₀ := s, H₀ := H, env := compEnvC scope cl C X.env, outer := X.stack, stack := X.stack, ex := fp, fn := fun _ => false, pn := [] }
def qDw (js : List Nat) (σ : L2.St) : L2.St := js.map fun j => (σ[j]?).join
def wu (js : List Nat) (te : TE) (σ : L2.St) (Q : VK) (J : It) (H1 : Hp) : Prop := ∃ W : Nat → Nat → List V → Hp → Prop, (∃ m, W 0 m [] H1) ∧ ∀ i m acc H2, W i m acc H2 →
  acc.length < sizeLine ∧ ((J.stop i H2 ∧ ∀ D, H2 D = none → Q (.ref D) (upd H2 D (.lst acc))) ∨
    (J.go i H2 ∧ ∀ x H3, J.yld i H2 x H3 → te (some x :: qDw js σ) H3 fun v H4 => ∃ m', m' < m ∧ W (i + 1) m' (acc ++ [v]) H4))
def qG3 (js : List Nat) (wi : TI) (te : TE) : TE := fun σ H Q => wi σ H (wu js te σ Q)
theorem qA7 {X : Cx} {elt iter : Expr} {x : Str} {px : Pos} {scope : Scope} {cl : List (Str × Addr)} {pos : Pos} {wi : TI} {te : TE} (ys : List Str) (js : List Nat)
    (hcm : X.calm = true) (hi : PI X (.Name x px) iter wi) (he : ∀ C s H fp, PE (xz X scope cl C (x :: ys) s H fp).nox elt te)
    (hclos : closureFor scope X.env = pure cl := by rfl)
    (hcl : cl.map (fun p => X.env.cells.lookup p.1) = cl.map (fun p => some p.2) := by rfl)
    (hcell : (scope.names.all fun p => p.2 != .cell) = true := by rfl) (hkind : scope.kind = .function := by rfl)
    (hnames : (scope.names.all fun p => p.2 != .local || scope.names.lookup p.1 == some .local) = true := by rfl)
    (hx : scope.names.lookup x = some .local := by rfl)
    (hhas : ((relabel scope X.env).names.all fun p => (p.2 != .cell && p.2 != .free) || (cl.lookup p.1).isSome) = true := by rfl)
    (hnd : (x :: ys).Nodup := by decide)
    (hjs : js.map (fun j => X.N[j]?) = ys.map some := by rfl)
    (hys : (ys.all fun y => ((relabel scope X.env).names.lookup y == some .cell || (relabel scope X.env).names.lookup y == some .free) && (X.env.scope.names.lookup y == some .cell || X.env.scope.names.lookup y == some .free)) = true := by rfl)
    (hs : ∀ x, foldedSetIterable iter X.env x = pure x := by intro _; rfl)
    {pins : List (Addr × Obj)} {s : Shared} {σ : L2.St} {H : Hp} (R : V → Hp → Prop) (use : Option (Value → Sem Unit)) (Q : Value → Shared → Prop) (I : Inv X pins σ H s) (h : qG3 js wi te σ H R)
    (fin : ∀ (v : V) (u : Value) (H' : Hp) (s' : Shared) (C : Addr), Inv X pins σ H' s' → RelV v u → R v H' → (∃ m, s'.heap.Ns C m) → H' C = none → C ≠ X.env.locals → X.s₀.heap.objs.size ≤ C → (∀ y c, X.env.cells.lookup y = some c → c ≠ C) → (∀ p ∈ X.pn ++ pins, p.1 ≠ C) →
      compPost (model X.prog X.w) X.A X.xe use Q u C (.ok .next) s') :
    wpAny (model X.prog X.w) X.A (comprehension (.ListComp elt [⟨.Name x px, iter, [], 0⟩] scope pos) scope X.env (firstIterPos [⟨.Name x px, iter, [], 0⟩] pos) (newList []) false (eval iter X.env) use) Q X.xe s := by
  have hcell' : ∀ y ∈ scope.names, y.2 ≠ .cell := fun y hy => by
    have := List.all_eq_true.mp hcell y hy
    simpa using this
  have hnm : ∀ y ∈ scope.names, y.2 = .local → scope.names.lookup y.1 = some .local := fun y hy e => by
    have := List.all_eq_true.mp hnames y hy
    rw [e] at this
    simpa using this
  have clX : ∀ y c, cl.lookup y = some c → X.env.cells.lookup y = some c := fun y c e => by
    have hm := PySem.mem_of_lookup e
    obtain ⟨k, hk, e2⟩ := List.mem_iff_getElem.mp hm
    have := congrArg (fun l => l[k]?) hcl
    simp only [List.getElem?_map, List.getElem?_eq_getElem hk, Option.map_some, e2] at this
    exact Option.some.inj this
  have has : ∀ y, ((relabel scope X.env).names.lookup y = some .cell ∨ (relabel scope X.env).names.lookup y = some .free) → ∃ c, cl.lookup y = some c := fun y hy => by
    have key : ∀ k : NameKind, (k = .cell ∨ k = .free) → (relabel scope X.env).names.lookup y = some k → ∃ c, cl.lookup y = some c := fun k hk e => by
      have := List.all_eq_true.mp hhas _ (PySem.mem_of_lookup e)
      rcases hk with rfl | rfl <;> exact Option.isSome_iff_exists.mp (by simpa using this)
    rcases hy with e | e
    · exact key _ (.inl rfl) e
    · exact key _ (.inr rfl) e
  refine wpAny_comprehension_free (use := use) rfl hs hclos hkind hnm (thn (hi pins s σ H _ I h) fun v s1 h1 => thn h1 fun itv s2 h2 => ?_)
  obtain ⟨it, fp, tn, J, H2, e, I2, T, st2, f2, W, ⟨m0, w0⟩, turn⟩ := h2
  subst e
  refine wpAny_newObj_type (wpAny_newFunctionEnv hcell' (by intro y hy; simp at hy) (fun h₁ hns hsb => ?_) hkind)
  dsimp only at hns hsb ⊢
  generalize hG : s2.heap.push { cls := .type "list", dict := none, data := .seq ([] : List Value).toArray } = G at hns hsb ⊢
  have szG : G.objs.size = s2.heap.objs.size + 1 := by rw [← hG, Heap.size_push]
  have inG : ∀ b o, s2.heap.get? b = some o → G.get? b = some o := fun b o e => hG ▸ Heap.get?_push_of_some _ e
  have ltC : ∀ b o, s2.heap.get? b = some o → b ≠ G.objs.size := fun b o e => by rw [szG]; exact Nat.ne_of_lt (Nat.lt_succ_of_lt (Heap.lt_size e))
  have ltD : ∀ b o, s2.heap.get? b = some o → b ≠ s2.heap.objs.size := fun b o e => Nat.ne_of_lt (Heap.lt_size e)
  have DC : s2.heap.objs.size ≠ G.objs.size := by rw [szG]; omega
  have old : ∀ b o, s2.heap.get? b = some o → h₁.get? b = some o := fun b o e => hsb.extBut b o (ltC b o e) (Heap.get?_push_of_some _ (inG b o e))
  have hacc : h₁.PlainList s2.heap.objs.size #[] := ⟨_, hsb.extBut _ _ DC (Heap.get?_push_of_some _ (hG ▸ Heap.get?_push_size _ rfl))⟩
  have fpO : ∀ b ∈ fp, ∃ o, s2.heap.get? b = some o := fun b hb => let ⟨o, e, _⟩ := T.obj 0 _ st2 b hb; ⟨o, e⟩
  have stkO : ∀ b ∈ frs X.stack, ∃ o, s2.heap.get? b = some o := fun b hb => by
    obtain ⟨_, o, ho, _⟩ := I2.stack.mem hb
    exact ⟨o, ho⟩
  have freshH : ∀ a, s2.heap.objs.size ≤ a → H2 a = none := fun a ha => I2.hok.fresh ha
  have stkFp : ∀ b ∈ fp, b ∉ frs X.stack := fun b hb z => by
    rcases List.mem_cons.mp (I2.stkSub b z) with q | q
    · exact (f2 b hb).2.1 q
    · exact (f2 b hb).2.2.1 q
  have okX : (xz X scope cl G.objs.size (x :: ys) s2 H2 fp).Ok := {
    mod := I2.ok.mod
    kind := hkind
    glob := I2.ok.glob
    blt := I2.ok.blt
    above := by show s2.heap.objs.size ≤ G.objs.size; rw [szG]; omega
    inj := fun y z c e1 e2 => I2.ok.inj y z c (clX y c e1) (clX z c e2)
    has := fun y hy => has y hy
    cab := fun y c e _ => absurd (show false = true from e) Bool.false_ne_true
    hd := I2.ok.hd
    frames := I2.ok.frames
    stk := .inl rfl
    exf := fun b hb => by
      obtain ⟨o, e⟩ := fpO b hb
      exact ⟨ltC b o e, fun y c e1 => (f2 b hb).2.2.2.2.1 y c (clX y c e1)⟩
    bs := I2.bs
    bsz := Nat.le_trans I2.ok.bsz I2.sz
    noex := fun b o e hb => by
      rcases (f2 b hb).2.2.2.1 with q | q
      · exact I2.ok.noex b o e q
      · exact Nat.lt_irrefl _ (Nat.lt_of_lt_of_le (Nat.lt_of_lt_of_le (Heap.lt_size e) I2.ok.bsz) q)
    exfs := stkFp
    funs := I2.stack
    frf := I2.stkFree }
  have lenY : js.length = ys.length := by have := congrArg List.length hjs; simpa using this
  have I0 : Inv (xz X scope cl G.objs.size (x :: ys) s2 H2 fp) [] (none :: qDw js σ) H2 { s2 with heap := h₁, toks := s2.toks + ([] : List (Str × Value)).length } := by
    refine ⟨okX, rfl, I2.bare, Un.kept old, ⟨_, hns, fun k y v e1 e2 e3 => ?_⟩, fun y c e => ?_, freshH _ (by show s2.heap.objs.size ≤ G.objs.size; rw [szG]; omega), fun y c e => I2.freeC y c (clX y c e), fun p hp => absurd (show p ∈ ([] : List (Addr × Obj)) from hp) (by simp), I2.hok.kept old, ?_⟩
    · cases k with
      | zero => cases e2
      | succ k =>
        have e1' : ys[k]? = some y := e1
        have e2' : (qDw js σ)[k]? = some (some v) := e2
        unfold qDw at e2'
        rw [List.getElem?_map] at e2'
        cases ej : js[k]? with
        | none => rw [ej] at e2'; cases e2'
        | some j =>
          rw [ej] at e2'
          have e4 : (σ[j]?).join = some v := Option.some.inj e2'
          have e5 : σ[j]? = some (some v) := by
            cases q : σ[j]? with
            | none => rw [q] at e4; cases e4
            | some o => rw [q] at e4; exact congrArg some e4
          have e6 : X.N[j]? = some y := by
            have := congrArg (fun l => l[k]?) hjs
            simp only [List.getElem?_map, ej, e1', Option.map_some] at this
            exact Option.some.inj this
          have hy := List.all_eq_true.mp hys y (List.mem_of_getElem? e1')
          simp only [Bool.and_eq_true, Bool.or_eq_true, beq_iff_eq] at hy
          obtain ⟨ky, ko⟩ := hy
          obtain ⟨m, hn, hl⟩ := I2.loc
          obtain ⟨u, r, lk⟩ := hl j y v e6 e5 (.inr ko)
          refine ⟨u, r, .inr ⟨ky, ?_⟩⟩
          rcases lk with ⟨kl, _⟩ | ⟨_, c, ec, hc⟩
          · have kl' : X.env.scope.names.lookup y = some .local := kl
            rw [kl'] at ko
            rcases ko with z | z <;> cases z
          · obtain ⟨c', ec'⟩ := has y ky
            have := clX y c' ec'
            rw [ec] at this
            cases this
            obtain ⟨o, ho, hd⟩ := hc
            exact ⟨c, ec', o, old c o ho, hd⟩
    · obtain ⟨v, o, ho, hd⟩ := I2.cell y c (clX y c e)
      exact ⟨v, o, old c o ho, hd⟩
    · show (none :: qDw js σ).length = (x :: ys).length
      simp [qDw, lenY]
  have loop : ∀ s3 : Shared, s3 = { s2 with heap := h₁, toks := s2.toks + ([] : List (Str × Value)).length } →
      codeAny (model X.prog X.w) X.A (.compLoop (.ListComp elt [⟨.Name x px, iter, [], 0⟩] scope pos) 0 (.ref it) (.ref s2.heap.objs.size) (compEnvC scope cl G.objs.size X.env))
        (compPost (model X.prog X.w) X.A X.xe use Q (.ref s2.heap.objs.size) G.objs.size) s3 := by
    rintro s3 rfl
    have stat : ∀ {H' : Hp} (o : Obj), (∀ b ∈ fp, H' b = none) → ∀ b ∈ fp, qFu (xz X scope cl G.objs.size (x :: ys) s2 H2 fp) [(s2.heap.objs.size, o)] H' b := fun {H'} o hn b hb => by
      obtain ⟨ob, eb⟩ := fpO b hb
      refine ⟨hn b hb, ltC b ob eb, stkFp b hb, .inl hb, fun y c e1 => (f2 b hb).2.2.2.2.1 y c (clX y c e1), fun p hp => ?_⟩
      have hp' : p = (s2.heap.objs.size, o) := by
        have : p ∈ [(s2.heap.objs.size, o)] := hp
        simpa using this
      rw [hp']
      exact Ne.symm (ltD b ob eb)
    refine codeAny_compLoop_list (fun n s' => ∃ i acc its H3, Inv (xz X scope cl G.objs.size (x :: ys) s2 H2 fp) [] (none :: qDw js σ) H3 s' ∧ tn i s'.heap ∧ (∀ b ∈ fp, H3 b = none) ∧ s'.heap.PlainList s2.heap.objs.size its.toArray ∧ Vals acc its ∧ H3 s2.heap.objs.size = none ∧ W i n acc H3)
      ?_ m0 ⟨0, [], [], H2, I0, T.keep _ _ _ st2 fun b _ o e => old b o e, fun b hb => (f2 b hb).1, hacc, .nil, freshH _ (Nat.le_refl _), w0⟩
    rintro n s3 ⟨i, acc, its, H3, I3, st3, fr3, ⟨nn, pl3⟩, va3, hD3, w3⟩
    obtain ⟨hlen, cs⟩ := turn i n acc H3 w3
    have hal : acc.length = its.length := va3.length
    have nD : s2.heap.objs.size ∉ frs X.stack := fun z => by
      obtain ⟨o, e⟩ := stkO _ z
      exact ltD _ o e rfl
    have I3p : Inv (xz X scope cl G.objs.size (x :: ys) s2 H2 fp) [(s2.heap.objs.size, { cls := .type "list", data := .seq its.toArray nn })] (none :: qDw js σ) H3 s3 := I3.pins_of fun p hp => by
      have e : p = (s2.heap.objs.size, { cls := .type "list", data := .seq its.toArray nn }) := by simpa using hp
      subst e
      exact ⟨pl3, hD3, DC, nD, fun v z => nomatch z⟩
    rcases cs with ⟨stop, q⟩ | ⟨go, step⟩
    · refine thn (T.done (xz X scope cl G.objs.size (x :: ys) s2 H2 fp) rfl rfl rfl hcm i _ s3 _ H3 _ I3p (stat _ fr3) st3 stop) fun r s4 hr => ?_
      obtain ⟨hr, I4⟩ := hr
      subst hr
      have pl4 := (I4.pin (s2.heap.objs.size, { cls := .type "list", data := .seq its.toArray nn }) (by simp)).1
      obtain ⟨m, hn, _⟩ := I4.loc
      have B := I4.base
      have un' : Un (frs X.stack) fp H2 (upd H3 s2.heap.objs.size (.lst acc)) s2.heap s4.heap := by
        refine ⟨fun b o e n hb hx => B.keep b o e n hb hx, fun b o e n hb hx => B.slot b o e n hb hx, fun b o e n hx => ?_, fun b o e hx => B.there b o e hx, fun b xs e => ?_, fun b o u e => ?_, fun b ps e => ?_⟩
        · rw [qV (ltD b o e)]
          exact B.free b o e n hx
        · have z := B.tups b xs e
          rw [qV (qZ z hD3)]
          exact z
        · have z := B.frzs b o u e
          rw [qV (qZ z hD3)]
          exact z
        · obtain ⟨more, z⟩ := B.tbls b ps e
          exact ⟨more, by rw [qV (qZ z hD3)]; exact z⟩
      have freeC4 : H3 G.objs.size = none := I4.free
      have hok' : HOk X.prog X.w (upd H3 s2.heap.objs.size (.lst acc)) s4.heap := fun b u e => by
        by_cases hb : b = s2.heap.objs.size
        · subst hb
          rw [qF] at e
          cases e
          exact ⟨Nat.le_of_lt hlen, its, nn, va3, pl4⟩
        · rw [qV hb] at e
          exact (I4.hok b u e).stay (fun c v hc z => z) (fun c z => by rw [qV (qZ z hD3)]; exact z) fun c xs z => by rw [qV (qZ z hD3)]; exact z
      have hch : ∀ b ∈ fp, (b ∈ X.ex ∨ X.s₀.heap.objs.size ≤ b) ∧ b ≠ X.env.locals ∧ (∀ y c, X.env.cells.lookup y = some c → c ≠ b) ∧ ∀ p ∈ X.pn ++ pins, p.1 ≠ b := fun b hb => by
        obtain ⟨_, z1, _, z3, z4, z5⟩ := f2 b hb
        exact ⟨z3, z1, z4, z5⟩
      have I5 := I2.call' (s' := s4) (ch := fp) I4.os un' hok' I4.bare hch
      refine fin (.ref s2.heap.objs.size) _ _ s4 G.objs.size I5 rfl (q _ hD3) ⟨m, hn⟩ ?_ ?_ ?_ (fun y c e => ?_) fun p hp => ?_
      · rw [qV (Ne.symm DC)]; exact freeC4
      · rw [szG]; exact Nat.ne_of_gt (Nat.lt_succ_of_lt I2.lt)
      · rw [szG]; exact Nat.le_succ_of_le I2.sz
      · obtain ⟨v, o, ho, _⟩ := I2.cell y c e
        exact ltC c o ho
      · exact ltC p.1 p.2 (I2.pin p hp).1
    · refine thn (T.item (xz X scope cl G.objs.size (x :: ys) s2 H2 fp) rfl rfl rfl hcm i _ s3 _ H3 _ I3p (stat _ fr3) st3 go) fun r s4 hr => ?_
      obtain ⟨u, hr, h4⟩ := hr
      subst hr
      show wpAny (model X.prog X.w) X.A (letOwnedTupleGo (.Name x px) (.ref it) u >>= fun _ => assign (.Name x px) (compEnvC scope cl G.objs.size X.env) u) _ _ s4
      refine wpAny_bind (thn h4 fun _ s5 h5 => ?_)
      obtain ⟨v, H5, I5, r5, y5, st5, fr5⟩ := h5
      have I5' := I5.pinned (stat _ fr5) (T.obj _ _ st5)
      refine wpAny_assign_Name (zG (i := 0) I5' hnd rfl (.inl (lookup_relabel_local hx)) r5 (fun s6 I6 => ?_) (.inr (lookup_relabel_local hx)))
      have I6' : Inv (xz X scope cl G.objs.size (x :: ys) s2 H2 fp).nox _ _ H5 s6 := I6.wish _
      refine wpAny_mono (he G.objs.size s2 H2 fp _ s6 _ H5 _ I6' (step v H5 y5)) (fun y s7 h7 => ?_) fun _ _ z => z.elim
      obtain ⟨v7, H7, I7, r7, m', hm', w7⟩ := h7
      have I7 := I7.unwish
      have pinD := I7.pin (s2.heap.objs.size, { cls := .type "list", data := .seq its.toArray nn }) (by simp)
      refine wpAny_list_append_plain (items := its.toArray) ⟨nn, pinD.1⟩ (fun h' hp' hsb' => ?_) (by rw [List.size_toArray, ← hal]; exact Nat.le_of_lt hlen)
      have e8 : its.toArray.push y = (its ++ [y]).toArray := by simp
      rw [e8] at hp'
      have pf : ∀ b ∈ fp, ∀ o, s5.heap.get? b = some o → s7.heap.get? b = some o ∧ H7 b = none := fun b hb o e => by
        have z := I7.pin (b, o) (List.mem_append_right _ (List.mem_append_right _ (kQ hb e)))
        exact ⟨z.1, z.2.1⟩
      have I8 : Inv (xz X scope cl G.objs.size (x :: ys) s2 H2 fp) [] (none :: qDw js σ) H7 { s7 with heap := h' } := by
        have I7u : Inv (xz X scope cl G.objs.size (x :: ys) s2 H2 fp) [] (none :: qDw js σ) H7 s7 := (I7.pins_of (pins' := []) fun p hp => absurd hp (by simp)).weak (by simp) fun k v e => by
          cases k with
          | zero => cases e
          | succ k => exact e
        refine I7u.turned (t' := s7.toks) (it := s2.heap.objs.size) (fun b o hb e => hsb'.extBut b o hb e) pinD.2.1 DC (.inr (Nat.le_refl _)) (fun y c e => ?_) fun p hp => absurd (show p ∈ ([] : List (Addr × Obj)) from hp) (by simp)
        obtain ⟨v, o, ho, _⟩ := I2.cell y c (clX y c e)
        exact ltD c o ho
      refine ⟨m', hm', i + 1, acc ++ [v7], its ++ [y], H7, I8, ?_, fun b hb => ?_, hp', va3.append (.cons r7 .nil), pinD.2.1, w7⟩
      · refine T.keep _ _ _ st5 fun b hb o e => hsb'.extBut b o ?_ (pf b hb o e).1
        obtain ⟨ob, eb⟩ := fpO b hb
        exact ltD b ob eb
      · obtain ⟨o, e, _⟩ := T.obj _ _ st5 b hb
        exact (pf b hb o e).2
  exact codeAny_compStart_list (loop _ rfl) (T.self _ 0 _ _ _ (T.keep _ _ _ st2 fun b _ o e => old b o e) (loop _ rfl))
theorem qDb {X : Cx} {pins : List (Addr × Obj)} {σ : L2.St} {H : Hp} {s : Shared} {C : Addr} {h' : Heap} (I : Inv X pins σ H s) (hsb : Heap.SameBut C s.heap h') (h0 : H C = none) (h1 : C ≠ X.env.locals) (h2 : X.s₀.heap.objs.size ≤ C)
    (h3 : ∀ y c, X.env.cells.lookup y = some c → c ≠ C) (h4 : ∀ p ∈ X.pn ++ pins, p.1 ≠ C) : Inv X pins σ H { s with heap := h' } :=
  I.turned (t' := s.toks) (it := C) (fun b o hb e => hsb.extBut b o hb e) h0 h1 (.inr h2) h3 h4
theorem kW {X : Cx} {elt iter : Expr} {x : Str} {px : Pos} {scope : Scope} {cl : List (Str × Addr)} {pos : Pos} {wi : TI} {te : TE} (ys : List Str) (js : List Nat)
    (hcm : X.calm = true) (hi : PI X (.Name x px) iter wi) (he : ∀ C s H fp, PE (xz X scope cl C (x :: ys) s H fp).nox elt te)
    (hclos : closureFor scope X.env = pure cl := by rfl)
    (hcl : cl.map (fun p => X.env.cells.lookup p.1) = cl.map (fun p => some p.2) := by rfl)
    (hcell : (scope.names.all fun p => p.2 != .cell) = true := by rfl) (hkind : scope.kind = .function := by rfl)
    (hnames : (scope.names.all fun p => p.2 != .local || scope.names.lookup p.1 == some .local) = true := by rfl)
    (hx : scope.names.lookup x = some .local := by rfl)
    (hhas : ((relabel scope X.env).names.all fun p => (p.2 != .cell && p.2 != .free) || (cl.lookup p.1).isSome) = true := by rfl)
    (hnd : (x :: ys).Nodup := by decide)
    (hjs : js.map (fun j => X.N[j]?) = ys.map some := by rfl)
    (hys : (ys.all fun y => ((relabel scope X.env).names.lookup y == some .cell || (relabel scope X.env).names.lookup y == some .free) && (X.env.scope.names.lookup y == some .cell || X.env.scope.names.lookup y == some .free)) = true := by rfl)
    (hs : ∀ x, foldedSetIterable iter X.env x = pure x := by intro _; rfl) : PE X (.ListComp elt [⟨.Name x px, iter, [], 0⟩] scope pos) (qG3 js wi te) := by
  intro pins s σ H Q I h
  rw [eval_ListComp]
  refine qA7 ys js hcm hi he hclos hcl hcell hkind hnames hx hhas hnd hjs hys hs Q none (EP X pins σ Q) I h fun v u H' s' C I' r q hm h0 h1 h2 h3 h4 => ?_
  obtain ⟨m, hm⟩ := hm
  exact ⟨m, hm, fun h' hsb => ⟨v, H', qDb I' hsb h0 h1 h2 h3 h4, r, q⟩⟩
theorem qFc {X : Cx} {elt iter : Expr} {x : Str} {px : Pos} {scope : Scope} {cl : List (Str × Addr)} {pos : Pos} {wi : TI} {te : TE} (ys : List Str) (js : List Nat)
    {i : Nat} {y : Str} {py spos : Pos} (hN : X.N.Nodup) (hi' : X.N[i]? = some y) (hy : X.env.kindOf y = some .local) (hcm : X.calm = true) (hi : PI X (.Name x px) iter wi) (he : ∀ C s H fp, PE (xz X scope cl C (x :: ys) s H fp).nox elt te)
    (hclos : closureFor scope X.env = pure cl := by rfl)
    (hcl : cl.map (fun p => X.env.cells.lookup p.1) = cl.map (fun p => some p.2) := by rfl)
    (hcell : (scope.names.all fun p => p.2 != .cell) = true := by rfl) (hkind : scope.kind = .function := by rfl)
    (hnames : (scope.names.all fun p => p.2 != .local || scope.names.lookup p.1 == some .local) = true := by rfl)
    (hx : scope.names.lookup x = some .local := by rfl)
    (hhas : ((relabel scope X.env).names.all fun p => (p.2 != .cell && p.2 != .free) || (cl.lookup p.1).isSome) = true := by rfl)
    (hnd : (x :: ys).Nodup := by decide)
    (hjs : js.map (fun j => X.N[j]?) = ys.map some := by rfl)
    (hys : (ys.all fun y => ((relabel scope X.env).names.lookup y == some .cell || (relabel scope X.env).names.lookup y == some .free) && (X.env.scope.names.lookup y == some .cell || X.env.scope.names.lookup y == some .free)) = true := by rfl)
    (hs : ∀ x, foldedSetIterable iter X.env x = pure x := by intro _; rfl) (hsw : swapsWith (.ListComp elt [⟨.Name x px, iter, [], 0⟩] scope pos) (some (.Name y py)) spos.line X.env = pure true := by rfl) : PS X (.Assign [.Name y py] (.ListComp elt [⟨.Name x px, iter, [], 0⟩] scope pos) spos) (qKc (qG3 js wi te) (qG7 i)) := by
  intro pins s σ H D I h
  rw [exec_Assign_Name_used _ _ _ _ hsw]
  refine wpAny_bind (wpAny_standAt (wpAny_bind ?_))
  have key := qA7 ys js hcm hi he hclos hcl hcell hkind hnames hx hhas hnd hjs hys hs (pos := pos) (fun v H' => D.nx (σ.set i (some v)) H') (some (assign (.Name y py) X.env)) (fun _ s' => SP X pins D .next s') I h fun v u H' s' C I' r q hm h0 h1 h2 h3 h4 => ?_
  · exact wpAny_bind (thn key fun _ s' hq => wpAny_pure (wpAny_pure hq))
  · refine wpAny_assign_Name (qAo I' hN hi' (.inl hy) r (fun s2 I2 ch => ?_) (.inr hy))
    obtain ⟨b, sb, hb⟩ := ch
    obtain ⟨m, hm⟩ := hm
    have nb : C ≠ b := by
      rcases hb with rfl | hb
      · exact h1
      · exact Ne.symm (h3 y b hb)
    exact ⟨m, hm.sameBut sb nb, fun h' hsb => ⟨_, H', qDb I2 hsb h0 h1 h2 h3 h4, q⟩⟩
def Nxt (n i : Nat) (P : Prop) : Prop := ∃ m', m' < n - i ∧ m' = n - (i + 1) ∧ i + 1 ≤ n ∧ P
theorem Nxt.mk {n i : Nat} {P : Prop} (h : i < n) (p : P) : Nxt n i P := ⟨n - (i + 1), by omega, rfl, h, p⟩
theorem zB {K : PySem.W.Frag} {a : Addr} {xs : List V} {js : List Nat} {te : TE} {σ : L2.St} {H : Hp} {Q : VK} (Pv : Nat → List V → Hp → Prop) (h0 : Pv 0 [] H) (hl : ∀ i acc H, i ≤ xs.length → Pv i acc H → SqL K H a xs ∧ acc.length < sizeLine)
    (hs : ∀ i x acc H, i < xs.length → xs[i]? = some x → Pv i acc H → te (some x :: qDw js σ) H fun v H' => Nxt xs.length i (Pv (i + 1) (acc ++ [v]) H')) (hd : ∀ acc H, Pv xs.length acc H → ∀ D, H D = none → Q (.ref D) (upd H D (.lst acc))) : wu js te σ Q (Itl K a) H := by
  refine ⟨fun i m acc H => m = xs.length - i ∧ i ≤ xs.length ∧ Pv i acc H, ⟨xs.length, by simp, Nat.zero_le _, h0⟩, ?_⟩
  rintro i m acc H2 ⟨rfl, hi, p⟩
  obtain ⟨q, hz⟩ := hl i acc H2 hi p
  refine ⟨hz, ?_⟩
  by_cases hlt : i < xs.length
  · refine .inr ⟨⟨xs, xs[i], q, by simp [hlt]⟩, fun x H3 y => ?_⟩
    obtain ⟨e, y⟩ := y
    subst e
    exact hs i x acc _ hlt (y xs q) p
  · have e : i = xs.length := by omega
    subst e
    exact .inl ⟨⟨xs, q, Nat.le_refl _⟩, hd acc H2 p⟩
theorem qDv {lo : Int} {n : Nat} {js : List Nat} {te : TE} {σ : L2.St} {H : Hp} {Q : VK} (Pv : Nat → List V → Hp → Prop) (h0 : Pv 0 [] H) (hl : ∀ i acc H, i ≤ n → Pv i acc H → acc.length < sizeLine)
    (hs : ∀ i acc H, i < n → Pv i acc H → te (some (.int (lo + i)) :: qDw js σ) H fun v H' => Nxt n i (Pv (i + 1) (acc ++ [v]) H')) (hd : ∀ acc H, Pv n acc H → ∀ D, H D = none → Q (.ref D) (upd H D (.lst acc))) : wu js te σ Q (Itr lo n) H := by
  refine ⟨fun i m acc H => m = n - i ∧ i ≤ n ∧ Pv i acc H, ⟨n, by simp, Nat.zero_le _, h0⟩, ?_⟩
  rintro i m acc H2 ⟨rfl, hi, p⟩
  refine ⟨hl i acc H2 hi p, ?_⟩
  by_cases hlt : i < n
  · refine .inr ⟨hlt, fun x H3 y => ?_⟩
    obtain ⟨e, y⟩ := y
    subst e y
    exact hs i acc _ hlt p
  · have e : i = n := by omega
    subst e
    exact .inl ⟨Nat.le_refl _, hd acc H2 p⟩
end L3
set_option maxHeartbeats 4000000
namespace L3
open PySem PySem.Spec PyProof.Rows L2
structure Def (K : PySem.W.Frag) (mg : Str → Option Value) (x : Str) (st : Stmt) (ps : List Str) (f : Addr) (fd : FuncData) : Prop where
  F : Fun K x x st f fd
  b : Binds K fd ps []
  m : mg x = some (.ref f)
section
variable {X : Cx}
theorem qL {k j : Nat} {x : Str} {st : Stmt} {ps : List Str} {f : Addr} {fd : FuncData} {sp : Sp} {e : Expr} {es : List Expr} {t : TA} {p pos : Pos} (D : Def X.K X.mg x st ps f fd) (F : FnOk X.prog X.w X.K X.mg X.base CX0 j f fd ps sp) (hr : Room k X.A) (hg : Gl X x) (ha : PA X (e :: es) t) (hj : j ≤ k := by decide)
    (hdb : (x == ("__debug__" : Str)) = false := by decide) (he : starEach (e :: es) X.env = (false, eval e X.env) :: starEach es X.env := by rfl) (hpl : (backTo pos (starEach es X.env)).any (·.1) = false := by rfl) :
    PE X (.Call (.Name x p) (e :: es) [] pos) (qHm sp [] E0 t) := qE3 F (hr.mono hj) hg D.m D.F.kp D.b .nil qJ8 ha hdb he hpl
theorem qB6 {x : Str} {n : String} {pos : Pos} (hg : Gl X x) (hm : X.mg x = none) (hv : bootBuiltins x = some (.type n)) (hn : x ≠ "__name__" := by decide) (hd : (x == ("__debug__" : Str)) = false := by decide) : PE X (.Name x pos) (tC (.ty n)) :=
  qHl hg hm hv rfl hn hd
end
theorem qF4 {X : Cx} {K : PySem.W.Frag} (h : X.K = K) : IxR X (qJi K) := h ▸ qc
def qJ0 (t : TS) : TS := fun D σ H => ∃ R : L2.St → Hp → Prop, t { D with nx := R } σ H ∧ ∀ σ' H', R σ' H' → D.nx σ' H'
theorem xn {X : Cx} {st : Stmt} {t : TS} (h : PS X st t) : PS X st (qJ0 t) := by
  rintro pins s σ H D I ⟨R, ht, hR⟩
  refine thn (h pins s σ H { D with nx := R } I ht) fun f s' q => ?_
  cases f with
  | next => obtain ⟨σ', H', I', r⟩ := q; exact ⟨σ', H', I', hR _ _ r⟩
  | brk => exact q
  | cont => exact q
  | ret u => exact q
theorem qH {H : Hp} {p : Addr} (h : H p = none) (o : HO) : Same H (upd H p o) := fun b u q => by rw [qV (qZ q h)]; exact q
theorem Same.tup {K : PySem.W.Frag} {H H' : Hp} {a : Addr} {xs : List V} (e : Same H H') (h : SqT K H a xs) : SqT K H' a xs := by
  rcases h with (h | ⟨o, h⟩) | h
  · exact .inl (.inl (e _ _ h))
  · exact .inl (.inr ⟨o, e _ _ h⟩)
  · exact .inr h
end L3
set_option maxHeartbeats 4000000
namespace L3
open PySem PySem.Spec PyProof.Rows L2
section
variable {X : Cx}
def DE1 (K : PySem.W.Frag) (H : Hp) (x y : V) (b : Bool) : Prop := (xL x = true ∧ xL y = true ∧ b = eqV x y) ∨
  ∃ p q xs ys, x = .ref p ∧ y = .ref q ∧ SqT K H p xs ∧ SqT K H q ys ∧ xs.all xL = true ∧ ys.all xL = true ∧ b = qDy xs ys ∧ (p = q → b = true)
theorem DE1.at {pins : List (Addr × Obj)} {σ : L2.St} {H : Hp} {s : Shared} {A : Around} {x y : V} {u v : Value} {b : Bool} (I : Inv X pins σ H s) (hu : A.units < cLine) (rx : RelV x u) (ry : RelV y v) (h : DE1 X.K H x y b) : SeqAt.EqAt A s u v b := by
  rcases h with ⟨f1, f2, rfl⟩ | ⟨p, q, xs, ys, rfl, rfl, h1, h2, f1, f2, rfl, hb⟩
  · exact qBc rx ry f1 f2
  · cases rx; cases ry
    by_cases e : p = q
    · subst e
      rw [hb rfl]
      exact SeqAt.EqAt.same _
    · obtain ⟨us, r1, t1, _⟩ := I.tuple h1
      obtain ⟨ws, r2, t2, _⟩ := I.tuple h2
      have l1 : us.toArray.size = xs.length := by rw [List.size_toArray]; exact r1.length.symm
      have l2 : ws.toArray.size = ys.length := by rw [List.size_toArray]; exact r2.length.symm
      have := SeqAt.EqAt.of_refs e (SeqAt.RcAt.tuples t1 t2 hu (wD (A := A.in1) (s := s) r1 r2 f1 f2))
      rw [l1, l2] at this
      exact this
end
end L3
set_option maxHeartbeats 4000000
namespace L3
open PySem PySem.Spec PyProof.Rows L2
abbrev EC := Value × Option Addr
def zw (h : Heap) (e : Addr) (C : EC) (hd : Option Addr) : Prop :=
  ∃ (vs : Array Value) (sl : Array (Option Value)), h.get? e = some { cls := C.1, dict := C.2, data := .fields vs, slots := sl } ∧
    match hd with
    | none => vs[1]? = some .none
    | some T => vs[1]? = some (.ref T) ∧ T ≠ e ∧ ∃ oT ts m, h.get? T = some oT ∧ oT.data = .fields ts ∧ ts[3]? = some m
structure Noted (fs : List Addr) (e : Addr) (hd : Option Addr) (C : EC) (h h' : Heap) : Prop where
  keep : ∀ b o, h.get? b = some o → b ∉ fs → b ≠ e → some b ≠ hd → h'.get? b = some o
  slot : ∀ b o, h.get? b = some o → b ∈ fs → b ≠ e → some b ≠ hd → ∃ sl, h'.get? b = some { o with slots := sl }
  ent : ∃ T, (h.get? T = none ∨ hd = some T) ∧ zw h' e C (some T)
theorem Noted.before {fs : List Addr} {e T : Addr} {C : EC} {h h1 h' : Heap} (x : Noted fs e none C h1 h') (k : ∀ b, b ≠ T → h1.get? b = h.get? b) (t : ∃ o, h1.get? T = some o) : Noted fs e (some T) C h h' := by
  refine ⟨fun b o q hf he ht => x.keep b o ?_ hf he (by simp), fun b o q hf he ht => x.slot b o ?_ hf he (by simp), ?_⟩
  · rw [k b (fun z => ht (by rw [z]))]; exact q
  · rw [k b (fun z => ht (by rw [z]))]; exact q
  · obtain ⟨T', n | n, r⟩ := x.ent
    · refine ⟨T', .inl ?_, r⟩
      rw [← k T' (fun z => ?_)]; exact n
      obtain ⟨o, q⟩ := t
      rw [z, q] at n; cases n
    · cases n
section
variable {M : Model} {A : Around} {E : Value → Shared → Prop} {s : Shared}
theorem Noted.then {fs : List Addr} {e T : Addr} {hd : Option Addr} {C : EC} {h h1 h2 : Heap} (x : Noted fs e hd C h h1) (hT : h.get? T = none ∨ hd = some T) (y : Noted fs e (some T) C h1 h2) : Noted fs e hd C h h2 := by
  have nt : ∀ b o, h.get? b = some o → some b ≠ hd → (some b : Option Addr) ≠ some T := fun b o q hb z => by
    cases z
    rcases hT with n | n
    · rw [q] at n; cases n
    · exact hb n.symm
  have n1 : ∀ T', h1.get? T' = none → T' ≠ e → some T' ≠ hd → h.get? T' = none := fun T' n he ht => by
    cases q : h.get? T' with
    | none => rfl
    | some o =>
      by_cases hs : T' ∈ fs
      · obtain ⟨sl, z⟩ := x.slot T' o q hs he ht
        rw [n] at z; cases z
      · have z := x.keep T' o q hs he ht
        rw [n] at z; cases z
  refine ⟨fun b o q hf he ht => y.keep b o (x.keep b o q hf he ht) hf he (nt b o q ht), fun b o q hf he ht => ?_, ?_⟩
  · obtain ⟨sl, z⟩ := x.slot b o q hf he ht
    obtain ⟨sl', z'⟩ := y.slot b _ z hf he (nt b o q ht)
    exact ⟨sl', z'⟩
  · obtain ⟨T', n, r⟩ := y.ent
    refine ⟨T', ?_, r⟩
    rcases n with n | n
    · by_cases hh : hd = some T'
      · exact .inr hh
      · refine .inl (n1 T' n (fun z => ?_) (Ne.symm hh))
        obtain ⟨vs, sl, q, r1, nT, _⟩ := r
        exact nT z
    · cases n
      exact hT
theorem qAn {base : Heap} {env : Env} {outer : List Env} {L e : Addr} {C : EC} {head : Value} {vs : Array Value} {sl : Array (Option Value)} {had : Bool} {Q : Unit → Shared → Prop}
    (fr : A.frames = some (env :: outer)) (ff : s.heap.FunFrames base (env :: outer)) (ef : env.frame = some L) (re : s.heap.get? e = some { cls := C.1, dict := C.2, data := .fields vs, slots := sl }) (v1 : 1 < vs.size)
    (k : ∀ h', Noted (frs (env :: outer)) e none C s.heap h' → Q () { s with heap := h' }) :
    wpAny M A (do let a ← frameOf env; let pl ← entryPlaceOf L had; let b ← EntryCells.newEntry head a .none (rawInt L) .none pl; setField (.ref e) 1 b) Q E s := by
  have efs : e ∉ frs (env :: outer) := fun z => by
    obtain ⟨_, o, q, nf⟩ := ff.mem z
    rw [re] at q; cases q
    exact nf vs rfl
  refine wpAny_bind (wpAny_frameOf_fun fr ff ef fun g so => ?_)
  refine wpAny_bind (wpAny_entryPlaceOf fun pl ip => ?_)
  unfold EntryCells.newEntry newFields
  refine wpAny_bind (wpAny_newObj_type ?_ (ip.sizeOk5 _ _ _ _ _))
  generalize hN : ({ cls := .type "traceback", dict := none, data := .fields ([head, .ref L, .none, rawInt L, .none] ++ (if pl.isEmpty then List.replicate 6 Value.none else pl)).toArray } : Obj) = N
  have Nd : N.data = .fields ([head, .ref L, .none, rawInt L, .none] ++ (if pl.isEmpty then List.replicate 6 Value.none else pl)).toArray := by rw [← hN]
  have q1 : g.get? e = some { cls := C.1, dict := C.2, data := .fields vs, slots := sl } := (so.2.1 e efs).trans re
  have q2 := Heap.get?_push_of_some (h := g) N q1
  have ne : g.objs.size ≠ e := Nat.ne_of_gt (Heap.lt_size q1)
  refine wpAny_setField q2 rfl v1 (k _ ?_)
  have q3 := Heap.get?_update_self (Obj.mapFields (·.setIfInBounds 1 (Value.ref g.objs.size))) q2 rfl
  have nf : N.isFreed = false := Obj.isFreed_of_fields Nd
  have t3 : ((g.push N).update e (Obj.mapFields (·.setIfInBounds 1 (Value.ref g.objs.size)))).get? g.objs.size = some N :=
    (Heap.get?_update_other (g.push N) _ (Ne.symm ne)).trans (Heap.get?_push_size g nf)
  have oth : ∀ b o, b ≠ e → g.get? b = some o → ((g.push N).update e (Obj.mapFields (·.setIfInBounds 1 (Value.ref g.objs.size)))).get? b = some o := fun b o hb q => by
    rw [Heap.get?_update_other _ _ (Ne.symm hb)]
    exact Heap.get?_push_of_some _ q
  refine ⟨fun b o q hf he _ => oth b o he ((so.2.1 b hf).trans q), fun b o q hf he _ => ?_, g.objs.size, .inl ?_, vs.setIfInBounds 1 (.ref g.objs.size), sl, q3, by simp [v1], ne, N, _, rawInt L, t3, Nd, ?_⟩
  · obtain ⟨sl', q'⟩ := so.2.2 b o q
    exact ⟨sl', oth b _ he q'⟩
  · rw [so.1]
    exact Heap.get?_none_of_le (Nat.le_refl _)
  · simp
theorem qGm {base : Heap} {env : Env} {outer : List Env} {L e : Addr} {C : EC} {hd : Option Addr} {Q : Unit → Shared → Prop}
    (fr : A.frames = some (env :: outer)) (ff : s.heap.FunFrames base (env :: outer)) (ef : env.frame = some L) (re : zw s.heap e C hd)
    (k : ∀ h', Noted (frs (env :: outer)) e hd C s.heap h' → Q () { s with heap := h' }) : wpAny M A (noteFrame (.ref e) env) Q E s := by
  have re0 := re
  obtain ⟨vs, sl, q, r⟩ := re
  unfold noteFrame
  simp only [ef]
  cases hd with
  | none =>
    refine wpAny_bind (wpAny_field q rfl r ?_)
    rw [if_neg (by decide)]
    exact qAn fr ff ef q (Array.getElem?_eq_some_iff.mp r).1 k
  | some T =>
    obtain ⟨r1, nT, oT, ts, m, qT, dT, r3⟩ := r
    refine wpAny_bind (wpAny_field q rfl r1 ?_)
    rw [if_pos (by simp)]
    refine wpAny_bind (wpAny_field qT dT r3 ?_)
    by_cases hm : (m == rawInt L) = true
    · rw [if_pos hm]
      exact wpAny_pure (k s.heap ⟨fun b o q _ _ _ => q, fun b o q _ _ _ => ⟨o.slots, q⟩, T, .inr rfl, re0⟩)
    rw [if_neg hm]
    refine wpAny_bind (wpAny_setField qT dT (Array.getElem?_eq_some_iff.mp r3).1 ?_)
    have oth : ∀ b, b ≠ T → (s.heap.update T (Obj.mapFields (·.setIfInBounds 3 Value.none))).get? b = s.heap.get? b := fun b z => Heap.get?_update_other _ _ (Ne.symm z)
    have qT' := Heap.get?_update_self (Obj.mapFields (·.setIfInBounds 3 Value.none)) qT (Obj.isFreed_of_fields (Obj.data_mapFields dT _))
    have nf : ∀ b o, s.heap.get? b = some o → (∀ vs, o.data ≠ .fields vs) → b ≠ T := fun b o z n w => by
      rw [w, qT] at z; cases z
      exact n ts dT
    refine qAn (s := { s with heap := s.heap.update T (Obj.mapFields (·.setIfInBounds 3 Value.none)) }) fr (ff.of_keeps fun b o z n => ⟨o, (oth b (nf b o z n)).trans z, rfl⟩) ef ((oth e (Ne.symm nT)).trans q) (Array.getElem?_eq_some_iff.mp r1).1 fun h' x => ?_
    exact k h' (x.before oth ⟨_, qT'⟩)
theorem qDu {e T : Addr} {C : EC} {fo : Option Addr} {Q : Unit → Shared → Prop} (re : zw s.heap e C (some T))
    (k : ∀ h', (∀ fs, Noted fs e (some T) C s.heap h') → Q () { s with heap := h' }) : wpAny M A (setFlight (.ref e) fo) Q E s := by
  obtain ⟨vs, sl, q, r1, nT, oT, ts, m, qT, dT, r3⟩ := re
  unfold setFlight
  refine wpAny_bind (wpAny_field q rfl r1 ?_)
  rw [if_pos (by simp)]
  have oth : ∀ b, b ≠ T → (s.heap.update T (Obj.mapFields (·.setIfInBounds 3 (fo.elim Value.none fun f => rawInt f)))).get? b = s.heap.get? b := fun b z => Heap.get?_update_other _ _ (Ne.symm z)
  refine wpAny_setField qT dT (Array.getElem?_eq_some_iff.mp r3).1 (k _ fun fs => ⟨fun b o q _ _ z => ?_, fun b o q _ _ z => ⟨o.slots, ?_⟩, T, .inr rfl, ?_⟩)
  · rw [oth b fun w => z (by rw [w])]; exact q
  · rw [oth b fun w => z (by rw [w])]; exact q
  · refine ⟨vs, sl, (Heap.get?_update_other _ _ nT).trans q, r1, nT, _, _, fo.elim Value.none fun f => rawInt f, Heap.get?_update_self _ qT (Obj.isFreed_of_fields (Obj.data_mapFields dT _)), Obj.data_mapFields dT _, ?_⟩
    have h3 := (Array.getElem?_eq_some_iff.mp r3).1
    simp [h3]
theorem vI {e T : Addr} {C : EC} {Q : Unit → Shared → Prop} (re : zw s.heap e C (some T))
    (k : ∀ h', (∀ fs, Noted fs e (some T) C s.heap h') → Q () { s with heap := h' }) : wpAny M A (setFlight (.ref e) none) Q E s := qDu re k
theorem qEa {base : Heap} {env : Env} {outer : List Env} {L e : Addr} {C : EC} {hd : Option Addr} {Q : Unit → Shared → Prop}
    (fr : A.frames = some (env :: outer)) (ff : s.heap.FunFrames base (env :: outer)) (ef : env.frame = some L) (re : zw s.heap e C hd)
    (k : ∀ h', Noted (frs (env :: outer)) e hd C s.heap h' → Q () { s with heap := h' }) : wpAny M A (noteFrame (.ref e) env) (fun _ s' => wpAny M A (setFlight (.ref e) none) Q E s') E s := by
  refine qGm fr ff ef re fun h1 N1 => ?_
  obtain ⟨T, hT, rT⟩ := N1.ent
  exact vI (s := { s with heap := h1 }) rT fun h2 N2 => k h2 (N1.then hT (N2 _))
end
end L3
set_option maxHeartbeats 4000000
namespace L3
open PySem PySem.Spec PyProof.Rows L2
theorem qGw {P : Program} {w : World} {H : Hp} {h : Heap} {a : Addr} {o : HO} (x : ObjOk P w H h a o) : ∃ ob, h.get? a = some ob := by
  cases o with
  | lst xs => obtain ⟨_, _, _, _, e⟩ := x; exact ⟨_, e⟩
  | tup xs => obtain ⟨_, _, _, ob, e, _⟩ := x; exact ⟨ob, e⟩
  | dK kvs => obtain ⟨_, _, _, _, o, _, _, e, _⟩ := x; exact ⟨_, e⟩
  | dT kvs => obtain ⟨_, _, _, _, o, _, _, e, _⟩ := x; exact ⟨_, e⟩
  | set S n => obtain ⟨o, _, _, _, e, _⟩ := x; exact ⟨_, e⟩
  | ins C dx fs => obtain ⟨_, _, _, e, _⟩ := x; exact ⟨_, e⟩
  | own y => exact x
  | xd fs => obtain ⟨_, ⟨_, _, _, e, _⟩, _⟩ := x; exact ⟨_, e⟩
  | rng lo hi => obtain ⟨_, _, _, e⟩ := x; exact ⟨_, e⟩
  | frz ob u => obtain ⟨e, _⟩ := x; exact ⟨_, e⟩
  | tbl ps => exact ⟨_, x⟩
  | met f y => exact ⟨_, x⟩
  | ext φ => exact x.2.1
def qFi (h₀ : Heap) (H : Hp) (ps : List (Addr × Obj)) (e : Addr) : Prop := h₀.get? e = none ∧ H e = none ∧ ∀ p ∈ ps, p.1 ≠ e
def qHe (h₀ : Heap) (H : Hp) (ps : List (Addr × Obj)) (h : Heap) (e : Addr) (C : EC) : Prop :=
  qFi h₀ H ps e ∧ ∃ hd, zw h e C hd ∧ ∀ T, hd = some T → qFi h₀ H ps T
def CXR (P : Program) (w : World) : CXT := fun outer H s E e s' => ∃ ea C H', e = .ref ea ∧ s'.os = s.os ∧ AllBare s'.gens ∧ Un (frs outer) [] H H' s.heap s'.heap ∧ HOk P w H' s'.heap ∧ qHe s.heap H' [] s'.heap ea C ∧ E C.1 C.2 H'
def XE (X : Cx) (Ex : Value → Option Addr → Hp → Prop) : Value → Shared → Prop := fun e s' => ∃ ea C σ H', e = .ref ea ∧ Inv X [] σ H' s' ∧ qHe X.s₀.heap H' X.pn s'.heap ea C ∧ Ex C.1 C.2 H'
section
variable {X : Cx} {σ : L2.St} {H : Hp} {s : Shared}
theorem kP {e : Addr} {hd : Option Addr} {C : EC} {h' : Heap} (I : Inv X [] σ H s) (hex : X.ex = []) (re : zw s.heap e C hd) (n1 : qFi X.s₀.heap H X.pn e) (n3 : ∀ T, hd = some T → qFi X.s₀.heap H X.pn T)
    (N : Noted (frs X.stack) e hd C s.heap h') : Inv X [] σ H { s with heap := h' } ∧ qHe X.s₀.heap H X.pn h' e C := by
  have B := I.base
  rw [hex] at B
  have ne : ∀ b o, X.s₀.heap.get? b = some o → b ≠ e ∧ some b ≠ hd ∧ b ≠ X.env.locals := fun b o q => by
    refine ⟨fun z => ?_, fun z => ?_, Nat.ne_of_lt (Nat.lt_of_lt_of_le (Heap.lt_size q) I.ok.above)⟩
    · rw [z, n1.1] at q; cases q
    · rw [(n3 b z.symm).1] at q; cases q
  have nin : ∀ b, b ∉ ([] : List Addr) := fun b z => nomatch z
  have nfl : ∀ b o, s.heap.get? b = some o → (∀ vs, o.data ≠ .fields vs) → b ≠ e ∧ some b ≠ hd := fun b o q nf => by
    obtain ⟨vs, sl, qe, r⟩ := re
    refine ⟨fun z => ?_, fun z => ?_⟩
    · rw [z, qe] at q; cases q
      exact nf vs rfl
    · subst z
      obtain ⟨_, _, oT, ts, _, qT, dT, _⟩ := r
      rw [qT] at q; cases q
      exact nf ts dT
  have up : ∀ b o, s.heap.get? b = some o → b ≠ e → some b ≠ hd → ∃ sl, h'.get? b = some { o with slots := sl } := fun b o q z1 z2 => by
    by_cases hs : b ∈ frs X.stack
    · exact N.slot b o q hs z1 z2
    · exact ⟨o.slots, N.keep b o q hs z1 z2⟩
  have un : Un X.fs [] X.H₀ H X.s₀.heap h' := by
    refine ⟨fun b o q n hb hx => ?_, fun b o q n hb hx => ?_, fun b o q n hx => B.free b o q n hx, fun b o q hx => ?_, B.tups, B.frzs, B.tbls⟩
    · obtain ⟨z1, z2, z3⟩ := ne b o q
      refine N.keep b o (B.keep b o q n hb hx) (fun z => ?_) z1 z2
      rcases List.mem_cons.mp (I.stkSub b z) with w | w
      · exact z3 w
      · exact hb w
    · obtain ⟨z1, z2, z3⟩ := ne b o q
      obtain ⟨sl, q1⟩ := B.slot b o q n hb hx
      obtain ⟨sl', q2⟩ := up b _ q1 z1 z2
      exact ⟨sl', q2⟩
    · obtain ⟨z1, z2, z3⟩ := ne b o q
      obtain ⟨o', q1⟩ := B.there b o q hx
      obtain ⟨sl', q2⟩ := up b _ q1 z1 z2
      exact ⟨_, q2⟩
  have hok : HOk X.prog X.w H h' := fun a u q => by
    have key : ∀ c, H c = none → ¬ (c = a ∨ H c = some (.own a)) := fun c z w => by
      rcases w with w | w
      · rw [w, q] at z; cases z
      · rw [z] at w; cases w
    exact (I.hok a u q).stay (fun c v hc z => N.keep c v z (fun w => key c (I.stkFree c w) hc) (fun w => key c (by rw [w]; exact n1.2.1) hc) fun w => key c (n3 c w.symm).2.1 hc) (fun _ z => z) fun _ _ z => z
  have cellK : ∀ c v, s.heap.IsCell c v → h'.IsCell c v := fun c v ⟨o, q, d⟩ => by
    obtain ⟨z1, z2⟩ := nfl c o q fun vs w => by rw [d] at w; cases w
    obtain ⟨sl, q'⟩ := up c o q z1 z2
    exact ⟨_, q', d⟩
  have I' : Inv X [] σ H { s with heap := h' } := by
    refine ⟨I.ok, I.os, I.bare, by rw [hex]; exact un, ?_, fun y c e => ?_, I.free, I.freeC, fun p hp => ?_, hok, I.len⟩
    · obtain ⟨m, ⟨o, es, ep, ho, hd', r⟩, hl⟩ := I.loc
      obtain ⟨z1, z2⟩ := nfl _ o ho fun vs w => by rw [hd'] at w; cases w
      obtain ⟨sl, q'⟩ := up _ o ho z1 z2
      refine ⟨m, ⟨_, es, ep, q', hd', r⟩, fun i x v e1 e2 e3 => ?_⟩
      obtain ⟨u, r, l⟩ := hl i x v e1 e2 e3
      refine ⟨u, r, ?_⟩
      rcases l with l | ⟨k, c, ec, z⟩
      · exact .inl l
      · exact .inr ⟨k, c, ec, cellK c _ z⟩
    · obtain ⟨v, z⟩ := I.cell y c e
      exact ⟨v, cellK c v z⟩
    · obtain ⟨q, n, nl, nf, d⟩ := I.pin p hp
      have hp' : p ∈ X.pn := by simpa using hp
      refine ⟨N.keep p.1 p.2 q (fun z => ?_) (n1.2.2 p hp') fun z => (n3 p.1 z.symm).2.2 p hp' rfl, n, nl, nf, d⟩
      rcases List.mem_cons.mp (I.stkSub p.1 z) with w | w
      · exact nl w
      · exact nf w
  refine ⟨I', n1, ?_⟩
  obtain ⟨T, nT, r⟩ := N.ent
  refine ⟨some T, r, fun T' e' => ?_⟩
  cases e'
  rcases nT with nT | nT
  rotate_left
  · exact n3 T nT
  refine ⟨?_, ?_, fun p hp z => ?_⟩
  · cases q : X.s₀.heap.get? T with
    | none => rfl
    | some o =>
      obtain ⟨o', z⟩ := B.there T o q (nin T)
      rw [nT] at z; cases z
  · cases q : H T with
    | none => rfl
    | some u =>
      obtain ⟨o', z⟩ := qGw (I.hok T u q)
      rw [nT] at z; cases z
  · have q := (I.pin p (List.mem_append_left _ hp)).1
    rw [z, nT] at q; cases q
end
theorem qH5 {X : Cx} {E : Value → Shared → Prop} {st : List Stmt} {t : TS} (h : PSs (X.wish E) st t) (hE : ∀ e s', E e s' → X.xe e s') : PSs X st t := fun pins s σ H D I hw =>
  wpAny_mono (h pins s σ H D (I.wish E) hw) (fun _ _ q => q.unwish) hE
section
variable {P : Program} {w : World} {K : PySem.W.Frag} {mg : Str → Option Value} {base : Heap}
theorem okX {x qual : Str} {st : Stmt} {f : Addr} {fd : FuncData} {N ps : List Str} {k : Nat} {sp : Sp} (F : Fun K x qual st f fd) (S : qQ N ps (qC st)) (len : ∀ vs H Q E, sp vs H Q E → vs.length = ps.length)
    (hbody : ∀ (cdv : Value) (A : Around) (outer : List Env) (s : Shared) (H : Hp) (vs : List V) (Q : VK) (E : XK), Room k (A.deeper (envOfC qual (qC st) s.heap.objs.size f cdv)) → sp vs H Q E →
      ∃ t, PSs ((qFn (CXR P w) P w K mg base N qual (qC st) f cdv A outer s H E).wish (XE (qFn (CXR P w) P w K mg base N qual (qC st) f cdv A outer s H E) E)) (qI st) t ∧
        t { nx := fun _ H' => Q .non H', rt := Q } (wa N vs) H) : FnOk P w K mg base (CXR P w) (k + 1) f fd ps sp := by
  obtain ⟨oc, od, kV, doc, pm, an, cdv, ct, osl, rfl, lk, hcd⟩ := F.ex
  refine qIh lk hcd S len fun A outer s H vs Q E hr hsp => ?_
  obtain ⟨t, h, q⟩ := hbody cdv A outer s H vs Q E hr hsp
  refine ⟨t, qH5 h ?_, q⟩
  rintro e s' ⟨ea, C, σ, H', rfl, I, ⟨n1, hd, r, n3⟩, z⟩
  show wpAny _ _ (leaving _ _) _ _ _
  unfold leaving
  refine wpAny_bind (qEa I.ok.frames I.stack rfl r fun h' N' => ?_)
  obtain ⟨I', x'⟩ := kP I rfl r n1 n3 N'
  exact ⟨ea, C, H', rfl, I.os, I.bare, I'.base, I'.hok, x', z⟩
end
theorem qJk {X : Cx} {Ex : Value → Option Addr → Hp → Prop} (hex : X.ex = []) : qDc (CXR X.prog X.w) (X.wish (XE X Ex)) Ex := by
  rintro pins σ H s e s' I ⟨ea, C, H', rfl, os, bare, un, hok, ⟨n1, hd, r, n3⟩, q⟩
  have I0 := I.unwish
  have I1 : Inv X pins σ H' s' := I0.call' (ch := []) os un hok bare fun b z => nomatch z
  have old : ∀ b, s.heap.get? b = none → X.s₀.heap.get? b = none := fun b z => by
    cases w : X.s₀.heap.get? b with
    | none => rfl
    | some o =>
      obtain ⟨o', w'⟩ := I0.base.there b o w (by rw [hex]; intro y; cases y)
      rw [z] at w'; cases w'
  have pn : ∀ b, s.heap.get? b = none → ∀ p ∈ X.pn, p.1 ≠ b := fun b z p hp w => by
    have q := (I0.pin p (List.mem_append_left _ hp)).1
    rw [w, z] at q; cases q
  exact ⟨ea, C, σ, H', rfl, I1.pins_of (pins' := []) fun p hp => (nomatch hp), ⟨⟨old _ n1.1, n1.2.1, pn _ n1.1⟩, hd, r, fun T e => ⟨old _ (n3 T e).1, (n3 T e).2.1, pn _ (n3 T e).1⟩⟩, q⟩
theorem zK {X : Cx} {Ex : Value → Option Addr → Hp → Prop} {k j : Nat} {x : Str} {st : Stmt} {ps : List Str} {f : Addr} {fd : FuncData} {sp : Sp} {e : Expr} {es : List Expr} {t : TA} {p pos : Pos} (D : Def X.K X.mg x st ps f fd) (F : FnOk X.prog X.w X.K X.mg X.base (CXR X.prog X.w) j f fd ps sp) (hr : Room k X.A) (hg : Gl X x)
    (ha : PA (X.wish (XE X Ex)) (e :: es) t) (hj : j ≤ k := by decide) (hex : X.ex = [] := by rfl)
    (hdb : (x == ("__debug__" : Str)) = false := by decide) (he : starEach (e :: es) X.env = (false, eval e X.env) :: starEach es X.env := by rfl) (hpl : (backTo pos (starEach es X.env)).any (·.1) = false := by rfl) :
    PE (X.wish (XE X Ex)) (.Call (.Name x p) (e :: es) [] pos) (qHm sp [] Ex t) :=
  qE3 (X := X.wish (XE X Ex)) (CX := CXR X.prog X.w) F (hr.mono hj) hg D.m D.F.kp D.b .nil (qJk hex) ha hdb he hpl
def qH1 : List Value := [.type "ValueError", .type "Exception", .type "BaseException", .type "object"]
def OwnX (K : PySem.W.Frag) (C : Addr) : Prop := PySem.W.excIn K C qH1 "ValueError.__new__" = true
theorem qHd {K : PySem.W.Frag} {h : Heap} {mg : Str → Option Value} {x : Str} {C : Addr} (X : K.In h) (b : mg x = some (.ref C)) (q : OwnX K C) : OwnCls x C qH1 "ValueError.__new__" mg h := by
  refine ⟨b, ?_⟩
  unfold OwnX PySem.W.excIn at q
  split at q
  · rename_i dd cd sl ho
    split at q
    · rename_i C' bm k0 k1 k2 k3 n k5 hm hs
      simp only [Bool.and_eq_true, beq_iff_eq, Bool.not_eq_true'] at q
      obtain ⟨⟨⟨⟨⟨eC, en⟩, del⟩, ht⟩, ok⟩, ni⟩ := q
      subst eC en
      obtain ⟨nm, bs, mro, ns, qn, hd, sn, sub, ab, col, dl⟩ := cd
      dsimp only at hm del ok ni
      subst hm del
      have hsl : sl = #[k0, k1, k2, k3, some (.builtin "ValueError.__new__"), k5] := by
        obtain ⟨l⟩ := sl
        simp only at hs
        rw [hs]
      subst hsl
      exact ⟨bm, ns, nm, qn, bs, hd, sn, sub, ab, col, dd, k0, k1, k2, k3, k5, _, X _ _ ho, .of_isNs (PySem.W.isNs_of_in X ok), PySem.W.nsMap_none_of_in X ok ni, PySem.W.tail_of_in X ht⟩
    · cases q
  · cases q
def qIo (C : Addr) (Ex : Value → Option Addr → Hp → Prop) (t : TA) : TS := fun _ σ H => t σ H fun vs H1 => vs.length ≤ sizeLine ∧ Ex (.ref C) none H1
theorem kH {X : Cx} {Ex : Value → Option Addr → Hp → Prop} {x : Str} {C : Addr} {np cpos pos : Pos} {e₀ : Expr} {rest : List Expr} {t : TA} (hcm : X.calm = true) (hg : Gl X x) (hm : X.mg x = some (.ref C)) (hx : OwnX X.K C) (ha : PA (X.wish (XE X Ex)) (e₀ :: rest) t)
    (he : starEach (e₀ :: rest) X.env = (false, eval e₀ X.env) :: starEach rest X.env := by rfl) (hpl : (backTo cpos (starEach rest X.env)).any (·.1) = false := by rfl) (hex : X.ex = [] := by rfl) (hdb : (x == ("__debug__" : Str)) = false := by decide) :
    PS (X.wish (XE X Ex)) (.Raise (some (.Call (.Name x np) (e₀ :: rest) [] cpos)) none pos) (qIo C Ex t) := by
  intro pins s σ H D I h
  obtain ⟨tl, N, nm, q, bs, hdct, sn, sub, ab, col, dd, k0, k1, k2, k3, k5, mN, hC, hN, hni, T⟩ :=
    (qHd (X := I.ok.mod.kin) hm hx).obj
  refine wpAny_Raise_call_subT (bm := tl) (C := C) (N := N) (nm := nm) (q := q) (bs := bs) (hdct := hdct) (sn := sn) (sub := sub) (ab := ab) (col := col) (dd := dd) (k5 := k5) (k0 := k0) (k1 := k1) (k2 := k2) (k3 := k3)
    PySem.F.excBase_ValueError (mN := mN) (T.hasType PySem.F.excBase_ValueError.hasBase) (I.ok.hd hcm) (by rw [he]; show (false || (backTo cpos (starEach rest X.env)).any (·.1)) = false; rw [hpl]; rfl) hni (vK I hg hm ⟨rfl, ?_⟩ hdb)
  have z := ha cpos pins s σ H _ I h
  rw [show (X.wish (XE X Ex)).env = X.env from rfl] at z
  rw [he] at z ⊢
  refine Calls.evalArgs_plain (wpAny_mono z (fun us s2 w => ?_) fun _ _ y => y)
  obtain ⟨vs, H1, I1, r1, hl, ex⟩ := w
  have I1' := I1.unwish
  refine ⟨rfl, by rw [← r1.length]; exact hl, I1.bk _ _ hC, hN.keeps I1.bk, T.keeps I1.bk, fun h' e hmk => ?_⟩
  obtain ⟨tt, q1, q2, q3⟩ := hmk.there
  have I2 : Inv X pins σ H1 { s2 with heap := h' } := I1'.kept (t' := s2.toks) hmk.keeps
  refine ⟨e, (.ref C, none), σ, H1, rfl, I2.pins_of (pins' := []) fun p hp => (nomatch hp), ⟨⟨?_, ?_, fun p hp z => ?_⟩, none, ⟨_, _, q1, rfl⟩, fun T e' => nomatch e'⟩, ex⟩
  · cases w : X.s₀.heap.get? e with
    | none => rfl
    | some o =>
      obtain ⟨o', w'⟩ := I1'.base.there e o w (by rw [hex]; intro y; cases y)
      rw [hmk.new] at w'; cases w'
  · cases w : H1 e with
    | none => rfl
    | some u =>
      obtain ⟨o', w'⟩ := qGw (I1'.hok e u w)
      rw [hmk.new] at w'; cases w'
  · have q' := (I1'.pin p (List.mem_append_left _ hp)).1
    rw [z, hmk.new] at q'; cases q'
end L3
set_option maxHeartbeats 4000000
namespace L3
open PySem PySem.Spec PyProof.Rows L2
def pnX (X : Cx) (l : List (Addr × Obj)) : Cx := { X with pn := l }
def hdX (X : Cx) (ea : Addr) : Cx := { X with A := X.A.mark (some (.ref ea)), calm := false }
section
variable {X : Cx} {pins : List (Addr × Obj)} {σ : L2.St} {H : Hp} {s : Shared}
theorem qI2 (I : Inv X pins σ H s) : Inv (pnX X (X.pn ++ pins)) [] σ H s := by
  obtain ⟨a1, a2, a3, a4, a5, a6, a7, a8, a9, a10, a11, a12, a13, a14, a15, a16, a17, a18⟩ := I.ok
  exact ⟨⟨a1, a2, a3, a4, a5, a6, a7, a8, a9, a10, a11, a12, a13, a14, a15, a16, a17, a18⟩, I.os, I.bare, I.base, I.loc, I.cell, I.free, I.freeC, fun p hp => I.pin p (by have z : p ∈ (X.pn ++ pins) ++ [] := hp; simpa using z), I.hok, I.len⟩
theorem kx (I : Inv (pnX X (X.pn ++ pins)) [] σ H s) : Inv X pins σ H s := by
  obtain ⟨a1, a2, a3, a4, a5, a6, a7, a8, a9, a10, a11, a12, a13, a14, a15, a16, a17, a18⟩ := I.ok
  exact ⟨⟨a1, a2, a3, a4, a5, a6, a7, a8, a9, a10, a11, a12, a13, a14, a15, a16, a17, a18⟩, I.os, I.bare, I.base, I.loc, I.cell, I.free, I.freeC, fun p hp => I.pin p (by show p ∈ (X.pn ++ pins) ++ []; simpa using hp), I.hok, I.len⟩
theorem qE1 {ea : Addr} (I : Inv X pins σ H s) : Inv (hdX X ea) pins σ H s := by
  obtain ⟨a1, a2, a3, a4, a5, a6, a7, a8, a9, a10, a11, a12, a13, a14, a15, a16, a17, a18⟩ := I.ok
  exact ⟨⟨a1, a2, a3, a4, a5, a6, a7, a8, fun h => absurd (show false = true from h) Bool.false_ne_true, a10, a11, a12, a13, a14, a15, a16, a17, a18⟩, I.os, I.bare, I.base, I.loc, I.cell, I.free, I.freeC, I.pin, I.hok, I.len⟩
theorem qAz {ea : Addr} (I : Inv (hdX X ea) pins σ H s) (hd : X.calm = true → X.A.handled = none) : Inv X pins σ H s := by
  obtain ⟨a1, a2, a3, a4, a5, a6, a7, a8, a9, a10, a11, a12, a13, a14, a15, a16, a17, a18⟩ := I.ok
  exact ⟨⟨a1, a2, a3, a4, a5, a6, a7, a8, hd, a10, a11, a12, a13, a14, a15, a16, a17, a18⟩, I.os, I.bare, I.base, I.loc, I.cell, I.free, I.freeC, I.pin, I.hok, I.len⟩
def vm (e : Addr) (C : EC) : HO := .ext fun h => ∃ (vs : Array Value) (sl : Array (Option Value)), h.get? e = some { cls := C.1, dict := C.2, data := .fields vs, slots := sl }
theorem qAe {a : Addr} {C : EC} {hd : Option Addr} (I : Inv X [] σ H s) (_ : X.ex = []) (n : qFi X.s₀.heap H X.pn a) (r : zw s.heap a C hd) : Inv X [] σ (upd H a (vm a C)) s := by
  obtain ⟨vs, sl, q, _⟩ := r
  have B := I.base
  have ne : ∀ b o, X.s₀.heap.get? b = some o → b ≠ a := fun b o w z => by rw [z, n.1] at w; cases w
  refine ⟨I.ok, I.os, I.bare, ⟨B.keep, B.slot, fun b o w z hx => ?_, B.there, fun b xs w => ?_, fun b o u w => ?_, fun b ps w => ?_⟩, I.loc, I.cell, ?_, fun y c e => ?_, fun p hp => ?_, fun b u w => ?_, I.len⟩
  · rw [qV (ne b o w)]; exact B.free b o w z hx
  · have z := B.tups b xs w
    rw [qV (qZ z n.2.1)]; exact z
  · have z := B.frzs b o u w
    rw [qV (qZ z n.2.1)]; exact z
  · obtain ⟨more, z⟩ := B.tbls b ps w
    exact ⟨more, by rw [qV (qZ z n.2.1)]; exact z⟩
  · obtain ⟨m, ⟨o, es, ep, ho, hd', _⟩, _⟩ := I.loc
    rw [qV (fun z => by rw [z, q] at ho; cases ho; cases hd')]
    exact I.free
  · obtain ⟨v, o, ho, hd'⟩ := I.cell y c e
    rw [qV (fun z => by rw [z, q] at ho; cases ho; cases hd')]
    exact I.freeC y c e
  · obtain ⟨w1, w2, w3⟩ := I.pin p hp
    have hp' : p ∈ X.pn := by simpa using hp
    rw [qV (n.2.2 p hp')]
    exact ⟨w1, w2, w3⟩
  · by_cases hb : b = a
    · subst hb
      rw [qF] at w
      cases w
      refine ⟨⟨vs, sl, q⟩, ⟨_, q⟩, fun h1 h2 z k => ?_⟩
      obtain ⟨vs', sl', z⟩ := z
      exact ⟨vs', sl', k _ z⟩
    · rw [qV hb] at w
      exact (I.hok b u w).stay (fun _ _ _ z => z) (fun c z => by rw [qV (qZ z n.2.1)]; exact z) fun c xs z => by rw [qV (qZ z n.2.1)]; exact z
theorem kM {M : Model} {A : Around} {E : Value → Shared → Prop} {i : Nat} {n : Str} {pos : Pos} {Q : Unit → Shared → Prop} (I : Inv X pins σ H s) (hN : X.N.Nodup) (hi : X.N[i]? = some n) (hl : X.env.scope.names.lookup n = some .local)
    (h : ∀ s', Inv X pins (σ.set i none) H s' → Q () s') : wpAny M A (do bindName X.env n .none; unbindBehindTheSuite X.env n pos) Q E s := by
  refine wpAny_bind (wpAny_bindName (zG (v := .non) I hN hi (.inl hl) rfl (fun s1 I1 => ?_) (.inr hl)))
  unfold unbindBehindTheSuite
  refine wpAny_onRaise ?_
  have hcls : (X.env.scope.kind == .class || (X.env.scope.kind == .module && X.env.locals != X.env.globals)) = false := by rw [I1.ok.kind]; rfl
  have hiσ : i < σ.length := by rw [I.len]; exact (List.getElem?_eq_some_iff.mp hi).1
  obtain ⟨m, hn, hlk⟩ := I1.loc
  obtain ⟨u, r, lk⟩ := hlk i n .non hi (by rw [List.getElem?_set_self hiσ]) (.inl hl)
  have hm : m n = some u := by
    rcases lk with ⟨_, z⟩ | ⟨z, _⟩
    · exact z
    · have hl' : X.env.kindOf n = some .local := hl
      rw [hl'] at z
      rcases z with z | z <;> cases z
  obtain ⟨oL, es, ep, hoL, hdL, _⟩ := id hn
  refine wpAny_unbindName_local hl hn hm hcls fun h' u' hn' hs => h _ ?_
  have B := I1.base
  have neL : ∀ b o, X.s₀.heap.get? b = some o → b ≠ X.env.locals := fun b o e => Nat.ne_of_lt (Nat.lt_of_lt_of_le (Heap.lt_size e) I1.ok.above)
  refine ⟨I1.ok, I1.os, I1.bare, ⟨fun b o e n hb hx => (hs.2 b (neL b o e)).trans (B.keep b o e n hb hx), fun b o e n hb hx => ?_, B.free, fun b o e hx => ?_, B.tups, B.frzs, B.tbls⟩, ⟨_, hn', fun j y v e1 e2 e3 => ?_⟩, fun y c e => ?_, I1.free, I1.freeC, fun p hp => ?_, fun b ob e => ?_, ?_⟩
  · obtain ⟨sl, z⟩ := B.slot b o e n hb hx
    exact ⟨sl, (hs.2 b (neL b o e)).trans z⟩
  · obtain ⟨o', z⟩ := B.there b o e hx
    exact ⟨o', (hs.2 b (neL b o e)).trans z⟩
  · have hj : j ≠ i := fun z => by
      subst z
      rw [List.getElem?_set_self hiσ] at e2
      cases e2
    rw [List.getElem?_set_ne (Ne.symm hj)] at e2
    obtain ⟨u2, r2, l2⟩ := hlk j y v e1 (by rw [List.getElem?_set_ne (Ne.symm hj)]; exact e2) e3
    refine ⟨u2, r2, ?_⟩
    rcases l2 with ⟨k, z⟩ | ⟨k, c, ec, z⟩
    · refine .inl ⟨k, ?_⟩
      have : y ≠ n := fun w => hj (wn hN e1 (w ▸ hi))
      simp [this, z]
    · exact .inr ⟨k, c, ec, z.sameBut hs (I1.cne y c ec)⟩
  · obtain ⟨w', z⟩ := I1.cell y c e
    exact ⟨w', z.sameBut hs (I1.cne y c e)⟩
  · obtain ⟨e, n, ne, nf, d⟩ := I1.pin p hp
    exact ⟨(hs.2 p.1 ne).trans e, n, ne, nf, d⟩
  · refine (I1.hok b ob e).stay (fun c w' hc q => (hs.2 c fun z => ?_).trans q) (fun _ q => q) fun _ _ q => q
    have fr := I1.free
    rcases hc with hc | hc
    · rw [← hc, z, fr] at e; cases e
    · rw [z, fr] at hc; cases hc
  · have := I1.len
    simpa using this
end
def qG9 (D : qE4) (i : Option Nat) : qE4 :=
  let f : (L2.St → Hp → Prop) → L2.St → Hp → Prop := fun q σ H => match i with | some i => q (σ.set i none) H | none => q σ H
  { nx := f D.nx, rt := D.rt, bk := f D.bk, ct := f D.ct }
def qJq (i : Option Nat) (ea : Addr) (σ : L2.St) : L2.St := match i with | some i => σ.set i (some (.ref ea)) | none => σ
def qKq (K : PySem.W.Frag) (Ex : Value → Option Addr → Hp → Prop) (C : Addr) (i : Option Nat) (tb ts : TS) : TS := fun D σ H => tb D σ H ∧ ∀ (ea : Addr) (B : EC) (σ' : L2.St) (H' : Hp), Ex B.1 B.2 H' → H' ea = none → σ'.length = σ.length →
  PySem.W.exmOne K B.1 (.ref C) = some true ∧ ts (qG9 D i) (qJq i ea σ') (upd H' ea (vm ea B))
inductive qCp (X : Cx) : Option Str → Option Nat → Prop where
  | none : qCp X none none
  | some {n : Str} {i : Nat} (hi : X.N[i]? = some n) (hl : X.env.scope.names.lookup n = some .local) : qCp X (some n) (some i)
theorem qIw {X : Cx} {body : List Stmt} {b₀ : Stmt} {suite : List Stmt} {x : Str} {C : Addr} {nm : Option Str} {i : Option Nat} {np hpos pos : Pos} {tb ts : TS} (Ex : Value → Option Addr → Hp → Prop)
    (hcl : qCp X nm i) (hN : X.N.Nodup) (hg : Gl X x) (hm : X.mg x = some (.ref C))
    (hb : ∀ l, PSs ((pnX X l).wish (XE (pnX X l) Ex)) body tb) (hs : ∀ l ea, PSs (hdX (pnX X l) ea).nox (b₀ :: suite) ts)
    (hstk : X.stack = X.env :: X.outer := by rfl) (hfr : X.env.frame = some X.env.locals := by rfl) (hex : X.ex = [] := by rfl) (hdb : (x == ("__debug__" : Str)) = false := by decide) :
    PS X (.Try body [.ExceptHandler (some (.Name x np)) nm (b₀ :: suite) hpos] [] [] pos) (qKq X.K Ex C i tb ts) := by
  rintro pins s σ H D I ⟨h1, h2⟩
  have I0 := qI2 I
  refine wpAny_Try_except (wpAny_mono (hb (X.pn ++ pins) [] s σ H D (I0.wish _) h1) (fun f s1 q => ?_) fun e s1 q => ?_)
  · have q := q.unwish
    cases f with
    | next =>
      obtain ⟨σ', H', J, z⟩ := q
      exact wpAny_execs_nil ⟨σ', H', kx J, z⟩
    | brk =>
      obtain ⟨σ', H', J, z⟩ := q
      exact ⟨σ', H', kx J, z⟩
    | cont =>
      obtain ⟨σ', H', J, z⟩ := q
      exact ⟨σ', H', kx J, z⟩
    | ret u =>
      obtain ⟨v, σ', H', J, r, z⟩ := q
      exact ⟨v, σ', H', kx J, r, z⟩
  · obtain ⟨ea, B, σ', H', rfl, I1, ⟨n1, hd, r, n3⟩, ex⟩ := q
    have hlen : σ'.length = σ.length := I1.len.trans I.len.symm
    obtain ⟨hx, ht⟩ := h2 ea B σ' H' ex n1.2.1 hlen
    have fr : X.A.frames = some (X.env :: X.outer) := by rw [← hstk]; exact I.ok.frames
    have ff : s1.heap.FunFrames X.base (X.env :: X.outer) := by
      have z := I1.stack
      rw [show (pnX X (X.pn ++ pins)).stack = X.env :: X.outer from hstk] at z
      exact z
    refine qEa fr ff hfr r fun h' N' => ?_
    have N' : Noted (frs X.stack) ea hd B s1.heap h' := by rw [hstk]; exact N'
    obtain ⟨I2, n1, hd2, r2, n3⟩ := kP I1 hex r n1 n3 N'
    refine wpAny_handleBy_cons (codeAny_handlers_test (vK (X := hdX (pnX X (X.pn ++ pins)) ea) (qE1 I2) hg hm ?_ hdb)) (by intro z; cases z)
    have LT : PySem.W.Looks (model X.prog X.w) h' (typeOf (.ref ea)) B.1 := by
      obtain ⟨vs, sl, qe, _⟩ := r2
      exact (PySem.W.Looks.ld qe).andThen .now
    refine (PySem.W.exm_one (M := model X.prog X.w) I2.kIn LT hx).here ?_
    show codeAny _ _ _ _ _
    obtain ⟨T, rfl, r3⟩ : ∃ T, hd2 = some T ∧ zw h' ea B (some T) := by
      obtain ⟨T, _, _⟩ := N'.ent
      cases hd2 with
      | some T => exact ⟨T, rfl, r2⟩
      | none =>
        obtain ⟨T, _, rT⟩ := N'.ent
        obtain ⟨vs, sl, q1, q2⟩ := r2
        obtain ⟨vs', sl', q1', q2', _⟩ := rT
        rw [q1] at q1'
        cases q1'
        rw [q2] at q2'
        cases q2'
    have run : ∀ (s4 : Shared) (σ4 : L2.St) (Q : Flow → Shared → Prop) (E : Value → Shared → Prop), Inv (hdX (pnX X (X.pn ++ pins)) ea) [] σ4 (upd H' ea (vm ea B)) s4 → ts (qG9 D i) σ4 (upd H' ea (vm ea B)) →
        (∀ f s5, SP (hdX (pnX X (X.pn ++ pins)) ea) [] (qG9 D i) f s5 → Q f s5) → wpAny (model X.prog X.w) (X.A.mark (some (.ref ea))) (execs (b₀ :: suite) X.env) Q E s4 := fun s4 σ4 Q E I4 z k =>
      wpAny_mono (hs (X.pn ++ pins) ea [] s4 σ4 _ _ (I4.wish _) z) (fun f s5 q => k f s5 q.unwish) fun _ _ z => z.elim
    have hdn : (pnX X (X.pn ++ pins)).calm = true → (pnX X (X.pn ++ pins)).A.handled = none := I2.ok.hd
    cases hcl with
    | none =>
      refine codeAny_handlers_suite (vI r3 fun h3 N3 => ?_)
      obtain ⟨I3, n1, hd3, r4, n3⟩ := kP I2 hex r3 n1 n3 (N3 _)
      refine run _ _ _ _ (qE1 (qAe I3 hex n1 r4)) ht fun f s5 q => ?_
      cases f with
      | next => obtain ⟨σ5, H5, J, z⟩ := q; exact ⟨σ5, H5, kx (qAz J hdn), z⟩
      | brk => obtain ⟨σ5, H5, J, z⟩ := q; exact ⟨σ5, H5, kx (qAz J hdn), z⟩
      | cont => obtain ⟨σ5, H5, J, z⟩ := q; exact ⟨σ5, H5, kx (qAz J hdn), z⟩
      | ret u => obtain ⟨v, σ5, H5, J, rv, z⟩ := q; exact ⟨v, σ5, H5, kx (qAz J hdn), rv, z⟩
    | some hi hl =>
      refine codeAny_handlers_suite_as (vI r3 fun h3 N3 => ?_)
      obtain ⟨I3, n1, hd3, r4, n3⟩ := kP I2 hex r3 n1 n3 (N3 _)
      refine zG (X := hdX (pnX X (X.pn ++ pins)) ea) (v := .ref ea) (qE1 (qAe I3 hex n1 r4)) hN hi (.inl hl) rfl (fun s4 I4 => ?_) (.inr hl)
      refine run _ _ _ _ I4 ht fun f s5 q => ?_
      cases f with
      | next => obtain ⟨σ5, H5, J, z⟩ := q; exact kM (X := pnX X (X.pn ++ pins)) (qAz J hdn) hN hi hl fun s6 J6 => ⟨_, H5, kx J6, z⟩
      | brk => obtain ⟨σ5, H5, J, z⟩ := q; exact kM (X := pnX X (X.pn ++ pins)) (qAz J hdn) hN hi hl fun s6 J6 => ⟨_, H5, kx J6, z⟩
      | cont => obtain ⟨σ5, H5, J, z⟩ := q; exact kM (X := pnX X (X.pn ++ pins)) (qAz J hdn) hN hi hl fun s6 J6 => ⟨_, H5, kx J6, z⟩
      | ret u => obtain ⟨v, σ5, H5, J, rv, z⟩ := q; exact kM (X := pnX X (X.pn ++ pins)) (qAz J hdn) hN hi hl fun s6 J6 => ⟨v, _, H5, kx J6, rv, z⟩
end L3
set_option maxHeartbeats 4000000
set_option maxRecDepth 100000
namespace L3
open PySem PySem.Spec PySem.Calls PyProof.Rows PySem.W
section
variable {prog : Program} {w : World} {A : Around} {E : Value → Shared → Prop} {K : Frag} {h : Heap} {g : Array GenState} {d : Drawn} {t : Nat} {os : OsState} {a D : Addr} {ox : Obj} {od : Option Obj}
structure ExcK (K : Frag) (D : Addr) : Prop where
  ga : findIn K (.ref D) "__getattribute__" = some (some (.builtin "BaseException.__getattribute__"))
  gt : findIn K (.ref D) "__getattr__" = some none
  ca : findIn K (.ref D) "__class__" = some (some (.builtin "object.__class__"))
  sg : specialIn K (.builtin "object.__class__") "__get__" = some (some (.builtin "getset_descriptor.__get__"))
  tk : takesIn K (.builtin "object.__class__") = some true
  mo : mroIn K D (.type "object") = some true
  mb : mroIn K D (.type "BaseException") = some true
theorem qE9 {tk : Tok} {Q : Fin → Shared → Prop} (c : ExcK K D) (X : K.In h) (I : InstAt h a ox D od) (hq : Q (.done (.ret (.ref D))) ⟨h, g, d, t, os⟩) :
    wpAny (model prog w) A (Builtin.«object.__getattribute__» ⟨[.ref a, .str "__class__" tk], []⟩) Q E ⟨h, g, d, t, os⟩ := by
  have L0 := I.type (M := model prog w)
  have L1 := looks_findIn (M := model prog w) X c.ca
  have hf : findObj K D od "__class__" = some (.bind (.builtin "getset_descriptor.__get__") (.builtin "object.__class__")) := by
    have mo := c.mo
    unfold mroIn at mo
    unfold findObj
    cases e : clsIn K D with
    | none => rw [e] at mo; cases mo
    | some cd =>
      simp only [Option.bind_some, c.ca, c.sg, c.tk]
  have L2 := looks_find (M := model prog w) X I hf
  unfold Builtin.«object.__getattribute__»
  repeat (any_goals (first | assumption | (with_reducible refine wpAny_bind (L0.at ?_)) | (with_reducible refine wpAny_bind (L2.at ?_)) | wp_step))
  refine class_get (s := ⟨h, g, d, t, os⟩) (ox := ox) (od := od) X I c.mo ?_
  exact wpAny_pure hq
theorem qF9 {tk : Tok} {R : Result → Shared → Prop} (c : ExcK K D) (X : K.In h) (I : InstAt h a ox D od) (hq : R (.ok (.ret (.ref D))) ⟨h, g, d, t, os⟩) :
    codeAny (model prog w) A (.call (.builtin "BaseException.__getattribute__") ⟨[.ref a, .str "__class__" tk], []⟩) R ⟨h, g, d, t, os⟩ := by
  refine codeAny_call_builtin F.attr_ValueError.ga.plain F.entry_bexc_ga ?_
  have bkd : builtinKind "BaseException.__getattribute__" = some .slot := by decide +kernel
  have hsp : splitId "BaseException.__getattribute__" = some ("BaseException", "__getattribute__") := by decide +kernel
  have ha := F.args_bexc_ga (.ref a) (.str "__class__" tk)
  have L0 := I.type (M := model prog w)
  have L1 : Looks (model prog w) h (isInstance (.ref a) (.type "BaseException")) true := L0.andThen (looks_mroIn X c.mb)
  simp only [checkBuiltinCall, bkd, hsp]
  refine wpAny_bind (L1.at ?_)
  repeat (first | assumption | (with_reducible refine qE9 c X I ?_) | exact hq | wp_step)
theorem qI0 {tk : Tok} {fill : Bool} {Q : Value → Shared → Prop} (c : ExcK K D) (X : K.In h) (I : InstAt h a ox D od) (hq : Q (.ref D) ⟨h, g, d, t, os⟩) :
    wpAny (model prog w) A (getAttrBy (.ref a) (.str "__class__" tk) fill) Q E ⟨h, g, d, t, os⟩ := by
  have L0 := I.type (M := model prog w)
  have L1 := looks_findIn (M := model prog w) X c.ga
  have L2 := looks_findIn (M := model prog w) X c.gt
  have f3 := F.attr_ValueError.ga.bind (.ref a)
  have no2 : (Value.builtin "BaseException.__getattribute__" == Value.builtin "object.__getattribute__") = false := by decide +kernel
  have no1 : (onTheHeap (Value.ref D) && Value.builtin "BaseException.__getattribute__" == Value.builtin "object.__getattribute__") = false := by rw [no2]; rfl
  repeat (any_goals (first | assumption | (with_reducible refine wpAny_bind (L0.at ?_)) | (with_reducible refine wpAny_bind (L1.at ?_)) | (with_reducible refine wpAny_bind (L2.at ?_)) | (with_reducible refine L1.at ?_) | (with_reducible refine L2.at ?_) | wp_step))
  refine qF9 c X I ?_
  show wpAny _ _ (handedOut (.ref D)) Q E _
  exact wpAny_pure hq
theorem qGj {Q : Option Value → Shared → Prop} (c : ExcK K D) (X : K.In h) (I : InstAt h a ox D od) (hq : Q (some (.ref D)) ⟨h, g, d, t + 1, os⟩) : wpAny (model prog w) A (getAttr? (.ref a) "__class__") Q E ⟨h, g, d, t, os⟩ := by
  unfold getAttr? getAttrBy?
  repeat (any_goals (first | assumption | with_reducible refine qI0 c X I ?_ | wp_step))
theorem qC7 (c : ExcK K D) : KitX K (.ref a) (.ref D) (fun h => InstAt h a ox D od) where
  ty := fun _ _ _ I => I.type
  it := fun _ _ X _ => by
    have mo := c.mo
    unfold mroIn clsIn at mo
    split at mo
    · rename_i kls kdi kcd ksl kob
      intro A' Q' E' s' kp wq
      unfold isType loadHead
      exact wpAny_bind (wpAny_loadPart (kp _ _ (X _ _ kob)) (wpAny_pure wq))
    · cases mo
  ne := fun h tp dd its n sl X htp => by
    have mo := c.mo
    refine Bool.eq_false_iff.mpr fun same => ?_
    have here : D = tp := Value.ref.inj (beq_iff_eq.mp same)
    subst here
    unfold mroIn clsIn at mo
    split at mo
    · rename_i kls kdi kcd ksl kob
      have z := (X _ _ kob).symm.trans htp
      cases z
    · cases mo
  ca := fun {_ _ _ _ _ s} X I k => by
    obtain ⟨h, g, d, t, os⟩ := s
    exact qGj c X I k
end
end L3
namespace L3
open PySem PySem.Spec PyProof.Rows L2
def OwnD (H : Hp) (od : Option Addr) : Prop := od = none ∨ ∃ dx fs, od = some dx ∧ H dx = some (.xd fs)
theorem OwnD.at {X : Cx} {pins : List (Addr × Obj)} {σ : L2.St} {H : Hp} {s : Shared} {e D : Addr} {od : Option Addr} {vs : Array Value} {sl : Array (Option Value)} (I : Inv X pins σ H s) (h : OwnD H od)
    (qe : s.heap.get? e = some { cls := .ref D, dict := od, data := .fields vs, slots := sl }) : ∃ o, PySem.W.InstAt s.heap e { cls := .ref D, dict := od, data := .fields vs, slots := sl } D o := by
  rcases h with rfl | ⟨dx, fs, rfl, hd⟩
  · exact ⟨none, qe, rfl, rfl, trivial⟩
  · obtain ⟨mA, ⟨o, es, ep, e', c⟩, r⟩ := I.hok dx _ hd
    exact ⟨some o, qe, rfl, rfl, e'⟩
theorem qAx {X : Cx} : CallR X (.builtin "isinstance") (fun xs H Q => ∃ e D od c b, xs = [.ref e, c] ∧ H e = some (vm e (.ref D, od)) ∧ OwnD H od ∧ ExcK X.K D ∧
    ((∃ n, c = .ty n ∧ PySem.W.kitOne X.K (.ref D) (.type n) = some b) ∨ ∃ a, c = .ref a ∧ PySem.W.kitOne X.K (.ref D) (.ref a) = some b) ∧ Q (.bl b) H) := by
  intro pins s σ H xs us Q I r h
  obtain ⟨e, D, od, c, b, rfl, he, hod, hc, hk, q⟩ := h
  obtain ⟨u, u', rfl, rx, rc⟩ := qHi r
  cases rx
  obtain ⟨⟨vs, sl, qe⟩, _⟩ := I.hok e _ he
  obtain ⟨oo, J⟩ := hod.at I qe
  rcases hk with ⟨n, rfl, hk⟩ | ⟨a, rfl, hk⟩
  · cases rc
    exact PySem.W.kia_one (qC7 hc) I.kIn J hk (fun z => nomatch z) fun tk => ⟨.bl b, H, I.tok _, rfl, q⟩
  · cases rc
    exact PySem.W.kia_one (qC7 hc) I.kIn J hk (fun z => nomatch z) fun tk => ⟨.bl b, H, I.tok _, rfl, q⟩
end L3
set_option maxHeartbeats 4000000
set_option maxRecDepth 100000
namespace L3
open PySem PySem.Spec PySem.Calls PySem.Builtin PySem.Builtin.ObjectAttr PyProof.Rows
def exOver (K : PySem.W.Frag) (C D : Addr) : Bool := (PySem.W.clsIn K C).any fun cd => cd.mro == .ref C :: .ref D :: qH1
section
variable {prog : Program} {w : World} {A : Around} {E : Value → Shared → Prop} {K : PySem.W.Frag} {s : Shared} {x C D : Addr} {vs : Array Value} {sl : Array (Option Value)} {R : Result → Shared → Prop}
open PySem.W in
theorem qEf {ox : Obj} {od : Option Obj} {name : Str} {tk : Tok} {v : Value} (X : K.In s.heap) (I : InstAt s.heap x ox C od) (hp : exOver K C D = true) (ht : takerIn K C name = some none)
    (h : ∀ b, wpAny (model prog w) A.in1 (storeInOwnDict (.ref x) (.ref C) (.str name tk) name v b)
      (fun fin s' => match fin with | .done f => R (.ok f) s' | .again c' => c'.quiet = true ∧ codeAny (model prog w) A c' R s') (fun e s' => R (.error e) s') s) :
    codeAny (model prog w) A (.call (.builtin "object.__setattr__") ⟨[.ref x, .str name tk, v], []⟩) R s := by
  have SF := PySem.F.store_object
  obtain ⟨cd, hc, ho⟩ := any_some hp
  have ho : cd.mro = .ref C :: .ref D :: qH1 := beq_iff_eq.mp ho
  have sub : Looks (model prog w) s.heap (isInstance (.ref x) (.type "object")) true := I.type.andThen (looks_mroIn X (by unfold mroIn; rw [hc, Option.bind_some, ho]; rfl))
  refine codeAny_call_builtin SF.slot.plain SF.entry (@check_slot (model prog w) _ _ s "object.__setattr__" "object" "__setattr__" (.ref x) [.str name tk, v] [] _ SF.kind SF.split sub (SF.args (.ref x) (.str name tk) v) ?_)
  obtain ⟨attr, ha, hr⟩ := Option.bind_eq_some_iff.mp ht
  have hm : Looks (model prog w) s.heap (mroOf (.ref C)) cd.mro := (looks_clsIn X hc).andThen .now
  have L3 : Looks (model prog w) s.heap (storeTaker? attr) none := by
    cases attr with
    | none => cases hr; exact .now
    | some a =>
      obtain ⟨b, hb, hb2⟩ := Option.map_eq_some_iff.mp hr
      refine (looks_takesIn X hb).andThen ?_
      cases b
      · exact .now
      · cases hb2
  rw [osa_eq, refuse_eq]
  refine wpAny_bind (wpAny_bind (I.type.here (wpAny_bind (hm.here ?_))))
  rw [ho, refuseLoop_ref, refuseLoop_ref]
  rw [show refuseLoop (.ref x) "__setattr__" qH1 = pure () from PySem.F.store_ValueError.passes (.ref x)]
  refine wpAny_pure (wpAny_bind (I.type.here (wpAny_bind ((looks_findIn X ha).here (wpAny_bind (L3.here ?_))))))
  exact h _
open PySem.W in
theorem qHg {name : Str} {v : Value} {Q : Unit → Shared → Prop} (X : K.In s.heap) (hx : s.heap.get? x = some { cls := .ref C, dict := none, data := .fields vs, slots := sl })
    (hs : findIn K (.ref C) "__setattr__" = some (some (.builtin "object.__setattr__"))) (hp : exOver K C D = true) (ht : takerIn K C name = some none) (hh : hasDictIn K C = true)
    (h : ∀ h' tk, h'.get? x = some { cls := .ref C, dict := some s.heap.objs.size, data := .fields vs, slots := sl } → h'.Ns1 s.heap.objs.size (fun y => if y = name then some v else none) → (∀ b o, b ≠ x → s.heap.get? b = some o → h'.get? b = some o) → Q () { s with heap := h', toks := tk }) :
    wpAny (model prog w) A (setAttr (.ref x) name v) Q E s := by
  have J : InstAt s.heap x { cls := .ref C, dict := none, data := .fields vs, slots := sl } C none := ⟨hx, rfl, rfl, trivial⟩
  refine PySem.W.set_plain X J hs (qEf (s := { s with toks := s.toks + 1 }) X J hp ht fun b => ?_)
  obtain ⟨cd, hc, hd'⟩ := PySem.W.any_some hh
  refine wpAny_bind (wpAny_pure (wpAny_bind (wpAny_bind (wpAny_loadPart hx (wpAny_bind (PySem.W.Looks.here (s := { s with toks := s.toks + 1 }) (PySem.W.looks_clsIn X hc) ?_))))))
  rw [hd']
  have hx₁ : (s.heap.push { cls := .type "dict", data := .dict #[] }).get? x = some { cls := .ref C, dict := none, data := .fields vs, slots := sl } := Heap.get?_push_of_some _ hx
  have hxs : x ≠ s.heap.objs.size := Nat.ne_of_lt (Heap.lt_size hx)
  refine wpAny_bind (wpAny_alloc' ?_)
  refine wpAny_bind (wpAny_update' hx₁ ?_)
  refine wpAny_pure ?_
  have hgd : ((s.heap.push { cls := .type "dict", data := .dict #[] }).update x fun o => { o with dict := some s.heap.objs.size }).get? s.heap.objs.size = some { cls := .type "dict", data := .dict #[] } :=
    (Heap.get?_update_ne _ _ _ _ hxs.symm).trans (Heap.get?_push_at rfl rfl)
  have hnd : ((s.heap.push { cls := .type "dict", data := .dict #[] }).update x fun o => { o with dict := some s.heap.objs.size }).Ns s.heap.objs.size (fun _ => none) :=
    ⟨_, #[], _, hgd, rfl, fun e he => absurd he (by simp), fun _ => rfl⟩
  refine wpAny_bind (wpAny_pure (wpAny_bind ?_))
  refine wpAny_nsSet1 (s := { s with heap := _, toks := s.toks + 1 }) (Heap.Ns1.of_empty hnd) fun h' hn' hs2 => ?_
  obtain ⟨oD, esD, epD, hoD, hdD, hcD⟩ := hn'.count (Within.cons name v Within.nil)
  refine wpAny_bind (wpAny_lookBehind hoD (by rw [hdD]; exact pastItsLine_dict (Nat.le_trans hcD (by rw [List.length_cons, List.length_nil, sizeLine_eq]; omega))) ?_)
  refine wpAny_pure (h _ _ ?_ hn' ?_)
  · refine (hs2.2 x hxs).trans (Heap.get?_update_self _ hx₁ rfl)
  · intro b o hb ho
    exact (hs2.2 b (Nat.ne_of_lt (Heap.lt_size ho))).trans ((Heap.get?_update_ne _ _ _ _ hb).trans (Heap.get?_push_of_some _ ho))
end
section
variable {prog : Program} {w : World} {A : Around} {E : Value → Shared → Prop} {h : Heap} {g : Array GenState} {d : Drawn} {t : Nat} {os : OsState}
variable {nm q : Str} {C N : Addr} {bs bm bmB : List Value} {hdct : Bool} {sn : List Str} {sub : List Value} {ab : Bool} {col : Option Bool} {dd : Option Addr} {k0 k1 k2 k3 k5 : Option Value} {B newId initId : String}
theorem vV (F : ExcBaseFacts B newId initId bmB) (T : OwnTail h bmB bm) {mN : Str → Option Value} {rest : List Value} {fI : Addr} {oI : Obj} {Q : PySem.Fin → Shared → Prop}
    (hC : h.get? C = some (excClassObj nm q C N bs bm hdct sn sub ab col dd k0 k1 k2 k3 k5 newId)) (hn : h.Ns N mN) (hi : mN "__init__" = some (.ref fI))
    (hfI : h.get? fI = some oI) (hfc : oI.cls = .type "function")
    (hq : ∀ h' e, Heap.MadeExcOf h h' e (.ref C) rest → h'.objs.size = h.objs.size + 2 → e = h.objs.size + 1 →
      wpAny (model prog w) A (call (.ref fI) (.ref e :: rest)) (fun r s' => r = .none ∧ Q (.done (.ret (.ref e))) s') E ⟨h', g, d, t, os⟩) (hrest : rest.length ≤ sizeLine := by size_fits) :
    wpAny (model prog w) A (Builtin.«type.__call__» ⟨.ref C :: rest, []⟩) Q E ⟨h, g, d, t, os⟩ := by
  repeat (first | with_reducible refine wpAny_loadPart_at hC ?_ | with_reducible refine wpAny_madeBy_exc hC ?_ | wp_step)
  refine codeAny_call_builtin_code (Code.quiet_builtin _ F.quiet) (wpAny_check_new_subT F T hC ?_)
  refine codeAny_exc_new_subT F T hC ?_ hrest
  show wpAny _ _ _ _ _ _
  have hC₁ := Heap.get?_push_of_some { cls := .ref C, data := .fields #[.ref h.objs.size, .none, .none, .none, .bool false, .none] }
    (Heap.get?_push_of_some { cls := .type "tuple", data := .seq rest.toArray } hC)
  have hfI₁ := Heap.get?_push_of_some { cls := .ref C, data := .fields #[.ref h.objs.size, .none, .none, .none, .bool false, .none] }
    (Heap.get?_push_of_some { cls := .type "tuple", data := .seq rest.toArray } hfI)
  have hn₁ : ((h.push { cls := .type "tuple", data := .seq rest.toArray }).push { cls := .ref C, data := .fields #[.ref h.objs.size, .none, .none, .none, .bool false, .none] }).Ns N mN :=
    let ⟨o, es, ep, e, r⟩ := hn; ⟨o, es, ep, Heap.get?_push_of_some _ (Heap.get?_push_of_some _ e), r⟩
  have hget : ((h.push { cls := .type "tuple", data := .seq rest.toArray }).push
      { cls := .ref C, data := .fields #[.ref h.objs.size, .none, .none, .none, .bool false, .none] }).get? (h.objs.size + 1) = some
      { cls := .ref C, data := .fields #[.ref h.objs.size, .none, .none, .none, .bool false, .none] } := by heap_get
  have hcC : (Value.ref C :: bm).contains (.ref C) = true := by simp
  have T₁ := T.keeps (h' := (h.push { cls := .type "tuple", data := .seq rest.toArray }).push { cls := .ref C, data := .fields #[.ref h.objs.size, .none, .none, .none, .bool false, .none] })
    fun b o e => Heap.get?_push_of_some _ (Heap.get?_push_of_some _ e)
  unfold isInstance
  repeat (first | with_reducible refine wpAny_loadPart_at hget ?_ | (with_reducible refine wpAny_isSubtype_exc hC₁ ?_; rw [hcC]) | wp_step)
  show wpAny _ _ (typeLookup (.ref C) _) _ _ _
  refine wpAny_typeLookup_tail hC₁ hn₁ T₁ F.mroIs F.init.lookup ?_
  rw [hi]
  refine wpAny_holding (wpAny_bind ?_)
  unfold bindSpecial
  refine wpAny_bind (wpAny_typeOf (T := "function") ⟨_, hfI₁, hfc⟩ ?_)
  rw [if_pos (by decide)]
  refine wpAny_pure (wpAny_bind (wpAny_mono (hq _ (h.objs.size + 1) ⟨fun b o hb => Heap.get?_push_of_some _ (Heap.get?_push_of_some _ hb), Heap.get?_none_of_le (Nat.le_succ _), h.objs.size, hget, Heap.get?_none_of_le (Nat.le_refl _), ?_⟩ (by simp only [Heap.size_push]) rfl) (fun r s' hr => ?_) fun _ _ x => x))
  · exact Heap.get?_push_of_some _ (Heap.get?_push_at rfl rfl)
  · obtain ⟨rfl, hQ⟩ := hr
    wp_walk
    exact hQ
theorem qDs (F : ExcBaseFacts B newId initId bmB) (T : OwnTail h bmB bm) {mN : Str → Option Value} {rest : List Value} {fI : Addr} {oI : Obj} {Q : Value → Shared → Prop}
    (hC : h.get? C = some (excClassObj nm q C N bs bm hdct sn sub ab col dd k0 k1 k2 k3 k5 newId)) (hn : h.Ns N mN) (hi : mN "__init__" = some (.ref fI))
    (hfI : h.get? fI = some oI) (hfc : oI.cls = .type "function")
    (hq : ∀ h' e, Heap.MadeExcOf h h' e (.ref C) rest → h'.objs.size = h.objs.size + 2 → e = h.objs.size + 1 →
      wpAny (model prog w) (A.under (.builtin "type.__call__" ⟨.ref C :: rest, []⟩)) (call (.ref fI) (.ref e :: rest)) (fun r s' => r = .none ∧ Q (.ref e) s') E ⟨h', g, d, t, os⟩) (hrest : rest.length ≤ sizeLine := by size_fits) :
    wpAny (model prog w) A (call (.ref C) rest) Q E ⟨h, g, d, t, os⟩ := by
  have f1 := tc_lookup
  have f2 := tc_bind (.ref C)
  have hT : (⟨h, g, d, t, os⟩ : Shared).TypeIs (.ref C) "type" := ⟨_, hC, rfl⟩
  refine wpAny_call (codeAny_of_tree ?_)
  show wpAny _ _ (callAny (.ref C) _) _ _ _
  repeat (any_goals (first | assumption | with_reducible refine wpAny_loadPart_at hC ?_ | wp_step))
  refine ⟨rfl, ?_⟩
  refine codeAny_call_builtin_at (Code.quiet_builtin _ (by decide +kernel)) entry_typeCall (wpAny_check_type_call_sub hC (vV (hrest := hrest) F T hC hn hi hfI hfc fun h' e hm h1 h2 => ?_))
  exact hq h' e hm h1 h2
end
section
variable {prog : Program} {w : World} {A : Around} {E : Value → Shared → Prop} {s : Shared} {env : Env}
variable {nm q : Str} {C N : Addr} {bs bm bmB : List Value} {hdct : Bool} {sn : List Str} {sub : List Value} {ab : Bool} {col : Option Bool} {dd : Option Addr} {k0 k1 k2 k3 k5 : Option Value} {B newId initId : String}
theorem qDf {M : Model} {x : Sem Value} {Q : Flow → Shared → Prop} (hbase : bm.contains (.type "BaseException") = true) (hh : A.handled = none)
    (h : wpAny M A x (fun v s₁ => ∃ e od vs sl, v = .ref e ∧ s₁.heap.get? C = some (excClassObj nm q C N bs bm hdct sn sub ab col dd k0 k1 k2 k3 k5 newId) ∧
      s₁.heap.get? e = some { cls := .ref C, dict := od, data := .fields vs, slots := sl } ∧ vs[1]? = some .none ∧ E (.ref e) s₁) E s) :
    wpAny M A (raiseStmt env (some x) none) Q E s := by
  have hcB : (Value.ref C :: bm).contains (.type "BaseException") = true := by rw [List.contains_cons, hbase, Bool.or_true]
  unfold raiseStmt
  refine wpAny_bind (wpAny_mono h (fun v s₁ h₁ => ?_) fun _ _ x => x)
  obtain ⟨e, od, vs, sl, rfl, hC, he, hv, hE⟩ := h₁
  obtain ⟨hp, g, d, tk, os⟩ := s₁
  repeat (first | with_reducible refine wpAny_loadPart_at he ?_ | with_reducible refine wpAny_loadPart_at hC ?_ | (with_reducible refine wpAny_isSubtype_exc hC ?_; rw [hcB]) | wp_step)
  rw [hv]
  refine wpAny_pure ?_
  rw [if_neg (by decide)]
  refine wpAny_pure ?_
  exact wpAny_raiseNew_none hh hE
theorem qBp (F : ExcBaseFacts B newId initId bmB) {mN : Str → Option Value} {x : Str} {np cpos pos : Pos} {args : List Expr} {fI : Addr} {oI : Obj} {Q : Flow → Shared → Prop}
    (hbase : bm.contains (.type "BaseException") = true) (hh : A.handled = none) (hplain : (backTo cpos (starEach args env)).any (·.1) = false) (hi : mN "__init__" = some (.ref fI)) (hfc : oI.cls = .type "function")
    (h : wpAny (model prog w) A (eval (.Name x np) env) (fun f s₁ => f = .ref C ∧ wpAny (model prog w) A (evalArgs (.ref C) true (backTo cpos (starEach args env)) [])
      (fun a s₂ => a.kw = [] ∧ a.pos.length ≤ sizeLine ∧ s₂.heap.get? C = some (excClassObj nm q C N bs bm hdct sn sub ab col dd k0 k1 k2 k3 k5 newId) ∧ s₂.heap.Ns N mN ∧ OwnTail s₂.heap bmB bm ∧ s₂.heap.get? fI = some oI ∧
        ∀ h' e, Heap.MadeExcOf s₂.heap h' e (.ref C) a.pos → h'.objs.size = s₂.heap.objs.size + 2 → e = s₂.heap.objs.size + 1 →
          wpAny (model prog w) (A.under (.builtin "type.__call__" ⟨.ref C :: a.pos, []⟩)) (call (.ref fI) (.ref e :: a.pos))
            (fun r s' => r = .none ∧ s'.heap.get? C = some (excClassObj nm q C N bs bm hdct sn sub ab col dd k0 k1 k2 k3 k5 newId) ∧ (∃ od vs sl, s'.heap.get? e = some { cls := .ref C, dict := od, data := .fields vs, slots := sl } ∧ vs[1]? = some .none) ∧ E (.ref e) s') E { s₂ with heap := h' }) E s₁) E s) :
    wpAny (model prog w) A (exec (.Raise (some (.Call (.Name x np) args [] cpos)) none pos) env) Q E s := by
  rw [arm_exec_Raise]
  refine wpAny_bind (wpAny_standAt (qDf (C := C) (nm := nm) (q := q) (N := N) (bs := bs) (bm := bm) (hdct := hdct) (sn := sn) (sub := sub) (ab := ab) (col := col) (dd := dd) (k0 := k0) (k1 := k1) (k2 := k2) (k3 := k3) (k5 := k5) (newId := newId) hbase hh (wpAny_bind (wpAny_mono (wpAny_Call_ofName (wpAny_mono h (fun f s₁ h₁ => ?_) fun _ _ x => x)) (fun v s₃ h₃ => wpAny_bind (wpAny_standAt (wpAny_pure h₃))) fun _ _ x => x))))
  obtain ⟨rfl, h₁⟩ := h₁
  unfold callWith
  refine wpAny_bind (wpAny_holding (wpAny_mono h₁ (fun a s₂ h₂ => wpAny_bind (wpAny_standAt ?_)) fun _ _ x => x))
  obtain ⟨apos, akw⟩ := a
  obtain ⟨hkw, hlen, hC, hn, T, hfI, h₂⟩ := h₂
  obtain rfl : akw = [] := hkw
  obtain ⟨hp, g, d, tk, os⟩ := s₂
  simp only [hplain]
  refine wpAny_bind (wpAny_keeperOf_exc hC ?_)
  refine wpAny_bind (qDs (hrest := hlen) F T hC hn hi hfI hfc fun h' e hm h1 h2 => wpAny_mono (h₂ h' e hm h1 h2) (fun r s' z => ⟨z.1, ?_⟩) fun _ _ x => x)
  obtain ⟨_, hC', ⟨od, vs, sl, he, hv⟩, hE⟩ := z
  refine wpAny_bind (wpAny_holding (wpAny_point (wpAny_pure ?_)))
  exact ⟨e, od, vs, sl, rfl, hC', he, hv, hE⟩
end
end L3
namespace L3
open PySem PySem.Spec PyProof.Rows L2
def vD (e : Addr) (C : Value) : HO := .ext fun h => ∃ (vs : Array Value) (sl : Array (Option Value)), h.get? e = some { cls := C, dict := none, data := .fields vs, slots := sl } ∧ vs[1]? = some .none
def vR (e : Addr) (C : EC) : HO := .ext fun h => zw h e C none
def excInitIn (K : PySem.W.Frag) (C f : Addr) : Bool := match K.lookup C with
  | some ⟨.type "type", _, .cls cd, sl⟩ => (match cd.mro, sl.toList with
    | .ref C' :: bm, [_, _, _, _, some (.builtin n), _] => C' == C && n == "ValueError.__new__" && !cd.hasDel && PySem.W.tailIn K qH1 bm && PySem.W.nsOkIn K cd.ns && PySem.W.nsIn K cd.ns "__init__" == some (some (.ref f))
    | _, _ => false)
  | _ => false
structure XMk (K : PySem.W.Frag) (C D f : Addr) : Prop where
  ov : exOver K C D = true
  hd : PySem.W.hasDictIn K C = true
  sa : PySem.W.findIn K (.ref C) "__setattr__" = some (some (.builtin "object.__setattr__"))
  ex : excInitIn K C f = true
  fn : PySem.W.isFn K (.ref f) = true
theorem qDe {K : PySem.W.Frag} {h : Heap} {N : Addr} {mg : Str → Option Value} {n : Str} {v : Value} (X : K.In h) (G : h.Ns N mg) (e : PySem.W.nsIn K N n = some (some v)) : mg n = some v := by
  obtain ⟨o, es, ep, ho, hd, _, hf⟩ := G
  unfold PySem.W.nsIn at e
  split at e
  · rename_i c d es' n' sl q
    have := X _ _ q
    rw [ho] at this
    cases this
    cases hd
    split at e
    · rename_i en he
      cases e
      rw [← hf]
      unfold nsFind findBy
      rw [← Array.find?_toList, he]
      rfl
    · split at e <;> cases e
  · cases e
theorem qF3 {K : PySem.W.Frag} {h : Heap} {C f : Addr} (X : K.In h) (q : excInitIn K C f = true) :
    ∃ bm N nm qn bs hdct sn sub ab col dd k0 k1 k2 k3 k5 mN, h.get? C = some (excClassObj nm qn C N bs bm hdct sn sub ab col dd k0 k1 k2 k3 k5 "ValueError.__new__") ∧ h.Ns N mN ∧ mN "__init__" = some (.ref f) ∧ OwnTail h qH1 bm := by
  unfold excInitIn at q
  split at q
  · rename_i dd cd sl ho
    split at q
    · rename_i C' bm k0 k1 k2 k3 n k5 hm hs
      simp only [Bool.and_eq_true, beq_iff_eq, Bool.not_eq_true'] at q
      obtain ⟨⟨⟨⟨⟨eC, en⟩, del⟩, ht⟩, ok⟩, ni⟩ := q
      subst eC en
      obtain ⟨nm, bs, mro, ns, qn, hd, sn, sub, ab, col, dl⟩ := cd
      dsimp only at hm del ok ni
      subst hm del
      have hsl : sl = #[k0, k1, k2, k3, some (.builtin "ValueError.__new__"), k5] := by
        obtain ⟨l⟩ := sl
        simp only at hs
        rw [hs]
      subst hsl
      have N1 : h.Ns ns (h.nsMap ns) := .of_isNs (PySem.W.isNs_of_in X ok)
      refine ⟨bm, ns, nm, qn, bs, hd, sn, sub, ab, col, dd, k0, k1, k2, k3, k5, _, X _ _ ho, N1, qDe X N1 ni, PySem.W.tail_of_in X ht⟩
    · cases q
  · cases q
section
variable {X : Cx} {pins : List (Addr × Obj)} {σ : L2.St} {H : Hp} {s : Shared}
theorem qGh {e : Addr} {φ : Heap → Prop} (I : Inv X pins σ (upd H e (.ext φ)) s) (h0 : H e = none) (hs : X.s₀.heap.get? e = none) : Inv X pins σ H s := by
  have B := I.base
  have nn : ∀ b u, upd H e (.ext φ) b = some u → (∀ ψ, u ≠ .ext ψ) → H b = some u := fun b u z n => by
    by_cases hb : b = e
    · subst hb
      rw [qF] at z
      cases z
      exact absurd rfl (n φ)
    · rwa [qV hb] at z
  have n0 : ∀ b, upd H e (.ext φ) b = none → H b = none := fun b z => by
    by_cases hb : b = e
    · rw [hb, qF] at z; cases z
    · rwa [qV hb] at z
  refine ⟨I.ok, I.os, I.bare, ⟨B.keep, B.slot, fun b o w z hx => n0 _ (B.free b o w z hx), B.there, fun b xs w => nn _ _ (B.tups b xs w) (fun _ z => nomatch z), fun b o u w => nn _ _ (B.frzs b o u w) (fun _ z => nomatch z), fun b ps w => ?_⟩, I.loc, I.cell, n0 _ I.free, fun y c z => n0 _ (I.freeC y c z), fun p hp => ?_, fun b u w => ?_, I.len⟩
  · obtain ⟨more, z⟩ := B.tbls b ps w
    exact ⟨more, nn _ _ z (fun _ z => nomatch z)⟩
  · obtain ⟨w1, w2, w3⟩ := I.pin p hp
    exact ⟨w1, n0 _ w2, w3⟩
  · have hb : b ≠ e := fun z => by rw [z, h0] at w; cases w
    refine (I.hok b u (by rw [qV hb]; exact w)).stay (fun _ _ _ z => z) (fun c z => nn _ _ z (fun _ z => nomatch z)) fun c xs z => nn _ _ z (fun _ z => nomatch z)
end
theorem qDz {X : Cx} {pins : List (Addr × Obj)} {σ : L2.St} {H : Hp} {s : Shared} {dx : Addr} {fs : List (Str × V)} (I : Inv X pins σ H s) (h0 : H dx = none) (hs0 : X.s₀.heap.get? dx = none) (hp : ∀ p ∈ X.pn ++ pins, p.1 ≠ dx)
    (hl : dx ≠ X.env.locals) (hc : ∀ y c, X.env.cells.lookup y = some c → c ≠ dx) (ok : ∃ mA, s.heap.Ns1 dx mA ∧ ∀ f, RelO (fs.lookup f) (mA f)) : Inv X pins σ (upd H dx (.xd fs)) s := by
  have B := I.base
  have ne : ∀ b o, X.s₀.heap.get? b = some o → b ≠ dx := fun b o w z => by rw [z, hs0] at w; cases w
  refine ⟨I.ok, I.os, I.bare, ⟨B.keep, B.slot, fun b o w z hx => ?_, B.there, fun b xs w => ?_, fun b o u w => ?_, fun b ps w => ?_⟩, I.loc, I.cell, ?_, fun y c e => ?_, fun p hp' => ?_, fun b u w => ?_, I.len⟩
  · rw [qV (ne b o w)]; exact B.free b o w z hx
  · have z := B.tups b xs w
    rw [qV (qZ z h0)]; exact z
  · have z := B.frzs b o u w
    rw [qV (qZ z h0)]; exact z
  · obtain ⟨more, z⟩ := B.tbls b ps w
    exact ⟨more, by rw [qV (qZ z h0)]; exact z⟩
  · rw [qV (Ne.symm hl)]; exact I.free
  · rw [qV (hc y c e)]; exact I.freeC y c e
  · obtain ⟨w1, w2, w3⟩ := I.pin p hp'
    rw [qV (hp p hp')]
    exact ⟨w1, w2, w3⟩
  · by_cases hb : b = dx
    · subst hb
      rw [qF] at w
      cases w
      exact ok
    · rw [qV hb] at w
      exact (I.hok b u w).stay (fun _ _ _ z => z) (fun c z => by rw [qV (qZ z h0)]; exact z) fun c xs z => by rw [qV (qZ z h0)]; exact z
def qJu (K : PySem.W.Frag) (ta tv : TE) (f : Str) : TS := fun D σ H => tv σ H fun y H1 => ta σ H1 fun x H2 => ∃ a C B, x = .ref a ∧ H2 a = some (vD a (.ref C)) ∧ exOver K C B = true ∧ PySem.W.hasDictIn K C = true ∧
  PySem.W.findIn K (.ref C) "__setattr__" = some (some (.builtin "object.__setattr__")) ∧ PySem.W.takerIn K C f = some none ∧ ∀ dx, H2 dx = none → D.nx σ (upd (upd H2 a (vR a (.ref C, some dx))) dx (.xd [(f, y)]))
theorem qHc {X : Cx} {o value : Expr} {f : Str} {pos pos' : Pos} {ta tv : TE} (ha : PE X o ta) (hv : PE X value tv) (hs : swapsWith value (some (.Attribute o f pos')) pos.line X.env = pure false := by rfl) :
    PS X (.Assign [.Attribute o f pos'] value pos) (qJu X.K ta tv f) := by
  intro pins s σ H D I h
  refine plainObj_wpAny_Assign_Attribute (thn (hv pins s σ H _ I h) fun u s1 ⟨y, H1, I1, ry, q⟩ => thn (ha pins s1 σ H1 _ I1 q) fun ov s2 ⟨x, H2, I2, rx, a, C, B, ex, ea, o1, o2, o3, o4, q2⟩ => ?_) hs
  subst ex
  obtain rfl : ov = Value.ref a := rx
  obtain ⟨⟨vs, sl, he, hv1⟩, _, _⟩ := I2.hok a _ ea
  have hf : H2 s2.heap.objs.size = none := I2.hok.fresh (Nat.le_refl _)
  refine qHg I2.kIn he o3 o1 o4 o2 fun h' tk he' hn k => ⟨σ, _, ?_, q2 _ hf⟩
  have I3 : Inv X pins σ (upd H2 a (vR a (.ref C, some s2.heap.objs.size))) { s2 with heap := h', toks := tk } := by
    refine I2.write (x := a) (e := a) (by rw [ea]; exact True.intro) (.inl rfl) k ⟨_, he'⟩ ?_
    refine ⟨⟨vs, sl, he', hv1⟩, ⟨_, he'⟩, fun h1 h2 z k => ?_⟩
    obtain ⟨vs', sl', z, z2⟩ := z
    exact ⟨vs', sl', k _ z, z2⟩
  have na : s2.heap.objs.size ≠ a := fun z => by rw [z, ea] at hf; cases hf
  refine qDz I3 (by rw [qV na]; exact hf) ?_ (fun p hp => Nat.ne_of_lt (Heap.lt_size (I2.pin p hp).1)) (Nat.ne_of_gt I2.lt) (fun y c e => ?_) ⟨_, hn, fun g => ?_⟩
  · cases w : X.s₀.heap.get? s2.heap.objs.size with
    | none => rfl
    | some o => exact absurd (Nat.lt_of_lt_of_le (Heap.lt_size w) I2.sz) (Nat.lt_irrefl _)
  · obtain ⟨v, o, ho, _⟩ := I2.cell y c e
    exact Nat.ne_of_lt (Heap.lt_size ho)
  · by_cases hg : g = f
    · subst hg
      simp [List.lookup]
      exact ry
    · have e1 : ([(f, y)] : List (Str × V)).lookup g = none := by
        rw [List.lookup_cons]
        have : (g == f) = false := beq_eq_false_iff_ne.mpr hg
        rw [this]
        rfl
      rw [e1, if_neg hg]
      trivial
def qCj (C : Addr) (f : Str) : Sp := fun vs H Q _ => ∃ (e : Addr) (v : V), vs = [.ref e, v] ∧ H e = some (vD e (.ref C)) ∧ ∀ dx, H dx = none → Q .non (upd (upd H e (vR e (.ref C, some dx))) dx (.xd [(f, v)]))
def qHy (C : Addr) (fn : Str) (Ex : Value → Option Addr → Hp → Prop) (t : TA) : TS := fun _ σ H => t σ H fun vs H1 => ∃ v, vs = [v] ∧ ∀ dx, H1 dx = none → Ex (.ref C) (some dx) (upd H1 dx (.xd [(fn, v)]))
theorem qEe {X : Cx} {Ex : Value → Option Addr → Hp → Prop} {fn : Str} {k : Nat} {x : Str} {C B f : Addr} {fd : FuncData} {ps : List Str} {np cpos pos : Pos} {e₀ : Expr} {rest : List Expr} {t : TA} (M : XMk X.K C B f)
    (F : FnOk X.prog X.w X.K X.mg X.base CX0 k f fd ps (qCj C fn)) (hb : Binds X.K fd ps []) (hr : Room (k + 1) X.A) (hcm : X.calm = true) (hg : Gl X x) (hm : X.mg x = some (.ref C)) (ha : PA (X.wish (XE X Ex)) (e₀ :: rest) t)
    (he : starEach (e₀ :: rest) X.env = (false, eval e₀ X.env) :: starEach rest X.env := by rfl) (hpl : (backTo cpos (starEach rest X.env)).any (·.1) = false := by rfl) (hex : X.ex = [] := by rfl) (hdb : (x == ("__debug__" : Str)) = false := by decide) :
    PS (X.wish (XE X Ex)) (.Raise (some (.Call (.Name x np) (e₀ :: rest) [] cpos)) none pos) (qHy C fn Ex t) := by
  intro pins s σ H D I h
  obtain ⟨tl, N, nm, q, bs, hdct, sn, sub, ab, col, dd, k0, k1, k2, k3, k5, mN, hC, hN, hni, T⟩ := qF3 (K := X.K) I.ok.mod.kin M.ex
  have hfn : PySem.W.typeIn X.K (.ref f) = some (.type "function") := beq_iff_eq.mp M.fn
  have hfo : ∃ oI : Obj, X.base.get? f = some oI ∧ oI.cls = .type "function" := by
    replace hfn : (X.K.lookup f).map (·.cls) = some (.type "function") := hfn
    cases hl : X.K.lookup f with
    | none => rw [hl] at hfn; cases hfn
    | some o =>
      rw [hl] at hfn
      exact ⟨o, I.ok.mod.kin _ _ hl, by simpa using hfn⟩
  obtain ⟨oI, hfI, hfc⟩ := hfo
  refine qBp (bm := tl) (C := C) (N := N) (nm := nm) (q := q) (bs := bs) (hdct := hdct) (sn := sn) (sub := sub) (ab := ab) (col := col) (dd := dd) (k5 := k5) (k0 := k0) (k1 := k1) (k2 := k2) (k3 := k3)
    PySem.F.excBase_ValueError (mN := mN) (fI := f) (oI := oI) (T.hasType PySem.F.excBase_ValueError.hasBase) (I.ok.hd hcm) (by rw [he]; show (false || (backTo cpos (starEach rest X.env)).any (·.1)) = false; rw [hpl]; rfl) hni hfc (vK I hg hm ⟨rfl, ?_⟩ hdb)
  have z := ha cpos pins s σ H _ I h
  rw [show (X.wish (XE X Ex)).env = X.env from rfl] at z
  rw [he] at z ⊢
  refine Calls.evalArgs_plain (wpAny_mono z (fun us s2 w => ?_) fun _ _ y => y)
  obtain ⟨vs, H1, I1, r1, v, rfl, ex⟩ := w
  have I1' := I1.unwish
  have hl1 : us.length = 1 := r1.length.symm
  refine ⟨rfl, by rw [hl1, sizeLine_eq]; decide, I1.bk _ _ hC, hN.keeps I1.bk, T.keeps I1.bk, I1.bk _ _ hfI, fun h' e hmk hsz hes => ?_⟩
  obtain ⟨tt, q1, q2, q3⟩ := hmk.there
  have hle : s2.heap.objs.size ≤ e := by rw [hes]; exact Nat.le_succ _
  have e0 : H1 e = none := I1'.hok.fresh hle
  have I2 : Inv X pins σ (upd H1 e (vD e (.ref C))) { s2 with heap := h' } := I1'.laid (t' := s2.toks) hmk.keeps hle ⟨⟨_, _, q1, rfl⟩, ⟨_, q1⟩, fun h1 h2 z k => by
    obtain ⟨vs', sl', z, z2⟩ := z
    exact ⟨vs', sl', k _ z, z2⟩⟩
  have r2 : Vals [V.ref e, v] (Value.ref e :: us) := .cons rfl r1
  have hsp : qCj C fn [V.ref e, v] (upd H1 e (vD e (.ref C))) (fun u H2 => u = .non ∧ ∃ dx, H1 dx = none ∧ dx ≠ e ∧ H2 = upd (upd H1 dx (.xd [(fn, v)])) e (vR e (.ref C, some dx))) E0 := ⟨e, v, rfl, qF, fun dx hdx => ⟨rfl, dx, ?_⟩⟩
  rotate_left
  · have hne : dx ≠ e := fun z => by rw [z, qF] at hdx; cases hdx
    refine ⟨by rwa [qV hne] at hdx, hne, ?_⟩
    funext b
    by_cases hb : b = e
    · subst hb
      rw [qF, qV (Ne.symm hne), qF]
    · rw [qV hb (o := vR e (.ref C, some dx)) (H := upd H1 dx (.xd [(fn, v)]))]
      by_cases hb2 : b = dx
      · subst hb2
        rw [qF, qF]
      · rw [qV hb2, qV hb, qV hb, qV hb2]
  have hl : ((Value.ref e :: us) ++ []).length = ps.length := by
    have := F.len _ _ _ _ hsp
    rw [List.append_nil, List.length_cons, hl1]
    simpa using this
  have hbb := hb _ (Value.ref e :: us) I2.kIn hl
  rw [List.append_nil] at hbb
  refine wpAny_call (codeAny_mono (F.run _ X.stack _ _ ⟨Value.ref e :: us, []⟩ (Value.ref e :: us) _ _ E0 (hr.make C us []) (I2.env0.make C us []) hbb r2 hsp) fun r s' hq' => ?_)
  cases r with
  | error e => exact False.elim hq'
  | ok fl =>
    cases fl with
    | ret u =>
      obtain ⟨v', H', I3, rv, ev, dx, hdx, hne, rfl⟩ := I2.after hq'
      subst ev
      cases rv
      obtain ⟨⟨vs', sl', g1, g2⟩, _, _⟩ := I3.hok e _ qF
      have e0' : (upd H1 dx (.xd [(fn, v)])) e = none := by rw [qV (Ne.symm hne)]; exact e0
      have hs0 : X.s₀.heap.get? e = none := by
        cases w : X.s₀.heap.get? e with
        | none => rfl
        | some o =>
          obtain ⟨o', w'⟩ := I1'.base.there e o w (by rw [hex]; intro y; cases y)
          rw [hmk.new] at w'; cases w'
      refine ⟨rfl, I3.bk _ _ hC, ⟨some dx, vs', sl', g1, g2⟩, e, (.ref C, some dx), σ, upd H1 dx (.xd [(fn, v)]), rfl, (qGh I3 e0' hs0).pins_of (pins' := []) fun p hp => (nomatch hp), ⟨⟨hs0, e0', fun p hp z => ?_⟩, none, ⟨vs', sl', g1, g2⟩, fun T e' => nomatch e'⟩, ex dx hdx⟩
      have q' := (I1'.pin p (List.mem_append_left _ hp)).1
      rw [z, hmk.new] at q'; cases q'
    | next => exact False.elim hq'
    | brk => exact False.elim hq'
    | cont => exact False.elim hq'
end L3
set_option maxHeartbeats 4000000
set_option maxRecDepth 100000
namespace L3
open PySem PySem.Spec PySem.Calls PyProof.Rows PySem.W
section
variable {prog : Program} {w : World} {A : Around} {E : Value → Shared → Prop} {K : Frag} {h : Heap} {g : Array GenState} {d : Drawn} {t : Nat} {os : OsState} {a D : Addr} {ox o : Obj} {name : Str} {v : Value}
end
end L3
namespace L3
open PySem PySem.Spec PyProof.Rows L2
end L3
set_option maxHeartbeats 4000000
set_option maxRecDepth 100000
namespace L3
open PySem PySem.Spec PyProof.Rows L2
inductive PHs (X : Cx) : List ExceptHandler → List (Addr × Option Nat × TS) → Prop where
  | nil : PHs X [] []
  | cons {x : Str} {np hpos : Pos} {nm : Option Str} {i : Option Nat} {b₀ : Stmt} {suite : List Stmt} {C : Addr} {ts : TS} {hs : List ExceptHandler} {cs : List (Addr × Option Nat × TS)} (hcl : qCp X nm i) (hg : Gl X x) (hm : X.mg x = some (.ref C))
      (h : ∀ l ea, PSs (hdX (pnX X l) ea).nox (b₀ :: suite) ts) (r : PHs X hs cs) (hdb : (x == ("__debug__" : Str)) = false := by decide) : PHs X (.ExceptHandler (some (.Name x np)) nm (b₀ :: suite) hpos :: hs) ((C, i, ts) :: cs)
end L3
set_option maxHeartbeats 4000000
namespace L3
open PySem PySem.Spec PyProof.Rows L2
section
variable {X : Cx}
theorem qGc {bs : List Bool} {its : List Value} {P : Program} {w : World} {A : Around} (r : Vals (bs.map V.bl) its) : TruthOf P w A (fun i v => its.toArray[i]? = some v) (fun i => (bs[i]?).getD false) := by
  intro i v s Q E hv hq
  have hv' : its[i]? = some v := by simpa using hv
  have hl := r.length
  have hi : i < bs.length := by
    have := (List.getElem?_eq_some_iff.mp hv').1
    rw [List.length_map] at hl
    omega
  obtain ⟨u, e1, q1⟩ := r.get (i := i) (x := .bl bs[i]) (by rw [List.getElem?_map, List.getElem?_eq_getElem hi]; rfl)
  rw [hv'] at e1
  cases e1
  cases q1
  have e : (bs[i]?).getD false = bs[i] := by rw [List.getElem?_eq_getElem hi]; rfl
  have hq' : Q ((bs[i]?).getD false) s := hq
  rw [e] at hq'
  exact wpAny_truthy_bool hq'
theorem qFa (bs : List Bool) : (List.range bs.length).any (fun i => (bs[i]?).getD false) = bs.any id := by
  rw [Bool.eq_iff_iff, List.any_eq_true, List.any_eq_true]
  constructor
  · rintro ⟨i, hi, h⟩
    have hi : i < bs.length := by simpa using hi
    rw [List.getElem?_eq_getElem hi] at h
    exact ⟨_, List.getElem_mem hi, h⟩
  · rintro ⟨x, hx, h⟩
    obtain ⟨i, hi, e⟩ := List.mem_iff_getElem.mp hx
    exact ⟨i, by simpa using hi, by rw [List.getElem?_eq_getElem hi, e]; exact h⟩
theorem qFm (hc : X.calm = true) : CallR X (.builtin "any") (fun xs H Q => ∃ (p : Addr) (bs : List Bool), xs = [.ref p] ∧ SqL X.K H p (bs.map V.bl) ∧ Q (.bl (bs.any id)) H) := by
  intro pins s σ H xs us Q I r h
  obtain ⟨p, bs, rfl, hq, q⟩ := h
  obtain ⟨u, rfl, rx⟩ := qBl r
  cases rx
  obtain ⟨its, rv, pl, hz⟩ := I.list hq
  have hp : p ≠ s.heap.objs.size := by
    obtain ⟨o, n, e, _⟩ := pl
    exact Nat.ne_of_lt (Heap.lt_size e)
  have hh : X.A.in1.handled = none := I.ok.hd hc
  have hl : its.toArray.size = bs.length := by rw [List.size_toArray, ← rv.length, List.length_map]
  refine call_any_walk (wpAny_pyIter_list pl.isList ?_)
  refine ⟨s.heap.objs.size, _, _, _, _, _, _, rfl, Walks.list hh _ p hp its.toArray, ⟨⟨_, Heap.get?_push_size _ rfl, rfl, rfl⟩, pl.isList.at fun o e => Heap.get?_push_of_some _ e⟩, qGc rv, fun h' tk hk => ?_⟩
  rw [hl, qFa]
  refine ⟨.bl _, H, I.kept fun b o e => hk b o (fun z => ?_) (Heap.get?_push_of_some _ e), rfl, q⟩
  have z' : b = s.heap.objs.size := by simpa using z
  exact absurd (Heap.lt_size e) (by rw [z']; exact Nat.lt_irrefl _)
end
theorem jX {X : Cx} {K : PySem.W.Frag} (h : X.K = K) : CallR X (.builtin "isinstance") (fun xs H Q => ∃ e D od c b, xs = [.ref e, c] ∧ H e = some (vm e (.ref D, od)) ∧ OwnD H od ∧ ExcK K D ∧
    ((∃ n, c = .ty n ∧ PySem.W.kitOne K (.ref D) (.type n) = some b) ∨ ∃ a, c = .ref a ∧ PySem.W.kitOne K (.ref D) (.ref a) = some b) ∧ Q (.bl b) H) := h ▸ qAx
end L3
namespace L3
open PySem PySem.Spec PyProof.Rows L2
end L3
set_option maxHeartbeats 4000000
namespace L3
open PySem PySem.Spec PyProof.Rows L2
section
variable {X : Cx}
end
end L3
set_option maxHeartbeats 4000000
namespace L3
open PySem PySem.Spec PyProof.Rows L2
inductive D where
  | leaf (v : V)
  | tup (xs : List D)
  | lst (xs : List D)
mutual
def Rep (K : PySem.W.Frag) (H : Hp) : D → V → Prop
  | .leaf v, x => x = v ∧ xL v = true
  | .tup ds, x => ∃ p xs, x = .ref p ∧ SqT K H p xs ∧ Reps K H ds xs
  | .lst ds, x => ∃ p xs, x = .ref p ∧ SqL K H p xs ∧ Reps K H ds xs
def Reps (K : PySem.W.Frag) (H : Hp) : List D → List V → Prop
  | [], [] => True
  | d :: ds, x :: xs => Rep K H d x ∧ Reps K H ds xs
  | _, _ => False
end
mutual
def eqD : D → D → Bool
  | .leaf v, .leaf w => eqV v w
  | .tup xs, .tup ys => zg xs ys
  | .lst xs, .lst ys => zg xs ys
  | _, _ => false
def zg : List D → List D → Bool
  | [], [] => true
  | x :: xs, y :: ys => eqD x y && zg xs ys
  | _, _ => false
end
mutual
def dep : D → Nat
  | .leaf _ => 0
  | .tup xs => ku xs + 1
  | .lst xs => ku xs + 1
def ku : List D → Nat
  | [] => 0
  | x :: xs => max (dep x) (ku xs)
end
theorem Reps.length {K : PySem.W.Frag} {H : Hp} : ∀ {ds : List D} {xs : List V}, Reps K H ds xs → ds.length = xs.length
  | [], [], _ => rfl
  | _ :: _, _ :: _, h => by
    unfold Reps at h
    rw [List.length_cons, List.length_cons, h.2.length]
  | [], _ :: _, h => by unfold Reps at h; exact h.elim
  | _ :: _, [], h => by unfold Reps at h; exact h.elim
theorem qF8 {v : V} (h : xL v = true) : eqV v v = true := by
  cases v <;> simp_all [xL, eqV]
theorem vB : ∀ {xs ys : List D}, zg xs ys = true → xs.length = ys.length
  | [], [], _ => rfl
  | x :: xs, y :: ys, h => by
    unfold zg at h
    rw [Bool.and_eq_true] at h
    rw [List.length_cons, List.length_cons, vB h.2]
  | [], _ :: _, h => by simp [zg] at h
  | _ :: _, [], h => by simp [zg] at h
def itE (xs ys : List D) (j : Nat) : Bool := match xs[j]?, ys[j]? with
  | some a, some b => eqD a b
  | _, _ => false
theorem qA4 : ∀ (xs ys : List D), ((List.range (min xs.length ys.length)).all (itE xs ys) && xs.length == ys.length) = zg xs ys
  | [], [] => by simp [zg]
  | [], y :: ys => by simp [zg]
  | x :: xs, [] => by simp [zg]
  | x :: xs, y :: ys => by
    have ih := qA4 xs ys
    have e : min (x :: xs).length (y :: ys).length = min xs.length ys.length + 1 := by simp only [List.length_cons]; omega
    rw [e, List.range_succ_eq_map, List.all_cons, List.all_map]
    have e2 : (itE (x :: xs) (y :: ys)) ∘ Nat.succ = itE xs ys := by
      funext j
      simp [itE]
    have e3 : itE (x :: xs) (y :: ys) 0 = eqD x y := by simp [itE]
    have e4 : ((x :: xs).length == (y :: ys).length) = (xs.length == ys.length) := by
      rw [Bool.eq_iff_iff]; simp
    rw [e2, e3, e4, Bool.and_assoc, ih]
    conv => rhs; unfold zg
theorem qCn {xs ys : List D} (h : xs.length = ys.length) : (List.range xs.length).all (itE xs ys) = zg xs ys := by
  have := qA4 xs ys
  rw [← h, Nat.min_self] at this
  simpa using this
section
variable {X : Cx} {pins : List (Addr × Obj)} {σ : L2.St} {H : Hp} {s : Shared}
mutual
theorem wW (I : Inv X pins σ H s) : ∀ (d e : D) {x : V}, Rep X.K H d x → Rep X.K H e x → eqD d e = true
  | .leaf v, .leaf w, x, h1, h2 => by
    unfold Rep at h1 h2
    obtain ⟨rfl, f⟩ := h1
    obtain ⟨rfl, _⟩ := h2
    unfold eqD
    exact qF8 f
  | .leaf v, .tup ds, x, h1, h2 => by
    unfold Rep at h1 h2
    obtain ⟨rfl, f⟩ := h1
    obtain ⟨p, xs, rfl, _⟩ := h2
    cases f
  | .leaf v, .lst ds, x, h1, h2 => by
    unfold Rep at h1 h2
    obtain ⟨rfl, f⟩ := h1
    obtain ⟨p, xs, rfl, _⟩ := h2
    cases f
  | .tup ds, .leaf w, x, h1, h2 => by
    unfold Rep at h1 h2
    obtain ⟨rfl, f⟩ := h2
    obtain ⟨p, xs, rfl, _⟩ := h1
    cases f
  | .lst ds, .leaf w, x, h1, h2 => by
    unfold Rep at h1 h2
    obtain ⟨rfl, f⟩ := h2
    obtain ⟨p, xs, rfl, _⟩ := h1
    cases f
  | .tup ds, .tup es, x, h1, h2 => by
    unfold Rep at h1 h2
    obtain ⟨p, xs, rfl, t1, r1⟩ := h1
    obtain ⟨q, ys, e, t2, r2⟩ := h2
    cases e
    rw [I.tuple_inj t1 t2] at r1
    unfold eqD
    exact vi I ds es r1 r2
  | .lst ds, .lst es, x, h1, h2 => by
    unfold Rep at h1 h2
    obtain ⟨p, xs, rfl, t1, r1⟩ := h1
    obtain ⟨q, ys, e, t2, r2⟩ := h2
    cases e
    rw [I.list_inj t1 t2] at r1
    unfold eqD
    exact vi I ds es r1 r2
  | .tup ds, .lst es, x, h1, h2 => by
    unfold Rep at h1 h2
    obtain ⟨p, xs, rfl, t1, r1⟩ := h1
    obtain ⟨q, ys, e, t2, r2⟩ := h2
    cases e
    obtain ⟨_, _, i1, _⟩ := I.tuple t1
    obtain ⟨_, _, i2, _⟩ := I.list t2
    exact (SeqAt.ne_of_list_tuple i2.isList i1 rfl).elim
  | .lst ds, .tup es, x, h1, h2 => by
    unfold Rep at h1 h2
    obtain ⟨p, xs, rfl, t1, r1⟩ := h1
    obtain ⟨q, ys, e, t2, r2⟩ := h2
    cases e
    obtain ⟨_, _, i1, _⟩ := I.list t1
    obtain ⟨_, _, i2, _⟩ := I.tuple t2
    exact (SeqAt.ne_of_list_tuple i1.isList i2 rfl).elim
theorem vi (I : Inv X pins σ H s) : ∀ (ds es : List D) {xs : List V}, Reps X.K H ds xs → Reps X.K H es xs → zg ds es = true
  | [], [], _, _, _ => by simp [zg]
  | d :: ds, e :: es, [], h1, _ => by unfold Reps at h1; exact h1.elim
  | d :: ds, e :: es, x :: xs, h1, h2 => by
    unfold Reps at h1 h2
    unfold zg
    rw [wW I d e h1.1 h2.1, vi I ds es h1.2 h2.2]
    rfl
  | [], e :: es, [], _, h2 => by unfold Reps at h2; exact h2.elim
  | [], e :: es, _ :: _, h1, _ => by unfold Reps at h1; exact h1.elim
  | d :: ds, [], [], h1, _ => by unfold Reps at h1; exact h1.elim
  | d :: ds, [], _ :: _, _, h2 => by unfold Reps at h2; exact h2.elim
end
theorem zm {A : Around} {x : V} {u : Value} {p : Addr} {its : Array Value} (f : xL x = true) (r : RelV x u) (hu : A.units < cLine) (h : s.heap.IsTuple p its ∨ s.heap.IsList p its) : SeqAt.EqAt A s u (.ref p) false ∧ SeqAt.EqAt A s (.ref p) u false := by
  cases x with
  | non => cases r; rcases h with h | h <;> exact ⟨by first | exact SeqAt.EqAt.none_tuple h hu | exact SeqAt.EqAt.none_list h hu, by first | exact SeqAt.EqAt.tuple_none h hu | exact SeqAt.EqAt.list_none h hu⟩
  | bl b => cases r; rcases h with h | h <;> exact ⟨by first | exact SeqAt.EqAt.bool_tuple _ h hu | exact SeqAt.EqAt.bool_list _ h hu, by first | exact SeqAt.EqAt.tuple_bool _ h hu | exact SeqAt.EqAt.list_bool _ h hu⟩
  | int i => obtain ⟨t, rfl⟩ := r; rcases h with h | h <;> exact ⟨by first | exact SeqAt.EqAt.int_tuple _ _ h hu | exact SeqAt.EqAt.int_list _ _ h hu, by first | exact SeqAt.EqAt.tuple_int _ _ h hu | exact SeqAt.EqAt.list_int _ _ h hu⟩
  | str i => obtain ⟨t, rfl⟩ := r; rcases h with h | h <;> exact ⟨by first | exact SeqAt.EqAt.str_tuple _ _ h hu | exact SeqAt.EqAt.str_list _ _ h hu, by first | exact SeqAt.EqAt.tuple_str _ _ h hu | exact SeqAt.EqAt.list_str _ _ h hu⟩
  | _ => cases f
theorem Reps.get {K : PySem.W.Frag} {H : Hp} : ∀ {ds : List D} {xs : List V}, Reps K H ds xs → ∀ (j : Nat) (d : D), ds[j]? = some d → ∃ x, xs[j]? = some x ∧ Rep K H d x
  | [], [], _, j, d, e => by simp at e
  | a :: ds, x :: xs, h, 0, d, e => by
    unfold Reps at h
    have : a = d := by simpa using e
    subst this
    exact ⟨x, rfl, h.1⟩
  | a :: ds, x :: xs, h, j + 1, d, e => by
    unfold Reps at h
    exact h.2.get j d (by simpa using e)
  | [], _ :: _, h, _, _, _ => by unfold Reps at h; exact h.elim
  | _ :: _, [], h, _, _, _ => by unfold Reps at h; exact h.elim
theorem wV : ∀ {ds : List D} {j : Nat} {d : D}, ds[j]? = some d → dep d ≤ ku ds
  | a :: ds, 0, d, e => by
    have : a = d := by simpa using e
    subst this
    unfold ku
    exact Nat.le_max_left _ _
  | a :: ds, j + 1, d, e => by
    have := wV (ds := ds) (j := j) (d := d) (by simpa using e)
    unfold ku
    exact Nat.le_trans this (Nat.le_max_right _ _)
  | [], _, _, e => by simp at e
theorem qEq {A : Around} {ds es : List D} {xs ys : List V} {us ws : List Value} (r1 : Reps X.K H ds xs) (r2 : Reps X.K H es ys) (v1 : Vals xs us) (v2 : Vals ys ws)
    (ih : ∀ d e x y u w, d ∈ ds → Rep X.K H d x → Rep X.K H e y → RelV x u → RelV y w → SeqAt.EqAt A s u w (eqD d e)) :
    ∀ j (h1 : j < us.toArray.size) (h2 : j < ws.toArray.size), SeqAt.EqAt A s us.toArray[j] ws.toArray[j] (itE ds es j) := by
  intro j h1 h2
  have l1 := v1.length
  have l2 := v2.length
  have m1 := r1.length
  have m2 := r2.length
  rw [List.size_toArray] at h1 h2
  have g1 : ds[j]? = some ds[j] := List.getElem?_eq_getElem (by omega)
  have g2 : es[j]? = some es[j] := List.getElem?_eq_getElem (by omega)
  obtain ⟨x, ex, rx⟩ := r1.get j _ g1
  obtain ⟨y, ey, ry⟩ := r2.get j _ g2
  obtain ⟨u, eu, qu⟩ := v1.get ex
  obtain ⟨w, ew, qw⟩ := v2.get ey
  have c1 : us.toArray[j] = u := by
    have := (List.getElem?_eq_some_iff.mp eu).2
    simpa using this
  have c2 : ws.toArray[j] = w := by
    have := (List.getElem?_eq_some_iff.mp ew).2
    simpa using this
  have e : itE ds es j = eqD ds[j] es[j] := by unfold itE; rw [g1, g2]
  rw [c1, c2, e]
  exact ih _ _ _ _ _ _ (List.getElem_mem _) rx ry qu qw
theorem qGy (I : Inv X pins σ H s) : ∀ (n : Nat) (A : Around) (d e : D) (x y : V) (u w : Value), dep d ≤ n → A.units + n < cLine → Rep X.K H d x → Rep X.K H e y → RelV x u → RelV y w → SeqAt.EqAt A s u w (eqD d e) := by
  intro n
  induction n with
  | zero =>
    intro A d e x y u w hd hu r1 r2 q1 q2
    cases d with
    | leaf v =>
      unfold Rep at r1
      obtain ⟨rfl, f1⟩ := r1
      cases e with
      | leaf v' =>
        unfold Rep at r2
        obtain ⟨rfl, f2⟩ := r2
        unfold eqD
        exact qBc q1 q2 f1 f2
      | tup es =>
        unfold Rep at r2
        obtain ⟨p, ys, rfl, t, _⟩ := r2
        cases q2
        obtain ⟨_, _, i, _⟩ := I.tuple t
        unfold eqD
        exact (zm f1 q1 hu (.inl i)).1
      | lst es =>
        unfold Rep at r2
        obtain ⟨p, ys, rfl, t, _⟩ := r2
        cases q2
        obtain ⟨_, _, i, _⟩ := I.list t
        unfold eqD
        exact (zm f1 q1 hu (.inr i.isList)).1
    | tup ds => unfold dep at hd; omega
    | lst ds => unfold dep at hd; omega
  | succ n ih =>
    intro A d e x y u w hd hu r1 r2 q1 q2
    have hu0 : A.units < cLine := by omega
    have hu1 : A.in1.units + n < cLine := by show A.units + 1 + n < cLine; omega
    cases d with
    | leaf v =>
      unfold Rep at r1
      obtain ⟨rfl, f1⟩ := r1
      cases e with
      | leaf v' =>
        unfold Rep at r2
        obtain ⟨rfl, f2⟩ := r2
        unfold eqD
        exact qBc q1 q2 f1 f2
      | tup es =>
        unfold Rep at r2
        obtain ⟨p, ys, rfl, t, _⟩ := r2
        cases q2
        obtain ⟨_, _, i, _⟩ := I.tuple t
        unfold eqD
        exact (zm f1 q1 hu0 (.inl i)).1
      | lst es =>
        unfold Rep at r2
        obtain ⟨p, ys, rfl, t, _⟩ := r2
        cases q2
        obtain ⟨_, _, i, _⟩ := I.list t
        unfold eqD
        exact (zm f1 q1 hu0 (.inr i.isList)).1
    | tup ds =>
      have r1' := r1
      unfold Rep at r1
      obtain ⟨p, xs, rfl, t1, s1⟩ := r1
      cases q1
      obtain ⟨us, v1, i1, _⟩ := I.tuple t1
      cases e with
      | leaf v' =>
        unfold Rep at r2
        obtain ⟨rfl, f2⟩ := r2
        unfold eqD
        exact (zm f2 q2 hu0 (.inl i1)).2
      | lst es =>
        unfold Rep at r2
        obtain ⟨q, ys, rfl, t2, _⟩ := r2
        cases q2
        obtain ⟨_, _, i2, _⟩ := I.list t2
        unfold eqD
        exact SeqAt.EqAt.tuple_list i1 i2.isList hu0
      | tup es =>
        have r2' := r2
        unfold Rep at r2
        obtain ⟨q, ys, rfl, t2, s2⟩ := r2
        cases q2
        by_cases pq : p = q
        · subst pq
          rw [wW I _ _ r1' r2']
          exact SeqAt.EqAt.same _
        obtain ⟨ws, v2, i2, _⟩ := I.tuple t2
        have hdd : ku ds ≤ n := by unfold dep at hd; omega
        have := SeqAt.EqAt.of_refs pq (SeqAt.RcAt.tuples i1 i2 hu0 (qEq s1 s2 v1 v2 fun d e x y u w hm ra rb qa qb => by
          obtain ⟨j, hj, ej⟩ := List.mem_iff_getElem.mp hm
          have hde : dep d ≤ ku ds := wV (j := j) (by rw [List.getElem?_eq_getElem hj, ej])
          exact ih A.in1 d e x y u w (by omega) hu1 ra rb qa qb))
        rw [List.size_toArray, List.size_toArray, ← v1.length, ← v2.length, ← s1.length, ← s2.length, qA4] at this
        unfold eqD
        exact this
    | lst ds =>
      have r1' := r1
      unfold Rep at r1
      obtain ⟨p, xs, rfl, t1, s1⟩ := r1
      cases q1
      obtain ⟨us, v1, i1, _⟩ := I.list t1
      cases e with
      | leaf v' =>
        unfold Rep at r2
        obtain ⟨rfl, f2⟩ := r2
        unfold eqD
        exact (zm f2 q2 hu0 (.inr i1.isList)).2
      | tup es =>
        unfold Rep at r2
        obtain ⟨q, ys, rfl, t2, _⟩ := r2
        cases q2
        obtain ⟨_, _, i2, _⟩ := I.tuple t2
        unfold eqD
        exact SeqAt.EqAt.list_tuple i1.isList i2 hu0
      | lst es =>
        have r2' := r2
        unfold Rep at r2
        obtain ⟨q, ys, rfl, t2, s2⟩ := r2
        cases q2
        by_cases pq : p = q
        · subst pq
          rw [wW I _ _ r1' r2']
          exact SeqAt.EqAt.same _
        obtain ⟨ws, v2, i2, _⟩ := I.list t2
        have hdd : ku ds ≤ n := by unfold dep at hd; omega
        unfold eqD
        by_cases hl : ds.length = es.length
        · have hsz : us.toArray.size = ws.toArray.size := by rw [List.size_toArray, List.size_toArray, ← v1.length, ← v2.length, ← s1.length, ← s2.length]; exact hl
          have := SeqAt.EqAt.of_refs pq (SeqAt.RcAt.lists i1.isList i2.isList hsz hu0 (qEq s1 s2 v1 v2 fun d e x y u w hm ra rb qa qb => by
            obtain ⟨j, hj, ej⟩ := List.mem_iff_getElem.mp hm
            have hde : dep d ≤ ku ds := wV (j := j) (by rw [List.getElem?_eq_getElem hj, ej])
            exact ih A.in1 d e x y u w (by omega) hu1 ra rb qa qb))
          rw [List.size_toArray, ← v1.length, ← s1.length, qCn hl] at this
          exact this
        · have hsz : (us.toArray.size != ws.toArray.size) = true := by
            rw [List.size_toArray, List.size_toArray, ← v1.length, ← v2.length, ← s1.length, ← s2.length]
            simpa using hl
          have e : zg ds es = false := by
            rw [Bool.eq_false_iff]
            intro z
            exact hl (vB z)
          rw [e]
          exact SeqAt.EqAt.of_refs pq (SeqAt.RcAt.lists_lengths i1.isList i2.isList hsz hu0)
def kin : D → D → Bool
  | .tup _, .tup _ => true
  | .lst _, .lst _ => true
  | _, _ => false
def qI4 (K : PySem.W.Frag) (neg : Bool) : R2 := fun x y H Q => ∃ d e : D, Rep K H d x ∧ Rep K H e y ∧ kin d e = true ∧ dep d ≤ 60 ∧ Q (.bl (if neg then !eqD d e else eqD d e)) H
theorem zd {A : Around} (I : Inv X pins σ H s) (hu : A.units + 64 < cLine) {ds es : List D} {xs ys : List V} {us ws : List Value} (hd : ku ds ≤ 60) (s1 : Reps X.K H ds xs) (s2 : Reps X.K H es ys) (v1 : Vals xs us) (v2 : Vals ys ws) :
    ∀ j (h1 : j < us.toArray.size) (h2 : j < ws.toArray.size), SeqAt.EqAt A.in1 s us.toArray[j] ws.toArray[j] (itE ds es j) :=
  qEq s1 s2 v1 v2 fun d e x y u w hm ra rb qa qb => by
    obtain ⟨j, hj, ej⟩ := List.mem_iff_getElem.mp hm
    have hde : dep d ≤ ku ds := wV (j := j) (by rw [List.getElem?_eq_getElem hj, ej])
    exact qGy I 60 A.in1 d e x y u w (by omega) (by show A.units + 1 + 60 < cLine; omega) ra rb qa qb
theorem qIm (hu : X.A.units + 64 < cLine) : OpR X (compareOp .Eq) (qI4 X.K false) := by
  intro pins s σ H x y v u Q I rx ry h
  obtain ⟨d, e, r1, r2, hk, hd, q⟩ := h
  have hu0 : X.A.units < cLine := by omega
  cases d with
  | leaf a => cases e <;> cases hk
  | tup ds =>
    cases e with
    | leaf b => cases hk
    | lst es => cases hk
    | tup es =>
      unfold Rep at r1 r2
      obtain ⟨p, xs, rfl, t1, s1⟩ := r1
      obtain ⟨p', ys, rfl, t2, s2⟩ := r2
      cases rx; cases ry
      obtain ⟨us, v1, i1, _⟩ := I.tuple t1
      obtain ⟨ws, v2, i2, _⟩ := I.tuple t2
      refine SeqAt.eq_tupleAt i1 i2 hu0 (zd I hu (by unfold dep at hd; omega) s1 s2 v1 v2) ?_
      rw [List.size_toArray, List.size_toArray, ← v1.length, ← v2.length, ← s1.length, ← s2.length, qA4]
      refine ⟨.bl _, H, I, rfl, ?_⟩
      unfold eqD at q
      exact q
  | lst ds =>
    cases e with
    | leaf b => cases hk
    | tup es => cases hk
    | lst es =>
      unfold Rep at r1 r2
      obtain ⟨p, xs, rfl, t1, s1⟩ := r1
      obtain ⟨p', ys, rfl, t2, s2⟩ := r2
      cases rx; cases ry
      obtain ⟨us, v1, i1, _⟩ := I.list t1
      obtain ⟨ws, v2, i2, _⟩ := I.list t2
      unfold eqD at q
      by_cases hl : ds.length = es.length
      · have hsz : us.toArray.size = ws.toArray.size := by rw [List.size_toArray, List.size_toArray, ← v1.length, ← v2.length, ← s1.length, ← s2.length]; exact hl
        refine SeqAt.eq_listAt i1.isList i2.isList hsz hu0 (zd I hu (by unfold dep at hd; omega) s1 s2 v1 v2) ?_
        rw [List.size_toArray, ← v1.length, ← s1.length, qCn hl]
        exact ⟨.bl _, H, I, rfl, q⟩
      · have hsz : (us.toArray.size != ws.toArray.size) = true := by
          rw [List.size_toArray, List.size_toArray, ← v1.length, ← v2.length, ← s1.length, ← s2.length]
          simpa using hl
        have e : zg ds es = false := by
          rw [Bool.eq_false_iff]
          intro z
          exact hl (vB z)
        rw [e] at q
        exact SeqAt.eq_list_lengthsAt i1.isList i2.isList hsz hu0 ⟨.bl _, H, I, rfl, q⟩
theorem qE2 (hu : X.A.units + 64 < cLine) : OpR X (compareOp .NotEq) (qI4 X.K true) := by
  intro pins s σ H x y v u Q I rx ry h
  obtain ⟨d, e, r1, r2, hk, hd, q⟩ := h
  have hu0 : X.A.units < cLine := by omega
  cases d with
  | leaf a => cases e <;> cases hk
  | tup ds =>
    cases e with
    | leaf b => cases hk
    | lst es => cases hk
    | tup es =>
      unfold Rep at r1 r2
      obtain ⟨p, xs, rfl, t1, s1⟩ := r1
      obtain ⟨p', ys, rfl, t2, s2⟩ := r2
      cases rx; cases ry
      obtain ⟨us, v1, i1, _⟩ := I.tuple t1
      obtain ⟨ws, v2, i2, _⟩ := I.tuple t2
      refine SeqAt.RcNeAt.tuples i1 i2 hu0 (zd I hu (by unfold dep at hd; omega) s1 s2 v1 v2) _ _ _ _ ?_
      rw [List.size_toArray, List.size_toArray, ← v1.length, ← v2.length, ← s1.length, ← s2.length, qA4]
      refine ⟨.bl _, H, I, rfl, ?_⟩
      unfold eqD at q
      exact q
  | lst ds =>
    cases e with
    | leaf b => cases hk
    | tup es => cases hk
    | lst es =>
      unfold Rep at r1 r2
      obtain ⟨p, xs, rfl, t1, s1⟩ := r1
      obtain ⟨p', ys, rfl, t2, s2⟩ := r2
      cases rx; cases ry
      obtain ⟨us, v1, i1, _⟩ := I.list t1
      obtain ⟨ws, v2, i2, _⟩ := I.list t2
      unfold eqD at q
      by_cases hl : ds.length = es.length
      · have hsz : us.toArray.size = ws.toArray.size := by rw [List.size_toArray, List.size_toArray, ← v1.length, ← v2.length, ← s1.length, ← s2.length]; exact hl
        refine SeqAt.RcNeAt.lists i1.isList i2.isList hsz hu0 (zd I hu (by unfold dep at hd; omega) s1 s2 v1 v2) _ _ _ _ ?_
        rw [List.size_toArray, ← v1.length, ← s1.length, qCn hl]
        exact ⟨.bl _, H, I, rfl, q⟩
      · have hsz : (us.toArray.size != ws.toArray.size) = true := by
          rw [List.size_toArray, List.size_toArray, ← v1.length, ← v2.length, ← s1.length, ← s2.length]
          simpa using hl
        have e : zg ds es = false := by
          rw [Bool.eq_false_iff]
          intro z
          exact hl (vB z)
        rw [e] at q
        exact SeqAt.RcNeAt.lists_lengths i1.isList i2.isList hsz hu0 _ _ _ _ ⟨.bl _, H, I, rfl, q⟩
end
mutual
theorem Rep.same {K : PySem.W.Frag} {H H' : Hp} (e : Same H H') : ∀ (d : D) {x : V}, Rep K H d x → Rep K H' d x
  | .leaf v, x, h => by unfold Rep at h ⊢; exact h
  | .tup ds, x, h => by
    unfold Rep at h ⊢
    obtain ⟨p, xs, h1, h2, h3⟩ := h
    exact ⟨p, xs, h1, L3.Same.tup e h2, Reps.same e ds h3⟩
  | .lst ds, x, h => by
    unfold Rep at h ⊢
    obtain ⟨p, xs, h1, h2, h3⟩ := h
    exact ⟨p, xs, h1, e.seq h2, Reps.same e ds h3⟩
theorem Reps.same {K : PySem.W.Frag} {H H' : Hp} (e : Same H H') : ∀ (ds : List D) {xs : List V}, Reps K H ds xs → Reps K H' ds xs
  | [], [], h => by unfold Reps; trivial
  | d :: ds, x :: xs, h => by
    unfold Reps at h ⊢
    exact ⟨Rep.same e d h.1, Reps.same e ds h.2⟩
  | [], _ :: _, h => by unfold Reps at h; exact h.elim
  | _ :: _, [], h => by unfold Reps at h; exact h.elim
end
end L3
set_option maxHeartbeats 4000000
namespace L3
open PySem PySem.Spec PyProof.Rows L2
end L3
set_option maxHeartbeats 4000000
namespace L3
open PySem PySem.Spec PyProof.Rows L2
end L3
set_option maxHeartbeats 4000000
namespace L3
open PySem PySem.Spec PyProof.Rows L2
theorem qG2 {X : Cx} {pins : List (Addr × Obj)} {σ : L2.St} {H : Hp} {s : Shared} {h' : Heap} {t' : Nat} {ch : List Addr} (I : Inv X pins σ H s) (hf : ∀ b ∈ ch, qFu X pins H b)
    (k : ∀ b o, b ∉ ch → s.heap.get? b = some o → h'.get? b = some o) : Inv X pins σ H { s with heap := h', toks := t' } := by
  have nit : ∀ b u, H b = some u → b ∉ ch := fun b u e z => by rw [(hf b z).1] at e; cases e
  refine I.step (g' := s.gens) (d' := s.drawn) (ch := ch) (fun b hb => ?_) (fun b o _ _ hc e _ => k b o hc e) (fun b o _ _ hc e _ => ⟨o.slots, k b o hc e⟩) (fun _ _ _ _ n => n)
    (fun b o hc e => ⟨o, k b o hc e⟩) (fun _ _ e => e) (fun _ _ _ e => e) (fun b ps e => ⟨#[], by rw [e]; simp⟩) (fun m hm => ?_) (fun b u e => ?_) I.bare
  · obtain ⟨_, f1, _, f3, f4, f5⟩ := hf b hb
    exact ⟨f3, f1, f4, f5⟩
  · obtain ⟨o, es, ep, ho, r⟩ := hm
    exact ⟨o, es, ep, k _ o (fun z => (hf _ z).2.1 rfl) ho, r⟩
  · refine (I.hok b u e).stay (fun c v hc q => k c v ?_ q) (fun _ q => q) fun _ _ q => q
    rcases hc with z | z
    · rw [z]; exact nit b u e
    · exact nit c _ z
theorem qI9 {X : Cx} {pins : List (Addr × Obj)} {σ : L2.St} {H : Hp} {s : Shared} {h' : Heap} {t' : Nat} {ch : List Addr} {xs : List V} {us : Array Value} (I : Inv X pins σ H s) (hf : ∀ b ∈ ch, qFu X pins H b) (hlt : ∀ b ∈ ch, b < s.heap.objs.size)
    (k : ∀ b o, b ∉ ch → s.heap.get? b = some o → h'.get? b = some o) (hT : h'.get? s.heap.objs.size = some { cls := .type "tuple", data := .seq us }) (r : Vals xs us.toList) (hz : xs.length ≤ sizeLine) :
    Inv X pins σ (upd H s.heap.objs.size (.tup xs)) { s with heap := h', toks := t' } ∧ ∀ b ∈ ch, upd H s.heap.objs.size (.tup xs) b = none := by
  have hn : ∀ b ∈ ch, upd H s.heap.objs.size (.tup xs) b = none := fun b hb => by
    rw [qV (Nat.ne_of_lt (hlt b hb))]; exact (hf b hb).1
  have I1 : Inv X pins σ (upd H s.heap.objs.size (.tup xs)) { s with heap := s.heap.push { cls := .type "tuple", data := .seq us }, toks := t' } :=
    I.laid (t' := t') (fun b o e => Heap.get?_push_of_some _ e) (Nat.le_refl _) ⟨hz, us.toList, r, ⟨_, Heap.get?_push_size _ rfl, rfl, _, rfl⟩⟩
  have I2 := qG2 (h' := h') (t' := t') (ch := ch) I1 (fun b hb => ⟨hn b hb, (hf b hb).2⟩) (fun b o hb e => ?_)
  · exact ⟨I2, hn⟩
  rcases Heap.get?_push_cases e with ⟨e1, e2⟩ | e1
  · rw [e1, e2]; exact hT
  · exact k b o hb e1
def Ite (K : PySem.W.Frag) (a : Addr) : It :=
  ⟨fun i H => ∃ xs x, SqL K H a xs ∧ xs[i]? = some x, fun i H x H' => ∃ p v, H p = none ∧ x = .ref p ∧ (∀ xs, SqL K H a xs → xs[i]? = some v) ∧ H' = upd H p (.tup [.int i, v]), fun i H => ∃ xs, SqL K H a xs ∧ xs.length ≤ i⟩
theorem qE6 {P : Program} {w : World} {K : PySem.W.Frag} {elts : List Expr} {k1 : Nat} {pos : Pos} (a e it : Addr) (hne : e ≠ it) :
    qIt P w K (.Tuple elts k1 pos) (Ite K a) [e, it] e (fun i h => (∃ old, IsEnum h e it (i : Nat) old) ∧ h.IsListIter it a i) where
  mem := by simp
  obj := fun i h st b hb => by
    obtain ⟨⟨old, he⟩, o, ho, c, d⟩ := st
    rcases List.mem_cons.mp hb with rfl | hb
    · exact ⟨_, he, fun v z => by cases z⟩
    · have e : b = it := by simpa using hb
      subst e
      exact ⟨o, ho, fun v z => by rw [d] at z; cases z⟩
  keep := fun i h h' st k => by
    obtain ⟨⟨old, he⟩, hi⟩ := st
    exact ⟨⟨old, k e (by simp) _ he⟩, hi.at fun o q => k it (by simp) o q⟩
  item := by
    intro X hP hw hK hc i pins s σ H E I hf st hg
    subst hP hw hK
    obtain ⟨⟨old, he⟩, hit⟩ := st
    obtain ⟨xs, x, hq, hx⟩ := hg
    obtain ⟨its, rv, p, hz⟩ := I.list hq
    obtain ⟨u, hu, ru⟩ := rv.get hx
    refine wpAny_pyNext_enum_item he hit p.isList (x := u) (by simpa using hu) hne fun h' heo hit' hT hsz hk => ?_
    refine ⟨_, rfl, wpAny_letOwnedTupleGo_enum heo fun h'' he'' hs'' => ?_⟩
    have hel : e < s.heap.objs.size := Heap.lt_size he
    have hil : it < s.heap.objs.size := by obtain ⟨_, q, _⟩ := hit; exact Heap.lt_size q
    have T := qI9 (h' := h'') (t' := s.toks + 1) (ch := [e, it]) (xs := [.int i, x]) (us := #[.int i s.toks, u]) I hf (fun b hb => by
        rcases List.mem_cons.mp hb with rfl | hb
        · exact hel
        · have z : b = it := by simpa using hb
          subst z; exact hil)
      (fun b o hb q => (hs''.2 b (fun z => hb (by simp [z]))).trans (hk b o (fun z => hb (by simp [z])) (fun z => hb (by simp [z])) q))
      ((hs''.2 _ (Nat.ne_of_gt hel)).trans hT) (.cons ⟨_, rfl⟩ (.cons ru .nil)) (by show 2 ≤ sizeLine; decide)
    refine ⟨.ref s.heap.objs.size, _, T.1, rfl, ⟨_, x, I.hok.fresh (Nat.le_refl _), rfl, fun ys hy => by rw [I.list_inj hy hq]; exact hx, rfl⟩, ⟨⟨u, by simpa using he''⟩, hit'.at fun o q => (hs''.2 it hne.symm).trans q⟩, T.2⟩
  done := by
    intro X hP hw hK hc i pins s σ H E I hf st hg
    subst hP hw hK
    obtain ⟨⟨old, he⟩, hit⟩ := st
    obtain ⟨xs, hq, hx⟩ := hg
    obtain ⟨its, rv, p, hz⟩ := I.list hq
    obtain ⟨f0, f1, f2, f3, f4, f5⟩ := hf it (by simp)
    have hl := rv.length
    exact wpAny_pyNext_enum_end (I.ok.hd hc) he hit p.isList (by simp; omega) fun h' eb => ⟨rfl, I.turned (t' := s.toks) (fun b o hb e => eb b o hb e) f0 f1 f3 f4 f5⟩
  self := fun _ _ _ _ _ st h => by
    obtain ⟨⟨old, he⟩, _⟩ := st
    exact wpAny_pyIter_enum he h
def qJy (K : PySem.W.Frag) (t : TA) : TI := fun σ H R => t σ H fun vs H1 => ∃ a, vs = [.ref a] ∧ (∃ xs, SqL K H1 a xs) ∧ R (Ite K a) H1
theorem qHt {X : Cx} {l : Expr} {tl : TA} {elts : List Expr} {k1 : Nat} {tpos p pos : Pos} (hg : Gl X "enumerate") (hm : X.mg "enumerate" = none) (hl : PA X [l] tl) (hs : starEach [l] X.env = [(false, eval l X.env)] := by rfl) :
    PI X (.Tuple elts k1 tpos) (.Call (.Name "enumerate" p) [l] [] pos) (qJy X.K tl) := by
  intro pins s σ H R I h
  refine Call_ (qAt I hg hm boot_enumerate (PyProof.Rows.callWith_type1 (thn (hl pos pins s σ H _ I h) fun us s1 ⟨vs, H1, I1, r1, q1⟩ => ?_) hs rfl))
  obtain ⟨a, e, ⟨xs, hq⟩, q⟩ := q1
  subst e
  cases r1 with
  | cons r rr =>
    cases rr
    cases r
    obtain ⟨its, rv, pl, hz⟩ := I1.list hq
    refine call_enumerate_list pl.isList fun h' he hit hsz hk => ?_
    refine wpAny_pyIter_enum he ?_
    refine ⟨s1.heap.objs.size + 1, [s1.heap.objs.size + 1, s1.heap.objs.size], _, _, H1, rfl, I1.kept (t' := s1.toks) fun b o e => hk b o e, qE6 a _ _ (Nat.succ_ne_self _), ⟨⟨_, he⟩, hit⟩, fun b hb => ?_, q⟩
    rcases List.mem_cons.mp hb with rfl | hb
    · exact I1.fpOk (Nat.le_succ _) (I1.hok.fresh (Nat.le_succ _))
    · have e : b = s1.heap.objs.size := by simpa using hb
      subst e
      exact I1.fpOk (Nat.le_refl _) (I1.hok.fresh (Nat.le_refl _))
theorem qGa {K : PySem.W.Frag} {a : Addr} {xs : List V} {g : TG} {tb : TS} {D : qE4} {σ : L2.St} {H : Hp} (Pv : Nat → L2.St → Hp → Prop) (h0 : Pv 0 σ H) (hl : ∀ i σ H, i ≤ xs.length → Pv i σ H → SqL K H a xs)
    (hs : ∀ i x σ H p, xs[i]? = some x → Pv i σ H → H p = none → g (.ref p) σ (upd H p (.tup [.int i, x])) fun σ2 H2 => tb { D with nx := Pv (i + 1), ct := Pv (i + 1), bk := D.nx } σ2 H2) (hd : ∀ σ H, Pv xs.length σ H → D.nx σ H) :
    ∃ W : Nat → Nat → L2.St → Hp → Prop, (∃ m, W 0 m σ H) ∧ ∀ i m σ H, W i m σ H →
      ((Ite K a).stop i H ∧ D.nx σ H) ∨ ((Ite K a).go i H ∧ ∃ N : L2.St → Hp → Prop, (∀ σ' H', N σ' H' → ∃ m', m' < m ∧ W (i + 1) m' σ' H') ∧ ∀ x H', (Ite K a).yld i H x H' → g x σ H' fun σ2 H2 => tb { D with nx := N, ct := N, bk := D.nx } σ2 H2) := by
  refine ⟨fun i m σ H => m = xs.length - i ∧ i ≤ xs.length ∧ Pv i σ H, ⟨xs.length, by simp, Nat.zero_le _, h0⟩, ?_⟩
  rintro i m σ H ⟨rfl, hi, p⟩
  have q := hl i σ H hi p
  by_cases hlt : i < xs.length
  · refine .inr ⟨⟨xs, xs[i], q, by simp [hlt]⟩, Pv (i + 1), fun σ' H' p' => ⟨xs.length - (i + 1), by omega, rfl, hlt, p'⟩, fun x H' y => ?_⟩
    obtain ⟨z, v, hz, rfl, y, rfl⟩ := y
    exact hs i v σ _ z (y xs q) p hz
  · have e : i = xs.length := by omega
    subst e
    exact .inl ⟨⟨xs, q, Nat.le_refl _⟩, hd σ H p⟩
theorem qD5 : ∀ {ns : List Int} {us : List Value}, Vals (ns.map V.int) us → ∃ xs : List (Int × Tok), us.toArray = intItems xs.toArray ∧ xs.map (·.1) = ns
  | [], us, r => by cases r; exact ⟨[], by simp [intItems], rfl⟩
  | n :: ns, us, r => by
    rw [List.map_cons] at r
    cases r with
    | cons h t =>
      obtain ⟨xs, e1, e2⟩ := qD5 t
      obtain ⟨tk, rfl⟩ := h
      refine ⟨(n, tk) :: xs, ?_, by rw [List.map_cons, e2]⟩
      have e3 := congrArg Array.toList e1
      simp only [intItems, List.map_toArray] at e3 ⊢
      rw [e3]
      rfl
theorem vg {X : Cx} (hc : X.calm = true) : CallR X (.builtin "sum") (fun xs H Q => ∃ (p : Addr) (ns : List Int), xs = [.ref p] ∧ SqL X.K H p (ns.map V.int) ∧ Q (.int ns.sum) H) := by
  intro pins s σ H xs us Q I r h
  obtain ⟨p, ns, rfl, hq, q⟩ := h
  obtain ⟨u, rfl, rx⟩ := qBl r
  cases rx
  obtain ⟨its, rv, pl, hz⟩ := I.list hq
  obtain ⟨ys, e1, e2⟩ := qD5 rv
  have pl' := pl.isList
  rw [e1] at pl'
  refine sum_intListG (I.ok.hd hc) pl' fun h' tk t' hk => ?_
  rw [preSum_eq, List.take_of_length_le (by simp)]
  have e3 : ys.toArray.toList.map (·.1) = ns := by simpa using e2
  rw [e3]
  exact ⟨.int ns.sum, H, I.kept fun b o e => hk b o e, ⟨_, rfl⟩, q⟩
def qKv (t : TT) : TT := fun σ H Q => ∃ R : Bool → Hp → Prop, t σ H R ∧ ∀ b H', R b H' → Q b H'
theorem kN {X : Cx} {e : Expr} {t : TT} (h : PT X e t) : PT X e (qKv t) := by
  rintro pins s σ H Q I ⟨R, ht, hR⟩
  exact thn (h pins s σ H R I ht) fun b s' ⟨H', I', r⟩ => ⟨H', I', hR b H' r⟩
end L3
set_option maxHeartbeats 4000000
namespace L3
open PySem PySem.Spec PyProof.Rows L2
end L3
set_option maxHeartbeats 4000000
namespace L3
open PySem PySem.Spec PyProof.Rows L2
theorem qH6 {k : Key} {v : Value} (h : qB0 k v = true) : RelV (kV k) v := by
  rcases qx h with ⟨i, t, rfl, rfl⟩ | ⟨x, t, rfl, rfl⟩
  · exact ⟨t, rfl⟩
  · exact ⟨t, rfl⟩
theorem KV.get {κ : Type} {kvs : List (κ × V)} {vs : List (κ × Value)} (r : KV kvs vs) {i : Nat} {k : κ} {v : V} (h : kvs[i]? = some (k, v)) : ∃ u, vs[i]? = some (k, u) ∧ RelV v u := by
  induction r generalizing i with
  | nil => simp at h
  | @cons p q ps qs hpq _ ih =>
    cases i with
    | zero =>
      have e : p = (k, v) := by simpa using h
      subst e
      obtain ⟨k', u⟩ := q
      have e : k = k' := hpq.1
      subst e
      exact ⟨u, rfl, hpq.2⟩
    | succ i => exact ih (by simpa using h)
section
variable {P : Program} {w : World} {K : PySem.W.Frag}
end
end L3
set_option maxHeartbeats 4000000
namespace L3
open PySem PySem.Spec PyProof.Rows L2
def EqIn (P : Program) (w : World) (A : Around) (s : Shared) (y x : Value) : Prop := ∀ (E : Value → Shared → Prop) (Q : Bool → Shared → Prop), Q true s → wpAny (model P w) A (eqBool y x) Q E s
theorem EqIn.rc {P : Program} {w : World} {A : Around} {s : Shared} {l b : Addr} (h : ∀ (E : Value → Shared → Prop) (Q : Value → Shared → Prop), Q (.bool true) s → wpAny (model P w) A (richCompare .Eq (.ref l) (.ref b)) Q E s) : EqIn P w A s (.ref l) (.ref b) := by
  by_cases e : l = b
  · subst e
    exact fun E Q hq => SeqAt.EqAt.same _ P w E Q hq
  · intro E Q hq
    unfold eqBool
    refine wpAny_holding (wpAny_ite_split (fun z => ?_) (fun _ => ?_))
    · have := eq_of_beq z
      injection this with this
      exact absurd this e
    · exact wpAny_bind (h E _ (wpAny_truthy_bool hq))
def DEq (K : PySem.W.Frag) (H : Hp) (a b : Addr) : Prop := ∃ ka kb : List (Key × V), Rd H a (.dK ka) ∧ Rd H b (.dK kb) ∧ ka.length = kb.length ∧ ∀ p ∈ ka, ∃ v d, vx kb p.1 = some v ∧ Rep K H d p.2 ∧ Rep K H d v ∧ eqD d d = true ∧ dep d ≤ 50
section
variable {X : Cx} {pins : List (Addr × Obj)} {σ : L2.St} {H : Hp} {s : Shared}
theorem qHs (I : Inv X pins σ H s) {A : Around} (hu : A.units + 50 < cLine) {kb : List (Key × V)} {vb : List (Key × Value)} (rb : KV kb vb) : ∀ {ka : List (Key × V)} {va : List (Key × Value)}, KV ka va →
    (∀ p ∈ ka, ∃ v d, vx kb p.1 = some v ∧ Rep X.K H d p.2 ∧ Rep X.K H d v ∧ eqD d d = true ∧ dep d ≤ 50) → PySem.W.KeqHits A s vb va true := by
  intro ka va r
  unfold KV at r
  induction r with
  | nil => exact fun _ => .nil
  | @cons p q ps qs h t ih =>
    intro hp
    obtain ⟨h1, h2⟩ := h
    obtain ⟨v, d, e, r1, r2, g, hd⟩ := hp p (by simp)
    have rv := rb.val p.1
    rw [e] at rv
    cases w : valueAt vb p.1 with
    | none => rw [w] at rv; exact (show False from rv).elim
    | some y =>
      rw [w] at rv
      have rv : RelV v y := rv
      have ea := qGy I 50 A d d p.2 v q.2 y hd hu r1 r2 h2 rv
      rw [g] at ea
      have hq : q = (p.1, q.2) := by rw [h1]
      have k := PySem.W.KeqHits.hit (A := A) (s := s) (kb := vb) (k := p.1) (v := q.2) (e := true) w ea (ih fun x hx => hp x (by simp [hx]))
      rw [hq]
      exact k
theorem DEq.at (I : Inv X pins σ H s) {A : Around} (hu : A.units + 51 < cLine) {a b : Addr} (h : DEq X.K H a b) : EqIn X.prog X.w A s (.ref a) (.ref b) := by
  obtain ⟨ka, kb, ra, rb, hl, hh⟩ := h
  obtain ⟨_, na, va, qa, da⟩ := qFl I.hok ra
  obtain ⟨_, nb, vb, qb, db⟩ := qFl I.hok rb
  refine EqIn.rc fun E Q hq => ?_
  refine PySem.W.keq_eq (r := true) na nb da db (by omega) (fun _ => qHs I (by show A.units + 1 + 50 < cLine; omega) qb qa hh) ?_
  have e : (va.length == vb.length) = true := by rw [← qa.length, ← qb.length, hl]; simp
  rw [e]
  exact hq
end
theorem qDk {X : Cx} {K : PySem.W.Frag} (h : X.K = K) (hc : X.calm = true) : CallR X (.builtin "sum") (fun xs H Q => ∃ (p : Addr) (ns : List Int), xs = [.ref p] ∧ SqL K H p (ns.map V.int) ∧ Q (.int ns.sum) H) := h ▸ vg hc
theorem kK {X : Cx} {K : PySem.W.Frag} (h : X.K = K) : CallR X (.type "list") (fun xs H Q => ∃ p ys, xs = [.ref p] ∧ (SqL K H p ys ∨ SqT K H p ys) ∧ ∀ l, H l = none → Q (.ref l) (upd H l (.lst ys))) := h ▸ xl
theorem qGp {X : Cx} {K : PySem.W.Frag} {tg l : Expr} {tl : TE} (h : X.K = K) (hl : PE X l tl) : PI X tg l (qIa K tl) := h ▸ zH hl
end L3
set_option maxHeartbeats 4000000
set_option maxRecDepth 100000
namespace L3
open PySem PySem.Spec PyProof.Rows L2
theorem qF5 {K : PySem.W.Frag} {a : Addr} {xs : List V} {js : List Nat} {te : TE} {σ : L2.St} {H : Hp} {Q : VK} (Pv : Nat → List V → Hp → Prop) (h0 : Pv 0 [] H) (hl : ∀ i acc H, i ≤ xs.length → Pv i acc H → SqT K H a xs ∧ acc.length < sizeLine)
    (hs : ∀ i x acc H, i < xs.length → xs[i]? = some x → Pv i acc H → te (some x :: qDw js σ) H fun v H' => Nxt xs.length i (Pv (i + 1) (acc ++ [v]) H')) (hd : ∀ acc H, Pv xs.length acc H → ∀ D, H D = none → Q (.ref D) (upd H D (.lst acc))) : wu js te σ Q (Itt K a) H := by
  refine ⟨fun i m acc H => m = xs.length - i ∧ i ≤ xs.length ∧ Pv i acc H, ⟨xs.length, by simp, Nat.zero_le _, h0⟩, ?_⟩
  rintro i m acc H2 ⟨rfl, hi, p⟩
  obtain ⟨q, hz⟩ := hl i acc H2 hi p
  refine ⟨hz, ?_⟩
  by_cases hlt : i < xs.length
  · refine .inr ⟨⟨xs, xs[i], q, by simp [hlt]⟩, fun x H3 y => ?_⟩
    obtain ⟨e, y⟩ := y
    subst e
    exact hs i x acc _ hlt (y xs q) p
  · have e : i = xs.length := by omega
    subst e
    exact .inl ⟨⟨xs, q, Nat.le_refl _⟩, hd acc H2 p⟩
theorem KV.keys {kvs : List (Key × V)} {vs : List (Key × Value)} (r : KV kvs vs) : vs.map (·.1) = kvs.map (·.1) := by
  induction r with
  | nil => rfl
  | cons h _ ih => rw [List.map_cons, List.map_cons, ih, h.1]
theorem qG6 {xs : List V} {us : List Value} (hl : xs.length = us.length) (h : ∀ (j : Nat) (x : V) (u : Value), xs[j]? = some x → us[j]? = some u → RelV x u) : Vals xs us := by
  induction xs generalizing us with
  | nil =>
    cases us with
    | nil => exact .nil
    | cons _ _ => simp at hl
  | cons x xs ih =>
    cases us with
    | nil => simp at hl
    | cons u us => exact .cons (h 0 x u rfl rfl) (ih (by simpa using hl) fun j y v e1 e2 => h (j + 1) y v (by simpa using e1) (by simpa using e2))
theorem v5 {X : Cx} (hc : X.calm = true) : CallR X (.type "list") (fun xs H Q => ∃ d kvs, xs = [.ref d] ∧ Rd H d (.dK kvs) ∧ ∀ l, H l = none → Q (.ref l) (upd H l (.lst (kvs.map fun p => kV p.1)))) := by
  intro pins s σ H xs us Q I r h
  obtain ⟨d, kvs, rfl, hd, q⟩ := h
  obtain ⟨u, rfl, rx⟩ := qBl r
  cases rx
  obtain ⟨hz, hs, vs, rk, o, es, ep, ho, rest⟩ := hd.ok I.hok
  have hk := KV.keys rk
  have hlen : vs.length = kvs.length := by have := congrArg List.length hk; simpa using this
  refine PySem.W.kdl_call (PySem.W.kdl_dict (knd := jn X.prog X.w) (kvs := vs) (ep := ep) hs) (I.ok.hd hc) ⟨o, es, ho, rest⟩ (by omega) fun h' tk acc c kp hS hi => ?_
  refine ⟨.ref s.heap.objs.size, _, I.laid (t' := tk) kp (Nat.le_refl _) (show ObjOk X.prog X.w _ h' _ (.lst (kvs.map fun p => kV p.1)) from ⟨by simpa using hz, acc.toList, c, ?_, by simpa using hS⟩), rfl, q _ (I.hok.fresh (Nat.le_refl _))⟩
  refine qG6 (by rw [List.length_map]; have := hi.1; have := Array.length_toList (xs := acc); omega) fun j x u e1 e2 => ?_
  obtain ⟨k, y, e3, e4⟩ := hi.2 j u (by rw [← Array.getElem?_toList]; exact e2)
  have e5 : (vs.map (·.1))[j]? = some k := by rw [List.getElem?_map, e3]; rfl
  rw [hk, List.getElem?_map] at e5
  rw [List.getElem?_map] at e1
  cases e6 : kvs[j]? with
  | none => rw [e6] at e5; cases e5
  | some p =>
    rw [e6] at e1 e5
    cases e1
    cases e5
    exact qH6 e4
end L3
set_option maxHeartbeats 4000000
namespace L3
open PySem PySem.Spec PyProof.Rows L2
end L3
set_option maxHeartbeats 4000000
namespace L3
open PySem PySem.Spec PyProof.Rows L2
end L3
set_option maxHeartbeats 4000000
namespace L3
open PySem PySem.Spec PyProof.Rows L2
variable {X : Cx}
end L3
set_option maxHeartbeats 4000000
namespace L3
open PySem PySem.Spec PyProof.Rows L2 PySem.NumText PySem.Builtin.Str
def qKd (l : List Nat) : List Nat := if l.head? = some 45 then l.tail else l
def qKx (c : Nat) : Bool := !(occurrences "0123456789" ⟨#[c]⟩ 0 ("0123456789" : Str).length 1).isEmpty
structure Fig (l : List Nat) : Prop where
  ne : qKd l ≠ []
  len : (qKd l).length ≤ 60
  all : (qKd l).all qKx = true
end L3
set_option maxHeartbeats 4000000
namespace L3
open PySem PySem.Spec PyProof.Rows L2 PySem.NumText PySem.Builtin.Str
inductive qF0 (l : List Nat) : List Str → Prop where
  | none (h : l = []) : qF0 l []
  | one {p : Str} (h : l = p.cps.toList) (hf : 47 ∉ l) : qF0 l [p]
  | two {p q : Str} (h : l = p.cps.toList ++ 47 :: q.cps.toList) (hp : 47 ∉ p.cps.toList) (hq : 47 ∉ q.cps.toList) : qF0 l [p, q]
  | more {p q r : Str} {t : List Str} (rest : List Nat) (h : l = p.cps.toList ++ 47 :: rest) (hp : 47 ∉ p.cps.toList) (hq : 47 ∈ rest) : qF0 l (p :: q :: r :: t)
end L3
set_option maxHeartbeats 4000000
namespace L3
open PySem PySem.Spec PyProof.Rows L2
def isT : Value → Bool
  | .bool b => b
  | _ => false
def qHx : V → List V → Hp → VK → Prop := fun x vs H Q => ∃ (l : Addr) (bs : List Bool) (j : Nat), x = .ref l ∧ vs = [.bl true] ∧ H l = some (.lst (bs.map V.bl)) ∧ bs[j]? = some true ∧ (∀ m, m < j → bs[m]? = some false) ∧ Q (.int j) H
theorem wF : ∀ {bs : List Bool} {us : List Value}, Vals (bs.map V.bl) us → us = bs.map Value.bool
  | [], _, .nil => rfl
  | _ :: _, _, .cons r t => by cases r; rw [List.map_cons, wF t]
theorem qFj {X : Cx} : MtM X "list.index" qHx := by
  intro pins s σ H x vs v us Q I rx rv h
  obtain ⟨l, bs, j, rfl, rfl, hH, hj, hno, q⟩ := h
  cases rx
  obtain ⟨u, rfl, ru⟩ := rv.one
  cases ru
  obtain ⟨z, its, n, r, hl, e⟩ := I.lstM hH
  obtain rfl := wF r
  have hjl := (List.getElem?_eq_some_iff.mp hj).1
  rw [List.length_map] at z
  refine call_meets F.slot_list_index ⟨_, e, rfl⟩ F.entry_list_index (F.args_list_index_2 _ _) (SeqAt.list_indexAt l (bs.map Value.bool).toArray n none #[] (.bool true) isT j (by simp; omega) ?_ ?_ ?_) ⟨e, ?_, ?_⟩
  · have : sizeLine < 2 ^ 62 := by decide
    omega
  · have := (List.getElem?_eq_some_iff.mp hj).2
    simp [isT, this]
  · intro m hm hmj
    have := (List.getElem?_eq_some_iff.mp (hno m hmj)).2
    simp [isT, this]
  · intro y hy
    obtain ⟨b, _, rfl⟩ : ∃ b ∈ bs, Value.bool b = y := by simpa using hy
    have := SeqAt.EqAt.bool_bool (A := X.A.in1) (s := s) b true
    simpa [isT] using this
  · exact ⟨.int j, H, I.tok _, ⟨_, rfl⟩, q⟩
theorem qGn {X : Cx} {K : PySem.W.Frag} (h : X.K = K) : SlR X (qKk K) := h ▸ qEb
end L3
set_option maxHeartbeats 4000000
set_option maxRecDepth 100000
namespace Lw
open PySem L2 L3 Mt
seal L2.PSs L2.PS L2.PE L2.PA L2.PT L2.PW L2.PC L2.PI L2.PG L2.PGs L2.PO
def top (i : Nat) : Stmt := PySem.Challenge.pw_reelcut_k44_rolls_refused.main.body.getD i (.Pass ⟨0, 0, 0, 0⟩)
abbrev xO : Stmt := top 9
abbrev qr : Stmt := top 10
abbrev jm : Stmt := top 11
abbrev xQ : Stmt := top 12
abbrev zl : Stmt := top 13
abbrev zD : Stmt := top 14
abbrev xT : Stmt := top 15
abbrev xP : Stmt := top 16
abbrev j3 : Stmt := top 17
abbrev xU : Stmt := top 18
abbrev zW : Stmt := top 24
abbrev jN : Stmt := top 25
abbrev xN : Stmt := top 26
abbrev xI : Stmt := top 27
abbrev xV : Stmt := top 28
abbrev xE : Stmt := top 29
abbrev j5 : Stmt := top 30
abbrev zZ : Stmt := top 31
abbrev qy : Stmt := top 32
abbrev j7 : Stmt := top 33
abbrev j9 : Stmt := top 34
abbrev xh : Stmt := top 36
abbrev jP : Stmt := top 37
abbrev jj : Stmt := top 38
abbrev zA : Stmt := top 39
abbrev xg : Stmt := top 40
abbrev zF : Stmt := top 41
abbrev xw : Stmt := top 42
abbrev jS : Stmt := top 43
abbrev jH : Stmt := top 44
abbrev qz : Stmt := top 45
abbrev qp : Stmt := top 46
abbrev jq : Stmt := top 47
abbrev xX : Stmt := top 48
abbrev jQ : Stmt := top 49
abbrev xF : Stmt := top 51
abbrev jp : Stmt := top 52
abbrev xW : Stmt := top 53
abbrev jG : Stmt := top 54
abbrev jY : Stmt := top 55
abbrev xt : Stmt := top 56
abbrev jU : Stmt := top 59
abbrev xS : Stmt := top 60
abbrev jf : Stmt := top 61
abbrev qv : Stmt := top 62
abbrev jL : Stmt := top 63
abbrev zC : Stmt := top 64
abbrev jT : Stmt := top 65
abbrev j1 : Stmt := top 66
abbrev jz : Stmt := top 67
abbrev xx : Stmt := top 68
abbrev ql : Stmt := top 69
abbrev jg : Stmt := top 70
abbrev zk : Stmt := top 71
abbrev xD : Stmt := top 77
abbrev zS : Stmt := top 78
abbrev jb : Stmt := top 79
abbrev jE : Stmt := top 80
abbrev jO : Stmt := top 81
abbrev jt : Stmt := top 82
abbrev jo : Stmt := top 83
abbrev ja : Stmt := top 84
abbrev jZ : Stmt := top 85
abbrev zE : Stmt := top 86
abbrev kF : Stmt := top 87
abbrev vY : Stmt := top 88
abbrev zU : Stmt := top 89
abbrev kL : Stmt := top 90
abbrev zT : Stmt := top 91
abbrev xB : Stmt := top 92
abbrev jI : Stmt := top 94
abbrev jh : Stmt := top 95
abbrev q9 : Stmt := top 96
abbrev je : Stmt := top 98
abbrev j2 : Stmt := top 99
abbrev ji : Stmt := top 100
abbrev jd : Stmt := top 101
abbrev qm : Stmt := top 103
abbrev jR : Stmt := top 104
abbrev jM : Stmt := top 105
abbrev jW : Stmt := top 106
abbrev jJ : Stmt := top 107
abbrev qt : Stmt := top 108
abbrev xR : Stmt := top 109
abbrev j4 : Stmt := top 110
abbrev wM : Stmt := top 111
theorem vn : qQ ["x"] ["x"] (qC xO) := ⟨rfl, rfl, rfl, by decide +kernel, rfl, by decide +kernel, by decide +kernel⟩
theorem sc_common_divisor : qQ ["one", "other", "rest"] ["one", "other"] (qC qr) := ⟨rfl, rfl, rfl, by decide +kernel, rfl, by decide +kernel, by decide +kernel⟩
theorem sc_fraction : qQ ["top", "bottom", "divisor"] ["top", "bottom"] (qC xQ) := ⟨rfl, rfl, rfl, by decide +kernel, rfl, by decide +kernel, by decide +kernel⟩
theorem qEn : qQ ["one", "other"] ["one", "other"] (qC zl) := ⟨rfl, rfl, rfl, by decide +kernel, rfl, by decide +kernel, by decide +kernel⟩
theorem qDr : qQ ["one", "other"] ["one", "other"] (qC zD) := ⟨rfl, rfl, rfl, by decide +kernel, rfl, by decide +kernel, by decide +kernel⟩
theorem qCl : qQ ["one", "other"] ["one", "other"] (qC xT) := ⟨rfl, rfl, rfl, by decide +kernel, rfl, by decide +kernel, by decide +kernel⟩
theorem qB2 : qQ ["one", "other"] ["one", "other"] (qC xP) := ⟨rfl, rfl, rfl, by decide +kernel, rfl, by decide +kernel, by decide +kernel⟩
theorem qA6 : qQ ["one", "other"] ["one", "other"] (qC j3) := ⟨rfl, rfl, rfl, by decide +kernel, rfl, by decide +kernel, by decide +kernel⟩
theorem qCc : qQ ["one"] ["one"] (qC xU) := ⟨rfl, rfl, rfl, by decide +kernel, rfl, by decide +kernel, by decide +kernel⟩
theorem qCm : qQ ["clip", "k"] ["clip", "k"] (qC xN) := ⟨rfl, rfl, rfl, by decide +kernel, rfl, by decide +kernel, by decide +kernel⟩
theorem qBy : qQ ["picture", "many"] ["picture", "many"] (qC xV) := ⟨rfl, rfl, rfl, by decide +kernel, rfl, by decide +kernel, by decide +kernel⟩
theorem qAf : qQ ["clip", "low", "high"] ["clip", "low", "high"] (qC j5) := ⟨rfl, rfl, rfl, by decide +kernel, rfl, by decide +kernel, by decide +kernel⟩
theorem sc_moments_there : qQ ["first", "step", "many", "room"] ["first", "step", "many"] (qC qy) := ⟨rfl, rfl, rfl, by decide +kernel, rfl, by decide +kernel, by decide +kernel⟩
theorem qAg : qQ ["clip", "reels"] ["clip", "reels"] (qC j7) := ⟨rfl, rfl, rfl, by decide +kernel, rfl, by decide +kernel, by decide +kernel⟩
theorem qA3 : qQ ["clip", "reels"] ["clip", "reels"] (qC j9) := ⟨rfl, rfl, rfl, by decide +kernel, rfl, by decide +kernel, by decide +kernel⟩
theorem wk : qQ ["item"] ["item"] (qC jj) := ⟨rfl, rfl, rfl, by decide +kernel, rfl, by decide +kernel, by decide +kernel⟩
theorem sc_item_at : qQ ["track", "moment", "begin", "place", "item", "end"] ["track", "moment"] (qC zF) := ⟨rfl, rfl, rfl, by decide +kernel, rfl, by decide +kernel, by decide +kernel⟩
theorem qDj : qQ ["track", "place"] ["track", "place"] (qC xw) := ⟨rfl, rfl, rfl, by decide +kernel, rfl, by decide +kernel, by decide +kernel⟩
theorem v9 : qQ ["track", "place"] ["track", "place"] (qC jS) := ⟨rfl, rfl, rfl, by decide +kernel, rfl, by decide +kernel, by decide +kernel⟩
theorem vT : qQ ["track", "place"] ["track", "place"] (qC jH) := ⟨rfl, rfl, rfl, by decide +kernel, rfl, by decide +kernel, by decide +kernel⟩
theorem sc_neighbours_at : qQ ["track", "moment", "found"] ["track", "moment"] (qC qz) := ⟨rfl, rfl, rfl, by decide +kernel, rfl, by decide +kernel, by decide +kernel⟩
theorem sc_clips_at_border : qQ ["track", "moment", "places"] ["track", "moment"] (qC qp) := ⟨rfl, rfl, rfl, by decide +kernel, rfl, by decide +kernel, by decide +kernel⟩
theorem v3 : qQ ["table", "number", "moment"] ["table", "number", "moment"] (qC jU) := ⟨rfl, rfl, rfl, by decide +kernel, rfl, by decide +kernel, by decide +kernel⟩
theorem qBu : qQ ["by"] ["by"] (qC xS) := ⟨rfl, rfl, rfl, by decide +kernel, rfl, by decide +kernel, by decide +kernel⟩
theorem sc_clip_there : qQ ["track", "moment", "found"] ["track", "moment"] (qC jf) := ⟨rfl, rfl, rfl, by decide +kernel, rfl, by decide +kernel, by decide +kernel⟩
theorem sc_clip_and_sides : qQ ["track", "moment", "found", "left", "right"] ["track", "moment"] (qC qv) := ⟨rfl, rfl, rfl, by decide +kernel, rfl, by decide +kernel, by decide +kernel⟩
theorem vH : qQ ["track", "deed"] ["track", "deed"] (qC jL) := ⟨rfl, rfl, rfl, by decide +kernel, rfl, by decide +kernel, by decide +kernel⟩
theorem qDx : qQ ["track", "place"] ["track", "place"] (qC zC) := ⟨rfl, rfl, rfl, by decide +kernel, rfl, by decide +kernel, by decide +kernel⟩
theorem wA : qQ ["most", "by"] ["most", "by"] (qC jT) := ⟨rfl, rfl, rfl, by decide +kernel, rfl, by decide +kernel, by decide +kernel⟩
theorem qA5 : qQ ["clip", "by", "reels"] ["clip", "by", "reels"] (qC j1) := ⟨rfl, rfl, rfl, by decide +kernel, rfl, by decide +kernel, by decide +kernel⟩
theorem qBe : qQ ["left", "right", "by", "reels"] ["left", "right", "by", "reels"] (qC jz) := ⟨rfl, rfl, rfl, by decide +kernel, rfl, by decide +kernel, by decide +kernel⟩
theorem sc_slipped : qQ ["track", "place", "by", "reels", "clip", "changed"] ["track", "place", "by", "reels"] (qC xx) := ⟨rfl, rfl, rfl, by decide +kernel, rfl, by decide +kernel, by decide +kernel⟩
theorem sc_with_rolled_ends : qQ ["track", "first", "last", "by", "reels", "left", "right", "changed"] ["track", "first", "last", "by", "reels"] (qC ql) := ⟨rfl, rfl, rfl, by decide +kernel, rfl, by decide +kernel, by decide +kernel⟩
theorem sc_table_with : qQ ["table", "number", "track", "tracks"] ["table", "number", "track"] (qC jg) := ⟨rfl, rfl, rfl, by decide +kernel, rfl, by decide +kernel, by decide +kernel⟩
theorem sc_rolled : qQ ["table", "deed", "reels", "track", "places"] ["table", "deed", "reels"] (qC zk) := ⟨rfl, rfl, rfl, by decide +kernel, rfl, by decide +kernel, by decide +kernel⟩
theorem qBa : qQ ["table", "deed", "reels"] ["table", "deed", "reels"] (qC xB) := ⟨rfl, rfl, rfl, by decide +kernel, rfl, by decide +kernel, by decide +kernel⟩
theorem vw : qQ ["_law_script", "_law_k"] ["_law_script", "_law_k"] (qC jI) := ⟨rfl, rfl, rfl, by decide +kernel, rfl, by decide +kernel, by decide +kernel⟩
theorem sc__law_mixed : qQ ["_law_cell", "_law_k", "_law_number"] ["_law_cell", "_law_k"] (qC jh) := ⟨rfl, rfl, rfl, by decide +kernel, rfl, by decide +kernel, by decide +kernel⟩
theorem sc__law_fraction : qQ ["_law_top", "_law_bottom", "_law_one", "_law_other"] ["_law_top", "_law_bottom"] (qC q9) := ⟨rfl, rfl, rfl, by decide +kernel, rfl, by decide +kernel, by decide +kernel⟩
theorem sc__law_there : qQ ["_law_clip_here", "_law_k", "_law_reels_here", "_law_value"] ["_law_clip_here", "_law_k", "_law_reels_here"] (qC je) := ⟨rfl, rfl, rfl, by decide +kernel, rfl, by decide +kernel, by decide +kernel⟩
theorem sc__law_clip : qQ ["_law_number", "_law_reels_here", "_law_most", "_law_names", "_law_name", "_law_step", "_law_bottom", "_law_start", "_law_length_here"] ["_law_number", "_law_reels_here", "_law_most"] (qC j2) := ⟨rfl, rfl, rfl, by decide +kernel, rfl, by decide +kernel, by decide +kernel⟩
theorem sc__law_reels : qQ ["_law_cell", "_law_names", "_law_reels_here", "_law_k"] ["_law_cell"] (qC ji) := ⟨rfl, rfl, rfl, by decide +kernel, rfl, by decide +kernel, by decide +kernel⟩
theorem sc__law_track : qQ ["_law_cells", "_law_reels_here", "_law_track_here", "_law_cell", "_law_number"] ["_law_cells", "_law_reels_here"] (qC jd) := ⟨rfl, rfl, rfl, by decide +kernel, rfl, by decide +kernel, by decide +kernel⟩
theorem sc__law_mixed_track : qQ ["_law_track_here", "_law_cell", "_law_reels_here", "_law_found", "_law_k", "_law_item"] ["_law_track_here", "_law_cell", "_law_reels_here"] (qC qm) := ⟨rfl, rfl, rfl, by decide +kernel, rfl, by decide +kernel, by decide +kernel⟩
theorem v8 : qQ ["_law_item"] ["_law_item"] (qC jR) := ⟨rfl, rfl, rfl, by decide +kernel, rfl, by decide +kernel, by decide +kernel⟩
theorem sc__law_clip_at : qQ ["_law_track_here", "_law_moment", "_law_begin", "_law_place"] ["_law_track_here", "_law_moment"] (qC jM) := ⟨rfl, rfl, rfl, by decide +kernel, rfl, by decide +kernel, by decide +kernel⟩
theorem sc__law_beside : qQ ["_law_track_here", "_law_place", "_law_way", "_law_other"] ["_law_track_here", "_law_place", "_law_way"] (qC jW) := ⟨rfl, rfl, rfl, by decide +kernel, rfl, by decide +kernel, by decide +kernel⟩
theorem sc__law_has_mix : qQ ["_law_track_here", "_law_place", "_law_other"] ["_law_track_here", "_law_place"] (qC jJ) := ⟨rfl, rfl, rfl, by decide +kernel, rfl, by decide +kernel, by decide +kernel⟩
theorem kS : qQ ["_law_one"] ["_law_one"] (qC qt) := ⟨rfl, rfl, rfl, by decide +kernel, rfl, by decide +kernel, by decide +kernel⟩
theorem sc__law_due : qQ ["_law_tracks", "_law_deed", "_law_word", "_law_at", "_law_moment", "_law_by", "_law_place", "_law_far", "_law_changed"] ["_law_tracks", "_law_deed"] (qC xR) := ⟨rfl, rfl, rfl, by decide +kernel, rfl, by decide +kernel, by decide +kernel⟩
theorem sc__law_told : qQ ["_law_way", "_law_table", "_law_deed", "_law_reels_here", "_law_kinds", "e"] ["_law_way", "_law_table", "_law_deed", "_law_reels_here"] (qC j4) := ⟨rfl, rfl, rfl, by decide +kernel, rfl, by decide +kernel, by decide +kernel⟩
theorem sc_law : qQ ["_law_script", "_law_reels_here", "_law_track_here", "_law_tracks", "_law_number", "_law_end", "_law_moment", "_law_begins_here", "_law_by", "_law_at", "_law_deed", "_law_handed", "_law_way"] ["_law_script"] (qC wM) := ⟨rfl, rfl, rfl, by decide +kernel, rfl, by decide +kernel, by decide +kernel⟩
abbrev zf : Stmt := qG4 (top 7) 0
theorem qEw : qQ ["self", "most"] ["self", "most"] (qC zf) := ⟨rfl, rfl, rfl, by decide +kernel, rfl, by decide +kernel, by decide +kernel⟩
set_option genInjectivity false
set_option genSizeOf false
structure Ads where
  a_is_whole : Addr
  f_is_whole : FuncData
  a_common_divisor : Addr
  f_common_divisor : FuncData
  a_is_fraction : Addr
  f_is_fraction : FuncData
  a_fraction : Addr
  f_fraction : FuncData
  a_sum_of : Addr
  f_sum_of : FuncData
  a_less_by : Addr
  f_less_by : FuncData
  a_times_of : Addr
  f_times_of : FuncData
  a_quotient : Addr
  f_quotient : FuncData
  a_is_before : Addr
  f_is_before : FuncData
  a_floor_of : Addr
  f_floor_of : FuncData
  a_is_name : Addr
  f_is_name : FuncData
  a_has_clip_form : Addr
  f_has_clip_form : FuncData
  a_place_at : Addr
  f_place_at : FuncData
  a_picture_at : Addr
  f_picture_at : FuncData
  a_is_there : Addr
  f_is_there : FuncData
  a_check_clip : Addr
  f_check_clip : FuncData
  a_clip_part : Addr
  f_clip_part : FuncData
  a_goes_on : Addr
  f_goes_on : FuncData
  a_moments_there : Addr
  f_moments_there : FuncData
  a_head_room : Addr
  f_head_room : FuncData
  a_tail_room : Addr
  f_tail_room : FuncData
  a_is_length : Addr
  f_is_length : FuncData
  a_has_nest_form : Addr
  f_has_nest_form : FuncData
  a_moments_of : Addr
  f_moments_of : FuncData
  a_one_form : Addr
  f_one_form : FuncData
  a_length_of : Addr
  f_length_of : FuncData
  a_item_at : Addr
  f_item_at : FuncData
  a_kind_at : Addr
  f_kind_at : FuncData
  a_place_ahead : Addr
  f_place_ahead : FuncData
  a_place_behind : Addr
  f_place_behind : FuncData
  a_neighbours_at : Addr
  f_neighbours_at : FuncData
  a_clips_at_border : Addr
  f_clips_at_border : FuncData
  a_lies_within : Addr
  f_lies_within : FuncData
  a_item_part : Addr
  f_item_part : FuncData
  a_part_of_track : Addr
  f_part_of_track : FuncData
  a_part_ahead : Addr
  f_part_ahead : FuncData
  a_part_behind : Addr
  f_part_behind : FuncData
  a_mix_spans : Addr
  f_mix_spans : FuncData
  a_taken_at_begin : Addr
  f_taken_at_begin : FuncData
  a_taken_at_end : Addr
  f_taken_at_end : FuncData
  a_most_mix : Addr
  f_most_mix : FuncData
  a_check_place : Addr
  f_check_place : FuncData
  a_check_by : Addr
  f_check_by : FuncData
  a_clip_there : Addr
  f_clip_there : FuncData
  a_clip_and_sides : Addr
  f_clip_and_sides : FuncData
  a_places_named : Addr
  f_places_named : FuncData
  a_has_mix : Addr
  f_has_mix : FuncData
  a_check_short : Addr
  f_check_short : FuncData
  a_most_slip : Addr
  f_most_slip : FuncData
  a_most_roll : Addr
  f_most_roll : FuncData
  a_slipped : Addr
  f_slipped : FuncData
  a_with_rolled_ends : Addr
  f_with_rolled_ends : FuncData
  a_table_with : Addr
  f_table_with : FuncData
  a_rolled : Addr
  f_rolled : FuncData
  a_stretch_of : Addr
  f_stretch_of : FuncData
  a_laid_by : Addr
  f_laid_by : FuncData
  a_laid_on_tied : Addr
  f_laid_on_tied : FuncData
  a_tracks_changed : Addr
  f_tracks_changed : FuncData
  a_check_numbers : Addr
  f_check_numbers : FuncData
  a_touches_mix : Addr
  f_touches_mix : FuncData
  a_check_mixes : Addr
  f_check_mixes : FuncData
  a_check_change : Addr
  f_check_change : FuncData
  a_nest_goes_on : Addr
  f_nest_goes_on : FuncData
  a_can_heal : Addr
  f_can_heal : FuncData
  a_healed : Addr
  f_healed : FuncData
  a_mixed : Addr
  f_mixed : FuncData
  a_unmixed : Addr
  f_unmixed : FuncData
  a_relaid : Addr
  f_relaid : FuncData
  a_changed : Addr
  f_changed : FuncData
  a_deed_done : Addr
  f_deed_done : FuncData
  a__law_cell_at : Addr
  f__law_cell_at : FuncData
  a__law_mixed : Addr
  f__law_mixed : FuncData
  a__law_fraction : Addr
  f__law_fraction : FuncData
  a__law_there : Addr
  f__law_there : FuncData
  a__law_clip : Addr
  f__law_clip : FuncData
  a__law_reels : Addr
  f__law_reels : FuncData
  a__law_track : Addr
  f__law_track : FuncData
  a__law_mixed_track : Addr
  f__law_mixed_track : FuncData
  a__law_length : Addr
  f__law_length : FuncData
  a__law_clip_at : Addr
  f__law_clip_at : FuncData
  a__law_beside : Addr
  f__law_beside : FuncData
  a__law_has_mix : Addr
  f__law_has_mix : FuncData
  a__law_is_number : Addr
  f__law_is_number : FuncData
  a__law_due : Addr
  f__law_due : FuncData
  a__law_told : Addr
  f__law_told : FuncData
  a_law : Addr
  f_law : FuncData
  k_CutError : Addr
  k_NoNumber : Addr
  k_NoClip : Addr
  k_NoPlace : Addr
  k_Mixed : Addr
  k_NoRoom : Addr
  k_Short : Addr
  t_LETTERS : Tok
  t_LONGEST_NAME : Tok
  t_MOST_ROOM : Tok
  n_NOUGHT : Addr
  t_MOST_BY : Tok
  n_ROLLS : Addr
  n_LAYS : Addr
  n_PUSHES : Addr
  n_CHANGES : Addr
  fi_Short : Addr
  gi_Short : FuncData
structure Tx (K : PySem.W.Frag) (mg : Str → Option Value) (a : Ads) : Prop where
  d_is_whole : L3.Def K mg "is_whole" xO ["x"] a.a_is_whole a.f_is_whole
  d_common_divisor : L3.Def K mg "common_divisor" qr ["one", "other"] a.a_common_divisor a.f_common_divisor
  d_is_fraction : L3.Def K mg "is_fraction" jm ["x"] a.a_is_fraction a.f_is_fraction
  d_fraction : L3.Def K mg "fraction" xQ ["top", "bottom"] a.a_fraction a.f_fraction
  d_sum_of : L3.Def K mg "sum_of" zl ["one", "other"] a.a_sum_of a.f_sum_of
  d_less_by : L3.Def K mg "less_by" zD ["one", "other"] a.a_less_by a.f_less_by
  d_times_of : L3.Def K mg "times_of" xT ["one", "other"] a.a_times_of a.f_times_of
  d_quotient : L3.Def K mg "quotient" xP ["one", "other"] a.a_quotient a.f_quotient
  d_is_before : L3.Def K mg "is_before" j3 ["one", "other"] a.a_is_before a.f_is_before
  d_floor_of : L3.Def K mg "floor_of" xU ["one"] a.a_floor_of a.f_floor_of
  d_is_name : L3.Def K mg "is_name" zW ["thing"] a.a_is_name a.f_is_name
  d_has_clip_form : L3.Def K mg "has_clip_form" jN ["item"] a.a_has_clip_form a.f_has_clip_form
  d_place_at : L3.Def K mg "place_at" xN ["clip", "k"] a.a_place_at a.f_place_at
  d_picture_at : L3.Def K mg "picture_at" xI ["clip", "k"] a.a_picture_at a.f_picture_at
  d_is_there : L3.Def K mg "is_there" xV ["picture", "many"] a.a_is_there a.f_is_there
  d_check_clip : L3.Def K mg "check_clip" xE ["item", "reels"] a.a_check_clip a.f_check_clip
  d_clip_part : L3.Def K mg "clip_part" j5 ["clip", "low", "high"] a.a_clip_part a.f_clip_part
  d_goes_on : L3.Def K mg "goes_on" zZ ["one", "other"] a.a_goes_on a.f_goes_on
  d_moments_there : L3.Def K mg "moments_there" qy ["first", "step", "many"] a.a_moments_there a.f_moments_there
  d_head_room : L3.Def K mg "head_room" j7 ["clip", "reels"] a.a_head_room a.f_head_room
  d_tail_room : L3.Def K mg "tail_room" j9 ["clip", "reels"] a.a_tail_room a.f_tail_room
  d_is_length : L3.Def K mg "is_length" xh ["thing"] a.a_is_length a.f_is_length
  d_has_nest_form : L3.Def K mg "has_nest_form" jP ["item"] a.a_has_nest_form a.f_has_nest_form
  d_moments_of : L3.Def K mg "moments_of" jj ["item"] a.a_moments_of a.f_moments_of
  d_one_form : L3.Def K mg "one_form" zA ["some"] a.a_one_form a.f_one_form
  d_length_of : L3.Def K mg "length_of" xg ["track"] a.a_length_of a.f_length_of
  d_item_at : L3.Def K mg "item_at" zF ["track", "moment"] a.a_item_at a.f_item_at
  d_kind_at : L3.Def K mg "kind_at" xw ["track", "place"] a.a_kind_at a.f_kind_at
  d_place_ahead : L3.Def K mg "place_ahead" jS ["track", "place"] a.a_place_ahead a.f_place_ahead
  d_place_behind : L3.Def K mg "place_behind" jH ["track", "place"] a.a_place_behind a.f_place_behind
  d_neighbours_at : L3.Def K mg "neighbours_at" qz ["track", "moment"] a.a_neighbours_at a.f_neighbours_at
  d_clips_at_border : L3.Def K mg "clips_at_border" qp ["track", "moment"] a.a_clips_at_border a.f_clips_at_border
  d_lies_within : L3.Def K mg "lies_within" jq ["track", "moment"] a.a_lies_within a.f_lies_within
  d_item_part : L3.Def K mg "item_part" xX ["item", "low", "high"] a.a_item_part a.f_item_part
  d_part_of_track : L3.Def K mg "part_of_track" jQ ["track", "low", "high"] a.a_part_of_track a.f_part_of_track
  d_part_ahead : L3.Def K mg "part_ahead" xF ["length"] a.a_part_ahead a.f_part_ahead
  d_part_behind : L3.Def K mg "part_behind" jp ["length"] a.a_part_behind a.f_part_behind
  d_mix_spans : L3.Def K mg "mix_spans" xW ["track"] a.a_mix_spans a.f_mix_spans
  d_taken_at_begin : L3.Def K mg "taken_at_begin" jG ["track", "place"] a.a_taken_at_begin a.f_taken_at_begin
  d_taken_at_end : L3.Def K mg "taken_at_end" jY ["track", "place"] a.a_taken_at_end a.f_taken_at_end
  d_most_mix : L3.Def K mg "most_mix" xt ["track", "moment", "reels"] a.a_most_mix a.f_most_mix
  d_check_place : L3.Def K mg "check_place" jU ["table", "number", "moment"] a.a_check_place a.f_check_place
  d_check_by : L3.Def K mg "check_by" xS ["by"] a.a_check_by a.f_check_by
  d_clip_there : L3.Def K mg "clip_there" jf ["track", "moment"] a.a_clip_there a.f_clip_there
  d_clip_and_sides : L3.Def K mg "clip_and_sides" qv ["track", "moment"] a.a_clip_and_sides a.f_clip_and_sides
  d_places_named : L3.Def K mg "places_named" jL ["track", "deed"] a.a_places_named a.f_places_named
  d_has_mix : L3.Def K mg "has_mix" zC ["track", "place"] a.a_has_mix a.f_has_mix
  d_check_short : L3.Def K mg "check_short" jT ["most", "by"] a.a_check_short a.f_check_short
  d_most_slip : L3.Def K mg "most_slip" j1 ["clip", "by", "reels"] a.a_most_slip a.f_most_slip
  d_most_roll : L3.Def K mg "most_roll" jz ["left", "right", "by", "reels"] a.a_most_roll a.f_most_roll
  d_slipped : L3.Def K mg "slipped" xx ["track", "place", "by", "reels"] a.a_slipped a.f_slipped
  d_with_rolled_ends : L3.Def K mg "with_rolled_ends" ql ["track", "first", "last", "by", "reels"] a.a_with_rolled_ends a.f_with_rolled_ends
  d_table_with : L3.Def K mg "table_with" jg ["table", "number", "track"] a.a_table_with a.f_table_with
  d_rolled : L3.Def K mg "rolled" zk ["table", "deed", "reels"] a.a_rolled a.f_rolled
  d_stretch_of : L3.Def K mg "stretch_of" xD ["deed"] a.a_stretch_of a.f_stretch_of
  d_laid_by : L3.Def K mg "laid_by" zS ["deed"] a.a_laid_by a.f_laid_by
  d_laid_on_tied : L3.Def K mg "laid_on_tied" jb ["deed"] a.a_laid_on_tied a.f_laid_on_tied
  d_tracks_changed : L3.Def K mg "tracks_changed" jE ["table", "deed"] a.a_tracks_changed a.f_tracks_changed
  d_check_numbers : L3.Def K mg "check_numbers" jO ["deed"] a.a_check_numbers a.f_check_numbers
  d_touches_mix : L3.Def K mg "touches_mix" jt ["track", "low", "high"] a.a_touches_mix a.f_touches_mix
  d_check_mixes : L3.Def K mg "check_mixes" jo ["table", "deed"] a.a_check_mixes a.f_check_mixes
  d_check_change : L3.Def K mg "check_change" ja ["table", "deed", "reels"] a.a_check_change a.f_check_change
  d_nest_goes_on : L3.Def K mg "nest_goes_on" jZ ["one", "other"] a.a_nest_goes_on a.f_nest_goes_on
  d_can_heal : L3.Def K mg "can_heal" zE ["track", "places"] a.a_can_heal a.f_can_heal
  d_healed : L3.Def K mg "healed" kF ["table", "deed"] a.a_healed a.f_healed
  d_mixed : L3.Def K mg "mixed" vY ["table", "deed", "reels"] a.a_mixed a.f_mixed
  d_unmixed : L3.Def K mg "unmixed" zU ["table", "deed"] a.a_unmixed a.f_unmixed
  d_relaid : L3.Def K mg "relaid" kL ["track", "low", "high", "laid"] a.a_relaid a.f_relaid
  d_changed : L3.Def K mg "changed" zT ["table", "deed"] a.a_changed a.f_changed
  d_deed_done : L3.Def K mg "deed_done" xB ["table", "deed", "reels"] a.a_deed_done a.f_deed_done
  d__law_cell_at : L3.Def K mg "_law_cell_at" jI ["_law_script", "_law_k"] a.a__law_cell_at a.f__law_cell_at
  d__law_mixed : L3.Def K mg "_law_mixed" jh ["_law_cell", "_law_k"] a.a__law_mixed a.f__law_mixed
  d__law_fraction : L3.Def K mg "_law_fraction" q9 ["_law_top", "_law_bottom"] a.a__law_fraction a.f__law_fraction
  d__law_there : L3.Def K mg "_law_there" je ["_law_clip_here", "_law_k", "_law_reels_here"] a.a__law_there a.f__law_there
  d__law_clip : L3.Def K mg "_law_clip" j2 ["_law_number", "_law_reels_here", "_law_most"] a.a__law_clip a.f__law_clip
  d__law_reels : L3.Def K mg "_law_reels" ji ["_law_cell"] a.a__law_reels a.f__law_reels
  d__law_track : L3.Def K mg "_law_track" jd ["_law_cells", "_law_reels_here"] a.a__law_track a.f__law_track
  d__law_mixed_track : L3.Def K mg "_law_mixed_track" qm ["_law_track_here", "_law_cell", "_law_reels_here"] a.a__law_mixed_track a.f__law_mixed_track
  d__law_length : L3.Def K mg "_law_length" jR ["_law_item"] a.a__law_length a.f__law_length
  d__law_clip_at : L3.Def K mg "_law_clip_at" jM ["_law_track_here", "_law_moment"] a.a__law_clip_at a.f__law_clip_at
  d__law_beside : L3.Def K mg "_law_beside" jW ["_law_track_here", "_law_place", "_law_way"] a.a__law_beside a.f__law_beside
  d__law_has_mix : L3.Def K mg "_law_has_mix" jJ ["_law_track_here", "_law_place"] a.a__law_has_mix a.f__law_has_mix
  d__law_is_number : L3.Def K mg "_law_is_number" qt ["_law_one"] a.a__law_is_number a.f__law_is_number
  d__law_due : L3.Def K mg "_law_due" xR ["_law_tracks", "_law_deed"] a.a__law_due a.f__law_due
  d__law_told : L3.Def K mg "_law_told" j4 ["_law_way", "_law_table", "_law_deed", "_law_reels_here"] a.a__law_told a.f__law_told
  d_law : L3.Def K mg "law" wM ["_law_script"] a.a_law a.f_law
  c_CutError : mg "CutError" = some (.ref a.k_CutError)
  c_NoNumber : mg "NoNumber" = some (.ref a.k_NoNumber)
  c_NoClip : mg "NoClip" = some (.ref a.k_NoClip)
  c_NoPlace : mg "NoPlace" = some (.ref a.k_NoPlace)
  c_Mixed : mg "Mixed" = some (.ref a.k_Mixed)
  c_NoRoom : mg "NoRoom" = some (.ref a.k_NoRoom)
  c_Short : mg "Short" = some (.ref a.k_Short)
  b_isinstance : mg "isinstance" = none
  b_int : mg "int" = none
  b_bool : mg "bool" = none
  b_abs : mg "abs" = none
  b_tuple : mg "tuple" = none
  b_len : mg "len" = none
  b_all : mg "all" = none
  b_str : mg "str" = none
  b_min : mg "min" = none
  b_sum : mg "sum" = none
  b_enumerate : mg "enumerate" = none
  b_max : mg "max" = none
  b_list : mg "list" = none
  b_any : mg "any" = none
  b_range : mg "range" = none
  b_ValueError : mg "ValueError" = none
  g_LETTERS : mg "LETTERS" = some (.str "abcdefghijklmnopqrstuvwxyz" a.t_LETTERS)
  g_LONGEST_NAME : mg "LONGEST_NAME" = some (.int 8 a.t_LONGEST_NAME)
  g_MOST_ROOM : mg "MOST_ROOM" = some (.int 1000000 a.t_MOST_ROOM)
  g_NOUGHT : mg "NOUGHT" = some (.ref a.n_NOUGHT)
  sq_NOUGHT : ∀ H, SqT K H a.n_NOUGHT [.int 0, .int 1]
  g_MOST_BY : mg "MOST_BY" = some (.int 1000000 a.t_MOST_BY)
  g_ROLLS : mg "ROLLS" = some (.ref a.n_ROLLS)
  sq_ROLLS : ∀ H, SqT K H a.n_ROLLS [.str "roll", .str "slip", .str "slide"]
  g_LAYS : mg "LAYS" = some (.ref a.n_LAYS)
  sq_LAYS : ∀ H, SqT K H a.n_LAYS [.str "lay_in", .str "lay_over"]
  g_PUSHES : mg "PUSHES" = some (.ref a.n_PUSHES)
  sq_PUSHES : ∀ H, SqT K H a.n_PUSHES [.str "lay_in", .str "open", .str "close"]
  g_CHANGES : mg "CHANGES" = some (.ref a.n_CHANGES)
  sq_CHANGES : ∀ H, SqT K H a.n_CHANGES [.str "cut", .str "lay_in", .str "open", .str "close", .str "lift", .str "lay_over"]
  x_NoPlace : L3.OwnX K a.k_NoPlace
  x_Mixed : L3.OwnX K a.k_Mixed
  e_NoPlace : L3.ExcK K a.k_NoPlace
  e_Mixed : L3.ExcK K a.k_Mixed
  e_Short : L3.ExcK K a.k_Short
  x1 : PySem.W.exmOne K (.ref a.k_NoPlace) (.ref a.k_CutError) = some true
  x2 : PySem.W.exmOne K (.ref a.k_Mixed) (.ref a.k_CutError) = some true
  x3 : PySem.W.exmOne K (.ref a.k_Short) (.ref a.k_CutError) = some true
  p1 : PySem.W.kitOne K (.ref a.k_NoPlace) (.ref a.k_NoPlace) = some true
  p2 : PySem.W.kitOne K (.ref a.k_NoPlace) (.ref a.k_Mixed) = some false
  p3 : PySem.W.kitOne K (.ref a.k_NoPlace) (.ref a.k_Short) = some false
  p4 : PySem.W.kitOne K (.ref a.k_NoPlace) (.ref a.k_NoClip) = some false
  p5 : PySem.W.kitOne K (.ref a.k_NoPlace) (.ref a.k_NoRoom) = some false
  p6 : PySem.W.kitOne K (.ref a.k_NoPlace) (.type "ValueError") = some true
  q1 : PySem.W.kitOne K (.ref a.k_Mixed) (.ref a.k_NoPlace) = some false
  q2 : PySem.W.kitOne K (.ref a.k_Mixed) (.ref a.k_Mixed) = some true
  q3 : PySem.W.kitOne K (.ref a.k_Mixed) (.ref a.k_Short) = some false
  q4 : PySem.W.kitOne K (.ref a.k_Mixed) (.ref a.k_NoClip) = some false
  q5 : PySem.W.kitOne K (.ref a.k_Mixed) (.ref a.k_NoRoom) = some false
  q6 : PySem.W.kitOne K (.ref a.k_Mixed) (.type "ValueError") = some true
  s1 : PySem.W.kitOne K (.ref a.k_Short) (.ref a.k_NoPlace) = some false
  s2 : PySem.W.kitOne K (.ref a.k_Short) (.ref a.k_Mixed) = some false
  s3 : PySem.W.kitOne K (.ref a.k_Short) (.ref a.k_Short) = some true
  s4 : PySem.W.kitOne K (.ref a.k_Short) (.ref a.k_NoClip) = some false
  s5 : PySem.W.kitOne K (.ref a.k_Short) (.ref a.k_NoRoom) = some false
  s6 : PySem.W.kitOne K (.ref a.k_Short) (.type "ValueError") = some true
  i_Short : Fun K "__init__" "Short.__init__" zf a.fi_Short a.gi_Short
  ib_Short : Binds K a.gi_Short ["self", "most"] []
  m_Short : L3.XMk K a.k_Short a.k_CutError a.fi_Short
  tk_Short : PySem.W.takerIn K a.k_Short "most" = some none
def qGf (K : PySem.W.Frag) : Sp := fun vs H Q _ => ∃ (a : Addr) (ns : List Int), vs = [.ref a] ∧ SqL K H a (ns.map V.int) ∧ ns.length ≤ 63 ∧ ∀ H', Q (.bl true) H'
def qF6 (H : Hp) (Q : VK) (p q : Int) : Prop := ∀ z, H z = none → Q (.ref z) (upd H z (.tup [.int p, .int q]))
theorem xJ {CX : CXT} {P : Program} {w : World} {K : PySem.W.Frag} {mg : Str → Option Value} {base : Heap} {ns : List Str} {n : Str} {sc : Scope} {ad : Addr} {cdv : Value} {A : Around} {outer : List Env} {s : Shared} {H : Hp} {E : XK} : (qFn CX P w K mg base ns n sc ad cdv A outer s H E).K = K := rfl
theorem qk {CX : CXT} {P : Program} {w : World} {K : PySem.W.Frag} {mg : Str → Option Value} {base : Heap} {ns : List Str} {n : Str} {sc : Scope} {ad : Addr} {cdv : Value} {A : Around} {outer : List Env} {s : Shared} {H : Hp} {E : XK} : (qFn CX P w K mg base ns n sc ad cdv A outer s H E).nox.K = K := rfl
theorem sL0 : (0 : Nat) ≤ sizeLine := by decide
theorem sL1 : (1 : Nat) ≤ sizeLine := by decide
theorem sL2 : (2 : Nat) ≤ sizeLine := by decide
theorem sL3 : (3 : Nat) ≤ sizeLine := by decide
theorem sL4 : (4 : Nat) ≤ sizeLine := by decide
theorem sL5 : (5 : Nat) ≤ sizeLine := by decide
theorem glt {α : Type} {xs : List α} {i : Nat} {x : α} (h : xs[i]? = some x) : i < xs.length := (List.getElem?_eq_some_iff.mp h).1
theorem ixT {K : PySem.W.Frag} {σ : St} {H : Hp} {p : Addr} {xs : List V} {i : Int} {v : V} {Q : VK} (h : SqT K H p xs) (a : atI xs i = some v) (q : Q v H) : tC (.int i) σ H (fun y H2 => qJ9 K (.ref p) y H2 Q) := ⟨p, xs, i, v, rfl, rfl, h, a, q⟩
theorem jD {K : PySem.W.Frag} {σ : St} {H : Hp} {p : Addr} {xs : List V} {i : Int} {v : V} {Q : VK} {j : Nat} (e : σ[j]? = some (some (.ref p))) (h : SqT K H p xs) (a : atI xs i = some v) (q : Q v H) : tOp (qJ9 K) (qJd j) (tC (.int i)) σ H Q := ⟨.ref p, e, p, xs, i, v, rfl, rfl, h, a, q⟩
theorem qKn {K : PySem.W.Frag} {σ : St} {H : Hp} {p : Addr} {xs : List V} {i : Int} {v : V} {Q : VK} {j : Nat} (e : σ[j]? = some (some (.ref p))) (h : SqL K H p xs) (a : atI xs i = some v) (q : Q v H) : tOp (qJi K) (qJd j) (tC (.int i)) σ H Q := ⟨.ref p, e, p, xs, i, v, rfl, rfl, h, a, q⟩
section
variable {P : Program} {w : World} {K : W.Frag} {mg : Str → Option Value} {base : Heap} {a : Ads}
def qCa : Sp := fun vs H Q _ => ∃ i : Int, vs = [.int i] ∧ Q (.bl true) H
theorem vk (T : Tx K mg a) : FnOk P w K mg base CX0 1 a.a_is_whole a.f_is_whole ["x"] qCa := by
  refine T.d_is_whole.F.ok vn (fun vs H Q E h => ?_) (fun cdv A outer s H vs Q E hr h => ?_)
  · obtain ⟨i, rfl, _⟩ := h
    rfl
  obtain ⟨i, rfl, q⟩ := h
  refine ⟨_, (qG (qR (qC1 (qY j6 rfl T.b_isinstance rfl (qA (pv 0) (qA (qB6 rfl T.b_int rfl) qD))) (qAi (qCr (qY j6 rfl T.b_isinstance rfl (qA (pv 0) (qA (qB6 rfl T.b_bool rfl) qD)))))))), ?_⟩
  try dsimp only [xJ, qk]
  refine ⟨_, rfl, _, _, _, true, rfl, .int i, ⟨_, .inl ⟨rfl, rfl⟩⟩, true, rfl, ju ?_⟩
  refine ⟨_, rfl, _, _, _, false, rfl, .int i, ⟨_, .inl ⟨rfl, by kernel_rfl⟩⟩, false, rfl, ?_⟩
  exact q
def kR : Sp := fun vs H Q _ => ∃ i j : Int, vs = [.int i, .int j] ∧ Q (.int ((Int.gcd i j : Nat) : Int)) H
theorem kY (T : Tx K mg a) : FnOk P w K mg base CX0 1 a.a_common_divisor a.f_common_divisor ["one", "other"] kR := by
  refine T.d_common_divisor.F.ok sc_common_divisor (fun vs H Q E h => ?_) (fun cdv A outer s H vs Q E hr h => ?_)
  · obtain ⟨i, j, rfl, _⟩ := h
    rfl
  obtain ⟨i, j, rfl, q⟩ := h
  refine ⟨_, (qE (wO PassesOwn.never (qN kr (pv 1) qB (qS _)) (qE (qW (i := 2) sc_common_divisor.nd rfl (Or.inl rfl) (qP qg (pv 0) (pv 1)))
      (qE (qW (i := 0) sc_common_divisor.nd rfl (Or.inl rfl) (pv 1))
      (qG (qW (i := 1) sc_common_divisor.nd rfl (Or.inl rfl) (pv 2))))))
      (qG (qR (qY vA rfl T.b_abs rfl (qA (pv 0) qD))))), ?_⟩
  try dsimp only [xJ, qk]
  refine wf (fun σ H' => H' = H ∧ ∃ (x y : Int) (v : Option V), σ = [some (.int x), some (.int y), v] ∧ Int.gcd x y = Int.gcd i j)
    (fun σ _ => match σ with | [_, some (.int y), _] => y.natAbs | _ => 0) ⟨rfl, i, j, none, rfl, rfl⟩ ?_ ?_
  · rintro σ H1 ⟨rfl, x, y, v, rfl, e⟩
    refine ⟨_, rfl, rfl, _, rfl, ?_⟩
    refine xG (fun c => ?_) (fun c => ?_)
    · have hy : y ≠ 0 := by simpa using c
      refine ⟨_, rfl, _, rfl, _, _, rfl, rfl, hy, _, rfl, _, rfl, ⟨rfl, y, x.fmod y, _, rfl, ?_⟩, ?_⟩
      · rw [qC9]; exact e
      · exact qE0 x y hy
    · have hy : y = 0 := by simpa using c
      subst hy
      refine ⟨_, rfl, x, rfl, ?_⟩
      have e2 : (if x < 0 then -x else x) = ((Int.gcd i j : Nat) : Int) := by
        rw [← e, Int.gcd_zero_right]
        split <;> omega
      rw [e2]
      exact q
  · rintro σ H1 Q1 Q2 hq h
    obtain ⟨v, e, s, k, hk, z⟩ := h
    exact ⟨v, e, s, k, hk, hq _ _ z⟩
theorem qC5 {t b : Int} (h : b ≠ 0) (hb : b.natAbs < 2 ^ 8000) : CDivB t (sg t b) ∧ CDivB b (sg t b) := by
  have h1 := qJ5 (t := t) h
  have h2 : (sg t b).natAbs < 2 ^ 8000 := by
    rw [qC3]
    exact Nat.lt_of_le_of_lt (Nat.le_of_dvd (by omega) (Int.gcd_dvd_natAbs_right ..)) hb
  exact ⟨⟨h1, h2⟩, ⟨h1, h2⟩⟩
def qCe : Sp := fun vs H Q _ => ∃ t b : Int, vs = [.int t, .int b] ∧ b ≠ 0 ∧ b.natAbs < 2 ^ 8000 ∧ qF6 H Q (xK t b) (jk t b)
theorem xC (T : Tx K mg a) : FnOk P w K mg base CX0 2 a.a_fraction a.f_fraction ["top", "bottom"] qCe := by
  refine T.d_fraction.F.ok sc_fraction (fun vs H Q E h => ?_) (fun cdv A outer s H vs Q E hr h => ?_)
  · obtain ⟨t, b, rfl, _⟩ := h
    rfl
  obtain ⟨t, b, rfl, hb, hs, q⟩ := h
  refine ⟨_, (qE (qo (PW.pt (zP (zO (zN (qL T.d_is_whole (vk T) hr rfl (qA (pv 0) qD)))) (zL (zO (zN (qL T.d_is_whole (vk T) hr rfl (qA (pv 1) qD))))))) vc qX)
      (qE (qo (qN jv (pv 1) qB (qS _)) vc qX)
      (qE (qW (i := 2) sc_fraction.nd rfl (Or.inl rfl) (qL T.d_common_divisor (kY T) hr rfl (qA (pv 0) (qA (pv 1) qD))))
      (qE (qo (qN kG (pv 1) qB (qS _)) (qG (qW (i := 2) sc_fraction.nd rfl (Or.inl rfl) (z9 xf (pv 2)))) qX)
      (qG (qR (jB (qA (qP qf (pv 0) (pv 2)) (qA (qP qf (pv 1) (pv 2)) qD))))))))), ?_⟩
  try dsimp only [xJ, qk]
  refine ⟨_, rfl, t, rfl, true, rfl, xq ?_⟩
  refine ⟨_, rfl, b, rfl, true, rfl, xq ?_⟩
  refine ⟨_, rfl, rfl, _, rfl, ?_⟩
  refine xG (fun c => absurd (by simpa using c) hb) (fun _ => ?_)
  refine ⟨_, rfl, _, rfl, t, b, rfl, ?_⟩
  refine ⟨_, rfl, _, _, rfl, rfl, _, rfl, ?_⟩
  obtain ⟨d1, d2⟩ := qC5 (t := t) hb hs
  refine xG (fun c => ?_) (fun c => ?_)
  · have c' : b < 0 := by simpa using c
    have e : -((Int.gcd t b : Nat) : Int) = sg t b := by unfold sg; rw [if_pos c']
    have q' : qF6 H Q (t.fdiv (-((Int.gcd t b : Nat) : Int))) (b.fdiv (-((Int.gcd t b : Nat) : Int))) := by rw [e]; exact q
    exact ⟨_, rfl, _, rfl, _, rfl, _, rfl, _, _, rfl, rfl, (by rw [e]; exact d1), _, rfl, _, rfl, _, _, rfl, rfl, (by rw [e]; exact d2), sL2, q'⟩
  · have c' : ¬ b < 0 := by simpa using c
    have e : ((Int.gcd t b : Nat) : Int) = sg t b := by unfold sg; rw [if_neg c']
    have q' : qF6 H Q (t.fdiv ((Int.gcd t b : Nat) : Int)) (b.fdiv ((Int.gcd t b : Nat) : Int)) := by rw [e]; exact q
    exact ⟨_, rfl, _, rfl, _, _, rfl, rfl, (by rw [e]; exact d1), _, rfl, _, rfl, _, _, rfl, rfl, (by rw [e]; exact d2), sL2, q'⟩
def Pr (K : W.Frag) (H : Hp) (v : V) (p q : Int) : Prop := ∃ z, v = .ref z ∧ SqT K H z [.int p, .int q]
theorem Pr.same {H H' : Hp} {v : V} {p q : Int} (e : Same H H') (h : Pr K H v p q) : Pr K H' v p q := let ⟨z, h1, h2⟩ := h; ⟨z, h1, L3.Same.tup e h2⟩
def Sm (i : Int) : Prop := i.natAbs < 2 ^ 3000
theorem Sm.mul {i j : Int} (h1 : Sm i) (h2 : Sm j) : CMulB i j := by
  unfold Sm at h1 h2
  have : (2 : Nat) ^ 3000 ≤ 2 ^ 60000 := Nat.pow_le_pow_right (by decide) (by decide)
  exact .inr ⟨by omega, by omega⟩
theorem Sm.prod {i j : Int} (h1 : Sm i) (h2 : Sm j) : (i * j).natAbs < 2 ^ 8000 := by
  unfold Sm at h1 h2
  rw [Int.natAbs_mul]
  have h3 : i.natAbs * j.natAbs < 2 ^ 3000 * 2 ^ 3000 := Nat.mul_lt_mul'' h1 h2
  rw [← Nat.pow_add] at h3
  exact Nat.lt_of_lt_of_le h3 (Nat.pow_le_pow_right (by decide) (by decide))
theorem at0 {x y : V} : atI [x, y] 0 = some x := rfl
theorem at1 {x y : V} : atI [x, y] 1 = some y := rfl
def qEx (K : W.Frag) : Sp := fun vs H Q _ => ∃ (x y : V) (p q r s : Int), vs = [x, y] ∧ Pr K H x p q ∧ Pr K H y r s ∧ q ≠ 0 ∧ s ≠ 0 ∧ Sm p ∧ Sm q ∧ Sm r ∧ Sm s ∧ qF6 H Q (xK (p * s + r * q) (q * s)) (jk (p * s + r * q) (q * s))
theorem qFf (T : Tx K mg a) : FnOk P w K mg base CX0 3 a.a_sum_of a.f_sum_of ["one", "other"] (qEx K) := by
  refine T.d_sum_of.F.ok qEn (fun vs H Q E h => ?_) (fun cdv A outer s H vs Q E hr h => ?_)
  · obtain ⟨x, y, p, q, r, s, rfl, _⟩ := h
    rfl
  obtain ⟨x, y, p, q, r, s', rfl, ⟨z1, rfl, h1⟩, ⟨z2, rfl, h2⟩, hq, hs, bp, bq, br, bs, k⟩ := h
  refine ⟨_, (qG (qR (qL T.d_fraction (xC T) hr rfl (qA (qP jF (qP jA (qM qK (pv 0) qB (fun _ _ => rfl)) (qM qK (pv 1) qB (fun _ _ => rfl))) (qP jA (qM qK (pv 1) qB (fun _ _ => rfl)) (qM qK (pv 0) qB (fun _ _ => rfl)))) (qA (qP jA (qM qK (pv 0) qB (fun _ _ => rfl)) (qM qK (pv 1) qB (fun _ _ => rfl))) qD))))), ?_⟩
  try dsimp only [xJ, qk]
  refine (jD rfl h1 at0 (jD rfl h2 at1 ⟨_, _, rfl, rfl, bp.mul bs, ?_⟩))
  refine (jD rfl h2 at0 (jD rfl h1 at1 ⟨_, _, rfl, rfl, br.mul bq, _, _, rfl, rfl, ?_⟩))
  refine (jD rfl h1 at1 (jD rfl h2 at1 ⟨_, _, rfl, rfl, bq.mul bs, ?_⟩))
  exact ⟨_, _, rfl, Int.mul_ne_zero hq hs, bq.prod bs, k⟩
def qB1 (K : W.Frag) : Sp := fun vs H Q _ => ∃ (x : V) (p q : Int), vs = [x] ∧ Pr K H x p q ∧ q ≠ 0 ∧ q.natAbs < 2 ^ 8000 ∧ Q (.int (p.fdiv q)) H
theorem z8 (T : Tx K mg a) : FnOk P w K mg base CX0 1 a.a_floor_of a.f_floor_of ["one"] (qB1 K) := by
  refine T.d_floor_of.F.ok qCc (fun vs H Q E h => ?_) (fun cdv A outer s H vs Q E hr h => ?_)
  · obtain ⟨x, p, q, rfl, _⟩ := h
    rfl
  obtain ⟨x, p, q, rfl, ⟨z1, rfl, h1⟩, hq, bq, k⟩ := h
  refine ⟨_, (qG (qR (qP qf (qM qK (pv 0) qB (fun _ _ => rfl)) (qM qK (pv 0) qB (fun _ _ => rfl))))), ?_⟩
  try dsimp only [xJ, qk]
  exact (jD rfl h1 at0 (jD rfl h1 at1 ⟨_, _, rfl, rfl, ⟨hq, bq⟩, k⟩))
theorem nz {j : Int} (h : j ≠ 0 := by decide) : j ≠ 0 := h
theorem cdB {i j : Int} (h0 : j ≠ 0) (h : j.natAbs < 18446744073709551616) : CDivB i j :=
  ⟨h0, Nat.lt_of_lt_of_le h (Nat.le_trans (by decide : 18446744073709551616 ≤ 2 ^ 64) (Nat.pow_le_pow_right (by decide) (by decide)))⟩
theorem cmR {i j : Int} (h1 : -(18446744073709551616 : Int) < j) (h2 : j < 18446744073709551616) : CMulB i j := .inl (.inr ⟨h1, h2⟩)
theorem cmL {i j : Int} (h1 : -(18446744073709551616 : Int) < i) (h2 : i < 18446744073709551616) : CMulB i j := .inl (.inl ⟨h1, h2⟩)
theorem at3 {x y z : V} {i : Int} (h0 : 0 ≤ i) (h1 : i < 3) : ∃ v, atI [x, y, z] i = some v ∧ (v = x ∨ v = y ∨ v = z) := by
  have : i = 0 ∨ i = 1 ∨ i = 2 := by omega
  rcases this with rfl | rfl | rfl
  · exact ⟨x, rfl, .inl rfl⟩
  · exact ⟨y, rfl, .inr (.inl rfl)⟩
  · exact ⟨z, rfl, .inr (.inr rfl)⟩
theorem fm (i : Int) {j : Int} (h : 0 < j) : 0 ≤ i.fmod j ∧ i.fmod j < j := ⟨Int.fmod_nonneg_of_pos i h, Int.fmod_lt_of_pos i h⟩
theorem cpw {n : Nat} (h : n ≤ 1000000) : qKg 10 (n : Int) := ⟨by omega, by omega, by decide⟩
def Good (n : Nat) (p q : Int) : Prop := 0 < q ∧ Int.gcd p q = 1 ∧ p.natAbs < 2 ^ n ∧ q.natAbs < 2 ^ n
theorem Good.mono {n m : Nat} {p q : Int} (h : Good n p q) (l : n ≤ m) : Good m p q := ⟨h.1, h.2.1, Nat.lt_of_lt_of_le h.2.2.1 (Nat.pow_le_pow_right (by decide) l), Nat.lt_of_lt_of_le h.2.2.2 (Nat.pow_le_pow_right (by decide) l)⟩
theorem Sm.of200 {i : Int} (h : i.natAbs < 2 ^ 200) : Sm i := Nat.lt_of_lt_of_le h (Nat.pow_le_pow_right (by decide) (by decide))
theorem qFp {n : Nat} {t b : Int} (hb : 0 < b) (h1 : t.natAbs < 2 ^ n) (h2 : b.natAbs < 2 ^ n) : Good n (xK t b) (jk t b) :=
  ⟨xo (by omega), qCh (by omega), Nat.lt_of_le_of_lt (vC (by omega)) h1, Nat.lt_of_le_of_lt (zh (by omega)) h2⟩
def qB5 (K : W.Frag) : Sp := fun vs H Q _ => ∃ (x y : V) (p q r s : Int), vs = [x, y] ∧ Pr K H x p q ∧ Pr K H y r s ∧ q ≠ 0 ∧ s ≠ 0 ∧ Sm p ∧ Sm q ∧ Sm r ∧ Sm s ∧ qF6 H Q (xK (p * r) (q * s)) (jk (p * r) (q * s))
theorem qBw (T : Tx K mg a) : FnOk P w K mg base CX0 3 a.a_times_of a.f_times_of ["one", "other"] (qB5 K) := by
  refine T.d_times_of.F.ok qCl (fun vs H Q E h => ?_) (fun cdv A outer s H vs Q E hr h => ?_)
  · obtain ⟨x, y, p, q, r, s, rfl, _⟩ := h
    rfl
  obtain ⟨x, y, p, q, r, s', rfl, ⟨z1, rfl, h1⟩, ⟨z2, rfl, h2⟩, hq, hs, bp, bq, br, bs, k⟩ := h
  refine ⟨_, (qG (qR (qL T.d_fraction (xC T) hr rfl (qA (qP jA (qM qK (pv 0) qB (fun _ _ => rfl)) (qM qK (pv 1) qB (fun _ _ => rfl))) (qA (qP jA (qM qK (pv 0) qB (fun _ _ => rfl)) (qM qK (pv 1) qB (fun _ _ => rfl))) qD))))), ?_⟩
  try dsimp only [xJ, qk]
  refine (jD rfl h1 at0 (jD rfl h2 at0 ⟨_, _, rfl, rfl, bp.mul br, ?_⟩))
  refine (jD rfl h1 at1 (jD rfl h2 at1 ⟨_, _, rfl, rfl, bq.mul bs, ?_⟩))
  exact ⟨_, _, rfl, Int.mul_ne_zero hq hs, bq.prod bs, k⟩
def qDh (K : W.Frag) : Sp := fun vs H Q _ => ∃ (x y : V) (p q r s : Int), vs = [x, y] ∧ Pr K H x p q ∧ Pr K H y r s ∧ q ≠ 0 ∧ s ≠ 0 ∧ Sm p ∧ Sm q ∧ Sm r ∧ Sm s ∧ qF6 H Q (xK (p * s - r * q) (q * s)) (jk (p * s - r * q) (q * s))
theorem kT (T : Tx K mg a) : FnOk P w K mg base CX0 3 a.a_less_by a.f_less_by ["one", "other"] (qDh K) := by
  refine T.d_less_by.F.ok qDr (fun vs H Q E h => ?_) (fun cdv A outer s H vs Q E hr h => ?_)
  · obtain ⟨x, y, p, q, r, s, rfl, _⟩ := h
    rfl
  obtain ⟨x, y, p, q, r, s', rfl, ⟨z1, rfl, h1⟩, ⟨z2, rfl, h2⟩, hq, hs, bp, bq, br, bs, k⟩ := h
  refine ⟨_, (qG (qR (qL T.d_fraction (xC T) hr rfl (qA (qP jw (qP jA (qM qK (pv 0) qB (fun _ _ => rfl)) (qM qK (pv 1) qB (fun _ _ => rfl))) (qP jA (qM qK (pv 1) qB (fun _ _ => rfl)) (qM qK (pv 0) qB (fun _ _ => rfl)))) (qA (qP jA (qM qK (pv 0) qB (fun _ _ => rfl)) (qM qK (pv 1) qB (fun _ _ => rfl))) qD))))), ?_⟩
  try dsimp only [xJ, qk]
  refine (jD rfl h1 at0 (jD rfl h2 at1 ⟨_, _, rfl, rfl, bp.mul bs, ?_⟩))
  refine (jD rfl h2 at0 (jD rfl h1 at1 ⟨_, _, rfl, rfl, br.mul bq, _, _, rfl, rfl, ?_⟩))
  refine (jD rfl h1 at1 (jD rfl h2 at1 ⟨_, _, rfl, rfl, bq.mul bs, ?_⟩))
  exact ⟨_, _, rfl, Int.mul_ne_zero hq hs, bq.prod bs, k⟩
def qCb (K : W.Frag) : Sp := fun vs H Q _ => ∃ (x y : V) (p q r s : Int), vs = [x, y] ∧ Pr K H x p q ∧ Pr K H y r s ∧ q ≠ 0 ∧ r ≠ 0 ∧ Sm p ∧ Sm q ∧ Sm r ∧ Sm s ∧ qF6 H Q (xK (p * s) (q * r)) (jk (p * s) (q * r))
theorem vj (T : Tx K mg a) : FnOk P w K mg base CX0 3 a.a_quotient a.f_quotient ["one", "other"] (qCb K) := by
  refine T.d_quotient.F.ok qB2 (fun vs H Q E h => ?_) (fun cdv A outer s H vs Q E hr h => ?_)
  · obtain ⟨x, y, p, q, r, s, rfl, _⟩ := h
    rfl
  obtain ⟨x, y, p, q, r, s', rfl, ⟨z1, rfl, h1⟩, ⟨z2, rfl, h2⟩, hq, hr', bp, bq, br, bs, k⟩ := h
  refine ⟨_, (qG (qR (qL T.d_fraction (xC T) hr rfl (qA (qP jA (qM qK (pv 0) qB (fun _ _ => rfl)) (qM qK (pv 1) qB (fun _ _ => rfl))) (qA (qP jA (qM qK (pv 0) qB (fun _ _ => rfl)) (qM qK (pv 1) qB (fun _ _ => rfl))) qD))))), ?_⟩
  try dsimp only [xJ, qk]
  refine (jD rfl h1 at0 (jD rfl h2 at1 ⟨_, _, rfl, rfl, bp.mul bs, ?_⟩))
  refine (jD rfl h1 at1 (jD rfl h2 at0 ⟨_, _, rfl, rfl, bq.mul br, ?_⟩))
  exact ⟨_, _, rfl, Int.mul_ne_zero hq hr', bq.prod br, k⟩
inductive NoW (H : Hp) : V → Prop where
  | non : NoW H .non
  | bl (b : Bool) : NoW H (.bl b)
  | str (z : Str) : NoW H (.str z)
  | lst {a : Addr} {xs : List V} (e : H a = some (.lst xs)) : NoW H (.ref a)
  | tup {a : Addr} {xs : List V} (e : H a = some (.tup xs)) : NoW H (.ref a)
theorem NoW.same {H H' : Hp} {x : V} (s : Same H H') : NoW H x → NoW H' x
  | .non => .non
  | .bl b => .bl b
  | .str z => .str z
  | .lst e => .lst (s _ _ e)
  | .tup e => .tup (s _ _ e)
def WhB (H : Hp) (x : V) (b : Bool) : Prop := (∃ i : Int, x = .int i ∧ b = true) ∨ (NoW H x ∧ b = false)
theorem WhB.int {H : Hp} (i : Int) : WhB H (.int i) true := .inl ⟨i, rfl, rfl⟩
theorem WhB.no {H : Hp} {x : V} (h : NoW H x) : WhB H x false := .inr ⟨h, rfl⟩
theorem WhB.ty {H : Hp} {x : V} {b : Bool} (h : WhB H x b) : ∃ t i c, qCx K H x t ∧ W.kitOne K t (.type "int") = some i ∧ W.kitOne K t (.type "bool") = some c ∧ b = (i && !c) := by
  rcases h with ⟨i, rfl, rfl⟩ | ⟨h, rfl⟩
  · exact ⟨_, true, false, .int i, by kernel_rfl, by kernel_rfl, rfl⟩
  · cases h with
    | non => exact ⟨_, false, false, .non, by kernel_rfl, by kernel_rfl, rfl⟩
    | bl b => exact ⟨_, true, true, .bl b, by kernel_rfl, by kernel_rfl, rfl⟩
    | str z => exact ⟨_, false, false, .str z, by kernel_rfl, by kernel_rfl, rfl⟩
    | lst e => exact ⟨_, false, false, .lst e, by kernel_rfl, by kernel_rfl, rfl⟩
    | tup e => exact ⟨_, false, false, .tup e, by kernel_rfl, by kernel_rfl, rfl⟩
def wr : Sp := fun vs H Q _ => ∃ (x : V) (b : Bool), vs = [x] ∧ WhB H x b ∧ Q (.bl b) H
theorem zI (T : Tx K mg a) : FnOk P w K mg base CX0 1 a.a_is_whole a.f_is_whole ["x"] wr := by
  refine T.d_is_whole.F.ok vn (fun vs H Q E h => ?_) (fun cdv A outer s H vs Q E hr h => ?_)
  · obtain ⟨x, b, rfl, _⟩ := h
    rfl
  obtain ⟨x, b, rfl, hx, q⟩ := h
  refine ⟨_, (qG (qR (qC1 (qY j6 rfl T.b_isinstance rfl (qA (pv 0) (qA (qB6 rfl T.b_int rfl) qD))) (qAi (qCr (qY j6 rfl T.b_isinstance rfl (qA (pv 0) (qA (qB6 rfl T.b_bool rfl) qD)))))))), ?_⟩
  try dsimp only [xJ, qk]
  obtain ⟨t, i, c, ty, e1, e2, rfl⟩ := hx.ty (K := K)
  refine ⟨_, rfl, _, _, _, i, rfl, ty, ⟨_, .inl ⟨rfl, e1⟩⟩, i, rfl, ?_⟩
  cases i with
  | false => exact xq q
  | true => exact ju ⟨_, rfl, _, _, _, c, rfl, ty, ⟨_, .inl ⟨rfl, e2⟩⟩, c, rfl, q⟩
def qAh (K : W.Frag) : Sp := fun vs H Q _ => ∃ (x y : V) (p q r s : Int), vs = [x, y] ∧ Pr K H x p q ∧ Pr K H y r s ∧ Sm p ∧ Sm q ∧ Sm r ∧ Sm s ∧ Q (.bl (decide (p * s < r * q))) H
theorem qAy (T : Tx K mg a) : FnOk P w K mg base CX0 1 a.a_is_before a.f_is_before ["one", "other"] (qAh K) := by
  refine T.d_is_before.F.ok qA6 (fun vs H Q E h => ?_) (fun cdv A outer s H vs Q E hr h => ?_)
  · obtain ⟨x, y, p, q, r, s, rfl, _⟩ := h
    rfl
  obtain ⟨x, y, p, q, r, s', rfl, ⟨z1, rfl, h1⟩, ⟨z2, rfl, h2⟩, bp, bq, br, bs, k⟩ := h
  refine ⟨_, (qG (qR (ve kG (qP jA (qM qK (pv 0) qB (fun _ _ => rfl)) (qM qK (pv 1) qB (fun _ _ => rfl))) (qP jA (qM qK (pv 1) qB (fun _ _ => rfl)) (qM qK (pv 0) qB (fun _ _ => rfl))) (qS _)))), ?_⟩
  try dsimp only [xJ, qk]
  refine (jD rfl h1 at0 (jD rfl h2 at1 ⟨_, _, rfl, rfl, bp.mul bs, ?_⟩))
  exact (jD rfl h2 at0 (jD rfl h1 at1 ⟨_, _, rfl, rfl, br.mul bq, _, _, rfl, rfl, k⟩))
structure Cp (K : W.Frag) (H : Hp) (v : V) (n : Str) (p q r s len : Int) : Prop where
  ex : ∃ z z1 z2, v = .ref z ∧ SqT K H z [.str "clip", .str n, .ref z1, .ref z2, .int len] ∧ SqT K H z1 [.int p, .int q] ∧ SqT K H z2 [.int r, .int s]
theorem Cp.same {H H' : Hp} {v : V} {n : Str} {p q r s len : Int} (e : Same H H') (h : Cp K H v n p q r s len) : Cp K H' v n p q r s len :=
  let ⟨z, z1, z2, h1, h2, h3, h4⟩ := h.ex; ⟨z, z1, z2, h1, L3.Same.tup e h2, L3.Same.tup e h3, L3.Same.tup e h4⟩
theorem qF1 {x0 x1 x2 x3 x4 : V} : atI [x0, x1, x2, x3, x4] 2 = some x2 := rfl
theorem qBv {x0 x1 x2 x3 x4 : V} : atI [x0, x1, x2, x3, x4] 3 = some x3 := rfl
theorem qGb {p q r s k : Int} (hq : 0 < q) (hs : 0 < s) :
    xK (p * jk (k * r) (1 * s) + xK (k * r) (1 * s) * q) (q * jk (k * r) (1 * s)) = xK (p * s + k * r * q) (q * s) ∧
    jk (p * jk (k * r) (1 * s) + xK (k * r) (1 * s) * q) (q * jk (k * r) (1 * s)) = jk (p * s + k * r * q) (q * s) := by
  rw [Int.one_mul]
  have c := zV (k * r) s
  have n0 := xo (t := k * r) (b := s) (by omega)
  generalize xK (k * r) s = m at c ⊢
  generalize jk (k * r) s = n at c n0 ⊢
  have b1 : q * s ≠ 0 := Int.mul_ne_zero (by omega) (by omega)
  have b2 : q * n ≠ 0 := Int.mul_ne_zero (by omega) (by omega)
  refine qCs b2 (xo b1) (qCh b1) ?_
  have e := zV (p * s + k * r * q) (q * s)
  generalize xK (p * s + k * r * q) (q * s) = u at e ⊢
  generalize jk (p * s + k * r * q) (q * s) = v at e ⊢
  have h : (u * (q * n)) * s = ((p * n + m * q) * v) * s := by
    calc (u * (q * n)) * s = (u * (q * s)) * n := by rw [Int.mul_assoc, Int.mul_assoc, Int.mul_assoc, Int.mul_assoc, Int.mul_comm n s]
      _ = ((p * s + k * r * q) * v) * n := by rw [e]
      _ = (p * n * s + (k * r * n) * q) * v := by
        have h1 : (p * s + k * r * q) * v * n = (p * s + k * r * q) * n * v := by rw [Int.mul_assoc, Int.mul_comm v n, ← Int.mul_assoc]
        have h2 : (p * s + k * r * q) * n = p * n * s + k * r * n * q := by
          rw [Int.add_mul, Int.mul_assoc p s n, Int.mul_comm s n, ← Int.mul_assoc, Int.mul_assoc (k * r) q n, Int.mul_comm q n, ← Int.mul_assoc]
        rw [h1, h2]
      _ = (p * n * s + (m * s) * q) * v := by rw [← c]
      _ = ((p * n + m * q) * v) * s := by
        have h3 : p * n * s + m * s * q = (p * n + m * q) * s := by rw [Int.add_mul, Int.mul_assoc m s q, Int.mul_comm s q, ← Int.mul_assoc]
        rw [h3, Int.mul_assoc, Int.mul_comm s v, ← Int.mul_assoc]
  exact Int.eq_of_mul_eq_mul_right (by omega) h
def Sm2 (i : Int) : Prop := i.natAbs < 2 ^ 700
theorem Sm2.sm {i : Int} (h : Sm2 i) : Sm i := Nat.lt_of_lt_of_le h (Nat.pow_le_pow_right (by decide) (by decide))
theorem jK {i j : Int} {n m : Nat} (h1 : i.natAbs < 2 ^ n) (h2 : j.natAbs < 2 ^ m) : (i * j).natAbs < 2 ^ (n + m) := by
  rw [Int.natAbs_mul, Nat.pow_add]
  exact Nat.mul_lt_mul'' h1 h2
def qCd (K : W.Frag) : Sp := fun vs H Q _ => ∃ (v : V) (n : Str) (p q r s len k : Int), vs = [v, .int k] ∧ Cp K H v n p q r s len ∧ 0 < q ∧ 0 < s ∧ Sm2 p ∧ Sm2 q ∧ Sm2 r ∧ Sm2 s ∧ Sm2 k ∧
  ∀ z H', Same H H' → H' z = some (.tup [.int (xK (p * s + k * r * q) (q * s)), .int (jk (p * s + k * r * q) (q * s))]) → Q (.ref z) H'
theorem zy (T : Tx K mg a) : FnOk P w K mg base CX0 4 a.a_place_at a.f_place_at ["clip", "k"] (qCd K) := by
  refine T.d_place_at.F.ok qCm (fun vs H Q E h => ?_) (fun cdv A outer s H vs Q E hr h => ?_)
  · obtain ⟨v, n, p, q, r, s, len, k, rfl, _⟩ := h
    rfl
  obtain ⟨v, n, p, q, r, s', len, k, rfl, ⟨z, z1, z2, rfl, hc, h1, h2⟩, hq, hs, bp, bq, br, bs, bk, kk⟩ := h
  refine ⟨_, (qG (qR (qL T.d_sum_of (qFf T) hr rfl (qA (qM qK (pv 0) qB (fun _ _ => rfl)) (qA (qL T.d_times_of (qBw T) hr rfl (qA (qL T.d_fraction (xC T) hr rfl (qA (pv 1) (qA qB qD))) (qA (qM qK (pv 0) qB (fun _ _ => rfl)) qD))) qD))))), ?_⟩
  try dsimp only [xJ, qk]
  refine ⟨_, rfl, z, _, _, _, rfl, rfl, hc, qF1, _, rfl, k, 1, rfl, by decide, Nat.lt_of_lt_of_le (m := 2 ^ 1) (by decide) (Nat.pow_le_pow_right (by decide) (by decide)), fun y hy => ?_⟩
  have s1 := qH hy (.tup [.int (xK k 1), .int (jk k 1)])
  obtain ⟨l1, l2⟩ := qC8 (p := k) (q := 1) (by decide) (Int.gcd_one_right ..)
  refine ⟨_, rfl, z, _, _, _, rfl, rfl, L3.Same.tup s1 hc, qBv, ?_⟩
  have one : Sm 1 := Nat.lt_of_lt_of_le (m := 2 ^ 1) (by decide) (Nat.pow_le_pow_right (by decide) (by decide))
  refine ⟨_, _, k, 1, r, s', rfl, ⟨y, rfl, ?_⟩, ⟨z2, rfl, L3.Same.tup s1 h2⟩, by decide, by omega, bk.sm, one, br.sm, bs.sm, fun x hx => ?_⟩
  · have e : SqT K (upd H y (.tup [.int (xK k 1), .int (jk k 1)])) y [.int (xK k 1), .int (jk k 1)] := SqT.of qF
    rw [l1, l2] at e ⊢
    exact e
  have s2 := s1.trans (qH hx (.tup [.int (xK (k * r) (1 * s')), .int (jk (k * r) (1 * s'))]))
  have b1 : (1 * s') ≠ 0 := by omega
  have n0 := xo (t := k * r) b1
  have bm : Sm (xK (k * r) (1 * s')) := by
    refine Nat.lt_of_le_of_lt (vC b1) (Nat.lt_of_lt_of_le (jK bk br) (Nat.pow_le_pow_right (by decide) (by decide)))
  have bn : Sm (jk (k * r) (1 * s')) := by
    refine Nat.lt_of_le_of_lt (zh b1) ?_
    rw [Int.one_mul]
    exact bs.sm
  refine ⟨_, _, p, q, _, _, rfl, ⟨z1, rfl, L3.Same.tup s2 h1⟩, ⟨x, rfl, SqT.of qF⟩, by omega, by omega, bp.sm, bq.sm, bm, bn, fun u hu => ?_⟩
  obtain ⟨e1, e2⟩ := qGb (p := p) (r := r) (k := k) hq hs
  refine kk u _ (s2.trans (qH hu _)) ?_
  rw [qF, e1, e2]
theorem qAu {t b : Int} (hb : 0 < b) : (xK t b).fdiv (jk t b) = t.fdiv b := by
  have e1 := qGi t b
  have e2 := qEk t b
  have sp : 0 < sg t b := by
    have g := kd (t := t) (b := b) (by omega)
    unfold sg
    rw [if_neg (by omega)]
    omega
  have q0 := xo (t := t) (b := b) (by omega)
  obtain ⟨h1, h2⟩ := j8 (p := xK t b) q0
  obtain ⟨h3, h4⟩ := j8 (p := t) hb
  generalize (xK t b).fdiv (jk t b) = f at h1 h2 ⊢
  generalize t.fdiv b = g at h3 h4 ⊢
  generalize xK t b = u at e1 h1 h2
  generalize jk t b = v at e2 h1 h2 q0
  generalize sg t b = w at e1 e2 sp
  subst e1 e2
  have k1 : g * v ≤ u := by
    rw [← Int.mul_assoc] at h3
    exact Int.le_of_mul_le_mul_right h3 sp
  have k2 : u < (g + 1) * v := by
    rw [← Int.mul_assoc] at h4
    exact Int.lt_of_mul_lt_mul_right h4 (by omega)
  have k3 : f < g + 1 := Int.lt_of_mul_lt_mul_right (a := v) (by omega) (by omega)
  have k4 : g < f + 1 := Int.lt_of_mul_lt_mul_right (a := v) (by omega) (by omega)
  omega
theorem qGg {x0 x1 x2 x3 x4 : V} : atI [x0, x1, x2, x3, x4] 1 = some x1 := rfl
theorem qBr {x0 x1 x2 x3 x4 : V} : atI [x0, x1, x2, x3, x4] 4 = some x4 := rfl
theorem eq2 (a b c d : Int) : qDy [.int a, .int b] [.int c, .int d] = (a == c && b == d) := by
  simp [qDy, eqV, List.range_succ]
structure Bn (n : Nat) (p q r s : Int) : Prop where
  q0 : 0 < q
  s0 : 0 < s
  bp : p.natAbs < 2 ^ n
  bq : q.natAbs < 2 ^ n
  br : r.natAbs < 2 ^ n
  bs : s.natAbs < 2 ^ n
theorem zp {i : Int} {n m : Nat} (h : i.natAbs < 2 ^ n) (l : n ≤ m := by decide) : i.natAbs < 2 ^ m := Nat.lt_of_lt_of_le h (Nat.pow_le_pow_right (by decide) l)
theorem Bn.mono {n m : Nat} {p q r s : Int} (h : Bn n p q r s) (l : n ≤ m := by decide) : Bn m p q r s := ⟨h.q0, h.s0, zp h.bp l, zp h.bq l, zp h.br l, zp h.bs l⟩
theorem Bn.part {p q r s k : Int} (h : Bn 110 p q r s) (hk : k.natAbs < 2 ^ 30) : Bn 340 (plP p q r s k) (plQ p q r s k) r s := by
  obtain ⟨hq, hs, bp, bq, br, bs⟩ := h
  refine ⟨qJc hq hs, hs, Nat.lt_of_le_of_lt (qHk hq hs) ?_, Nat.lt_of_le_of_lt (qHn hq hs) (zp (jK bq bs)), zp br, zp bs⟩
  have h1 := jK bp bs
  have h2 := jK (jK hk br) bq
  have e : (2 : Nat) ^ (110 + 110) + 2 ^ (30 + 110 + 110) ≤ 2 ^ 340 := by decide
  omega
def kj : Sp := fun vs H Q _ => ∃ t b : Int, vs = [.int t, .int b] ∧ 0 < b ∧ b.natAbs < 2 ^ 8000 ∧ qF6 H Q (xK t b) (jk t b)
theorem km (T : Tx K mg a) : FnOk P w K mg base CX0 1 a.a__law_fraction a.f__law_fraction ["_law_top", "_law_bottom"] kj := by
  refine T.d__law_fraction.F.ok sc__law_fraction (fun vs H Q E h => ?_) (fun cdv A outer s H vs Q E hr h => ?_)
  · obtain ⟨t, b, rfl, _⟩ := h
    rfl
  obtain ⟨t, b, rfl, hb, hb2, k⟩ := h
  refine ⟨_, (qE (qW (i := 2) sc__law_fraction.nd rfl (Or.inl rfl) (qY vA rfl T.b_abs rfl (qA (pv 0) qD)))
      (qE (qW (i := 3) sc__law_fraction.nd rfl (Or.inl rfl) (pv 1))
      (qE (wO PassesOwn.never (qN kr (pv 3) qB (qS _)) (qG (qJb (i := 2) (j := 3) rfl sc__law_fraction.nd rfl rfl (by decide) rfl rfl (qA (pv 3) (qA (qP qg (pv 2) (pv 3)) qD)) rfl)))
      (qG (qR (jB (qA (qP qf (pv 0) (pv 2)) (qA (qP qf (pv 1) (pv 2)) qD)))))))), ?_⟩
  try dsimp only [xJ, qk]
  refine ⟨_, rfl, t, rfl, _, rfl, ?_⟩
  refine wf (fun σ H' => H' = H ∧ ∃ x y : Int, σ = [some (.int t), some (.int b), some (.int x), some (.int y)] ∧ 0 ≤ x ∧ 0 ≤ y ∧ Int.gcd x y = Int.gcd t b)
    (fun σ _ => match σ with | [_, _, _, some (.int y)] => y.natAbs | _ => 0) ⟨rfl, _, _, rfl, ?_, by omega, ?_⟩ ?_ ?_
  · split <;> omega
  · have e1 : (if t < 0 then -t else t) = ((t.natAbs : Nat) : Int) := by split <;> omega
    rw [e1]
    rfl
  · rintro σ H1 ⟨rfl, x, y, rfl, h0, h1, e⟩
    refine ⟨_, rfl, rfl, _, rfl, ?_⟩
    refine xG (fun c => ?_) (fun c => ?_)
    · have hy : y ≠ 0 := by simpa using c
      refine ⟨_, rfl, _, rfl, _, rfl, _, _, rfl, rfl, hy, _, _, rfl, ⟨rfl, y, x.fmod y, rfl, h1, Int.fmod_nonneg_of_pos x (by omega), ?_⟩, ?_⟩
      · rw [qC9]; exact e
      · exact qE0 x y hy
    · have hy : y = 0 := by simpa using c
      subst hy
      have e2 : x = sg t b := by
        unfold sg
        rw [if_neg (by omega), ← e, Int.gcd_zero_right]
        omega
      obtain ⟨d1, d2⟩ := qC5 (t := t) (b := b) (by omega) hb2
      have q' : qF6 H1 Q (t.fdiv x) (b.fdiv x) := by rw [e2]; exact k
      exact ⟨_, rfl, _, rfl, _, _, rfl, rfl, (by rw [e2]; exact d1), _, rfl, _, rfl, _, _, rfl, rfl, (by rw [e2]; exact d2), sL2, q'⟩
  · rintro σ H1 Q1 Q2 hq h
    obtain ⟨v, e, s, k, hk, z⟩ := h
    exact ⟨v, e, s, k, hk, hq _ _ z⟩
theorem qDo {i : Int} {n : Nat} (h : i.natAbs < 2 ^ n) (l : n ≤ 8000 := by decide) : i.natAbs < 2 ^ 8000 := zp h l
def vS (K : W.Frag) : Sp := fun vs H Q _ => ∃ (z : Addr) (ns : List Int) (i : Int), vs = [.ref z, .int i] ∧ SqL K H z (ns.map V.int) ∧ ns.length ≤ 63 ∧ 0 ≤ i ∧ ∀ c : Int, Q (.int c) H
theorem jr (T : Tx K mg a) : FnOk P w K mg base CX0 1 a.a__law_cell_at a.f__law_cell_at ["_law_script", "_law_k"] (vS K) := by
  refine T.d__law_cell_at.F.ok vw (fun vs H Q E h => ?_) (fun cdv A outer s H vs Q E hr h => ?_)
  · obtain ⟨z, ns, i, rfl, _⟩ := h
    rfl
  obtain ⟨z, ns, i, rfl, hS, hl, h0, k⟩ := h
  refine ⟨_, (qE (qo (qN kG (pv 1) (qY qd rfl T.b_len rfl (qA (pv 0) qD)) (qS _)) (qG (qR (qM qc (pv 0) (pv 1) (fun _ _ => rfl)))) qX)
      (qG (qR qB))), ?_⟩
  try dsimp only [xJ, qk]
  have hml : (ns.map V.int).length = ns.length := List.length_map _
  refine ⟨_, rfl, _, rfl, z, _, rfl, .inl hS, _, _, rfl, rfl, _, rfl, ?_⟩
  refine xG (fun c => ?_) (fun _ => ?_)
  · have c' : i < ((ns.map V.int).length : Int) := of_decide_eq_true c
    rw [hml] at c'
    have hi : i.toNat < ns.length := by omega
    have e : i = ((i.toNat : Nat) : Int) := by omega
    have hat : atI (ns.map V.int) ((i.toNat : Nat) : Int) = some (.int ns[i.toNat]) := jc (by rw [List.getElem?_map, List.getElem?_eq_getElem hi]; rfl)
    rw [← e] at hat
    exact ⟨_, rfl, _, rfl, z, _, _, .int ns[i.toNat], rfl, rfl, hS, hat, k _⟩
  · exact k 0
def wY : Sp := fun vs H Q _ => ∃ c i : Int, vs = [.int c, .int i] ∧ -1000 ≤ i ∧ i ≤ 1000 ∧ ∀ n : Int, 0 ≤ n → n < 2147483647 → Q (.int n) H
theorem jC (T : Tx K mg a) : FnOk P w K mg base CX0 1 a.a__law_mixed a.f__law_mixed ["_law_cell", "_law_k"] wY := by
  refine T.d__law_mixed.F.ok sc__law_mixed (fun vs H Q E h => ?_) (fun cdv A outer s H vs Q E hr h => ?_)
  · obtain ⟨c, i, rfl, _⟩ := h
    rfl
  obtain ⟨c, i, rfl, h0, h1, k⟩ := h
  refine ⟨_, (qE (qW (i := 2) sc__law_mixed.nd rfl (Or.inl rfl) (qP qg (qP jA (qP jF (qP jF (pv 0) (qP jA qB (pv 1))) qB) qB) qB))
      (qG (qR (qP qg (qP jA (pv 2) (qP jF (qP qf (pv 2) qB) qB)) qB)))), ?_⟩
  try dsimp only [xJ, qk]
  refine ⟨_, rfl, _, rfl, _, _, rfl, rfl, cmL (by decide) (by decide), _, _, rfl, rfl, _, _, rfl, rfl, _, _, rfl, rfl, cmR (by decide) (by decide), _, _, rfl, rfl, nz, ?_⟩
  have f := fm ((c + 7919 * i + 1) * 48271) (show (0 : Int) < 2147483647 by decide)
  refine ⟨_, rfl, _, rfl, _, _, rfl, rfl, cdB (by decide) (by decide), _, _, rfl, rfl, _, _, rfl, rfl, cmL (by omega) (by omega), _, _, rfl, rfl, nz, ?_⟩
  have g := fm ((((c + 7919 * i + 1) * 48271).fmod 2147483647) * ((((c + 7919 * i + 1) * 48271).fmod 2147483647).fdiv 1009 + 69621)) (show (0 : Int) < 2147483647 by decide)
  exact k _ g.1 g.2
def thB (i m : Int) : Bool := decide (0 ≤ i) && decide (i < m)
theorem qEc {N D m : Int} (hD : 0 < D) : thB (N.fdiv D) m = true ↔ InR N D m := by
  rw [qHv hD]
  simp [thB]
def qBn : Sp := fun vs H Q _ => ∃ i m : Int, vs = [.int i, .int m] ∧ Q (.bl (thB i m)) H
theorem qBq (T : Tx K mg a) : FnOk P w K mg base CX0 1 a.a_is_there a.f_is_there ["picture", "many"] qBn := by
  refine T.d_is_there.F.ok qBy (fun vs H Q E h => ?_) (fun cdv A outer s H vs Q E hr h => ?_)
  · obtain ⟨i, m, rfl, _⟩ := h
    rfl
  obtain ⟨i, m, rfl, q⟩ := h
  refine ⟨_, (qG (qR (qC1 (ve v6 qB (pv 0) (qS _)) (qAi (ve kG (pv 0) (pv 1) (qS _)))))), ?_⟩
  try dsimp only [xJ, qk]
  refine ⟨_, rfl, _, _, rfl, rfl, _, rfl, ?_⟩
  unfold thB at q
  by_cases h0 : 0 ≤ i
  · rw [decide_eq_true h0] at q ⊢
    exact ju ⟨_, rfl, _, rfl, _, _, rfl, rfl, q⟩
  · rw [decide_eq_false h0] at q ⊢
    exact xq q
theorem wU {c d : Int} (hd : 0 < d) (g : Int.gcd c d = 1) : xK (0 * d - c * 1) (1 * d) = -c ∧ jk (0 * d - c * 1) (1 * d) = d := by
  refine qCs (by omega) hd (by rw [Int.neg_gcd]; exact g) ?_
  grind
def ki (K : W.Frag) : Sp := fun vs H Q _ => ∃ (x y : V) (A B c d m : Int), vs = [x, y, .int m] ∧ Pr K H x A B ∧ Pr K H y c d ∧ 0 < B ∧ 0 < d ∧ Int.gcd c d = 1 ∧ A.natAbs < 2 ^ 700 ∧ B.natAbs < 2 ^ 700 ∧ c.natAbs < 2 ^ 700 ∧ d.natAbs < 2 ^ 700 ∧ m.natAbs < 2 ^ 700 ∧
  ∀ H', Same H H' → Q (.int (qAw (A * d) (c * B) (B * d) m)) H'
theorem zM (T : Tx K mg a) : FnOk P w K mg base CX0 4 a.a_moments_there a.f_moments_there ["first", "step", "many"] (ki K) := by
  refine T.d_moments_there.F.ok sc_moments_there (fun vs H Q E h => ?_) (fun cdv A outer s H vs Q E hr h => ?_)
  · obtain ⟨x, y, A, B, c, d, m, rfl, _⟩ := h
    rfl
  obtain ⟨x, y, A', B, c, d, m, rfl, ⟨z1, rfl, h1⟩, ⟨z2, rfl, h2⟩, hB, hd, hg, bA, bB, bc, bd, bm, kk⟩ := h
  have hu := hr.units0
  refine ⟨_, (qE (qo (qN (qIz hu) (pv 1) (jy (v := .ref a.n_NOUGHT) rfl T.g_NOUGHT rfl) (qS _)) (qG (qR (jy (v := .int 1000000) rfl T.g_MOST_ROOM ⟨_, rfl⟩))) qX)
      (qE (qo (zO (zN (qL T.d_is_there (qBq T) hr rfl (qA (qL T.d_floor_of (z8 T) hr rfl (qA (pv 0) qD)) (qA (pv 2) qD))))) (qG (qR qB)) qX)
      (qE (xn (qo (zN (qL T.d_is_before (qAy T) hr rfl (qA (pv 1) (qA (jy (v := .ref a.n_NOUGHT) rfl T.g_NOUGHT rfl) qD)))) (qG (qW (i := 3) sc_moments_there.nd rfl (Or.inl rfl) (qP jF (qL T.d_floor_of (z8 T) hr rfl (qA (qL T.d_quotient (vj T) hr rfl (qA (pv 0) (qA (qL T.d_less_by (kT T) hr rfl (qA (jy (v := .ref a.n_NOUGHT) rfl T.g_NOUGHT rfl) (qA (pv 1) qD))) qD))) qD)) qB))) (qG (qW (i := 3) sc_moments_there.nd rfl (Or.inl rfl) (z9 xf (qL T.d_floor_of (z8 T) hr rfl (qA (qL T.d_quotient (vj T) hr rfl (qA (qL T.d_less_by (kT T) hr rfl (qA (pv 0) (qA (qL T.d_fraction (xC T) hr rfl (qA (pv 2) (qA qB qD))) qD))) (qA (pv 1) qD))) qD)))))))
      (qG (qR (qY (vd rfl) rfl T.b_min rfl (qA (pv 3) (qA (jy (v := .int 1000000) rfl T.g_MOST_ROOM ⟨_, rfl⟩) qD)))))))), ?_⟩
  try dsimp only [xJ, qk]
  have S : ∀ {i : Int}, i.natAbs < 2 ^ 700 → Sm i := fun h => zp h
  have one : Sm 1 := Sm.of200 (by decide)
  have nul : Sm 0 := Sm.of200 (by decide)
  have hBd := Int.mul_pos hB hd
  have H1 : ∀ {H' : Hp}, Same H H' → SqT K H' z1 [.int A', .int B] := fun e => L3.Same.tup e h1
  have H2 : ∀ {H' : Hp}, Same H H' → SqT K H' z2 [.int c, .int d] := fun e => L3.Same.tup e h2
  refine ⟨_, rfl, _, _, _, _, rfl, rfl, h2, T.sq_NOUGHT _, rfl, rfl, _, rfl, ?_⟩
  rw [if_neg (by decide : ¬ (false = true)), eq2]
  by_cases hc : c = 0
  · have d1 : d = 1 := by
      subst hc
      rw [Int.gcd_zero_left] at hg
      omega
    rw [show (c == 0 && d == 1) = true by simp [hc, d1]]
    refine ju ?_
    have := kk H (Same.refl _)
    unfold qAw at this
    rw [if_pos (by rw [hc, Int.zero_mul])] at this
    exact this
  rw [show (c == 0 && d == 1) = false by simp [hc]]
  refine xq ?_
  have hcB : ¬ (c * B = 0) := Int.mul_ne_zero hc (by omega)
  have ef : A'.fdiv B = (A' * d).fdiv (B * d) := wL hB hBd (by grind)
  refine ⟨_, rfl, _, A', B, rfl, ⟨z1, rfl, h1⟩, by omega, qDo bB, _, rfl, _, _, rfl, _, rfl, ?_⟩
  by_cases ht : 0 ≤ A'.fdiv B ∧ A'.fdiv B < m
  rotate_left
  · rw [show thB (A'.fdiv B) m = false by unfold thB; rw [Bool.eq_false_iff]; simpa using ht]
    refine ju ?_
    have := kk H (Same.refl _)
    unfold qAw at this
    rw [if_neg hcB, if_pos (by rw [← ef]; exact ht)] at this
    exact this
  rw [show thB (A'.fdiv B) m = true by simp [thB, ht]]
  refine xq ?_
  have res : ∀ H', Same H H' → Q (.int (if 1000000 < (if c * B < 0 then (A' * d).fdiv (-(c * B)) + 1 else -((A' * d - m * (B * d)).fdiv (c * B))) then 1000000 else (if c * B < 0 then (A' * d).fdiv (-(c * B)) + 1 else -((A' * d - m * (B * d)).fdiv (c * B))))) H' := fun H' e => by
    have := kk H' e
    unfold qAw at this
    rw [if_neg hcB, if_neg (by rw [← ef]; simpa using ht)] at this
    exact this
  generalize hgg : (if c * B < 0 then (A' * d).fdiv (-(c * B)) + 1 else -((A' * d - m * (B * d)).fdiv (c * B))) = g at res
  refine ⟨fun σ' H' => σ' = [some (.ref z1), some (.ref z2), some (.int m), some (.int g)] ∧ Same H H', ?_, ?_⟩
  · refine ⟨_, rfl, _, _, c, d, 0, 1, rfl, ⟨z2, rfl, h2⟩, ⟨_, rfl, T.sq_NOUGHT _⟩, S bc, S bd, nul, one, _, rfl, ?_⟩
    by_cases hn : c * 1 < 0 * d
    · rw [decide_eq_true hn]
      refine ju ?_
      have c0 : c < 0 := by omega
      refine ⟨_, rfl, _, rfl, _, _, 0, 1, c, d, rfl, ⟨_, rfl, T.sq_NOUGHT _⟩, ⟨z2, rfl, h2⟩, by decide, by omega, nul, one, S bc, S bd, fun u hu' => ?_⟩
      rw [(wU hd hg).1, (wU hd hg).2]
      have w1 := qH hu' (.tup [.int (-c), .int d])
      have bnc : (-c).natAbs < 2 ^ 700 := by rw [Int.natAbs_neg]; exact bc
      have hpos : 0 < B * (-c) := Int.mul_pos hB (by omega)
      refine ⟨_, _, A', B, -c, d, rfl, ⟨z1, rfl, H1 w1⟩, ⟨u, rfl, SqT.of qF⟩, by omega, by omega, S bA, S bB, S bnc, S bd, fun v hv => ?_⟩
      have w2 := w1.trans (qH hv (.tup [.int (xK (A' * d) (B * (-c))), .int (jk (A' * d) (B * (-c)))]))
      have lq := xo (t := A' * d) (b := B * (-c)) (by omega)
      refine ⟨_, _, _, rfl, ⟨v, rfl, SqT.of qF⟩, by omega, Nat.lt_of_le_of_lt (zh (by omega)) (qDo (jK bB bnc)), ?_⟩
      rw [qAu hpos]
      refine ⟨_, _, rfl, rfl, ?_, w2⟩
      have e : g = (A' * d).fdiv (B * -c) + 1 := by
        rw [← hgg, if_pos (by have := Int.mul_neg_of_neg_of_pos c0 hB; exact this)]
        rw [show -(c * B) = B * -c by grind]
      rw [e]
      rfl
    · rw [decide_eq_false hn]
      refine xq ?_
      have c0 : 0 < c := by omega
      obtain ⟨l1, l2⟩ := qC8 (p := m) (q := 1) (by decide) (Int.gcd_one_right ..)
      refine ⟨_, rfl, _, rfl, m, 1, rfl, by decide, qDo (n := 1) (by decide), fun u hu' => ?_⟩
      rw [l1, l2]
      have w1 := qH hu' (.tup [.int m, .int 1])
      refine ⟨_, _, A', B, m, 1, rfl, ⟨z1, rfl, H1 w1⟩, ⟨u, rfl, SqT.of qF⟩, by omega, by decide, S bA, S bB, S bm, one, fun v hv => ?_⟩
      have hb1 : B * 1 ≠ 0 := by omega
      have cr := zV (A' * 1 - m * B) (B * 1)
      have lq := xo (t := A' * 1 - m * B) hb1
      have aP := vC (t := A' * 1 - m * B) hb1
      have aQ := zh (t := A' * 1 - m * B) hb1
      have w2 := w1.trans (qH hv (.tup [.int (xK (A' * 1 - m * B) (B * 1)), .int (jk (A' * 1 - m * B) (B * 1))]))
      have ev := qF (H := upd H u (.tup [.int m, .int 1])) (a := v) (o := .tup [.int (xK (A' * 1 - m * B) (B * 1)), .int (jk (A' * 1 - m * B) (B * 1))])
      generalize upd (upd H u (.tup [.int m, .int 1])) v (.tup [.int (xK (A' * 1 - m * B) (B * 1)), .int (jk (A' * 1 - m * B) (B * 1))]) = H3 at w2 ev ⊢
      generalize xK (A' * 1 - m * B) (B * 1) = P' at cr aP ev ⊢
      generalize jk (A' * 1 - m * B) (B * 1) = Q' at cr aQ lq ev ⊢
      have sP : Sm P' := by
        have t := jK bm bB
        have : (A' * 1 - m * B).natAbs < 2 ^ 1500 := by
          have e : (2 : Nat) ^ 700 + 2 ^ (700 + 700) ≤ 2 ^ 1500 := by decide
          omega
        exact Nat.lt_of_le_of_lt aP (zp this)
      have bQ : Q'.natAbs < 2 ^ 700 := by rw [Int.mul_one] at aQ; omega
      refine ⟨_, rfl, _, _, P', Q', c, d, rfl, ⟨v, rfl, SqT.of ev⟩, ⟨z2, rfl, H2 w2⟩, by omega, hc, sP, S bQ, S bc, S bd, fun x hx => ?_⟩
      have hpos : 0 < Q' * c := Int.mul_pos lq c0
      have w3 := w2.trans (qH hx (.tup [.int (xK (P' * d) (Q' * c)), .int (jk (P' * d) (Q' * c))]))
      have lq2 := xo (t := P' * d) (b := Q' * c) (by omega)
      refine ⟨_, _, _, rfl, ⟨x, rfl, SqT.of qF⟩, by omega, Nat.lt_of_le_of_lt (zh (by omega)) (qDo (jK bQ bc)), ?_⟩
      rw [qAu hpos]
      refine ⟨_, rfl, ?_, w3⟩
      have e : g = -(P' * d).fdiv (Q' * c) := by
        have hcB' := Int.mul_pos c0 hB
        rw [← hgg, if_neg (by omega)]
        rw [wL hcB' hpos (by grind : (A' * d - m * (B * d)) * (Q' * c) = P' * d * (c * B))]
      rw [e]
      rfl
  rintro σ' H' ⟨rfl, sH⟩
  exact ⟨_, rfl, _, _, rfl, res H' sH⟩
theorem qH2 {H H' : Hp} (e : Same H H') {a : Addr} {u : HO} (h : Rd H a u) : Rd H' a u := by
  rcases h with h | ⟨o, h⟩
  · exact .inl (e _ _ h)
  · exact .inr ⟨o, e _ _ h⟩
def Reel (H : Hp) (rd : Addr) (n : Str) (m : Int) : Prop := ∃ kvs, Rd H rd (.dK kvs) ∧ vx kvs (Sum.inr n) = some (.int m)
theorem Reel.same {H H' : Hp} {rd : Addr} {n : Str} {m : Int} (e : Same H H') (h : Reel H rd n m) : Reel H' rd n m := let ⟨k, h1, h2⟩ := h; ⟨k, qH2 e h1, h2⟩
theorem Reel.get {H : Hp} {rd : Addr} {n : Str} {m : Int} (h : Reel H rd n m) : DGet H rd (.str n) (some (.int m)) := let ⟨k, h1, h2⟩ := h; .inl ⟨k, Sum.inr n, h1, rfl, h2.symm⟩
def Vk (p q r s k : Int) : Int := p * s + k * r * q
structure Ch (H : Hp) (z : Addr) (n : Str) (p q r s len : Int) : Prop where
  ex : ∃ z1 z2, H z = some (.tup [.str "clip", .str n, .ref z1, .ref z2, .int len]) ∧ H z1 = some (.tup [.int p, .int q]) ∧ H z2 = some (.tup [.int r, .int s])
theorem Ch.same {H H' : Hp} {z : Addr} {n : Str} {p q r s len : Int} (e : Same H H') (h : Ch H z n p q r s len) : Ch H' z n p q r s len := let ⟨z1, z2, h1, h2, h3⟩ := h.ex; ⟨z1, z2, e _ _ h1, e _ _ h2, e _ _ h3⟩
theorem Ch.cp {H : Hp} {z : Addr} {n : Str} {p q r s len : Int} (h : Ch H z n p q r s len) : Cp K H (.ref z) n p q r s len := let ⟨z1, z2, h1, h2, h3⟩ := h.ex; ⟨z, z1, z2, rfl, SqT.of h1, SqT.of h2, SqT.of h3⟩
def qAq (K : W.Frag) : Sp := fun vs H Q _ => ∃ (v : V) (n : Str) (p q r s len m : Int) (rd : Addr), vs = [v, .ref rd] ∧ Cp K H v n p q r s len ∧ Good 110 p q ∧ Good 110 r s ∧ Reel H rd n m ∧ m.natAbs < 2 ^ 700 ∧
  ∀ H', Same H H' → Q (.int (qAw (plP p q r s (-1) * s) (-1 * r * plQ p q r s (-1)) (plQ p q r s (-1) * s) m)) H'
theorem zX (T : Tx K mg a) : FnOk P w K mg base CX0 5 a.a_head_room a.f_head_room ["clip", "reels"] (qAq K) := by
  refine T.d_head_room.F.ok qAg (fun vs H Q E h => ?_) (fun cdv A outer s H vs Q E hr h => ?_)
  · obtain ⟨v, n, p, q, r, s, len, m, rd, rfl, _⟩ := h
    rfl
  obtain ⟨v, n, p, q, r, s', len, m, rd, rfl, hc, g1, g2, hrd, bm, kk⟩ := h
  have hu1 := qEp hr
  refine ⟨_, (qG (qR (qL T.d_moments_there (zM T) hr rfl (qA (qL T.d_place_at (zy T) hr rfl (qA (pv 0) (qA (z9 xf qB) qD))) (qA (qL T.d_less_by (kT T) hr rfl (qA (jy (v := .ref a.n_NOUGHT) rfl T.g_NOUGHT rfl) (qA (qM qK (pv 0) qB (fun _ _ => rfl)) qD))) (qA (wP hu1 (pv 1) (qM qK (pv 0) qB (fun _ _ => rfl)) (fun _ _ => rfl)) qD)))))), ?_⟩
  try dsimp only [xJ, qk]
  have hb : Bn 110 p q r s' := ⟨g1.1, g2.1, g1.2.2.1, g1.2.2.2, g2.2.2.1, g2.2.2.2⟩
  have hb7 := hb.mono (m := 700)
  have hp := (hb.part (k := -1) (by decide)).mono (m := 700)
  refine ⟨_, rfl, _, rfl, v, n, p, q, r, s', len, -1, rfl, hc, hb7.q0, hb7.s0, hb7.bp, hb7.bq, hb7.br, hb7.bs, zp (n := 30) (by decide), fun y H1 s1 e1 => ?_⟩
  obtain ⟨z, z1, z2, e, h0, h1, h2⟩ := (hc.same s1).ex
  subst e
  have S : ∀ {i : Int}, i.natAbs < 2 ^ 700 → Sm i := fun h => zp h
  refine (jD rfl h0 qBv ?_)
  refine ⟨_, _, 0, 1, r, s', rfl, ⟨_, rfl, T.sq_NOUGHT _⟩, ⟨z2, rfl, h2⟩, by decide, by have := hb.s0; omega, Sm.of200 (by decide), Sm.of200 (by decide), S hb7.br, S hb7.bs, fun u hu' => ?_⟩
  rw [(wU hb.s0 g2.2.1).1, (wU hb.s0 g2.2.1).2]
  have w1 := qH hu' (.tup [.int (-r), .int s'])
  refine ⟨_, rfl, _, rfl, z, _, _, _, rfl, rfl, L3.Same.tup w1 h0, qGg, rd, _, rfl, (hrd.same (s1.trans w1)).get, ?_⟩
  refine ⟨_, _, _, _, -r, s', m, rfl, ⟨y, rfl, SqT.of (w1 _ _ e1)⟩, ⟨u, rfl, SqT.of qF⟩, hp.q0, hb.s0, by rw [Int.neg_gcd]; exact g2.2.1, hp.bp, hp.bq, by rw [Int.natAbs_neg]; exact hb7.br, hb7.bs, bm, fun H' sH => ?_⟩
  have := kk H' (s1.trans (w1.trans sH))
  rw [show -1 * r * plQ p q r s' (-1) = -r * plQ p q r s' (-1) by grind] at this
  exact this
def qBi (K : W.Frag) : Sp := fun vs H Q _ => ∃ (v : V) (n : Str) (p q r s len m : Int) (rd : Addr), vs = [v, .ref rd] ∧ Cp K H v n p q r s len ∧ Good 110 p q ∧ Good 110 r s ∧ len.natAbs < 2 ^ 30 ∧ Reel H rd n m ∧ m.natAbs < 2 ^ 700 ∧
  ∀ H', Same H H' → Q (.int (qAw (plP p q r s len * s) (1 * r * plQ p q r s len) (plQ p q r s len * s) m)) H'
theorem zR (T : Tx K mg a) : FnOk P w K mg base CX0 5 a.a_tail_room a.f_tail_room ["clip", "reels"] (qBi K) := by
  refine T.d_tail_room.F.ok qA3 (fun vs H Q E h => ?_) (fun cdv A outer s H vs Q E hr h => ?_)
  · obtain ⟨v, n, p, q, r, s, len, m, rd, rfl, _⟩ := h
    rfl
  obtain ⟨v, n, p, q, r, s', len, m, rd, rfl, hc, g1, g2, bl, hrd, bm, kk⟩ := h
  have hu1 := qEp hr
  refine ⟨_, (qG (qR (qL T.d_moments_there (zM T) hr rfl (qA (qL T.d_place_at (zy T) hr rfl (qA (pv 0) (qA (qM qK (pv 0) qB (fun _ _ => rfl)) qD))) (qA (qM qK (pv 0) qB (fun _ _ => rfl)) (qA (wP hu1 (pv 1) (qM qK (pv 0) qB (fun _ _ => rfl)) (fun _ _ => rfl)) qD)))))), ?_⟩
  try dsimp only [xJ, qk]
  have hb : Bn 110 p q r s' := ⟨g1.1, g2.1, g1.2.2.1, g1.2.2.2, g2.2.2.1, g2.2.2.2⟩
  have hb7 := hb.mono (m := 700)
  have hp := (hb.part (k := len) bl).mono (m := 700)
  have hc0 := hc
  obtain ⟨z, z1, z2, e, h0, h1, h2⟩ := hc0.ex
  subst e
  refine ⟨_, rfl, jD rfl h0 qBr ⟨_, n, p, q, r, s', len, len, rfl, hc, hb7.q0, hb7.s0, hb7.bp, hb7.bq, hb7.br, hb7.bs, zp bl, fun y H1 s1 e1 => ?_⟩⟩
  refine ⟨_, rfl, z, _, _, _, rfl, rfl, L3.Same.tup s1 h0, qBv, ?_⟩
  refine ⟨_, rfl, _, rfl, z, _, _, _, rfl, rfl, L3.Same.tup s1 h0, qGg, rd, _, rfl, (hrd.same s1).get, ?_⟩
  refine ⟨_, _, _, _, r, s', m, rfl, ⟨y, rfl, SqT.of e1⟩, ⟨z2, rfl, L3.Same.tup s1 h2⟩, hp.q0, hb.s0, g2.2.1, hp.bp, hp.bq, hb7.br, hb7.bs, bm, fun H' sH => ?_⟩
  have := kk H' (s1.trans sH)
  rw [Int.one_mul] at this
  exact this
theorem qGs (ns : List Int) (lo hi : Option Int) : ∃ ms : List Int, qDt (ns.map V.int) lo hi = ms.map V.int ∧ ms.length ≤ ns.length := by
  refine ⟨(ns.drop (HT.sIx (ns.map V.int).length 0 lo)).take (HT.sIx (ns.map V.int).length (ns.map V.int).length hi - HT.sIx (ns.map V.int).length 0 lo), ?_, ?_⟩
  · unfold qDt
    rw [List.map_take, List.map_drop]
  · rw [List.length_take, List.length_drop]; omega
inductive Im where
  | clip (n : Str) (p q r s l : Int)
  | nest (n : Str) (b l : Int)
  | gap (l : Int)
  | mix (l : Int)
def Im.d : Im → D
  | .clip n p q r s l => .tup [.leaf (.str "clip"), .leaf (.str n), .tup [.leaf (.int p), .leaf (.int q)], .tup [.leaf (.int r), .leaf (.int s)], .leaf (.int l)]
  | .nest n b l => .tup [.leaf (.str "nest"), .leaf (.str n), .leaf (.int b), .leaf (.int l)]
  | .gap l => .tup [.leaf (.str "gap"), .leaf (.int l)]
  | .mix l => .tup [.leaf (.str "mix"), .leaf (.int l)]
def Im.wd : Im → Str
  | .clip .. => "clip"
  | .nest .. => "nest"
  | .gap _ => "gap"
  | .mix _ => "mix"
def Im.l : Im → Int
  | .clip _ _ _ _ _ l => l
  | .nest _ _ l => l
  | .gap l => l
  | .mix l => l
def TS (H H' : Hp) : Prop := ∀ b xs, H b = some (.tup xs) → H' b = some (.tup xs)
theorem TS.refl (H : Hp) : TS H H := fun _ _ h => h
theorem TS.trans {H H1 H2 : Hp} (a : TS H H1) (b : TS H1 H2) : TS H H2 := fun c o h => b c o (a c o h)
theorem qi {H H' : Hp} (e : Same H H') : TS H H' := fun _ _ h => e _ _ h
theorem zz {H : Hp} {l : Addr} {xs : List V} {o : HO} (h : H l = some (.lst xs)) : TS H (upd H l o) := fun b ys hb => by
  rw [qV (qI7 hb h (by intro z; cases z))]; exact hb
theorem xH {H H' : Hp} {y : Addr} {o : HO} (e : Same H H') (h : H y = none) : Same H (upd H' y o) := fun b u hb => by
  rw [qV (qZ hb h)]; exact e b u hb
def IsI (H : Hp) : Im → V → Prop
  | .clip n p q r s l, v => ∃ z x y : Addr, v = .ref z ∧ H z = some (.tup [.str "clip", .str n, .ref x, .ref y, .int l]) ∧ H x = some (.tup [.int p, .int q]) ∧ H y = some (.tup [.int r, .int s])
  | .nest n b l, v => ∃ z : Addr, v = .ref z ∧ H z = some (.tup [.str "nest", .str n, .int b, .int l])
  | .gap l, v => ∃ z : Addr, v = .ref z ∧ H z = some (.tup [.str "gap", .int l])
  | .mix l, v => ∃ z : Addr, v = .ref z ∧ H z = some (.tup [.str "mix", .int l])
theorem isG {H : Hp} {z : Addr} {l : Int} (h : H z = some (.tup [.str "gap", .int l])) : IsI H (.gap l) (.ref z) := ⟨z, rfl, h⟩
theorem isM {H : Hp} {z : Addr} {l : Int} (h : H z = some (.tup [.str "mix", .int l])) : IsI H (.mix l) (.ref z) := ⟨z, rfl, h⟩
theorem isN {H : Hp} {z : Addr} {n : Str} {b l : Int} (h : H z = some (.tup [.str "nest", .str n, .int b, .int l])) : IsI H (.nest n b l) (.ref z) := ⟨z, rfl, h⟩
theorem IsI.ts {H H' : Hp} (e : TS H H') : ∀ {m : Im} {v : V}, IsI H m v → IsI H' m v
  | .clip .., _, ⟨z, x, y, h, hz, hx, hy⟩ => ⟨z, x, y, h, e _ _ hz, e _ _ hx, e _ _ hy⟩
  | .nest .., _, ⟨z, h, hz⟩ => ⟨z, h, e _ _ hz⟩
  | .gap _, _, ⟨z, h, hz⟩ => ⟨z, h, e _ _ hz⟩
  | .mix _, _, ⟨z, h, hz⟩ => ⟨z, h, e _ _ hz⟩
theorem IsI.opn {H : Hp} {m : Im} {v : V} (h : IsI H m v) : ∃ (z : Addr) (xs : List V), v = .ref z ∧ H z = some (.tup xs) ∧ atI xs 0 = some (.str m.wd) ∧ atI xs (-1) = some (.int m.l) := by
  cases m with
  | clip n p q r s l => obtain ⟨z, x, y, h, hz, _⟩ := h; exact ⟨z, _, h, hz, rfl, rfl⟩
  | nest n b l => obtain ⟨z, h, hz⟩ := h; exact ⟨z, _, h, hz, rfl, rfl⟩
  | gap l => obtain ⟨z, h, hz⟩ := h; exact ⟨z, _, h, hz, rfl, rfl⟩
  | mix l => obtain ⟨z, h, hz⟩ := h; exact ⟨z, _, h, hz, rfl, rfl⟩
theorem vG {H : Hp} : ∀ {xs : List V}, xs.all xL = true → Reps K H (xs.map D.leaf) xs
  | [], _ => by simp [Reps]
  | x :: xs, h => by
    rw [List.all_cons, Bool.and_eq_true] at h
    rw [List.map_cons]; unfold Reps Rep
    exact ⟨⟨rfl, h.1⟩, vG h.2⟩
theorem kJ {H : Hp} {z : Addr} {xs : List V} (hz : H z = some (.tup xs)) (h : xs.all xL = true) : Rep K H (.tup (xs.map D.leaf)) (.ref z) := by
  unfold Rep
  exact ⟨z, xs, rfl, SqT.of hz, vG h⟩
theorem IsI.rep {H : Hp} : ∀ {m : Im} {v : V}, IsI H m v → Rep K H m.d v
  | .clip n p q r s l, _, ⟨z, x, y, h, hz, hx, hy⟩ => by
    subst h
    have h1 : Rep K H (.tup [.leaf (.int p), .leaf (.int q)]) (.ref x) := kJ hx rfl
    have h2 : Rep K H (.tup [.leaf (.int r), .leaf (.int s)]) (.ref y) := kJ hy rfl
    unfold Im.d Rep
    refine ⟨z, _, rfl, SqT.of hz, ?_⟩
    unfold Reps Reps Reps Reps Reps Reps
    refine ⟨?_, ?_, h1, h2, ?_, trivial⟩
    · unfold Rep; exact ⟨rfl, rfl⟩
    · unfold Rep; exact ⟨rfl, rfl⟩
    · unfold Rep; exact ⟨rfl, rfl⟩
  | .nest n b l, _, ⟨z, h, hz⟩ => by subst h; exact kJ hz rfl
  | .gap l, _, ⟨z, h, hz⟩ => by subst h; exact kJ hz rfl
  | .mix l, _, ⟨z, h, hz⟩ => by subst h; exact kJ hz rfl
theorem qFz (m : Im) : eqD m.d m.d = true := by
  cases m <;> simp [Im.d, eqD, zg, eqV]
theorem qJg (m : Im) : dep m.d ≤ 2 := by
  cases m <;> simp [Im.d, dep, ku]
def IsIs (H : Hp) : List Im → List V → Prop
  | [], [] => True
  | m :: ms, v :: vs => IsI H m v ∧ IsIs H ms vs
  | _, _ => False
theorem IsIs.len {H : Hp} : ∀ {ms : List Im} {vs : List V}, IsIs H ms vs → vs.length = ms.length
  | [], [], _ => rfl
  | _ :: _, _ :: _, h => by rw [List.length_cons, List.length_cons, IsIs.len h.2]
  | [], _ :: _, h => h.elim
  | _ :: _, [], h => h.elim
theorem IsIs.ts {H H' : Hp} (e : TS H H') : ∀ {ms : List Im} {vs : List V}, IsIs H ms vs → IsIs H' ms vs
  | [], [], _ => trivial
  | _ :: _, _ :: _, h => ⟨IsI.ts e h.1, IsIs.ts e h.2⟩
  | [], _ :: _, h => h.elim
  | _ :: _, [], h => h.elim
theorem IsIs.get {H : Hp} : ∀ {ms : List Im} {vs : List V} {i : Nat} {v : V}, IsIs H ms vs → vs[i]? = some v → ∃ m, ms[i]? = some m ∧ IsI H m v
  | [], [], _, _, _, h => by simp at h
  | m :: _, x :: _, 0, v, h, e => by
    have e' : x = v := by simpa using e
    subst e'
    exact ⟨m, rfl, h.1⟩
  | _ :: ms, _ :: vs, i + 1, v, h, e => by
    obtain ⟨m, h1, h2⟩ := IsIs.get (i := i) h.2 (by simpa using e)
    exact ⟨m, by simpa using h1, h2⟩
  | [], _ :: _, _, _, h, _ => h.elim
  | _ :: _, [], _, _, h, _ => h.elim
theorem IsIs.get' {H : Hp} {ms : List Im} {vs : List V} {i : Nat} {m : Im} (h : IsIs H ms vs) (e : ms[i]? = some m) : ∃ v, vs[i]? = some v ∧ IsI H m v := by
  have hi : i < vs.length := by rw [h.len]; exact (glt e)
  have ev : vs[i]? = some vs[i] := List.getElem?_eq_getElem hi
  obtain ⟨m', h1, h2⟩ := h.get ev
  rw [e] at h1
  cases h1
  exact ⟨_, ev, h2⟩
theorem IsIs.app {H : Hp} : ∀ {ms : List Im} {vs : List V} {ms' : List Im} {vs' : List V}, IsIs H ms vs → IsIs H ms' vs' → IsIs H (ms ++ ms') (vs ++ vs')
  | [], [], _, _, _, h' => h'
  | _ :: _, _ :: _, _, _, h, h' => ⟨h.1, h.2.app h'⟩
  | [], _ :: _, _, _, h, _ => h.elim
  | _ :: _, [], _, _, h, _ => h.elim
theorem IsIs.one {H : Hp} {m : Im} {v : V} (h : IsI H m v) : IsIs H [m] [v] := ⟨h, trivial⟩
theorem IsIs.rep {H : Hp} : ∀ {ms : List Im} {vs : List V}, IsIs H ms vs → Reps K H (ms.map Im.d) vs
  | [], [], _ => by unfold List.map Reps; trivial
  | _ :: _, _ :: _, h => by unfold List.map Reps; exact ⟨h.1.rep, h.2.rep⟩
  | [], _ :: _, h => h.elim
  | _ :: _, [], h => h.elim
theorem qAr : ∀ ms : List Im, zg (ms.map Im.d) (ms.map Im.d) = true
  | [] => by simp [zg]
  | m :: ms => by unfold List.map zg; rw [qFz, qAr ms]; rfl
theorem qD4 : ∀ ms : List Im, ku (ms.map Im.d) ≤ 2
  | [] => by simp [ku]
  | m :: ms => by
    have h1 := qJg m
    have h2 := qD4 ms
    unfold List.map ku
    omega
def Tr (H : Hp) (z : Addr) (ms : List Im) : Prop := ∃ vs, H z = some (.lst vs) ∧ IsIs H ms vs
theorem Tr.same {H H' : Hp} {z : Addr} {ms : List Im} (e : Same H H') (h : Tr H z ms) : Tr H' z ms := let ⟨vs, h1, h2⟩ := h; ⟨vs, e _ _ h1, h2.ts (qi e)⟩
theorem Tr.rep {H : Hp} {z : Addr} {ms : List Im} (h : Tr H z ms) : Rep K H (.lst (ms.map Im.d)) (.ref z) := by
  obtain ⟨vs, h1, h2⟩ := h
  unfold Rep
  exact ⟨z, vs, rfl, SqL.of h1, h2.rep⟩
theorem qI8 {H : Hp} {x y : Addr} {ms : List Im} {Q : VK} (h1 : Tr H x ms) (h2 : H y = some (.lst [])) (q : Q (.bl (!ms.isEmpty)) H) : qI4 K true (.ref x) (.ref y) H Q := by
  refine ⟨_, .lst [], h1.rep, ?_, rfl, by have := qD4 ms; unfold dep; omega, ?_⟩
  · unfold Rep; exact ⟨y, [], rfl, SqL.of h2, by unfold Reps; trivial⟩
  · have e : eqD (.lst (ms.map Im.d)) (.lst []) = ms.isEmpty := by cases ms <;> simp [eqD, zg]
    rw [e]
    exact q
theorem qFw {H : Hp} {x : Addr} {ns : List Int} (h : H x = some (.lst (ns.map V.int))) : Rep K H (.lst ((ns.map V.int).map D.leaf)) (.ref x) := by
  unfold Rep
  exact ⟨x, _, rfl, SqL.of h, vG (by rw [List.all_map, List.all_eq_true]; intro _ _; rfl)⟩
theorem qCu : ∀ ns : List Int, zg ((ns.map V.int).map D.leaf) ((ns.map V.int).map D.leaf) = true
  | [] => by simp [zg]
  | n :: ns => by
    have ih := qCu ns
    simp only [List.map_cons]
    unfold zg
    rw [ih]
    simp [eqD, eqV]
theorem vO : ∀ vs : List V, ku (vs.map D.leaf) = 0
  | [] => by simp [ku]
  | n :: ns => by
    have ih := vO ns
    simp only [List.map_cons]
    unfold ku
    rw [ih]
    simp [dep]
theorem IsIs.dl {H : Hp} : ∀ {ms : List Im} {vs : List V}, IsIs H ms vs → IsIs H ms.dropLast vs.dropLast
  | [], [], _ => trivial
  | [_], [_], _ => trivial
  | _ :: _ :: _, _ :: _ :: _, h => ⟨h.1, IsIs.dl h.2⟩
  | [], _ :: _, h => h.elim
  | _ :: _, [], h => h.elim
  | [_], _ :: _ :: _, h => h.2.elim
  | _ :: _ :: _, [_], h => h.2.elim
theorem IsIs.last {H : Hp} {ms : List Im} {vs : List V} (h : IsIs H ms vs) (hne : ms ≠ []) : ∃ v m, vs[vs.length - 1]? = some v ∧ ms.getLast? = some m ∧ m ∈ ms ∧ IsI H m v := by
  have hl : 0 < ms.length := List.length_pos_iff.mpr hne
  have hi : vs.length - 1 < vs.length := by rw [h.len]; omega
  have ev : vs[vs.length - 1]? = some vs[vs.length - 1] := List.getElem?_eq_getElem hi
  obtain ⟨m, h1, h2⟩ := h.get ev
  refine ⟨_, m, ev, ?_, List.mem_of_getElem? h1, h2⟩
  rw [h.len] at h1
  rw [List.getLast?_eq_getElem?]
  exact h1
def Im.mo : Im → Int
  | .mix _ => 0
  | .clip _ _ _ _ _ l => l
  | .nest _ _ l => l
  | .gap l => l
theorem qCq {α : Type} {xs : List α} {v : α} (h : xs[xs.length - 1]? = some v) : atI xs (-1) = some v := by
  have hl : 0 < xs.length := by
    have := (glt h)
    omega
  have e : ixN xs.length (-1) = some (xs.length - 1) := by
    unfold ixN
    rw [if_neg (by decide), if_pos (by omega)]
    congr 1
    omega
  unfold atI; rw [e]; exact h
theorem qIe {m : Im} (h : m.wd = "mix") : ∃ l, m = .mix l := by
  cases m with
  | mix l => exact ⟨l, rfl⟩
  | clip => exact absurd (show ("clip" : Str) = "mix" from h) (by decide +kernel)
  | nest => exact absurd (show ("nest" : Str) = "mix" from h) (by decide +kernel)
  | gap => exact absurd (show ("gap" : Str) = "mix" from h) (by decide +kernel)
theorem qKi {m : Im} (h : m.wd ≠ "mix") : m.mo = m.l := by
  cases m with
  | mix l => exact absurd rfl h
  | _ => rfl
theorem qH8 {x y : Str} : decide (V.str x = V.str y) = decide (x = y) := by
  rw [Bool.eq_iff_iff]; simp
def wb : Sp := fun vs H Q _ => ∃ (v : V) (m : Im), vs = [v] ∧ IsI H m v ∧ Q (.int m.mo) H
theorem wR (T : Tx K mg a) : FnOk P w K mg base CX0 1 a.a_moments_of a.f_moments_of ["item"] wb := by
  refine T.d_moments_of.F.ok wk (fun vs H Q E h => ?_) (fun cdv A outer s H vs Q E hr h => ?_)
  · obtain ⟨v, m, rfl, _⟩ := h
    rfl
  obtain ⟨v, m, rfl, hI, kk⟩ := h
  refine ⟨_, (qG (qR (kD (qN jv (qM qK (pv 0) qB (fun _ _ => rfl)) qU (qS _)) qB (qM qK (pv 0) (z9 xf qB) (fun _ _ => rfl))))), ?_⟩
  try dsimp only [xJ, qk]
  obtain ⟨z, xs, rfl, hz, h0, h1⟩ := hI.opn
  refine ⟨_, rfl, z, xs, _, _, rfl, rfl, SqT.of hz, h0, rfl, _, rfl, xG (fun c => ?_) (fun c => ?_)⟩
  · obtain ⟨l, rfl⟩ := qIe (by simpa using c)
    exact kk
  · rw [qKi (by simpa using c)] at kk
    exact ⟨_, rfl, _, rfl, z, xs, _, _, rfl, rfl, SqT.of hz, h1, kk⟩
def zJ : Int → Nat → List Im → Int → Option (Nat × Int)
  | _, _, [], _ => none
  | b, i, m :: ms, t => if b ≤ t ∧ t < b + m.mo then some (i, t - b) else zJ (b + m.mo) (i + 1) ms t
def AtR (H : Hp) (Q : VK) (r : Option (Nat × Int)) : Prop := match r with
  | none => ∀ H', Same H H' → Q .non H'
  | some (i, d) => ∀ (p : Addr) (H' : Hp), Same H H' → H' p = some (.tup [.int (i : Int), .int d]) → Q (.ref p) H'
theorem qAb {α : Type} {xs : List α} {i : Nat} {x : α} (h : xs[i]? = some x) : xs.drop i = x :: xs.drop (i + 1) := by
  have hi : i < xs.length := (glt h)
  rw [List.drop_eq_getElem_cons hi]
  rw [List.getElem?_eq_getElem hi] at h
  cases h
  rfl
def qD0 : Sp := fun vs H Q _ => ∃ (z : Addr) (ms : List Im) (t : Int), vs = [.ref z, .int t] ∧ Tr H z ms ∧ AtR H Q (zJ 0 0 ms t)
theorem wH (T : Tx K mg a) : FnOk P w K mg base CX0 3 a.a_item_at a.f_item_at ["track", "moment"] qD0 := by
  refine T.d_item_at.F.ok sc_item_at (fun vs H Q E h => ?_) (fun cdv A outer s H vs Q E hr h => ?_)
  · obtain ⟨z, ms, t, rfl, _⟩ := h
    rfl
  obtain ⟨z, ms, t, rfl, ⟨xs, hz, his⟩, kk⟩ := h
  refine ⟨_, (qE (qW (i := 2) sc_item_at.nd rfl (Or.inl rfl) qB)
      (qE (vo PassesOwn.never rfl (qHt rfl T.b_enumerate (qA (pv 0) qD)) (qEi rfl (xk (jl (i := 3) sc_item_at.nd rfl (Or.inl rfl)) (xk (jl (i := 4) sc_item_at.nd rfl (Or.inl rfl)) qB7))) (qE (qW (i := 5) sc_item_at.nd rfl (Or.inl rfl) (qP jF (pv 2) (qL T.d_moments_of (wR T) hr rfl (qA (pv 4) qD))))
      (qE (qo (PW.pt (xr (qN v6 (pv 2) (pv 1) (qS _)) (xp (qN kG (pv 1) (pv 5) (qS _))))) (qG (qR (jB (qA (pv 3) (qA (qP jw (pv 1) (pv 2)) qD))))) qX)
      (qG (qW (i := 2) sc_item_at.nd rfl (Or.inl rfl) (pv 5))))))
      (qG (qR xy)))), ?_⟩
  try dsimp only [xJ, qk]
  refine ⟨_, rfl, z, rfl, ⟨_, SqL.of hz⟩, qGa (K := K) (a := z) (xs := xs) (fun i σ H' => ∃ (b : Int) (o1 o2 o3 : Option V), σ = [some (.ref z), some (.int t), some (.int b), o1, o2, o3] ∧ zJ b i (ms.drop i) t = zJ 0 0 ms t ∧ Same H H')
    ⟨0, none, none, none, rfl, rfl, Same.refl _⟩ ?_ ?_ ?_⟩
  · rintro i σ H' hi ⟨b, o1, o2, o3, rfl, _, e⟩
    exact SqL.of (e _ _ hz)
  · rintro i x σ H' p hx ⟨b, o1, o2, o3, rfl, hap, e⟩ hp
    obtain ⟨m, hm, hIx⟩ := his.get hx
    have w1 := qH hp (.tup [.int (i : Int), x])
    have e1 := e.trans w1
    have hI := hIx.ts (qi e1)
    rw [qAb hm, zJ] at hap
    refine ⟨p, _, rfl, SqT.of qF, rfl, _, _, rfl, _, _, rfl, rfl, ?_⟩
    generalize upd H' p (.tup [.int (i : Int), x]) = H1 at e1 hI ⊢
    refine ⟨_, rfl, _, rfl, x, m, rfl, hI, _, _, rfl, rfl, ?_⟩
    refine ⟨_, rfl, _, rfl, _, _, rfl, rfl, _, rfl, ?_⟩
    refine xG (fun c1 => ?_) (fun c1 => ?_)
    · refine ⟨_, rfl, _, rfl, _, _, rfl, rfl, _, rfl, ?_⟩
      refine xG (fun c2 => ?_) (fun c2 => ?_)
      · rw [if_pos ⟨by simpa using c1, by simpa using c2⟩] at hap
        rw [← hap] at kk
        refine ⟨_, rfl, _, rfl, _, rfl, _, _, rfl, rfl, sL2, fun q hq => ?_⟩
        exact kk q _ (e1.trans (qH hq _)) qF
      · rw [if_neg (fun c => c2 (by simpa using c.2))] at hap
        exact ⟨_, rfl, _, _, _, _, rfl, hap, e1⟩
    · rw [if_neg (fun c => c1 (by simpa using c.1))] at hap
      exact xq ⟨_, rfl, _, _, _, _, rfl, hap, e1⟩
  · rintro σ H' ⟨b, o1, o2, o3, rfl, hap, e⟩
    rw [his.len, List.drop_length, zJ] at hap
    rw [← hap] at kk
    exact kk H' e
def qh (ms : List Im) (i : Int) : Str := if i < 0 then "" else match ms[i.toNat]? with
  | some m => m.wd
  | none => ""
theorem qAj {ms : List Im} {i : Nat} {m : Im} (h : ms[i]? = some m) {k : Int} (hk : k = (i : Int)) : qh ms k = m.wd := by
  subst hk
  unfold qh
  rw [if_neg (by omega)]
  have e : ((i : Int)).toNat = i := by omega
  rw [e, h]
def qDp : Sp := fun vs H Q _ => ∃ (z : Addr) (ms : List Im) (i : Int), vs = [.ref z, .int i] ∧ Tr H z ms ∧ Q (.str (qh ms i)) H
theorem jV (T : Tx K mg a) : FnOk P w K mg base CX0 1 a.a_kind_at a.f_kind_at ["track", "place"] qDp := by
  refine T.d_kind_at.F.ok qDj (fun vs H Q E h => ?_) (fun cdv A outer s H vs Q E hr h => ?_)
  · obtain ⟨z, ms, i, rfl, _⟩ := h
    rfl
  obtain ⟨z, ms, i, rfl, ⟨vs, hz, his⟩, q⟩ := h
  refine ⟨_, (qE (qo (PW.pt (zP (qN kG (pv 1) qB (qS _)) (zL (qN qIy (pv 1) (qY qd rfl T.b_len rfl (qA (pv 0) qD)) (qS _))))) (qG (qR qU)) qX)
      (qG (qR (qM qK (qM qc (pv 0) (pv 1) (fun _ _ => rfl)) qB (fun _ _ => rfl))))), ?_⟩
  try dsimp only [xJ, qk]
  have hl := his.len
  refine ⟨_, rfl, _, _, rfl, rfl, _, rfl, ?_⟩
  by_cases h0 : i < 0
  · rw [decide_eq_true h0]
    have e : qh ms i = "" := by unfold qh; rw [if_pos h0]
    rw [e] at q
    exact ju (ju q)
  rw [decide_eq_false h0]
  refine xq ⟨_, rfl, _, rfl, z, _, rfl, .inl (SqL.of hz), _, _, rfl, rfl, _, rfl, ?_⟩
  by_cases h1 : ((vs.length : Nat) : Int) ≤ i
  · rw [decide_eq_true (show i ≥ ((vs.length : Nat) : Int) from h1)]
    have e : qh ms i = "" := by
      unfold qh
      rw [if_neg h0, List.getElem?_eq_none (by omega)]
    rw [e] at q
    exact ju q
  · rw [decide_eq_false (show ¬ i ≥ ((vs.length : Nat) : Int) from h1)]
    refine xq ?_
    have hi : i.toNat < ms.length := by omega
    have hm : ms[i.toNat]? = some ms[i.toNat] := List.getElem?_eq_getElem hi
    obtain ⟨v, hv, hI⟩ := his.get' hm
    obtain ⟨zi, xi, rfl, hzi, q0, _⟩ := hI.opn
    have ei : i = ((i.toNat : Nat) : Int) := by omega
    have hat : atI vs i = some (.ref zi) := by
      rw [ei]; exact jc hv
    have e : qh ms i = ms[i.toNat].wd := qAj hm ei
    rw [e] at q
    exact ⟨_, rfl, _, rfl, z, _, _, _, rfl, rfl, SqL.of hz, hat, zi, xi, _, _, rfl, rfl, SqT.of hzi, q0, q⟩
def vy : Sp := fun vs H Q _ => ∃ (z : Addr) (ms : List Im) (i : Int), vs = [.ref z, .int i] ∧ Tr H z ms ∧ Q (.int (if qh ms (i - 1) = "mix" then i - 2 else i - 1)) H
theorem zx (T : Tx K mg a) : FnOk P w K mg base CX0 2 a.a_place_ahead a.f_place_ahead ["track", "place"] vy := by
  refine T.d_place_ahead.F.ok v9 (fun vs H Q E h => ?_) (fun cdv A outer s H vs Q E hr h => ?_)
  · obtain ⟨z, ms, i, rfl, _⟩ := h
    rfl
  obtain ⟨z, ms, i, rfl, tT, q⟩ := h
  refine ⟨_, (qG (qR (kD (qN jv (qL T.d_kind_at (jV T) hr rfl (qA (pv 0) (qA (qP jw (pv 1) qB) qD))) qU (qS _)) (qP jw (pv 1) qB) (qP jw (pv 1) qB)))), ?_⟩
  try dsimp only [xJ, qk]
  refine ⟨_, rfl, _, rfl, _, _, rfl, rfl, z, ms, _, rfl, tT, rfl, _, rfl, xG (fun c => ?_) (fun c => ?_)⟩
  · rw [if_pos (by simpa using c)] at q
    exact ⟨_, rfl, _, _, rfl, rfl, q⟩
  · rw [if_neg (by simpa using c)] at q
    exact ⟨_, rfl, _, _, rfl, rfl, q⟩
def nbF (ms : List Im) (t : Int) : Option (Int × Int) := match zJ 0 0 ms t with
  | some (i, d) => if d ≠ 0 ∨ (i : Int) = 0 then none else some (if qh ms ((i : Int) - 1) = "mix" then (i : Int) - 2 else (i : Int) - 1, (i : Int))
  | none => none
def cbF (ms : List Im) (t : Int) : Option (Int × Int) := match nbF ms t with
  | some (i, j) => if qh ms i = "clip" ∧ qh ms j = "clip" then some (i, j) else none
  | none => none
def PrR (H : Hp) (Q : VK) (r : Option (Int × Int)) : Prop := match r with
  | none => ∀ H', Same H H' → Q .non H'
  | some (i, j) => ∀ (p : Addr) (H' : Hp), Same H H' → H' p = some (.tup [.int i, .int j]) → Q (.ref p) H'
def kh : Sp := fun vs H Q _ => ∃ (z : Addr) (ms : List Im) (t : Int), vs = [.ref z, .int t] ∧ Tr H z ms ∧ PrR H Q (nbF ms t)
theorem kn (T : Tx K mg a) : FnOk P w K mg base CX0 4 a.a_neighbours_at a.f_neighbours_at ["track", "moment"] kh := by
  refine T.d_neighbours_at.F.ok sc_neighbours_at (fun vs H Q E h => ?_) (fun cdv A outer s H vs Q E hr h => ?_)
  · obtain ⟨z, ms, t, rfl, _⟩ := h
    rfl
  obtain ⟨z, ms, t, rfl, tT, kk⟩ := h
  refine ⟨_, (qE (qW (i := 2) sc_neighbours_at.nd rfl (Or.inl rfl) (qL T.d_item_at (wH T) hr rfl (qA (pv 0) (qA (pv 1) qD))))
      (qE (qo (PW.pt (zP (wK (wJ (pv 2))) (zP (qN kr (qM qK (pv 2) qB (fun _ _ => rfl)) qB (qS _)) (zL (qN jv (qM qK (pv 2) qB (fun _ _ => rfl)) qB (qS _)))))) (qG (qR xy)) qX)
      (qG (qR (jB (qA (qL T.d_place_ahead (zx T) hr rfl (qA (pv 0) (qA (qM qK (pv 2) qB (fun _ _ => rfl)) qD))) (qA (qM qK (pv 2) qB (fun _ _ => rfl)) qD))))))), ?_⟩
  try dsimp only [xJ, qk]
  refine ⟨_, rfl, _, rfl, z, ms, _, rfl, tT, ?_⟩
  unfold nbF at kk
  cases hit : zJ 0 0 ms t with
  | none =>
    rw [hit] at kk
    intro H1 e1
    exact ⟨_, rfl, _, rfl, ju (kk H1 e1)⟩
  | some x =>
    obtain ⟨i, d⟩ := x
    rw [hit] at kk
    dsimp only at kk
    intro p H1 e1 hp
    refine ⟨_, rfl, _, rfl, xG (fun c => absurd c (by simp)) (fun _ => ?_)⟩
    refine (jD rfl (SqT.of hp) at1 ?_)
    refine ⟨rfl, _, rfl, xG (fun c => ?_) (fun c => ?_)⟩
    · rw [if_pos (.inl (by simpa using c))] at kk
      exact kk H1 e1
    · refine (jD rfl (SqT.of hp) at0 ?_)
      refine ⟨rfl, _, rfl, xG (fun c2 => ?_) (fun c2 => ?_)⟩
      · rw [if_pos (.inr (by simpa using c2))] at kk
        exact kk H1 e1
      · rw [if_neg (fun z => z.elim (fun z => c (by simpa using z)) (fun z => c2 (by simpa using z)))] at kk
        refine ⟨_, rfl, jD rfl (SqT.of hp) at0 ⟨z, ms, _, rfl, tT.same e1, ?_⟩⟩
        refine (jD rfl (SqT.of hp) at0 ⟨sL2, fun q hq => ?_⟩)
        exact kk q _ (e1.trans (qH hq _)) qF
def kA : Sp := fun vs H Q _ => ∃ (z : Addr) (ms : List Im) (t : Int), vs = [.ref z, .int t] ∧ Tr H z ms ∧ PrR H Q (cbF ms t)
theorem kO (T : Tx K mg a) : FnOk P w K mg base CX0 5 a.a_clips_at_border a.f_clips_at_border ["track", "moment"] kA := by
  refine T.d_clips_at_border.F.ok sc_clips_at_border (fun vs H Q E h => ?_) (fun cdv A outer s H vs Q E hr h => ?_)
  · obtain ⟨z, ms, t, rfl, _⟩ := h
    rfl
  obtain ⟨z, ms, t, rfl, tT, kk⟩ := h
  refine ⟨_, (qE (qW (i := 2) sc_clips_at_border.nd rfl (Or.inl rfl) (qL T.d_neighbours_at (kn T) hr rfl (qA (pv 0) (qA (pv 1) qD))))
      (qE (qo (PW.pt (zP (wK (wJ (pv 2))) (zP (qN kr (qL T.d_kind_at (jV T) hr rfl (qA (pv 0) (qA (qM qK (pv 2) qB (fun _ _ => rfl)) qD))) qU (qS _)) (zL (qN kr (qL T.d_kind_at (jV T) hr rfl (qA (pv 0) (qA (qM qK (pv 2) qB (fun _ _ => rfl)) qD))) qU (qS _)))))) (qG (qR xy)) qX)
      (qG (qR (pv 2))))), ?_⟩
  try dsimp only [xJ, qk]
  refine ⟨_, rfl, _, rfl, z, ms, _, rfl, tT, ?_⟩
  unfold cbF at kk
  cases hit : nbF ms t with
  | none =>
    rw [hit] at kk
    intro H1 e1
    exact ⟨_, rfl, _, rfl, ju (kk H1 e1)⟩
  | some x =>
    obtain ⟨i, j⟩ := x
    rw [hit] at kk
    dsimp only at kk
    intro p H1 e1 hp
    refine ⟨_, rfl, _, rfl, xG (fun c => absurd c (by simp)) (fun _ => ?_)⟩
    refine ⟨_, rfl, jD rfl (SqT.of hp) at0 ⟨z, ms, _, rfl, tT.same e1, ?_⟩⟩
    refine ⟨rfl, _, rfl, xG (fun c => ?_) (fun c => ?_)⟩
    · rw [if_neg (fun z => absurd c (by simpa using z.1))] at kk
      exact kk H1 e1
    · refine ⟨_, rfl, jD rfl (SqT.of hp) at1 ⟨z, ms, _, rfl, tT.same e1, ?_⟩⟩
      refine ⟨rfl, _, rfl, xG (fun c2 => ?_) (fun c2 => ?_)⟩
      · rw [if_neg (fun z => absurd c2 (by simpa using z.2))] at kk
        exact kk H1 e1
      · rw [if_pos ⟨by simpa using c, by simpa using c2⟩] at kk
        exact ⟨_, rfl, kk p H1 e1 hp⟩
def TrsAt (H : Hp) : List (List Im) → List V → Prop
  | [], [] => True
  | ms :: r, v :: vs => (∃ z : Addr, v = .ref z ∧ Tr H z ms) ∧ TrsAt H r vs
  | _, _ => False
theorem TrsAt.same {H H' : Hp} (e : Same H H') : ∀ {ts : List (List Im)} {vs : List V}, TrsAt H ts vs → TrsAt H' ts vs
  | [], [], _ => trivial
  | _ :: _, _ :: _, ⟨⟨z, h1, h2⟩, h⟩ => ⟨⟨z, h1, h2.same e⟩, TrsAt.same e h⟩
  | [], _ :: _, h => h.elim
  | _ :: _, [], h => h.elim
theorem TrsAt.len {H : Hp} : ∀ {ts : List (List Im)} {vs : List V}, TrsAt H ts vs → vs.length = ts.length
  | [], [], _ => rfl
  | _ :: _, _ :: _, h => by rw [List.length_cons, List.length_cons, TrsAt.len h.2]
  | [], _ :: _, h => h.elim
  | _ :: _, [], h => h.elim
theorem TrsAt.get {H : Hp} : ∀ {ts : List (List Im)} {vs : List V} {i : Nat} {v : V}, TrsAt H ts vs → vs[i]? = some v → ∃ (ms : List Im) (z : Addr), ts[i]? = some ms ∧ v = .ref z ∧ Tr H z ms
  | [], [], _, _, _, h => by simp at h
  | ms :: _, u :: _, 0, v, h, e => by
    have e' : u = v := by simpa using e
    subst e'
    obtain ⟨⟨z, h1, h2⟩, _⟩ := h
    exact ⟨ms, z, rfl, h1, h2⟩
  | _ :: _, _ :: _, i + 1, v, h, e => by
    obtain ⟨ms, z, h1, h2⟩ := TrsAt.get (i := i) h.2 (by simpa using e)
    exact ⟨ms, z, by simpa using h1, h2⟩
  | [], _ :: _, _, _, h, _ => h.elim
  | _ :: _, [], _, _, h, _ => h.elim
def TabAt (H : Hp) (v : V) (ts : List (List Im)) : Prop := ∃ (tt tl ti : Addr) (zs : List V), v = .ref tt ∧ H tt = some (.tup [.ref tl, .ref ti]) ∧ H tl = some (.lst zs) ∧ TrsAt H ts zs
theorem TabAt.same {H H' : Hp} (e : Same H H') {v : V} {ts : List (List Im)} (h : TabAt H v ts) : TabAt H' v ts :=
  let ⟨tt, tl, ti, zs, h1, h2, h3, h4⟩ := h; ⟨tt, tl, ti, zs, h1, e _ _ h2, e _ _ h3, h4.same e⟩
theorem qCi {H : Hp} {v : V} {n : Str} {p q r s l : Int} (h : IsI H (.clip n p q r s l) v) : Cp K H v n p q r s l := by
  obtain ⟨z, x, y, h0, hz, hx, hy⟩ := h
  exact ⟨z, x, y, h0, SqT.of hz, SqT.of hx, SqT.of hy⟩
def TabF (H : Hp) (v : V) (ts : List (List Im)) (tie : List Int) : Prop := ∃ (tt tl ti : Addr) (zs : List V), v = .ref tt ∧ H tt = some (.tup [.ref tl, .ref ti]) ∧ H tl = some (.lst zs) ∧ TrsAt H ts zs ∧ H ti = some (.lst (tie.map V.int))
theorem TabF.tab {H : Hp} {v : V} {ts : List (List Im)} {tie : List Int} (h : TabF H v ts tie) : TabAt H v ts := let ⟨tt, tl, ti, zs, h1, h2, h3, h4, _⟩ := h; ⟨tt, tl, ti, zs, h1, h2, h3, h4⟩
theorem TabF.same {H H' : Hp} (e : Same H H') {v : V} {ts : List (List Im)} {tie : List Int} (h : TabF H v ts tie) : TabF H' v ts tie :=
  let ⟨tt, tl, ti, zs, h1, h2, h3, h4, h5⟩ := h; ⟨tt, tl, ti, zs, h1, e _ _ h2, e _ _ h3, h4.same e, e _ _ h5⟩
def qHb (ts : List (List Im)) (tie : List Int) : D := .tup [.lst (ts.map fun ms => .lst (ms.map Im.d)), .lst ((tie.map V.int).map D.leaf)]
theorem TrsAt.rep {H : Hp} : ∀ {ts : List (List Im)} {vs : List V}, TrsAt H ts vs → Reps K H (ts.map fun ms => .lst (ms.map Im.d)) vs
  | [], [], _ => by unfold List.map Reps; trivial
  | _ :: _, _ :: _, ⟨⟨z, h1, h2⟩, r⟩ => by unfold List.map Reps; subst h1; exact ⟨h2.rep, r.rep⟩
  | [], _ :: _, h => h.elim
  | _ :: _, [], h => h.elim
theorem TabF.rep {H : Hp} {v : V} {ts : List (List Im)} {tie : List Int} (h : TabF H v ts tie) : Rep K H (qHb ts tie) v := by
  obtain ⟨tt, tl, ti, zs, rfl, h2, h3, h4, h5⟩ := h
  unfold qHb Rep
  refine ⟨tt, _, rfl, SqT.of h2, ?_⟩
  unfold Reps Reps Reps
  refine ⟨?_, qFw h5, trivial⟩
  unfold Rep
  exact ⟨tl, zs, rfl, SqL.of h3, h4.rep⟩
theorem qC4 : ∀ ts : List (List Im), zg (ts.map fun ms => .lst (ms.map Im.d)) (ts.map fun ms => .lst (ms.map Im.d)) = true
  | [] => by simp [zg]
  | ms :: r => by
    unfold List.map zg
    rw [qC4 r]
    have : eqD (.lst (ms.map Im.d)) (.lst (ms.map Im.d)) = true := by unfold eqD; exact qAr ms
    rw [this]; rfl
theorem qEy : ∀ ts : List (List Im), ku (ts.map fun ms => .lst (ms.map Im.d)) ≤ 3
  | [] => by simp [ku]
  | ms :: r => by
    have h1 := qEy r
    have h2 : dep (.lst (ms.map Im.d)) ≤ 3 := by have := qD4 ms; unfold dep; omega
    unfold List.map ku
    omega
theorem qCy (ts : List (List Im)) (tie : List Int) : eqD (qHb ts tie) (qHb ts tie) = true ∧ dep (qHb ts tie) ≤ 50 := by
  constructor
  · unfold qHb eqD zg zg zg
    have h1 : eqD (.lst (ts.map fun ms => .lst (ms.map Im.d))) (.lst (ts.map fun ms => .lst (ms.map Im.d))) = true := by unfold eqD; exact qC4 ts
    have h2 : eqD (.lst ((tie.map V.int).map D.leaf)) (.lst ((tie.map V.int).map D.leaf)) = true := by unfold eqD; exact qCu tie
    rw [h1, h2]; rfl
  · have h1 := qEy ts
    have h2 := vO (tie.map V.int)
    unfold qHb dep ku ku ku dep
    omega
theorem qB8 {H : Hp} : ∀ {ts : List (List Im)} {vs : List V} {ms : List Im} {z : Addr}, TrsAt H ts vs → Tr H z ms → TrsAt H (ts ++ [ms]) (vs ++ [.ref z])
  | [], [], _, z, _, h => ⟨⟨z, rfl, h⟩, trivial⟩
  | _ :: _, _ :: _, _, _, ⟨h1, h2⟩, h => ⟨h1, qB8 h2 h⟩
  | [], _ :: _, _, _, h, _ => h.elim
  | _ :: _, [], _, _, h, _ => h.elim
theorem atN {xs : List V} {i : Int} {n : Nat} (h : xs.length = n) (h0 : 0 ≤ i) (h1 : i < (n : Int)) : ∃ v, atI xs i = some v ∧ v ∈ xs := by
  have hi : i.toNat < xs.length := by omega
  have e : i = ((i.toNat : Nat) : Int) := by omega
  have hat := jc (List.getElem?_eq_getElem hi)
  rw [← e] at hat
  exact ⟨_, hat, List.getElem_mem hi⟩
theorem qE5 {b : Bool} {A B : Prop} (h : b = false) (q : B) : if b = true then A else B := by subst h; exact q
theorem qEj {b : Bool} {A B : Prop} (h : b = true) (q : A) : if b = true then A else B := by subst h; exact q
abbrev Rls := Str → Option Int
def ReelsAt (H : Hp) (rd : Addr) (rl : Rls) : Prop := ∀ n N, rl n = some N → Reel H rd n N
theorem ReelsAt.same {H H' : Hp} {rd : Addr} {rl : Rls} (e : Same H H') (h : ReelsAt H rd rl) : ReelsAt H' rd rl := fun n N q => (h n N q).same e
theorem wS (T : Tx K mg a) : FnOk P w K mg base CX0 1 a.fi_Short a.gi_Short ["self", "most"] (qCj a.k_Short "most") := by
  refine T.i_Short.ok qEw (fun vs H Q E h => ?_) (fun cdv A outer s H vs Q E hr h => ?_)
  · obtain ⟨e, v, rfl, _⟩ := h
    rfl
  obtain ⟨e, v, rfl, he, kk⟩ := h
  refine ⟨_, qG (qHc (pv 0) (pv 1)), ?_⟩
  exact ⟨_, rfl, _, rfl, e, _, _, rfl, he, T.m_Short.ov, T.m_Short.hd, T.m_Short.sa, T.tk_Short, kk⟩
inductive Nu (H : Hp) : V → Option Int → Prop where
  | int (i : Int) : Nu H (.int i) (some i)
  | no {x : V} (h : NoW H x) : Nu H x none
theorem Nu.same {H H' : Hp} (s : Same H H') {x : V} {o : Option Int} : Nu H x o → Nu H' x o
  | .int i => .int i
  | .no h => .no (h.same s)
def qB9 (L : Nat) (n t : Option Int) : Bool := match n, t with
  | some i, some m => decide (0 ≤ i) && decide (i < L) && decide (0 ≤ m)
  | _, _ => false
def vZ (N : Addr) : Sp := fun vs H Q E => ∃ (tz tl td : Addr) (zs : List V) (n t : V) (on ot : Option Int), vs = [.ref tz, n, t] ∧ H tz = some (.tup [.ref tl, .ref td]) ∧ H tl = some (.lst zs) ∧ Nu H n on ∧ Nu H t ot ∧
  (qB9 zs.length on ot = false → E (.ref N) none H) ∧ (qB9 zs.length on ot = true → Q .non H)
theorem vU (T : Tx K mg a) : FnOk P w K mg base (CXR P w) 2 a.a_check_place a.f_check_place ["table", "number", "moment"] (vZ a.k_NoPlace) := by
  refine okX T.d_check_place.F v3 (fun vs H Q E h => ?_) (fun cdv A outer s H vs Q E hr h => ?_)
  · obtain ⟨tz, tl, td, zs, n, t, on, ot, rfl, _⟩ := h
    rfl
  obtain ⟨tz, tl, td, zs, n, t, on, ot, rfl, htz, htl, hn, ht, kb, kg⟩ := h
  refine ⟨_, (qE (qo (PW.pt (zP (zO (zN (qL T.d_is_whole (zI T) hr rfl (qA (pv 1) qD)))) (zP (qN kG (pv 1) qB (qS _)) (zL (qN qIy (pv 1) (qY qd rfl T.b_len rfl (qA (qM qK (pv 0) qB (fun _ _ => rfl)) qD)) (qS _)))))) (qG (kH rfl rfl T.c_NoPlace T.x_NoPlace (qA qU qD))) qX)
      (qG (qo (PW.pt (zP (zO (zN (qL T.d_is_whole (zI T) hr rfl (qA (pv 2) qD)))) (zL (qN kG (pv 2) qB (qS _))))) (qG (kH rfl rfl T.c_NoPlace T.x_NoPlace (qA qU qD))) qX))), ?_⟩
  try dsimp only [xJ, qk]
  have one : (1 : Nat) ≤ sizeLine := by decide
  cases hn with
  | no h =>
    have kb := kb (by unfold qB9; cases ot <;> rfl)
    exact ⟨_, rfl, n, false, rfl, .no h, false, rfl, ju (ju ⟨one, kb⟩)⟩
  | int n =>
  refine ⟨_, rfl, _, true, rfl, .int n, true, rfl, xq ?_⟩
  refine ⟨_, rfl, _, _, rfl, rfl, _, rfl, xG (fun c => ?_) (fun c => ?_)⟩
  · have hc : n < 0 := by simpa using c
    have kb := kb (by
      unfold qB9
      cases ot with
      | none => rfl
      | some m => dsimp only; rw [decide_eq_false (show ¬ 0 ≤ n by omega)]; rfl)
    exact ju ⟨one, kb⟩
  have h0 : ¬ n < 0 := by simpa using c
  refine ⟨_, rfl, jD rfl (SqT.of htz) at0 ⟨tl, _, rfl, .inl (SqL.of htl), _, _, rfl, rfl, _, rfl, xG (fun c => ?_) (fun c => ?_)⟩⟩
  · have hc : (zs.length : Int) ≤ n := by simpa using c
    have kb := kb (by
      unfold qB9
      cases ot with
      | none => rfl
      | some m => dsimp only; rw [decide_eq_false (show ¬ n < zs.length by omega), Bool.and_false]; rfl)
    exact ⟨one, kb⟩
  have h1 : ¬ (zs.length : Int) ≤ n := by simpa using c
  cases ht with
  | no h =>
    have kb := kb rfl
    exact ⟨_, rfl, t, false, rfl, .no h, false, rfl, ju (ju ⟨one, kb⟩)⟩
  | int m =>
  refine ⟨_, rfl, _, true, rfl, .int m, true, rfl, xq ?_⟩
  have e : qB9 zs.length (some n) (some m) = decide (0 ≤ m) := by
    unfold qB9
    dsimp only
    rw [decide_eq_true (show 0 ≤ n by omega), decide_eq_true (show n < zs.length by omega)]
    rfl
  rw [e] at kb kg
  refine ⟨_, rfl, _, _, rfl, rfl, _, rfl, xG (fun c => ?_) (fun c => ?_)⟩
  · have hc : m < 0 := by simpa using c
    exact ⟨one, kb (decide_eq_false (by omega))⟩
  · have hc : ¬ m < 0 := by simpa using c
    exact kg (decide_eq_true (by omega))
def byB (b : Option Int) : Bool := match b with
  | some i => decide (i.natAbs ≤ 1000000)
  | none => false
def qAd (N : Addr) : Sp := fun vs H Q E => ∃ (b : V) (ob : Option Int), vs = [b] ∧ Nu H b ob ∧ (byB ob = false → E (.ref N) none H) ∧ (byB ob = true → Q .non H)
theorem qBf (T : Tx K mg a) : FnOk P w K mg base (CXR P w) 2 a.a_check_by a.f_check_by ["by"] (qAd a.k_NoPlace) := by
  refine okX T.d_check_by.F qBu (fun vs H Q E h => ?_) (fun cdv A outer s H vs Q E hr h => ?_)
  · obtain ⟨b, ob, rfl, _⟩ := h
    rfl
  obtain ⟨b, ob, rfl, hb, kb, kg⟩ := h
  refine ⟨_, (qG (qo (PW.pt (zP (zO (zN (qL T.d_is_whole (zI T) hr rfl (qA (pv 0) qD)))) (zL (qN wB (qY vA rfl T.b_abs rfl (qA (pv 0) qD)) (jy (v := .int 1000000) rfl T.g_MOST_BY ⟨_, rfl⟩) (qS _))))) (qG (kH rfl rfl T.c_NoPlace T.x_NoPlace (qA qU qD))) qX)), ?_⟩
  try dsimp only [xJ, qk]
  have one : (1 : Nat) ≤ sizeLine := by decide
  cases hb with
  | no h => exact ⟨_, rfl, b, false, rfl, .no h, false, rfl, ju (ju ⟨one, kb rfl⟩)⟩
  | int b =>
  refine ⟨_, rfl, _, true, rfl, .int b, true, rfl, xq ?_⟩
  refine ⟨_, rfl, b, rfl, _, _, rfl, rfl, _, rfl, xG (fun c => ?_) (fun c => ?_)⟩
  · have hc : (if b < 0 then -b else b) > 1000000 := by simpa using c
    exact ⟨one, kb (decide_eq_false (by split at hc <;> omega))⟩
  · have hc : ¬ (if b < 0 then -b else b) > 1000000 := by simpa using c
    exact kg (decide_eq_true (by split at hc <;> omega))
def hmB (ms : List Im) (i : Int) : Bool := decide (qh ms (i - 1) = "mix") || decide (qh ms (i + 1) = "mix")
def qDd : Sp := fun vs H Q _ => ∃ (z : Addr) (ms : List Im) (i : Int), vs = [.ref z, .int i] ∧ Tr H z ms ∧ Q (.bl (hmB ms i)) H
theorem qDi (T : Tx K mg a) : FnOk P w K mg base CX0 2 a.a_has_mix a.f_has_mix ["track", "place"] qDd := by
  refine T.d_has_mix.F.ok qDx (fun vs H Q E h => ?_) (fun cdv A outer s H vs Q E hr h => ?_)
  · obtain ⟨z, ms, i, rfl, _⟩ := h
    rfl
  obtain ⟨z, ms, i, rfl, tT, q⟩ := h
  refine ⟨_, (qG (qR (qJ7 (ve jv (qL T.d_kind_at (jV T) hr rfl (qA (pv 0) (qA (qP jw (pv 1) qB) qD))) qU (qS _)) (qAi (ve jv (qL T.d_kind_at (jV T) hr rfl (qA (pv 0) (qA (qP jF (pv 1) qB) qD))) qU (qS _)))))), ?_⟩
  try dsimp only [xJ, qk]
  refine ⟨_, rfl, _, rfl, _, _, rfl, rfl, z, ms, _, rfl, tT, rfl, _, rfl, ?_⟩
  unfold hmB at q
  rw [qH8]
  by_cases h1 : qh ms (i - 1) = "mix"
  · rw [decide_eq_true h1] at q ⊢
    exact ju q
  rw [decide_eq_false h1] at q ⊢
  refine xq ⟨_, rfl, _, rfl, _, _, rfl, rfl, z, ms, _, rfl, tT, rfl, ?_⟩
  rw [qH8]
  exact q
def qF2 (b : Int) : Int := if b < 0 then -b else b
def vX (S : Addr) : Sp := fun vs H Q E => ∃ m b : Int, vs = [.int m, .int b] ∧ (qF2 b ≤ m → Q .non H) ∧ (¬ qF2 b ≤ m → ∀ (dx : Addr) (v : V) (H' : Hp), Same H H' → H' dx = some (.xd [("most", v)]) → E (.ref S) (some dx) H')
theorem zY (T : Tx K mg a) : FnOk P w K mg base (CXR P w) 3 a.a_check_short a.f_check_short ["most", "by"] (vX a.k_Short) := by
  refine okX T.d_check_short.F wA (fun vs H Q E h => ?_) (fun cdv A outer s H vs Q E hr h => ?_)
  · obtain ⟨m, b, rfl, _⟩ := h
    rfl
  obtain ⟨m, b, rfl, kg, kb⟩ := h
  refine ⟨_, (qG (qo (qN wB (qY vA rfl T.b_abs rfl (qA (pv 1) qD)) (pv 0) (qS _)) (qG (qEe T.m_Short (wS T) T.ib_Short (hr.mono (by decide)) rfl rfl T.c_Short (qA (kD (qN wB (pv 1) qB (qS _)) (pv 0) (z9 xf (pv 0))) qD))) qX)), ?_⟩
  try dsimp only [xJ, qk]
  refine ⟨_, rfl, b, rfl, _, rfl, _, _, rfl, rfl, _, rfl, xG (fun c => ?_) (fun c => ?_)⟩
  · have c' : ¬ qF2 b ≤ m := by
      have : (if b < 0 then -b else b) > m := by simpa using c
      unfold qF2
      omega
    refine ⟨_, rfl, _, _, rfl, rfl, _, rfl, xG (fun _ => ?_) (fun _ => ?_)⟩
    · exact ⟨_, rfl, _, rfl, fun dx hdx => kb c' dx _ _ (qH hdx _) qF⟩
    · exact ⟨_, rfl, _, rfl, _, rfl, fun dx hdx => kb c' dx _ _ (qH hdx _) qF⟩
  · refine kg ?_
    have : ¬ (if b < 0 then -b else b) > m := by simpa using c
    unfold qF2
    omega
def qAk (K : W.Frag) : Sp := fun vs H Q _ => ∃ (v : V) (n : Str) (p q r s len lo hi : Int), vs = [v, .int lo, .int hi] ∧ IsI H (.clip n p q r s len) v ∧ Bn 700 p q r s ∧ lo.natAbs < 2 ^ 700 ∧
  ∀ (u : V) (H' : Hp), Same H H' → IsI H' (.clip n (plP p q r s lo) (plQ p q r s lo) r s (hi - lo)) u → Q u H'
theorem zQ (T : Tx K mg a) : FnOk P w K mg base CX0 5 a.a_clip_part a.f_clip_part ["clip", "low", "high"] (qAk K) := by
  refine T.d_clip_part.F.ok qAf (fun vs H Q E h => ?_) (fun cdv A outer s H vs Q E hr h => ?_)
  · obtain ⟨v, n, p, q, r, s, len, lo, hi, rfl, _⟩ := h
    rfl
  obtain ⟨v, n, p, q, r, s', len, lo, hi, rfl, hI, ⟨hq, hs, bp, bq, br, bs⟩, bl, kk⟩ := h
  refine ⟨_, (qG (qR (jB (qA qU (qA (qM qK (pv 0) qB (fun _ _ => rfl)) (qA (qL T.d_place_at (zy T) hr rfl (qA (pv 0) (qA (pv 1) qD))) (qA (qM qK (pv 0) qB (fun _ _ => rfl)) (qA (qP jw (pv 2) (pv 1)) qD)))))))), ?_⟩
  try dsimp only [xJ, qk]
  obtain ⟨z, z1, z2, rfl, h0, h1, h2⟩ := id hI
  refine (jD rfl (SqT.of h0) qGg ⟨_, rfl, _, rfl, _, n, p, q, r, s', len, lo, rfl, qCi hI, hq, hs, bp, bq, br, bs, bl, fun y H1 s1 e1 => ?_⟩)
  refine (jD rfl (SqT.of (s1 _ _ h0)) qBv ⟨_, rfl, _, rfl, _, _, rfl, rfl, sL5, fun t ht => ?_⟩)
  have s2 := qH ht (.tup [.str "clip", .str n, .ref y, .ref z2, .int (hi - lo)])
  exact kk _ _ (s1.trans s2) ⟨t, y, z2, rfl, qF, s2 _ _ e1, s2 _ _ (s1 _ _ h2)⟩
def qDq (p q r s l N : Int) : Int := qAw (plP p q r s l * s) (1 * r * plQ p q r s l) (plQ p q r s l * s) N
def qD1 (p q r s N : Int) : Int := qAw (plP p q r s (-1) * s) (-1 * r * plQ p q r s (-1)) (plQ p q r s (-1) * s) N
structure Rc (n : Str) (p q r s l : Int) (rl : Rls) (N : Int) : Prop where
  g1 : Good 110 p q
  g2 : Good 110 r s
  bl : l.natAbs < 2 ^ 30
  l1 : 1 ≤ l
  rn : rl n = some N
  bN : N.natAbs < 2 ^ 700
theorem Rc.bn {n : Str} {p q r s l N : Int} {rl : Rls} (h : Rc n p q r s l rl N) : Bn 110 p q r s := ⟨h.g1.1, h.g2.1, h.g1.2.2.1, h.g1.2.2.2, h.g2.2.2.1, h.g2.2.2.2⟩
def qGo (b tl hd l l' : Int) : Int := if 0 < b then (if l' - 1 < tl then l' - 1 else tl) else (if hd < l - 1 then hd else l - 1)
def qBk (K : W.Frag) : Sp := fun vs H Q _ => ∃ (v u : V) (b : Int) (rd : Addr) (rl : Rls) (n n' : Str) (p q r s l N p' q' r' s' l' N' : Int), vs = [v, u, .int b, .ref rd] ∧ IsI H (.clip n p q r s l) v ∧ IsI H (.clip n' p' q' r' s' l') u ∧
  Rc n p q r s l rl N ∧ Rc n' p' q' r' s' l' rl N' ∧ ReelsAt H rd rl ∧ ∀ H', Same H H' → Q (.int (qGo b (qDq p q r s l N) (qD1 p' q' r' s' N') l l')) H'
theorem qA8 (T : Tx K mg a) : FnOk P w K mg base CX0 6 a.a_most_roll a.f_most_roll ["left", "right", "by", "reels"] (qBk K) := by
  refine T.d_most_roll.F.ok qBe (fun vs H Q E h => ?_) (fun cdv A outer s H vs Q E hr h => ?_)
  · obtain ⟨v, u, b, rd, rl, n, n', p, q, r, s, l, N, p', q', r', s', l', N', rfl, _⟩ := h
    rfl
  obtain ⟨v, u, b, rd, rl, n, n', p, q, r, s1, l, N, p', q', r', s2, l', N', rfl, hv, hu, c1, c2, hrl, kk⟩ := h
  refine ⟨_, (qE (qo (qN wB (pv 2) qB (qS _)) (qG (qR (qY (vd rfl) rfl T.b_min rfl (qA (qL T.d_tail_room (zR T) hr rfl (qA (pv 0) (qA (pv 3) qD))) (qA (qP jw (qM qK (pv 1) qB (fun _ _ => rfl)) qB) qD))))) qX)
      (qG (qR (qY (vd rfl) rfl T.b_min rfl (qA (qP jw (qM qK (pv 0) qB (fun _ _ => rfl)) qB) (qA (qL T.d_head_room (zX T) hr rfl (qA (pv 1) (qA (pv 3) qD))) qD)))))), ?_⟩
  try dsimp only [xJ, qk]
  unfold qGo at kk
  refine ⟨_, rfl, _, _, rfl, rfl, _, rfl, xG (fun c => ?_) (fun c => ?_)⟩
  · rw [if_pos (by simpa using c)] at kk
    obtain ⟨zu, xu, yu, rfl, hzu, _⟩ := id hu
    refine ⟨_, rfl, _, rfl, v, n, p, q, r, s1, l, N, rd, rfl, qCi hv, c1.g1, c1.g2, c1.bl, hrl _ _ c1.rn, c1.bN, fun H1 e1 => ?_⟩
    exact (jD rfl (SqT.of (e1 _ _ hzu)) qBr ⟨_, _, rfl, rfl, _, _, rfl, kk H1 e1⟩)
  · rw [if_neg (by simpa using c)] at kk
    obtain ⟨zv, xv, yv, rfl, hzv, _⟩ := id hv
    refine (jD rfl (SqT.of hzv) qBr ⟨_, _, rfl, rfl, ?_⟩)
    refine ⟨_, rfl, _, rfl, u, n', p', q', r', s2, l', N', rd, rfl, qCi hu, c2.g1, c2.g2, hrl _ _ c2.rn, c2.bN, fun H1 e1 => ?_⟩
    exact ⟨_, _, rfl, kk H1 e1⟩
theorem IsIs.set {H : Hp} : ∀ {ms : List Im} {vs : List V} {i : Nat} {m : Im} {v : V}, IsIs H ms vs → IsI H m v → IsIs H (ms.set i m) (vs.set i v)
  | [], [], _, _, _, _, _ => trivial
  | _ :: _, _ :: _, 0, _, _, h, h' => ⟨h', h.2⟩
  | _ :: _, _ :: _, _ + 1, _, _, h, h' => ⟨h.1, h.2.set h'⟩
  | [], _ :: _, _, _, _, h, _ => h.elim
  | _ :: _, [], _, _, _, h, _ => h.elim
theorem ww {n i : Nat} (h : i < n) : ixN n (i : Int) = some i := by
  unfold ixN
  rw [if_pos (by omega), if_pos (by omega)]
  congr 1
def qJm (ms : List Im) (i j : Nat) (b : Int) (n : Str) (p q r s l : Int) (n' : Str) (p' q' r' s' l' : Int) : List Im := (ms.set i (.clip n p q r s (l + b))).set j (.clip n' (plP p' q' r' s' b) (plQ p' q' r' s' b) r' s' (l' - b))
def zo (S : Addr) : Sp := fun vs H Q E => ∃ (z rd : Addr) (ms : List Im) (i j : Nat) (b : Int) (rl : Rls) (n n' : Str) (p q r s l N p' q' r' s' l' N' : Int), vs = [.ref z, .int (i : Int), .int (j : Int), .int b, .ref rd] ∧ Tr H z ms ∧ ms.length ≤ 300 ∧
  ms[i]? = some (.clip n p q r s l) ∧ ms[j]? = some (.clip n' p' q' r' s' l') ∧ Rc n p q r s l rl N ∧ Rc n' p' q' r' s' l' rl N' ∧ ReelsAt H rd rl ∧ b.natAbs ≤ 1000000 ∧
  (qF2 b ≤ qGo b (qDq p q r s l N) (qD1 p' q' r' s' N') l l' → ∀ (y : Addr) (H' : Hp), Same H H' → H y = none → Tr H' y (qJm ms i j b n p q r s l n' p' q' r' s' l') → Q (.ref y) H') ∧
  (¬ qF2 b ≤ qGo b (qDq p q r s l N) (qD1 p' q' r' s' N') l l' → ∀ (dx : Addr) (v : V) (H' : Hp), Same H H' → H' dx = some (.xd [("most", v)]) → E (.ref S) (some dx) H')
theorem zq (T : Tx K mg a) : FnOk P w K mg base (CXR P w) 7 a.a_with_rolled_ends a.f_with_rolled_ends ["track", "first", "last", "by", "reels"] (zo a.k_Short) := by
  refine okX T.d_with_rolled_ends.F sc_with_rolled_ends (fun vs H Q E h => ?_) (fun cdv A outer s H vs Q E hr h => ?_)
  · obtain ⟨z, rd, ms, i, j, b, rl, n, n', p, q, r, s, l, N, p', q', r', s', l', N', rfl, _⟩ := h
    rfl
  obtain ⟨z, rd, ms, i, j, b, rl, n, n', p, q, r, s1, l, N, p', q', r', s2, l', N', rfl, tT, hln, hi, hj, c1, c2, hrl, hb, kg, kb⟩ := h
  refine ⟨_, (qE (qW (i := 5) sc_with_rolled_ends.nd rfl (Or.inl rfl) (qM qc (pv 0) (pv 1) (fun _ _ => rfl)))
      (qE (qW (i := 6) sc_with_rolled_ends.nd rfl (Or.inl rfl) (qM qc (pv 0) (pv 2) (fun _ _ => rfl)))
      (qE (jx (zK T.d_check_short (zY T) hr rfl (qA (qL T.d_most_roll (qA8 T) hr rfl (qA (pv 5) (qA (pv 6) (qA (pv 3) (qA (pv 4) qD))))) (qA (pv 3) qD))))
      (qE (qW (i := 7) sc_with_rolled_ends.nd rfl (Or.inl rfl) (xc xl rfl T.b_list rfl (qA (pv 0) qD)))
      (qE (wI (qL T.d_clip_part (zQ T) hr rfl (qA (pv 5) (qA qB (qA (qP jF (qM qK (pv 5) qB (fun _ _ => rfl)) (pv 3)) qD)))) (qCw (pv 7) (pv 1) vE))
      (qE (wI (qL T.d_clip_part (zQ T) hr rfl (qA (pv 6) (qA (pv 3) (qA (qM qK (pv 6) qB (fun _ _ => rfl)) qD)))) (qCw (pv 7) (pv 2) vE))
      (qG (qR (pv 7))))))))), ?_⟩
  try dsimp only [xJ, qk]
  obtain ⟨vs, hz, his⟩ := id tT
  obtain ⟨va, hva, Ia⟩ := his.get' hi
  obtain ⟨vb, hvb, Ib⟩ := his.get' hj
  have hlv := his.len
  have li : i < vs.length := (glt hva)
  have lj : j < vs.length := (glt hvb)
  refine ⟨_, rfl, _, rfl, z, _, _, _, rfl, rfl, SqL.of hz, jc hva, ?_⟩
  refine ⟨_, rfl, _, rfl, z, _, _, _, rfl, rfl, SqL.of hz, jc hvb, ?_⟩
  refine ⟨_, rfl, _, rfl, _, rfl, _, rfl, va, vb, b, rd, rl, n, n', p, q, r, s1, l, N, p', q', r', s2, l', N', rfl, Ia, Ib, c1, c2, hrl, fun H1 e1 => ?_⟩
  refine ⟨_, rfl, _, b, rfl, fun hc => ?_, fun hc dx v H' e' hdx => kb hc dx v H' (e1.trans e') hdx⟩
  refine ⟨_, rfl, z, vs, rfl, .inl (SqL.of (e1 _ _ hz)), fun y hy => ?_⟩
  have w2 := qH hy (.lst vs)
  have e2 := e1.trans w2
  have hy0 : H y = none := by
    cases q0 : H y with
    | none => rfl
    | some o => rw [e1 _ _ q0] at hy; cases hy
  obtain ⟨za, xa, ya, rfl, hza, hxa, hya⟩ := id Ia
  have b1 := c1.bn.mono (m := 700)
  have b2 := c2.bn.mono (m := 700)
  have bb7 : b.natAbs < 2 ^ 700 := Nat.lt_of_le_of_lt hb (by decide)
  have hy2 : upd H1 y (.lst vs) y = some (.lst vs) := qF
  generalize upd H1 y (.lst vs) = H2 at w2 e2 hy2 ⊢
  refine ⟨_, rfl, jD rfl (SqT.of (e2 _ _ hza)) qBr ⟨_, rfl, _, _, rfl, rfl, _, n, p, q, r, s1, l, 0, _, rfl, Ia.ts (qi e2), b1, by decide, fun u H3 e3 I3 => ?_⟩⟩
  rw [(qFk c1.bn.q0 c1.bn.s0 c1.g1.2.1).1, (qFk c1.bn.q0 c1.bn.s0 c1.g1.2.1).2, Int.sub_zero] at I3
  refine ⟨_, rfl, _, rfl, y, vs, _, i, rfl, rfl, e3 _ _ hy2, ww li, ?_⟩
  have e4 : Same H (upd H3 y (.lst (vs.set i u))) := xH (e2.trans e3) hy0
  have t4 : TS H3 (upd H3 y (.lst (vs.set i u))) := zz (e3 _ _ hy2)
  have hy4 : upd H3 y (.lst (vs.set i u)) y = some (.lst (vs.set i u)) := qF
  have I4 := I3.ts t4
  have is4 := (his.ts (qi e4)).set (i := i) I4
  generalize upd H3 y (.lst (vs.set i u)) = H4 at e4 hy4 I4 is4 ⊢
  obtain ⟨zb, xb, yb, rfl, hzb, hxb, hyb⟩ := id Ib
  refine ⟨_, rfl, _, rfl, jD rfl (SqT.of (e4 _ _ hzb)) qBr ⟨_, n', p', q', r', s2, l', b, _, rfl, Ib.ts (qi e4), b2, bb7, fun u' H5 e5 I5 => ?_⟩⟩
  refine ⟨_, rfl, _, rfl, y, _, _, j, rfl, rfl, e5 _ _ hy4, ww (by rw [List.length_set]; exact lj), ?_⟩
  have e6 : Same H (upd H5 y (.lst ((vs.set i u).set j u'))) := xH (e4.trans e5) hy0
  have t6 : TS H5 (upd H5 y (.lst ((vs.set i u).set j u'))) := zz (e5 _ _ hy4)
  exact ⟨_, rfl, kg hc y _ e6 hy0 ⟨_, qF, ((is4.ts (qi e5)).ts t6).set (I5.ts t6)⟩⟩
structure NewTab (H H' : Hp) (t : Addr) (ts : List (List Im)) (tie : List Int) : Prop where
  ex : ∃ (tl ti : Addr) (zs : List V), H' t = some (.tup [.ref tl, .ref ti]) ∧ H' tl = some (.lst zs) ∧ TrsAt H' ts zs ∧ H' ti = some (.lst (tie.map V.int)) ∧ H tl = none ∧ H ti = none ∧ tl ≠ ti ∧ ∀ b, V.ref b ∈ zs → H b = none ∧ b ≠ tl ∧ b ≠ ti
theorem NewTab.tab {H H' : Hp} {t : Addr} {ts : List (List Im)} {tie : List Int} (h : NewTab H H' t ts tie) : TabF H' (.ref t) ts tie := let ⟨tl, ti, zs, h1, h2, h3, h4, _⟩ := h.ex; ⟨t, tl, ti, zs, rfl, h1, h2, h3, h4⟩
theorem TrsAt.set {H : Hp} : ∀ {ts : List (List Im)} {vs : List V} {i : Nat} {ms : List Im} {z : Addr}, TrsAt H ts vs → Tr H z ms → TrsAt H (ts.set i ms) (vs.set i (.ref z))
  | [], [], _, _, _, _, _ => trivial
  | _ :: _, _ :: _, 0, _, z, h, h' => ⟨⟨z, rfl, h'⟩, h.2⟩
  | _ :: _, _ :: _, _ + 1, _, _, h, h' => ⟨h.1, h.2.set h'⟩
  | [], _ :: _, _, _, _, h, _ => h.elim
  | _ :: _, [], _, _, _, h, _ => h.elim
theorem TrsAt.refs {H : Hp} : ∀ {ts : List (List Im)} {vs : List V} {b : Addr}, TrsAt H ts vs → V.ref b ∈ vs → ∃ xs, H b = some (.lst xs)
  | [], [], _, _, h => by simp at h
  | _ :: _, _ :: _, b, ⟨⟨z, h1, ⟨xs, h2, _⟩⟩, r⟩, h => by
    rcases List.mem_cons.mp h with h | h
    · rw [h1] at h
      cases h
      exact ⟨xs, h2⟩
    · exact TrsAt.refs r h
  | [], _ :: _, _, h, _ => h.elim
  | _ :: _, [], _, h, _ => h.elim
def qAa : Sp := fun vs H Q _ => ∃ (tz y : Addr) (n : Nat) (ts : List (List Im)) (tie : List Int) (ms : List Im), vs = [.ref tz, .int (n : Int), .ref y] ∧ TabF H (.ref tz) ts tie ∧ Tr H y ms ∧ n < ts.length ∧ ts.length ≤ 300 ∧
  ∀ (t : Addr) (H' : Hp), Same H H' → (∀ H0 : Hp, Same H0 H → H0 y = none → NewTab H0 H' t (ts.set n ms) tie) → Q (.ref t) H'
theorem kB (T : Tx K mg a) : FnOk P w K mg base CX0 1 a.a_table_with a.f_table_with ["table", "number", "track"] qAa := by
  refine T.d_table_with.F.ok sc_table_with (fun vs H Q E h => ?_) (fun cdv A outer s H vs Q E hr h => ?_)
  · obtain ⟨tz, y, n, ts, tie, ms, rfl, _⟩ := h
    rfl
  obtain ⟨tz, y, n, ts, tie, ms, rfl, ⟨tt, tl, ti, zs, e0, h2, h3, h4, h5⟩, hy, hn, hl, kk⟩ := h
  cases e0
  have hzl := h4.len
  refine ⟨_, (qE (qFc (i := 3) [] [] sc_table_with.nd rfl rfl rfl (zH (qM qK (pv 0) qB (fun _ _ => rfl))) (fun _ _ _ _ => (xc (kK (K := K) rfl) rfl T.b_list rfl (qA (pv 0) qD))))
      (qE (wI (pv 2) (qCw (pv 3) (pv 1) vE))
      (qG (qR (jB (qA (pv 3) (qA (xc xl rfl T.b_list rfl (qA (qM qK (pv 0) qB (fun _ _ => rfl)) qD)) qD))))))), ?_⟩
  try dsimp only [xJ, qk]
  refine (jD rfl (SqT.of h2) at0 ⟨tl, rfl, ⟨_, SqL.of h3⟩, zB (K := K) (a := tl) (xs := zs) (fun j acc H2 => TrsAt H2 (ts.take j) acc ∧ Same H H2 ∧ ∀ b, V.ref b ∈ acc → H b = none) ⟨trivial, Same.refl _, fun b z => absurd z (by simp)⟩ ?_ ?_ ?_⟩)
  · rintro j acc H2 hj ⟨ht, e2, _⟩
    exact ⟨SqL.of (e2 _ _ h3), qj (by rw [ht.len, List.length_take]; omega)⟩
  · rintro j x acc H2 hj hx ⟨ht, e2, fr⟩
    obtain ⟨ms1, z, hms, rfl, us, hz, his⟩ := h4.get hx
    refine ⟨_, rfl, z, us, rfl, .inl (SqL.of (e2 _ _ hz)), fun l hl' => Nxt.mk hj ⟨?_, e2.trans (qH hl' _), fun b hb => ?_⟩⟩
    · have w3 := qH hl' (.lst us)
      have etk : ts.take (j + 1) = ts.take j ++ [ms1] := by rw [List.take_add_one, hms]; rfl
      rw [etk]
      exact qB8 (ht.same w3) ⟨us, qF, his.ts (qi (e2.trans w3))⟩
    · rcases List.mem_append.mp hb with hb | hb
      · exact fr b hb
      · have : b = l := by simpa using hb
        subst this
        cases q0 : H b with
        | none => rfl
        | some o => rw [e2 _ _ q0] at hl'; cases hl'
  rintro acc H2 ⟨ht, e2, fr⟩ d hd
  rw [hzl, List.take_length] at ht
  have hal := ht.len
  have w3 := qH hd (.lst acc)
  have e3 := e2.trans w3
  have hd0 : H d = none := by
    cases q0 : H d with
    | none => rfl
    | some o => rw [e2 _ _ q0] at hd; cases hd
  refine ⟨_, rfl, _, rfl, _, rfl, d, acc, _, n, rfl, rfl, qF, ww (by rw [hal]; exact hn), ?_⟩
  have uu : upd (upd H2 d (.lst acc)) d (.lst (acc.set n (.ref y))) = upd H2 d (.lst (acc.set n (.ref y))) := by
    funext b
    by_cases hb : b = d
    · rw [hb, qF, qF]
    · rw [qV hb, qV hb, qV hb]
  rw [uu]
  have w4 := qH hd (.lst (acc.set n (.ref y)))
  have e4 := e2.trans w4
  have hd4 : upd H2 d (.lst (acc.set n (.ref y))) d = some (.lst (acc.set n (.ref y))) := qF
  have ht4 : TrsAt (upd H2 d (.lst (acc.set n (.ref y)))) (ts.set n ms) (acc.set n (.ref y)) := (ht.same w4).set (hy.same e4)
  have nd : ∀ b, V.ref b ∈ acc → b ≠ d := fun b hb z => by
    obtain ⟨xs, q0⟩ := ht.refs hb
    rw [z, hd] at q0; cases q0
  have ny : y ≠ d := fun z => by
    obtain ⟨us, q0, _⟩ := id hy
    rw [z, hd0] at q0; cases q0
  generalize upd H2 d (.lst (acc.set n (.ref y))) = H4 at w4 e4 hd4 ht4 ⊢
  refine ⟨_, rfl, jD rfl (SqT.of (e4 _ _ h2)) at1 ⟨ti, _, rfl, .inl (SqL.of (e4 _ _ h5)), fun l hl' => ?_⟩⟩
  have w5 := qH hl' (.lst (tie.map V.int))
  have e5 := e4.trans w5
  refine ⟨sL2, fun t ht' => ?_⟩
  have w6 := qH ht' (.tup [.ref d, .ref l])
  refine kk t _ (e5.trans w6) fun H0 s0 y0 => ?_
  have back : ∀ b, H b = none → H0 b = none := fun b hb => by
    cases q0 : H0 b with
    | none => rfl
    | some o => rw [s0 _ _ q0] at hb; cases hb
  have hl0 : H l = none := by
    cases q0 : H l with
    | none => rfl
    | some o => rw [e4 _ _ q0] at hl'; cases hl'
  have dl : d ≠ l := fun z => by rw [← z, hd4] at hl'; cases hl'
  refine ⟨d, l, _, qF, w6 _ _ (w5 _ _ hd4), (ht4.same w5).same w6, w6 _ _ qF, back _ hd0, back _ hl0, dl, fun b hb => ?_⟩
  obtain ⟨xs, q0⟩ := ht4.refs hb
  have bl : b ≠ l := fun z => by rw [z, hl'] at q0; cases q0
  rcases List.mem_or_eq_of_mem_set hb with hb | hb
  · exact ⟨back _ (fr b hb), nd b hb, bl⟩
  · cases hb
    exact ⟨y0, ny, bl⟩
theorem wl {x0 x1 x2 x3 : V} : atI [x0, x1, x2, x3] 0 = some x0 := rfl
theorem qFv {x0 x1 x2 x3 : V} : atI [x0, x1, x2, x3] 1 = some x1 := rfl
theorem qFq {x0 x1 x2 x3 : V} : atI [x0, x1, x2, x3] 2 = some x2 := rfl
theorem qHz {x0 x1 x2 x3 : V} : atI [x0, x1, x2, x3] 3 = some x3 := rfl
theorem qGd {x0 : V} : atI [x0] 0 = some x0 := rfl
def vt : Sp := fun vs H Q _ => ∃ (z : Addr) (ms : List Im) (i : Int), vs = [.ref z, .int i] ∧ Tr H z ms ∧ Q (.int (if qh ms (i + 1) = "mix" then i + 2 else i + 1)) H
theorem vv (T : Tx K mg a) : FnOk P w K mg base CX0 2 a.a_place_behind a.f_place_behind ["track", "place"] vt := by
  refine T.d_place_behind.F.ok vT (fun vs H Q E h => ?_) (fun cdv A outer s H vs Q E hr h => ?_)
  · obtain ⟨z, ms, i, rfl, _⟩ := h
    rfl
  obtain ⟨z, ms, i, rfl, tT, q⟩ := h
  refine ⟨_, (qG (qR (kD (qN jv (qL T.d_kind_at (jV T) hr rfl (qA (pv 0) (qA (qP jF (pv 1) qB) qD))) qU (qS _)) (qP jF (pv 1) qB) (qP jF (pv 1) qB)))), ?_⟩
  try dsimp only [xJ, qk]
  refine ⟨_, rfl, _, rfl, _, _, rfl, rfl, z, ms, _, rfl, tT, rfl, _, rfl, xG (fun c => ?_) (fun c => ?_)⟩
  · rw [if_pos (by simpa using c)] at q
    exact ⟨_, rfl, _, _, rfl, rfl, q⟩
  · rw [if_neg (by simpa using c)] at q
    exact ⟨_, rfl, _, _, rfl, rfl, q⟩
def qAs (K : W.Frag) : Sp := fun vs H Q _ => ∃ (v : V) (b : Int) (rd : Addr) (rl : Rls) (n : Str) (p q r s l N : Int), vs = [v, .int b, .ref rd] ∧ IsI H (.clip n p q r s l) v ∧ Rc n p q r s l rl N ∧ ReelsAt H rd rl ∧ ∀ H', Same H H' → Q (.int (if 0 < b then qDq p q r s l N else qD1 p q r s N)) H'
theorem qA9 (T : Tx K mg a) : FnOk P w K mg base CX0 6 a.a_most_slip a.f_most_slip ["clip", "by", "reels"] (qAs K) := by
  refine T.d_most_slip.F.ok qA5 (fun vs H Q E h => ?_) (fun cdv A outer s H vs Q E hr h => ?_)
  · obtain ⟨v, b, rd, rl, n, p, q, r, s, l, N, rfl, _⟩ := h
    rfl
  obtain ⟨v, b, rd, rl, n, p, q, r, s1, l, N, rfl, hv, c1, hrl, kk⟩ := h
  refine ⟨_, (qG (qR (kD (qN wB (pv 1) qB (qS _)) (qL T.d_tail_room (zR T) hr rfl (qA (pv 0) (qA (pv 2) qD))) (qL T.d_head_room (zX T) hr rfl (qA (pv 0) (qA (pv 2) qD)))))), ?_⟩
  try dsimp only [xJ, qk]
  refine ⟨_, rfl, _, _, rfl, rfl, _, rfl, xG (fun c => ?_) (fun c => ?_)⟩
  · refine ⟨_, rfl, _, rfl, v, n, p, q, r, s1, l, N, rd, rfl, qCi hv, c1.g1, c1.g2, c1.bl, hrl _ _ c1.rn, c1.bN, fun H1 e1 => ?_⟩
    have := kk H1 e1
    rw [if_pos (by simpa using c)] at this
    exact this
  · refine ⟨_, rfl, _, rfl, v, n, p, q, r, s1, l, N, rd, rfl, qCi hv, c1.g1, c1.g2, hrl _ _ c1.rn, c1.bN, fun H1 e1 => ?_⟩
    have := kk H1 e1
    rw [if_neg (by simpa using c)] at this
    exact this
def qCk (S : Addr) : Sp := fun vs H Q E => ∃ (z rd : Addr) (ms : List Im) (i : Nat) (b : Int) (rl : Rls) (n : Str) (p q r s l N : Int), vs = [.ref z, .int (i : Int), .int b, .ref rd] ∧ Tr H z ms ∧ ms.length ≤ 300 ∧
  ms[i]? = some (.clip n p q r s l) ∧ Rc n p q r s l rl N ∧ ReelsAt H rd rl ∧ b.natAbs ≤ 1000000 ∧
  (qF2 b ≤ (if 0 < b then qDq p q r s l N else qD1 p q r s N) → ∀ (y : Addr) (H' : Hp), Same H H' → H y = none → Tr H' y (ms.set i (.clip n (plP p q r s b) (plQ p q r s b) r s l)) → Q (.ref y) H') ∧
  (¬ qF2 b ≤ (if 0 < b then qDq p q r s l N else qD1 p q r s N) → ∀ (dx : Addr) (v : V) (H' : Hp), Same H H' → H' dx = some (.xd [("most", v)]) → E (.ref S) (some dx) H')
theorem qCo (T : Tx K mg a) : FnOk P w K mg base (CXR P w) 7 a.a_slipped a.f_slipped ["track", "place", "by", "reels"] (qCk a.k_Short) := by
  refine okX T.d_slipped.F sc_slipped (fun vs H Q E h => ?_) (fun cdv A outer s H vs Q E hr h => ?_)
  · obtain ⟨z, rd, ms, i, b, rl, n, p, q, r, s, l, N, rfl, _⟩ := h
    rfl
  obtain ⟨z, rd, ms, i, b, rl, n, p, q, r, s1, l, N, rfl, tT, hln, hi, c1, hrl, hb, kg, kb⟩ := h
  refine ⟨_, (qE (qW (i := 4) sc_slipped.nd rfl (Or.inl rfl) (qM qc (pv 0) (pv 1) (fun _ _ => rfl)))
      (qE (jx (zK T.d_check_short (zY T) hr rfl (qA (qL T.d_most_slip (qA9 T) hr rfl (qA (pv 4) (qA (pv 2) (qA (pv 3) qD)))) (qA (pv 2) qD))))
      (qE (qW (i := 5) sc_slipped.nd rfl (Or.inl rfl) (xc xl rfl T.b_list rfl (qA (pv 0) qD)))
      (qE (wI (qL T.d_clip_part (zQ T) hr rfl (qA (pv 4) (qA (pv 2) (qA (qP jF (pv 2) (qM qK (pv 4) qB (fun _ _ => rfl))) qD)))) (qCw (pv 5) (pv 1) vE))
      (qG (qR (pv 5))))))), ?_⟩
  try dsimp only [xJ, qk]
  obtain ⟨vs, hz, his⟩ := id tT
  obtain ⟨va, hva, Ia⟩ := his.get' hi
  have hlv := his.len
  have li : i < vs.length := (glt hva)
  refine ⟨_, rfl, _, rfl, z, _, _, _, rfl, rfl, SqL.of hz, jc hva, ?_⟩
  refine ⟨_, rfl, _, rfl, _, rfl, va, b, rd, rl, n, p, q, r, s1, l, N, rfl, Ia, c1, hrl, fun H1 e1 => ?_⟩
  refine ⟨_, rfl, _, b, rfl, fun hc => ?_, fun hc dx v H' e' hdx => kb hc dx v H' (e1.trans e') hdx⟩
  refine ⟨_, rfl, z, vs, rfl, .inl (SqL.of (e1 _ _ hz)), fun y hy => ?_⟩
  have w2 := qH hy (.lst vs)
  have e2 := e1.trans w2
  have hy0 : H y = none := e1.free hy
  obtain ⟨za, xa, ya, rfl, hza, hxa, hya⟩ := id Ia
  have b1 := c1.bn.mono (m := 700)
  have bb7 : b.natAbs < 2 ^ 700 := Nat.lt_of_le_of_lt hb (by decide)
  have hy2 : upd H1 y (.lst vs) y = some (.lst vs) := qF
  generalize upd H1 y (.lst vs) = H2 at w2 e2 hy2 ⊢
  refine ⟨_, rfl, _, rfl, _, rfl, jD rfl (SqT.of (e2 _ _ hza)) qBr ⟨_, _, rfl, rfl, _, n, p, q, r, s1, l, b, _, rfl, Ia.ts (qi e2), b1, bb7, fun u H3 e3 I3 => ?_⟩⟩
  rw [show b + l - b = l by omega] at I3
  refine ⟨_, rfl, _, rfl, y, vs, _, i, rfl, rfl, e3 _ _ hy2, ww li, ?_⟩
  have e4 : Same H (upd H3 y (.lst (vs.set i u))) := xH (e2.trans e3) hy0
  have t4 : TS H3 (upd H3 y (.lst (vs.set i u))) := zz (e3 _ _ hy2)
  exact ⟨_, rfl, kg hc y _ e4 hy0 ⟨_, qF, (his.ts (qi e4)).set (i := i) (I3.ts t4)⟩⟩
theorem two : (2 : Nat) ≤ sizeLine := by decide
def Pos (ms : List Im) : Prop := ∀ m ∈ ms, 0 < m.mo ∧ m.wd ≠ "mix"
theorem qBs : (3 : Nat) ≤ sizeLine := by decide
theorem qJn : (4 : Nat) ≤ sizeLine := by decide
theorem qK1 : (1 : Nat) ≤ sizeLine := by decide
def paF (ms : List Im) (i : Int) : Int := if qh ms (i - 1) = "mix" then i - 2 else i - 1
def pbF (ms : List Im) (i : Int) : Int := if qh ms (i + 1) = "mix" then i + 2 else i + 1
def ctF (ms : List Im) (t : Int) : Option Nat := match zJ 0 0 ms t with
  | some (i, _) => if qh ms (i : Int) = "clip" then some i else none
  | none => none
def csF (ms : List Im) (t : Int) : Option (List Int) := match ctF ms t with
  | some i => if qh ms (paF ms i) = "clip" ∧ qh ms (pbF ms i) = "clip" then some [paF ms i, (i : Int), pbF ms i] else none
  | none => none
def qJ4 (H : Hp) (Q : VK) (r : Option (List Int)) : Prop := match r with
  | none => ∀ H', Same H H' → Q .non H'
  | some is => ∀ (p : Addr) (H' : Hp), Same H H' → H' p = some (.tup (is.map V.int)) → Q (.ref p) H'
def plF (wd : Str) (ms : List Im) (t : Int) : Option (List Int) := if wd = "roll" then (cbF ms t).map (fun p => [p.1, p.2]) else if wd = "slip" then (ctF ms t).map (fun i => [(i : Int)]) else csF ms t
def wX : Sp := fun vs H Q _ => ∃ (z : Addr) (ms : List Im) (t : Int), vs = [.ref z, .int t] ∧ Tr H z ms ∧ qJ4 H Q ((ctF ms t).map fun i => [(i : Int)])
theorem kI (T : Tx K mg a) : FnOk P w K mg base CX0 4 a.a_clip_there a.f_clip_there ["track", "moment"] wX := by
  refine T.d_clip_there.F.ok sc_clip_there (fun vs H Q E h => ?_) (fun cdv A outer s H vs Q E hr h => ?_)
  · obtain ⟨z, ms, t, rfl, _⟩ := h
    rfl
  obtain ⟨z, ms, t, rfl, tT, kk⟩ := h
  refine ⟨_, (qE (qW (i := 2) sc_clip_there.nd rfl (Or.inl rfl) (qL T.d_item_at (wH T) hr rfl (qA (pv 0) (qA (pv 1) qD))))
      (qE (qo (PW.pt (zP (wK (wJ (pv 2))) (zL (qN kr (qL T.d_kind_at (jV T) hr rfl (qA (pv 0) (qA (qM qK (pv 2) qB (fun _ _ => rfl)) qD))) qU (qS _))))) (qG (qR xy)) qX)
      (qG (qR (jB (qA (qM qK (pv 2) qB (fun _ _ => rfl)) qD)))))), ?_⟩
  try dsimp only [xJ, qk]
  refine ⟨_, rfl, _, rfl, z, ms, _, rfl, tT, ?_⟩
  unfold ctF at kk
  cases hit : zJ 0 0 ms t with
  | none =>
    rw [hit] at kk
    intro H1 e1
    exact ⟨_, rfl, _, rfl, qEj (by decide) (ju (kk H1 e1))⟩
  | some r =>
    obtain ⟨i, d⟩ := r
    rw [hit] at kk
    dsimp only at kk
    intro p H1 e1 hp
    refine ⟨_, rfl, _, rfl, xG (fun c => absurd c (by simp)) (fun _ => ?_)⟩
    refine ⟨_, rfl, jD rfl (SqT.of hp) at0 ⟨z, ms, _, rfl, tT.same e1, rfl, _, rfl, xG (fun c => ?_) (fun c => ?_)⟩⟩
    · have hk : ¬ qh ms (i : Int) = "clip" := by simpa using c
      rw [if_neg hk] at kk
      exact kk H1 e1
    · have hk : qh ms (i : Int) = "clip" := by simpa using c
      rw [if_pos hk] at kk
      refine (jD rfl (SqT.of hp) at0 ⟨sL1, fun q hq => ?_⟩)
      exact kk q _ (e1.trans (qH hq _)) qF
def kc : Sp := fun vs H Q _ => ∃ (z : Addr) (ms : List Im) (t : Int), vs = [.ref z, .int t] ∧ Tr H z ms ∧ qJ4 H Q (csF ms t)
theorem kX (T : Tx K mg a) : FnOk P w K mg base CX0 5 a.a_clip_and_sides a.f_clip_and_sides ["track", "moment"] kc := by
  refine T.d_clip_and_sides.F.ok sc_clip_and_sides (fun vs H Q E h => ?_) (fun cdv A outer s H vs Q E hr h => ?_)
  · obtain ⟨z, ms, t, rfl, _⟩ := h
    rfl
  obtain ⟨z, ms, t, rfl, tT, kk⟩ := h
  refine ⟨_, (qE (qW (i := 2) sc_clip_and_sides.nd rfl (Or.inl rfl) (qL T.d_clip_there (kI T) hr rfl (qA (pv 0) (qA (pv 1) qD))))
      (qE (qo (wK (wJ (pv 2))) (qG (qR xy)) qX)
      (qE (qW (i := 3) sc_clip_and_sides.nd rfl (Or.inl rfl) (qL T.d_place_ahead (zx T) hr rfl (qA (pv 0) (qA (qM qK (pv 2) qB (fun _ _ => rfl)) qD))))
      (qE (qW (i := 4) sc_clip_and_sides.nd rfl (Or.inl rfl) (qL T.d_place_behind (vv T) hr rfl (qA (pv 0) (qA (qM qK (pv 2) qB (fun _ _ => rfl)) qD))))
      (qE (qo (PW.pt (zP (qN kr (qL T.d_kind_at (jV T) hr rfl (qA (pv 0) (qA (pv 3) qD))) qU (qS _)) (zL (qN kr (qL T.d_kind_at (jV T) hr rfl (qA (pv 0) (qA (pv 4) qD))) qU (qS _))))) (qG (qR xy)) qX)
      (qG (qR (jB (qA (pv 3) (qA (qM qK (pv 2) qB (fun _ _ => rfl)) (qA (pv 4) qD))))))))))), ?_⟩
  try dsimp only [xJ, qk]
  refine ⟨_, rfl, _, rfl, z, ms, _, rfl, tT, ?_⟩
  unfold csF at kk
  cases hc : ctF ms t with
  | none =>
    rw [hc] at kk
    intro H1 e1
    exact ⟨_, rfl, _, rfl, qEj (by decide) (kk H1 e1)⟩
  | some i =>
    rw [hc] at kk
    dsimp only at kk
    unfold paF pbF at kk
    intro p H1 e1 hp1
    refine ⟨_, rfl, _, rfl, xG (fun c => absurd c (by simp)) (fun _ => ?_)⟩
    refine ⟨_, rfl, jD rfl (SqT.of hp1) qGd ⟨z, ms, _, rfl, tT.same e1, ?_⟩⟩
    refine ⟨_, rfl, jD rfl (SqT.of hp1) qGd ⟨z, ms, _, rfl, tT.same e1, ?_⟩⟩
    generalize (if qh ms ((i : Int) - 1) = "mix" then (i : Int) - 2 else (i : Int) - 1) = L at kk ⊢
    generalize (if qh ms ((i : Int) + 1) = "mix" then (i : Int) + 2 else (i : Int) + 1) = R at kk ⊢
    refine ⟨_, rfl, _, rfl, z, ms, _, rfl, tT.same e1, rfl, _, rfl, xG (fun c => ?_) (fun c => ?_)⟩
    · have hk : ¬ qh ms L = "clip" := by simpa using c
      rw [if_neg (fun z => hk z.1)] at kk
      exact ju (kk H1 e1)
    have hk1 : qh ms L = "clip" := by simpa using c
    refine ⟨_, rfl, _, rfl, z, ms, _, rfl, tT.same e1, rfl, _, rfl, xG (fun c => ?_) (fun c => ?_)⟩
    · have hk : ¬ qh ms R = "clip" := by simpa using c
      rw [if_neg (fun z => hk z.2)] at kk
      exact kk H1 e1
    have hk2 : qh ms R = "clip" := by simpa using c
    rw [if_pos ⟨hk1, hk2⟩] at kk
    refine ⟨_, rfl, jD rfl (SqT.of hp1) qGd ⟨_, rfl, sL3, fun q hq => ?_⟩⟩
    exact kk q _ (e1.trans (qH hq _)) qF
def Wd3 (wd : Str) : Prop := wd = "roll" ∨ wd = "slip" ∨ wd = "slide"
def vM : Sp := fun vs H Q _ => ∃ (z dz : Addr) (ms : List Im) (n b : V) (t : Int) (wd : Str), vs = [.ref z, .ref dz] ∧ Tr H z ms ∧ H dz = some (.tup [.str wd, n, .int t, b]) ∧ Wd3 wd ∧ qJ4 H Q (plF wd ms t)
theorem vJ (T : Tx K mg a) : FnOk P w K mg base CX0 6 a.a_places_named a.f_places_named ["track", "deed"] vM := by
  refine T.d_places_named.F.ok vH (fun vs H Q E h => ?_) (fun cdv A outer s H vs Q E hr h => ?_)
  · obtain ⟨z, dz, ms, n, b, t, wd, rfl, _⟩ := h
    rfl
  obtain ⟨z, dz, ms, n, b, t, wd, rfl, tT, hd, hw, kk⟩ := h
  refine ⟨_, (qE (qo (qN jv (qM qK (pv 1) qB (fun _ _ => rfl)) qU (qS _)) (qG (qR (qL T.d_clips_at_border (kO T) hr rfl (qA (pv 0) (qA (qM qK (pv 1) qB (fun _ _ => rfl)) qD))))) qX)
      (qE (qo (qN jv (qM qK (pv 1) qB (fun _ _ => rfl)) qU (qS _)) (qG (qR (qL T.d_clip_there (kI T) hr rfl (qA (pv 0) (qA (qM qK (pv 1) qB (fun _ _ => rfl)) qD))))) qX)
      (qE (qo (qN jv (qM qK (pv 1) qB (fun _ _ => rfl)) qU (qS _)) (qG (qR (qL T.d_clip_and_sides (kX T) hr rfl (qA (pv 0) (qA (qM qK (pv 1) qB (fun _ _ => rfl)) qD))))) qX)
      (qG (qR xy))))), ?_⟩
  try dsimp only [xJ, qk]
  unfold plF at kk
  rcases hw with rfl | rfl | rfl
  · rw [if_pos rfl] at kk
    refine (jD rfl (SqT.of hd) wl ⟨rfl, _, rfl, ju ?_⟩)
    refine ⟨_, rfl, jD rfl (SqT.of hd) qFq ⟨z, ms, t, rfl, tT, ?_⟩⟩
    cases hc : cbF ms t with
    | none => rw [hc] at kk; exact kk
    | some r => obtain ⟨i, j⟩ := r; rw [hc] at kk; exact kk
  · rw [if_neg (by decide +kernel), if_pos rfl] at kk
    refine (jD rfl (SqT.of hd) wl ⟨rfl, _, rfl, xq ?_⟩)
    refine (jD rfl (SqT.of hd) wl ⟨rfl, _, rfl, ju ?_⟩)
    exact ⟨_, rfl, jD rfl (SqT.of hd) qFq ⟨z, ms, t, rfl, tT, kk⟩⟩
  · rw [if_neg (by decide +kernel), if_neg (by decide +kernel)] at kk
    refine (jD rfl (SqT.of hd) wl ⟨rfl, _, rfl, xq ?_⟩)
    refine (jD rfl (SqT.of hd) wl ⟨rfl, _, rfl, xq ?_⟩)
    refine (jD rfl (SqT.of hd) wl ⟨rfl, _, rfl, ju ?_⟩)
    exact ⟨_, rfl, jD rfl (SqT.of hd) qFq ⟨z, ms, t, rfl, tT, kk⟩⟩
def mxF (ms : List Im) : Option (List Int) → Nat
  | none => 0
  | some is => if is.any (hmB ms) = true then 1 else 2
def qBm (ts : List (List Im)) (wd : Str) (n t b : Option Int) : Nat := match n, t, b with
  | some n, some t, some b => if qB9 ts.length (some n) (some t) = true ∧ byB (some b) = true then mxF (ts.getD n.toNat []) (plF wd (ts.getD n.toNat []) t) else 0
  | _, _, _ => 0
theorem qJt {ts : List (List Im)} {wd : Str} {n t b : Option Int} (h : (qB9 ts.length n t && byB b) = false) : qBm ts wd n t b = 0 := by
  unfold qBm
  cases n with
  | none => rfl
  | some n =>
    cases t with
    | none => rfl
    | some t =>
      cases b with
      | none => rfl
      | some b =>
        dsimp only
        rw [if_neg]
        intro z
        rw [z.1, z.2] at h
        cases h
theorem vP {ms : List Im} {x : Int} (h : qh ms x = "clip") : ∃ (i : Nat) (n : Str) (p q r s l : Int), x = (i : Int) ∧ ms[i]? = some (.clip n p q r s l) := by
  unfold qh at h
  split at h
  · exact absurd h (by decide +kernel)
  · rename_i h0
    cases hm : ms[x.toNat]? with
    | none => rw [hm] at h; exact absurd h (by decide +kernel)
    | some m =>
      rw [hm] at h
      dsimp only at h
      cases m with
      | clip n p q r s l => exact ⟨x.toNat, n, p, q, r, s, l, by omega, hm⟩
      | gap => exact absurd (show ("gap" : Str) = "clip" from h) (by decide +kernel)
      | nest => exact absurd (show ("nest" : Str) = "clip" from h) (by decide +kernel)
      | mix => exact absurd (show ("mix" : Str) = "clip" from h) (by decide +kernel)
theorem qGr {wd : Str} {ms : List Im} {t : Int} {is : List Int} (hw : Wd3 wd) (h : plF wd ms t = some is) : (wd = "slip" ∧ ∃ x, is = [x] ∧ qh ms x = "clip") ∨ (wd ≠ "slip" ∧ is.length ≤ 3 ∧ ∃ x y, atI (is.map V.int) 0 = some (.int x) ∧ atI (is.map V.int) (-1) = some (.int y) ∧ qh ms x = "clip" ∧ qh ms y = "clip") := by
  unfold plF at h
  rcases hw with rfl | rfl | rfl
  · rw [if_pos rfl] at h
    refine .inr ⟨by decide +kernel, ?_⟩
    unfold cbF at h
    cases hn : nbF ms t with
    | none => rw [hn] at h; cases h
    | some r =>
      obtain ⟨i, j⟩ := r
      rw [hn] at h
      dsimp only at h
      split at h
      · rename_i c
        cases h
        exact ⟨by show 2 ≤ 3; decide, i, j, rfl, rfl, c.1, c.2⟩
      · cases h
  · rw [if_neg (by decide +kernel), if_pos rfl] at h
    refine .inl ⟨rfl, ?_⟩
    unfold ctF at h
    cases hn : zJ 0 0 ms t with
    | none => rw [hn] at h; cases h
    | some r =>
      obtain ⟨i, d⟩ := r
      rw [hn] at h
      dsimp only at h
      split at h
      · rename_i c
        cases h
        exact ⟨_, rfl, c⟩
      · cases h
  · rw [if_neg (by decide +kernel), if_neg (by decide +kernel)] at h
    refine .inr ⟨by decide +kernel, ?_⟩
    unfold csF at h
    cases hn : ctF ms t with
    | none => rw [hn] at h; cases h
    | some i =>
      rw [hn] at h
      dsimp only at h
      split at h
      · rename_i c
        cases h
        exact ⟨by show 3 ≤ 3; decide, _, _, rfl, rfl, c.1, c.2⟩
      · cases h
def ItR (rl : Rls) (m : Im) : Prop := ∀ n p q r s l, m = .clip n p q r s l → ∃ N, Rc n p q r s l rl N
structure RollIn (H : Hp) (tz dz rd : Addr) (ts : List (List Im)) (tie : List Int) (wd : Str) (n t b : V) (on ot ob : Option Int) (rl : Rls) : Prop where
  tab : TabF H (.ref tz) ts tie
  deed : H dz = some (.tup [.str wd, n, t, b])
  hn : Nu H n on
  ht : Nu H t ot
  hb : Nu H b ob
  w3 : Wd3 wd
  tl : ts.length ≤ 300
  it : ∀ ms ∈ ts, ms.length ≤ 300 ∧ ∀ m ∈ ms, ItR rl m
  re : ReelsAt H rd rl
theorem RollIn.same {H H' : Hp} (e : Same H H') {tz dz rd : Addr} {ts : List (List Im)} {tie : List Int} {wd : Str} {n t b : V} {on ot ob : Option Int} {rl : Rls} (h : RollIn H tz dz rd ts tie wd n t b on ot ob rl) : RollIn H' tz dz rd ts tie wd n t b on ot ob rl :=
  ⟨h.tab.same e, e _ _ h.deed, h.hn.same e, h.ht.same e, h.hb.same e, h.w3, h.tl, h.it, h.re.same e⟩
def kZ (N M S : Addr) : Sp := fun vs H Q E => ∃ (tz dz rd : Addr) (ts : List (List Im)) (tie : List Int) (wd : Str) (n t b : V) (on ot ob : Option Int) (rl : Rls), vs = [.ref tz, .ref dz, .ref rd] ∧ RollIn H tz dz rd ts tie wd n t b on ot ob rl ∧
  (qBm ts wd on ot ob = 0 → ∀ H', Same H H' → E (.ref N) none H') ∧ (qBm ts wd on ot ob = 1 → ∀ H', Same H H' → E (.ref M) none H') ∧
  (qBm ts wd on ot ob = 2 → (∀ (y : Addr) (H' : Hp), Same H H' → Q (.ref y) H') ∧ ∀ (dx : Addr) (v : V) (H' : Hp), Same H H' → H' dx = some (.xd [("most", v)]) → E (.ref S) (some dx) H')
theorem kf {N M S : Addr} {vs : List V} {H : Hp} {Q : VK} {E : XK} (h : kZ N M S vs H Q E) : vs.length = 3 := by
  obtain ⟨tz, dz, rd, ts, tie, wd, n, t, b, on, ot, ob, rl, rfl, _⟩ := h
  rfl
theorem wE (T : Tx K mg a) : FnOk P w K mg base (CXR P w) 8 a.a_rolled a.f_rolled ["table", "deed", "reels"] (kZ a.k_NoPlace a.k_Mixed a.k_Short) := by
  refine okX T.d_rolled.F sc_rolled (fun vs H Q E h => kf h) (fun cdv A outer s H vs Q E hr h => ?_)
  obtain ⟨tz, dz, rd, ts, tie, wd, n, t, b, on, ot, ob, rl, rfl, hI, k0, k1, k2⟩ := h
  refine ⟨_, (qE (jx (zK T.d_check_place (vU T) hr rfl (qA (pv 0) (qA (qM qK (pv 1) qB (fun _ _ => rfl)) (qA (qM qK (pv 1) qB (fun _ _ => rfl)) qD)))))
      (qE (jx (zK T.d_check_by (qBf T) hr rfl (qA (qM qK (pv 1) qB (fun _ _ => rfl)) qD)))
      (qE (qW (i := 3) sc_rolled.nd rfl (Or.inr rfl) (qM qc (qM qK (pv 0) qB (fun _ _ => rfl)) (qM qK (pv 1) qB (fun _ _ => rfl)) (fun _ _ => rfl)))
      (qE (qW (i := 4) sc_rolled.nd rfl (Or.inl rfl) (qL T.d_places_named (vJ T) hr rfl (qA (pv 3) (qA (pv 1) qD))))
      (qE (qo (wK (wJ (pv 4))) (qG (kH rfl rfl T.c_NoPlace T.x_NoPlace (qA qU qD))) qX)
      (qE (qo (zN (qY (qFm rfl) rfl T.b_any rfl (qA (kW ["track"] [3] rfl (qIk (pv 4)) (fun _ _ _ _ => (qL T.d_has_mix (qDi T) hr rfl (qA (pv 1) (qA (pv 0) qD))))) qD))) (qG (kH rfl rfl T.c_Mixed T.x_Mixed (qA qU qD))) qX)
      (qE (qo (qN jv (qM qK (pv 1) qB (fun _ _ => rfl)) qU (qS _)) (qG (qR (qL T.d_table_with (kB T) hr rfl (qA (pv 0) (qA (qM qK (pv 1) qB (fun _ _ => rfl)) (qA (zK T.d_slipped (qCo T) hr rfl (qA (pv 3) (qA (qM qK (pv 4) qB (fun _ _ => rfl)) (qA (qM qK (pv 1) qB (fun _ _ => rfl)) (qA (pv 2) qD))))) qD)))))) qX)
      (qG (qR (qL T.d_table_with (kB T) hr rfl (qA (pv 0) (qA (qM qK (pv 1) qB (fun _ _ => rfl)) (qA (zK T.d_with_rolled_ends (zq T) hr rfl (qA (pv 3) (qA (qM qK (pv 4) qB (fun _ _ => rfl)) (qA (qM qK (pv 4) (z9 xf qB) (fun _ _ => rfl)) (qA (qM qK (pv 1) qB (fun _ _ => rfl)) (qA (pv 2) qD)))))) qD))))))))))))), ?_⟩
  try dsimp only [xJ, qk]
  have one : (1 : Nat) ≤ sizeLine := by decide
  obtain ⟨tt, tl, ti, zs, e0, g2, g3, g4, g5⟩ := id hI.tab
  cases e0
  have hzl := g4.len
  have hd := hI.deed
  refine ⟨_, rfl, jD rfl (SqT.of hd) qFv (jD rfl (SqT.of hd) qFq ⟨tz, tl, ti, zs, n, t, on, ot, rfl, g2, g3, hI.hn, hI.ht, fun hf => ?_, fun hp1 => ?_⟩)⟩
  · rw [hzl] at hf
    exact k0 (qJt (by rw [hf]; rfl)) H (Same.refl _)
  refine (jD rfl (SqT.of hd) qHz ⟨b, ob, rfl, hI.hb, fun hf => ?_, fun hp2 => ?_⟩)
  · exact k0 (qJt (by rw [hf, Bool.and_false])) H (Same.refl _)
  rw [hzl] at hp1
  obtain ⟨_, _, hn, ht, hb, hw, htl, hit, hre⟩ := id hI
  clear hn ht hb
  have hn := hI.hn
  have ht := hI.ht
  have hb := hI.hb
  clear hI
  cases hn with
  | no h => unfold qB9 at hp1; cases ot <;> cases hp1
  | int n =>
  cases ht with
  | no h => cases hp1
  | int t =>
  cases hb with
  | no h => cases hp2
  | int b =>
  have ho : qBm ts wd (some n) (some t) (some b) = mxF (ts.getD n.toNat []) (plF wd (ts.getD n.toNat []) t) := by
    unfold qBm
    dsimp only
    rw [if_pos ⟨hp1, hp2⟩]
  rw [ho] at k0 k1 k2
  obtain ⟨nt, rfl, hnt⟩ : ∃ k : Nat, n = (k : Int) ∧ k < ts.length := by
    unfold qB9 at hp1
    simp only [Bool.and_eq_true, decide_eq_true_eq] at hp1
    exact ⟨n.toNat, by omega, by omega⟩
  have hbb : b.natAbs ≤ 1000000 := by unfold byB at hp2; simpa using hp2
  obtain ⟨ms, hms⟩ : ∃ ms, ts[nt]? = some ms := ⟨_, List.getElem?_eq_getElem hnt⟩
  have egd : ts.getD ((nt : Int)).toNat [] = ms := by rw [Int.toNat_natCast, List.getD_eq_getElem?_getD, hms]; rfl
  rw [egd] at k0 k1 k2
  clear ho egd hp1 hp2
  obtain ⟨hml, hmi⟩ := hit ms (List.mem_of_getElem? hms)
  have ez : zs[nt]? = some zs[nt] := List.getElem?_eq_getElem (by omega)
  obtain ⟨ms1, z, hms1, ezz, tT⟩ := g4.get ez
  rw [hms] at hms1
  cases hms1
  rw [ezz] at ez
  have hT : TabF H (.ref tz) ts tie := ⟨tz, tl, ti, zs, rfl, g2, g3, g4, g5⟩
  refine (jD rfl (SqT.of g2) at0 (jD rfl (SqT.of hd) qFv ⟨tl, _, _, _, rfl, rfl, SqL.of g3, jc ez, ?_⟩))
  refine ⟨_, rfl, _, rfl, z, dz, ms, _, _, t, wd, rfl, tT, hd, hw, ?_⟩
  cases hpl : plF wd ms t with
  | none =>
    rw [hpl] at k0
    intro H1 e1
    exact ⟨_, rfl, _, rfl, qEj (by decide) ⟨one, k0 rfl H1 e1⟩⟩
  | some is =>
  rw [hpl] at k1 k2
  intro pz H1 e1 hpz
  refine ⟨_, rfl, _, rfl, xG (fun c => absurd c (by simp)) (fun _ => ?_)⟩
  have hends := qGr hw hpl
  have hisl : is.length ≤ 3 := by
    rcases hends with ⟨_, x, rfl, _⟩ | ⟨_, h, _⟩
    · show 1 ≤ 3; decide
    · exact h
  refine ⟨_, rfl, pz, rfl, ⟨_, SqT.of hpz⟩, qF5 (K := K) (a := pz) (xs := is.map V.int) (fun j acc H2 => acc = ((is.take j).map (hmB ms)).map V.bl ∧ H2 = H1) ⟨rfl, rfl⟩ ?_ ?_ ?_⟩
  · rintro j acc H2 hj ⟨rfl, rfl⟩
    exact ⟨SqT.of hpz, by rw [List.length_map, List.length_map, List.length_take]; exact qj (by omega)⟩
  · rintro j x acc H2 hj hx ⟨rfl, rfl⟩
    obtain ⟨k, hk, rfl⟩ : ∃ k : Int, is[j]? = some k ∧ x = .int k := by
      rw [List.getElem?_map] at hx
      cases hq : is[j]? with
      | none => rw [hq] at hx; cases hx
      | some k => rw [hq] at hx; cases hx; exact ⟨k, rfl, rfl⟩
    refine ⟨_, rfl, _, rfl, z, ms, k, rfl, tT.same e1, Nxt.mk hj ⟨?_, rfl⟩⟩
    rw [List.take_add_one, hk]
    simp
  rintro acc H2 ⟨rfl, rfl⟩ d hd'
  rw [List.length_map, List.take_length]
  have w2 := qH hd' (.lst ((is.map (hmB ms)).map V.bl))
  have e2 := e1.trans w2
  have hany : (is.map (hmB ms)).any id = is.any (hmB ms) := by rw [List.any_map]; rfl
  refine ⟨d, is.map (hmB ms), rfl, SqL.of qF, ?_⟩
  rw [hany]
  have hpz2 := w2 _ _ hpz
  generalize upd H2 d (.lst ((is.map (hmB ms)).map V.bl)) = H3 at w2 e2 hpz2 ⊢
  have hd3 := e2 _ _ hd
  unfold mxF at k1 k2
  dsimp only at k1 k2
  cases hmx : is.any (hmB ms) with
  | true =>
    rw [hmx] at k1
    exact ⟨true, rfl, ju ⟨one, k1 rfl H3 e2⟩⟩
  | false =>
  rw [hmx] at k2
  obtain ⟨kq, ks⟩ := k2 rfl
  refine ⟨false, rfl, xq ?_⟩
  rcases hends with ⟨rfl, x, rfl, hx⟩ | ⟨hwn, _, x, y, hx0, hy0, hx, hy⟩
  · obtain ⟨i, nn, p, q, r, s', l, rfl, hm⟩ := vP hx
    obtain ⟨N, hc⟩ := hmi _ (List.mem_of_getElem? hm) _ _ _ _ _ _ rfl
    refine (jD rfl (SqT.of hd3) wl ⟨rfl, _, rfl, ju ?_⟩)
    refine ⟨_, rfl, jD rfl (SqT.of hd3) qFv ?_⟩
    refine ⟨_, rfl, jD rfl (SqT.of hpz2) qGd (jD rfl (SqT.of hd3) qHz ⟨_, rfl, ?_⟩)⟩
    refine ⟨z, rd, ms, i, b, rl, _, _, _, _, _, _, _, rfl, tT.same e2, hml, hm, hc, hre.same e2, hbb, fun hc y H4 e4 hy tY => ?_, fun hc dx v H4 e4 hdx => ks dx v H4 (e2.trans e4) hdx⟩
    refine ⟨tz, y, nt, ts, tie, _, rfl, hT.same (e2.trans e4), tY, hnt, htl, fun t H5 e5 hN => ?_⟩
    exact kq t H5 ((e2.trans e4).trans e5)
  · obtain ⟨i, nn, p, q, r, s', l, rfl, hm⟩ := vP hx
    obtain ⟨j, nn', p', q', r', s'', l', rfl, hm'⟩ := vP hy
    obtain ⟨N, hc⟩ := hmi _ (List.mem_of_getElem? hm) _ _ _ _ _ _ rfl
    obtain ⟨N', hc'⟩ := hmi _ (List.mem_of_getElem? hm') _ _ _ _ _ _ rfl
    have dw : decide (V.str wd = V.str "slip") = false := by
      rw [qH8]; exact decide_eq_false hwn
    refine (jD rfl (SqT.of hd3) wl ⟨rfl, _, rfl, qE5 dw ?_⟩)
    refine ⟨_, rfl, jD rfl (SqT.of hd3) qFv ?_⟩
    refine ⟨_, rfl, _, rfl, pz, _, _, _, rfl, rfl, SqT.of hpz2, hx0, _, rfl, 1, rfl, pz, _, _, _, rfl, rfl, SqT.of hpz2, hy0, jD rfl (SqT.of hd3) qHz ⟨_, rfl, ?_⟩⟩
    refine ⟨z, rd, ms, i, j, b, rl, _, _, _, _, _, _, _, _, _, _, _, _, _, _, rfl, tT.same e2, hml, hm, hm', hc, hc', hre.same e2, hbb, fun hc y H4 e4 hy tY => ?_, fun hc dx v H4 e4 hdx => ks dx v H4 (e2.trans e4) hdx⟩
    refine ⟨tz, y, nt, ts, tie, _, rfl, hT.same (e2.trans e4), tY, hnt, htl, fun t H5 e5 hN => ?_⟩
    exact kq t H5 ((e2.trans e4).trans e5)
theorem wQ (T : Tx K mg a) : FnOk P w K mg base (CXR P w) 9 a.a_deed_done a.f_deed_done ["table", "deed", "reels"] (kZ a.k_NoPlace a.k_Mixed a.k_Short) := by
  refine okX T.d_deed_done.F qBa (fun vs H Q E h => kf h) (fun cdv A outer s H vs Q E hr h => ?_)
  refine ⟨_, (qE (qo (qN vh (qM qK (pv 1) qB (fun _ _ => rfl)) (jy (v := .ref a.n_ROLLS) rfl T.g_ROLLS rfl) rfl) (qG (qR (zK T.d_rolled (wE T) hr rfl (qA (pv 0) (qA (pv 1) (qA (pv 2) qD)))))) qX)
      vc), ?_⟩
  try dsimp only [xJ, qk]
  obtain ⟨tz, dz, rd, ts, tie, wd, n, t, b, on, ot, ob, rl, rfl, hI, hrest⟩ := h
  have hd := hI.deed
  have hin : inV (.str wd) [.str "roll", .str "slip", .str "slide"] = true := by
    rcases hI.w3 with rfl | rfl | rfl <;> decide +kernel
  refine (jD rfl (SqT.of hd) wl ⟨a.n_ROLLS, _, rfl, .inr (T.sq_ROLLS _), rfl, rfl, true, ?_, ju ?_⟩)
  · rw [hin]; rfl
  exact ⟨_, rfl, _, rfl, _, rfl, tz, dz, rd, ts, tie, wd, n, t, b, on, ot, ob, rl, rfl, hI, hrest⟩
def wT : Sp := fun vs H Q _ => ∃ (v : V) (rd : Addr) (n : Str) (p q r s l k N : Int), vs = [v, .int k, .ref rd] ∧ IsI H (.clip n p q r s l) v ∧ Bn 340 p q r s ∧ k.natAbs < 2 ^ 30 ∧ Reel H rd n N ∧ Q (.bl (thB ((Vk p q r s k).fdiv (q * s)) N)) H
theorem we (T : Tx K mg a) : FnOk P w K mg base CX0 1 a.a__law_there a.f__law_there ["_law_clip_here", "_law_k", "_law_reels_here"] wT := by
  refine T.d__law_there.F.ok sc__law_there (fun vs H Q E h => ?_) (fun cdv A outer s H vs Q E hr h => ?_)
  · obtain ⟨v, rd, n, p, q, r, s, l, k, N, rfl, _⟩ := h
    rfl
  obtain ⟨v, rd, n, p, q, r, s', l, k, N, rfl, ⟨z, x, y, rfl, hz, hx, hy⟩, hb, bk, hrd, kk⟩ := h
  have hu1 := qEp hr
  refine ⟨_, (qE (qW (i := 3) sc__law_there.nd rfl (Or.inl rfl) (qP jF (qP jA (qM qK (qM qK (pv 0) qB (fun _ _ => rfl)) qB (fun _ _ => rfl)) (qM qK (qM qK (pv 0) qB (fun _ _ => rfl)) qB (fun _ _ => rfl))) (qP jA (qP jA (pv 1) (qM qK (qM qK (pv 0) qB (fun _ _ => rfl)) qB (fun _ _ => rfl))) (qM qK (qM qK (pv 0) qB (fun _ _ => rfl)) qB (fun _ _ => rfl)))))
      (qG (qR (qGu v6 kG qB (qP qf (pv 3) (qP jA (qM qK (qM qK (pv 0) qB (fun _ _ => rfl)) qB (fun _ _ => rfl)) (qM qK (qM qK (pv 0) qB (fun _ _ => rfl)) qB (fun _ _ => rfl)))) (wP hu1 (pv 2) (qM qK (pv 0) qB (fun _ _ => rfl)) (fun _ _ => rfl)))))), ?_⟩
  try dsimp only [xJ, qk]
  have hb7 := hb.mono (m := 700)
  have S : ∀ {i : Int}, i.natAbs < 2 ^ 700 → Sm i := fun h => zp h
  have S2 : ∀ {i j : Int}, i.natAbs < 2 ^ 700 → j.natAbs < 2 ^ 700 → Sm (i * j) := fun h h' => zp (jK h h')
  have bk7 : k.natAbs < 2 ^ 700 := zp bk
  have hqs := Int.mul_pos hb.q0 hb.s0
  have h0 : SqT K H z [.str "clip", .str n, .ref x, .ref y, .int l] := SqT.of hz
  have h1 : SqT K H x [.int p, .int q] := SqT.of hx
  have h2 : SqT K H y [.int r, .int s'] := SqT.of hy
  refine (jD rfl h0 qF1 (ixT h1 at0 (jD rfl h0 qBv (ixT h2 at1 ⟨_, _, rfl, rfl, (S hb7.bp).mul (S hb7.bs), ?_⟩))))
  refine ⟨_, rfl, jD rfl h0 qBv (ixT h2 at0 ⟨_, _, rfl, rfl, (S bk7).mul (S hb7.br), jD rfl h0 qF1 (ixT h1 at1 ⟨_, _, rfl, rfl, (S2 bk7 hb7.br).mul (S hb7.bq), _, _, rfl, rfl, ?_⟩)⟩)⟩
  refine ⟨_, rfl, jD rfl h0 qF1 (ixT h1 at1 (jD rfl h0 qBv (ixT h2 at1 ⟨_, _, rfl, rfl, (S hb7.bq).mul (S hb7.bs), ?_⟩)))⟩
  refine ⟨_, _, rfl, rfl, ⟨by omega, qDo (jK hb.bq hb.bs)⟩, _, _, rfl, rfl, _, rfl, ?_⟩
  have kk' : Q (.bl (decide (0 ≤ (p * s' + k * r * q).fdiv (q * s')) && decide ((p * s' + k * r * q).fdiv (q * s') < N))) H := kk
  by_cases hn : 0 ≤ (p * s' + k * r * q).fdiv (q * s')
  · rw [decide_eq_true hn] at kk' ⊢
    exact ju ⟨_, rfl, jD rfl h0 qGg ⟨rd, _, rfl, hrd.get, _, _, rfl, rfl, kk'⟩⟩
  · rw [decide_eq_false hn] at kk' ⊢
    exact xq kk'
structure R3 (kvs : List (Key × V)) : Prop where
  ex : ∃ (n0 n1 n2 : Str) (m0 m1 m2 : Int), kvs = [(Sum.inr n0, .int m0), (Sum.inr n1, .int m1), (Sum.inr n2, .int m2)] ∧ n0 ≠ n1 ∧ n0 ≠ n2 ∧ n1 ≠ n2 ∧ 4 ≤ m0 ∧ m0 < 44 ∧ 4 ≤ m1 ∧ m1 < 44 ∧ 4 ≤ m2 ∧ m2 < 44
def rlF (kvs : List (Key × V)) : Rls := fun n => match vx kvs (Sum.inr n) with
  | some (.int m) => some m
  | _ => none
theorem qC0 {H : Hp} {rd : Addr} {kvs : List (Key × V)} (h : Rd H rd (.dK kvs)) : ReelsAt H rd (rlF kvs) := fun n N q => by
  refine ⟨kvs, h, ?_⟩
  unfold rlF at q
  split at q
  · cases q; assumption
  · cases q
def Cl (rl : Rls) (m : Im) : Prop := ∃ (n : Str) (p q r s l N : Int), m = .clip n p q r s l ∧ Rc n p q r s l rl N ∧ l ≤ 9 ∧ 1 ≤ N ∧ N < 44 ∧ InR (Vk p q r s 0) (q * s) N ∧ InR (Vk p q r s (l - 1)) (q * s) N
def qA2 : Sp := fun vs H Q _ => ∃ (rd : Addr) (c m : Int) (kvs : List (Key × V)), vs = [.int c, .ref rd, .int m] ∧ 0 ≤ c ∧ 1 ≤ m ∧ m ≤ 9 ∧ H rd = some (.dK kvs) ∧ R3 kvs ∧ ∀ (v : V) (i : Im) (H' : Hp), Same H H' → IsI H' i v → Cl (rlF kvs) i → Q v H'
theorem ke (T : Tx K mg a) : FnOk P w K mg base CX0 2 a.a__law_clip a.f__law_clip ["_law_number", "_law_reels_here", "_law_most"] qA2 := by
  refine T.d__law_clip.F.ok sc__law_clip (fun vs H Q E h => ?_) (fun cdv A outer s H vs Q E hr h => ?_)
  · obtain ⟨rd, c, m, kvs, rfl, _⟩ := h
    rfl
  obtain ⟨rd, c, m, kvs, rfl, hc, hm1, hm9, hrd, ⟨n0, n1, n2, m0, m1, m2, hkv, d01, d02, d12, b0, b0', b1, b1', b2, b2'⟩, kk⟩ := h
  have hks : (kvs.map fun p => kV p.1) = [.str n0, .str n1, .str n2] := by rw [hkv]; rfl
  have hu1 := qEp hr
  refine ⟨_, (qE (qW (i := 3) sc__law_clip.nd rfl (Or.inl rfl) (xc (v5 rfl) rfl T.b_list rfl (qA (pv 1) qD)))
      (qE (qW (i := 4) sc__law_clip.nd rfl (Or.inl rfl) (qM qc (pv 3) (qP qg (pv 0) (qY qd rfl T.b_len rfl (qA (pv 3) qD))) (fun _ _ => rfl)))
      (qE (qW (i := 5) sc__law_clip.nd rfl (Or.inl rfl) (qM qc (q8 (qA (jB (qA qB (qA qB qD))) (qA (jB (qA qB (qA qB qD))) (qA (jB (qA (z9 xf qB) (qA qB qD))) (qA (jB (qA qB (qA qB qD))) (qA (jB (qA (z9 xf qB) (qA qB qD))) (qA (jB (qA qB (qA qB qD))) (qA (jB (qA qB (qA qB qD))) qD)))))))) (qP qg (qP qf (pv 0) qB) qB) (fun _ _ => rfl)))
      (qE (qW (i := 6) sc__law_clip.nd rfl (Or.inl rfl) (qM qc (q8 (qA qB (qA qB (qA qB qD)))) (qP qg (qP qf (pv 0) qB) qB) (fun _ _ => rfl)))
      (qE (qW (i := 7) sc__law_clip.nd rfl (Or.inl rfl) (qL T.d__law_fraction (km T) hr rfl (qA (qP qg (qL T.d__law_mixed (jC T) hr rfl (qA (pv 0) (qA qB qD))) (qP jA (wP hu1 (pv 1) (pv 4) (fun _ _ => rfl)) (pv 6))) (qA (pv 6) qD))))
      (qE (qW (i := 8) sc__law_clip.nd rfl (Or.inl rfl) (qP jF qB (qP qg (qP qf (pv 0) qB) (pv 2))))
      (qE (wO PassesOwn.never (zO (zN (qL T.d__law_there (we T) hr rfl (qA (jB (qA qU (qA (pv 4) (qA (pv 7) (qA (pv 5) (qA (pv 8) qD)))))) (qA (qP jw (pv 8) qB) (qA (pv 1) qD)))))) (qG (qW (i := 8) sc__law_clip.nd rfl (Or.inl rfl) (qP jw (pv 8) qB))))
      (qG (qR (jB (qA qU (qA (pv 4) (qA (pv 7) (qA (pv 5) (qA (pv 8) qD))))))))))))))), ?_⟩
  try dsimp only [xJ, qk]
  refine ⟨_, rfl, rd, _, rfl, .inl hrd, fun ln hln => ?_⟩
  rw [hks]
  have w0 := qH hln (.lst [.str n0, .str n1, .str n2])
  have hnl : upd H ln (.lst [.str n0, .str n1, .str n2]) ln = some (.lst [.str n0, .str n1, .str n2]) := qF
  change _
  generalize upd H ln (.lst [.str n0, .str n1, .str n2]) = H0 at w0 hnl
  obtain ⟨nv, hnat, hnv⟩ := at3 (x := .str n0) (y := .str n1) (z := .str n2) (fm c (show (0 : Int) < 3 by decide)).1 (fm c (show (0 : Int) < 3 by decide)).2
  obtain ⟨n, N, rfl, hN, bN, bN', hvN⟩ : ∃ (n : Str) (N : Int), nv = .str n ∧ rlF kvs n = some N ∧ 4 ≤ N ∧ N < 44 ∧ vx kvs (Sum.inr n) = some (.int N) := by
    have v0 : vx kvs (Sum.inr n0) = some (.int m0) := by rw [hkv]; exact zn (p := (Sum.inr n0, .int m0)) rfl
    have v1 : vx kvs (Sum.inr n1) = some (.int m1) := by
      rw [hkv, xM (p := (Sum.inr n0, .int m0)) (by intro e; exact d01 (Sum.inr.inj e))]
      exact zn (p := (Sum.inr n1, .int m1)) rfl
    have v2 : vx kvs (Sum.inr n2) = some (.int m2) := by
      rw [hkv, xM (p := (Sum.inr n0, .int m0)) (by intro e; exact d02 (Sum.inr.inj e)), xM (p := (Sum.inr n1, .int m1)) (by intro e; exact d12 (Sum.inr.inj e))]
      exact zn (p := (Sum.inr n2, .int m2)) rfl
    rcases hnv with rfl | rfl | rfl
    · exact ⟨n0, m0, rfl, by unfold rlF; rw [v0], b0, b0', v0⟩
    · exact ⟨n1, m1, rfl, by unfold rlF; rw [v1], b1, b1', v1⟩
    · exact ⟨n2, m2, rfl, by unfold rlF; rw [v2], b2, b2', v2⟩
  have hr0 := w0 _ _ hrd
  refine ⟨_, rfl, _, rfl, _, rfl, ln, _, rfl, .inl (SqL.of hnl), _, _, rfl, rfl, (by show ((3 : Nat) : Int) ≠ 0; decide), ln, _, _, _, rfl, rfl, SqL.of hnl, hnat, ?_⟩
  have two : (2 : Nat) ≤ sizeLine := by decide
  refine ⟨two, fun t0 g0 => ?_⟩
  have u0 := qH g0 (.tup [.int 1, .int 1])
  have x0 : upd H0 t0 (.tup [.int 1, .int 1]) t0 = some (.tup [.int 1, .int 1]) := qF
  change _
  generalize upd H0 t0 (.tup [.int 1, .int 1]) = G0 at u0 x0
  refine ⟨two, fun t1 g1 => ?_⟩
  have u1 := qH g1 (.tup [.int 0, .int 1])
  have x1 : upd G0 t1 (.tup [.int 0, .int 1]) t1 = some (.tup [.int 0, .int 1]) := qF
  change _
  generalize upd G0 t1 (.tup [.int 0, .int 1]) = G1 at u1 x1
  refine ⟨1, rfl, two, fun t2 g2 => ?_⟩
  have u2 := qH g2 (.tup [.int (-1), .int 1])
  have x2 : upd G1 t2 (.tup [.int (-1), .int 1]) t2 = some (.tup [.int (-1), .int 1]) := qF
  change _
  generalize upd G1 t2 (.tup [.int (-1), .int 1]) = G2 at u2 x2
  refine ⟨two, fun t3 g3 => ?_⟩
  have u3 := qH g3 (.tup [.int 1, .int 2])
  have x3 : upd G2 t3 (.tup [.int 1, .int 2]) t3 = some (.tup [.int 1, .int 2]) := qF
  change _
  generalize upd G2 t3 (.tup [.int 1, .int 2]) = G3 at u3 x3
  refine ⟨2, rfl, two, fun t4 g4 => ?_⟩
  have u4 := qH g4 (.tup [.int (-2), .int 3])
  have x4 : upd G3 t4 (.tup [.int (-2), .int 3]) t4 = some (.tup [.int (-2), .int 3]) := qF
  change _
  generalize upd G3 t4 (.tup [.int (-2), .int 3]) = G4 at u4 x4
  refine ⟨two, fun t5 g5 => ?_⟩
  have u5 := qH g5 (.tup [.int 3, .int 1])
  have x5 : upd G4 t5 (.tup [.int 3, .int 1]) t5 = some (.tup [.int 3, .int 1]) := qF
  change _
  generalize upd G4 t5 (.tup [.int 3, .int 1]) = G5 at u5 x5
  refine ⟨two, fun t6 g6 => ?_⟩
  have u6 := qH g6 (.tup [.int 7, .int 5])
  have x6 : upd G5 t6 (.tup [.int 7, .int 5]) t6 = some (.tup [.int 7, .int 5]) := qF
  change _
  generalize upd G5 t6 (.tup [.int 7, .int 5]) = G6 at u6 x6
  refine ⟨(by show 7 ≤ sizeLine; decide), fun ls hls => ?_⟩
  have u7 := qH hls (.lst [.ref t0, .ref t1, .ref t2, .ref t3, .ref t4, .ref t5, .ref t6])
  have x7 : upd G6 ls (.lst [.ref t0, .ref t1, .ref t2, .ref t3, .ref t4, .ref t5, .ref t6]) ls = some (.lst [.ref t0, .ref t1, .ref t2, .ref t3, .ref t4, .ref t5, .ref t6]) := qF
  change _
  generalize upd G6 ls (.lst [.ref t0, .ref t1, .ref t2, .ref t3, .ref t4, .ref t5, .ref t6]) = G7 at u7 x7
  have u07 : Same H0 G7 := (((((((u0.trans u1).trans u2).trans u3).trans u4).trans u5).trans u6).trans u7)
  obtain ⟨ys, hsat, rr, ss, hys, gst⟩ : ∃ y, atI [V.ref t0, .ref t1, .ref t2, .ref t3, .ref t4, .ref t5, .ref t6] ((c.fdiv 5).fmod 7) = some (.ref y) ∧ ∃ r s : Int, G7 y = some (.tup [.int r, .int s]) ∧ Good 110 r s := by
    have hf := fm (c.fdiv 5) (show (0 : Int) < 7 by decide)
    generalize (c.fdiv 5).fmod 7 = f at hf ⊢
    have : f = 0 ∨ f = 1 ∨ f = 2 ∨ f = 3 ∨ f = 4 ∨ f = 5 ∨ f = 6 := by omega
    rcases this with rfl | rfl | rfl | rfl | rfl | rfl | rfl
    · exact ⟨t0, rfl, 1, 1, (u7 _ _ (u6 _ _ (u5 _ _ (u4 _ _ (u3 _ _ (u2 _ _ (u1 _ _ x0))))))), by decide, by decide, by decide, by decide⟩
    · exact ⟨t1, rfl, 0, 1, (u7 _ _ (u6 _ _ (u5 _ _ (u4 _ _ (u3 _ _ (u2 _ _ x1)))))), by decide, by decide, by decide, by decide⟩
    · exact ⟨t2, rfl, (-1), 1, (u7 _ _ (u6 _ _ (u5 _ _ (u4 _ _ (u3 _ _ x2))))), by decide, by decide, by decide, by decide⟩
    · exact ⟨t3, rfl, 1, 2, (u7 _ _ (u6 _ _ (u5 _ _ (u4 _ _ x3)))), by decide, by decide, by decide, by decide⟩
    · exact ⟨t4, rfl, (-2), 3, (u7 _ _ (u6 _ _ (u5 _ _ x4))), by decide, by decide, by decide, by decide⟩
    · exact ⟨t5, rfl, 3, 1, (u7 _ _ (u6 _ _ x5)), by decide, by decide, by decide, by decide⟩
    · exact ⟨t6, rfl, 7, 5, (u7 _ _ x6), by decide, by decide, by decide, by decide⟩
  refine ⟨_, rfl, _, _, rfl, rfl, cdB (by decide) (by decide), _, _, rfl, rfl, nz, ls, _, _, _, rfl, rfl, SqL.of x7, hsat, ?_⟩
  clear x0 x1 x2 x3 x4 x5 x6 hsat
  refine ⟨sL3, fun lb hlb => ?_⟩
  have u8 := qH hlb (.lst [.int 1, .int 2, .int 6])
  have x8 : upd G7 lb (.lst [.int 1, .int 2, .int 6]) lb = some (.lst [.int 1, .int 2, .int 6]) := qF
  change _
  generalize upd G7 lb (.lst [.int 1, .int 2, .int 6]) = G8 at u8 x8
  obtain ⟨bv, hbat, hbv⟩ := at3 (x := .int 1) (y := .int 2) (z := .int 6) (fm (c.fdiv 35) (show (0 : Int) < 3 by decide)).1 (fm (c.fdiv 35) (show (0 : Int) < 3 by decide)).2
  obtain ⟨bt, rfl, hb1, hb6⟩ : ∃ bt : Int, bv = .int bt ∧ 1 ≤ bt ∧ bt ≤ 6 := by
    rcases hbv with rfl | rfl | rfl
    · exact ⟨1, rfl, by decide, by decide⟩
    · exact ⟨2, rfl, by decide, by decide⟩
    · exact ⟨6, rfl, by decide, by decide⟩
  refine ⟨_, rfl, _, _, rfl, rfl, cdB (by decide) (by decide), _, _, rfl, rfl, nz, lb, _, _, _, rfl, rfl, SqL.of x8, hbat, ?_⟩
  have w8 : Same H G8 := (w0.trans u07).trans u8
  have u78 := u07.trans u8
  have hys8 := u8 _ _ hys
  clear u0 u1 u2 u3 u4 u5 u6 u7 g0 g1 g2 g3 g4 g5 g6 hbat hbv x8 x7
  have hr8 := w8 _ _ hrd
  have hNb : 0 < N * bt := Int.mul_pos (by omega) (by omega)
  refine ⟨_, rfl, c, 1, rfl, by decide, by decide, fun mx hx0 hx1 => ?_⟩
  have hre8 : Reel G8 rd n N := ⟨kvs, .inl hr8, hvN⟩
  refine ⟨_, rfl, _, rfl, rd, _, rfl, hre8.get, _, rfl, _, _, rfl, rfl, cmR (by omega) (by omega), _, _, rfl, rfl, (by omega), _, rfl, _, _, rfl, by omega, qDo (n := 3) (by omega), fun zs hzs => ?_⟩
  have ft := fm mx hNb
  have hNb2 : N * bt ≤ 43 * 6 := Int.mul_le_mul (by omega) hb6 (by omega) (by omega)
  generalize mx.fmod (N * bt) = t0 at ft hzs ⊢
  have gp : Good 110 (xK t0 bt) (jk t0 bt) := qFp (by omega) (Nat.lt_of_lt_of_le (show t0.natAbs < 2 ^ 10 by omega) (Nat.pow_le_pow_right (by decide) (by decide))) (Nat.lt_of_lt_of_le (show bt.natAbs < 2 ^ 3 by omega) (Nat.pow_le_pow_right (by decide) (by decide)))
  have cr := zV t0 bt
  have u9 := qH hzs (.tup [.int (xK t0 bt), .int (jk t0 bt)])
  have x9 : upd G8 zs (.tup [.int (xK t0 bt), .int (jk t0 bt)]) zs = some (.tup [.int (xK t0 bt), .int (jk t0 bt)]) := qF
  change _
  generalize upd G8 zs (.tup [.int (xK t0 bt), .int (jk t0 bt)]) = G9 at u9 x9
  generalize xK t0 bt = p at gp cr x9 ⊢
  generalize jk t0 bt = q at gp cr x9 ⊢
  have w9 : Same H G9 := w8.trans u9
  have hys9 := u9 _ _ hys8
  have hre9 := hre8.same u9
  have hbn : Bn 110 p q rr ss := ⟨gp.1, gst.1, gp.2.2.1, gp.2.2.2, gst.2.2.1, gst.2.2.2⟩
  have hqs := Int.mul_pos hbn.q0 hbn.s0
  have i0 : InR (Vk p q rr ss 0) (q * ss) N := by
    have h1 : 0 ≤ p := by
      by_cases z : 0 ≤ p
      · exact z
      · have := Int.mul_neg_of_neg_of_pos (show p < 0 by omega) (show (0 : Int) < bt by omega)
        have := Int.mul_nonneg ft.1 (Int.le_of_lt gp.1)
        omega
    have h2 : p < N * q := by
      have a1 : t0 * q < N * bt * q := Int.mul_lt_mul_of_pos_right ft.2 gp.1
      refine Int.lt_of_mul_lt_mul_right (a := bt) ?_ (by omega)
      rw [cr]
      have e : N * q * bt = N * bt * q := by grind
      omega
    unfold Vk InR
    have e : p * ss + 0 * rr * q = p * ss := by grind
    rw [e]
    refine ⟨Int.mul_nonneg h1 (by have := gst.1; omega), ?_⟩
    have := Int.mul_lt_mul_of_pos_right h2 gst.1
    have e2 : N * q * ss = N * (q * ss) := by grind
    omega
  refine ⟨_, rfl, _, _, rfl, rfl, cdB (by decide) (by decide), _, rfl, _, _, rfl, rfl, nz (by omega), _, _, rfl, rfl, ?_⟩
  have fl := fm (c.fdiv 105) (show (0 : Int) < m by omega)
  generalize (c.fdiv 105).fmod m = l0 at fl ⊢
  refine wf (fun σ H' => ∃ L : Int, σ = [some (.int c), some (.ref rd), some (.int m), some (.ref ln), some (.str n), some (.ref ys), some (.int bt), some (.ref zs), some (.int L)] ∧ Same G9 H' ∧ 1 ≤ L ∧ L ≤ 9)
    (fun σ _ => match σ with | [_, _, _, _, _, _, _, _, some (.int L)] => L.toNat | _ => 0) ⟨_, rfl, Same.refl _, by omega, by omega⟩ ?_ ?_
  · rintro σ H1 ⟨L, rfl, e1, l1, l9⟩
    refine ⟨_, rfl, _, rfl, _, rfl, _, rfl, sL5, fun zt hzt => ?_⟩
    have w1 := qH hzt (.tup [.str "clip", .str n, .ref zs, .ref ys, .int L])
    have e2 := e1.trans w1
    have hI : IsI (upd H1 zt (.tup [.str "clip", .str n, .ref zs, .ref ys, .int L])) (.clip n p q rr ss L) (.ref zt) := ⟨zt, zs, ys, rfl, qF, e2 _ _ x9, e2 _ _ hys9⟩
    change _
    generalize upd H1 zt (.tup [.str "clip", .str n, .ref zs, .ref ys, .int L]) = H2 at w1 e2 hI
    refine ⟨_, rfl, _, _, rfl, rfl, _, rfl, _, rd, n, p, q, rr, ss, L, L - 1, N, rfl, hI, hbn.mono, ?_, hre9.same e2, ?_⟩
    · exact Nat.lt_of_lt_of_le (show (L - 1).natAbs < 2 ^ 4 by omega) (Nat.pow_le_pow_right (by decide) (by decide))
    refine ⟨_, rfl, ?_⟩
    by_cases hin : InR (Vk p q rr ss (L - 1)) (q * ss) N
    · rw [(qEc hqs).mpr hin]
      refine xq ⟨_, rfl, _, rfl, _, rfl, _, rfl, sL5, fun zu hzu => ?_⟩
      have w3 := qH hzu (.tup [.str "clip", .str n, .ref zs, .ref ys, .int L])
      have e3 := e2.trans w3
      refine kk _ (.clip n p q rr ss L) _ (w9.trans e3) ⟨zu, zs, ys, rfl, qF, e3 _ _ x9, e3 _ _ hys9⟩ ⟨n, p, q, rr, ss, L, N, rfl, ⟨gp, gst, ?_, l1, hN, ?_⟩, l9, by omega, bN', i0, hin⟩
      · exact Nat.lt_of_lt_of_le (show L.natAbs < 2 ^ 4 by omega) (Nat.pow_le_pow_right (by decide) (by decide))
      · exact Nat.lt_of_lt_of_le (show N.natAbs < 2 ^ 6 by omega) (Nat.pow_le_pow_right (by decide) (by decide))
    · have hf : thB ((Vk p q rr ss (L - 1)).fdiv (q * ss)) N = false := by
        rw [Bool.eq_false_iff]
        intro z
        exact hin ((qEc hqs).mp z)
      rw [hf]
      have l2 : 2 ≤ L := by
        by_cases z : 2 ≤ L
        · exact z
        · exact absurd i0 (by rw [show (0 : Int) = L - 1 by omega]; exact hin)
      refine ju ⟨_, rfl, _, _, rfl, rfl, ⟨L - 1, rfl, e2, by omega, by omega⟩, ?_⟩
      show (L - 1).toNat < L.toNat
      omega
  · rintro σ H1 Q1 Q2 hq h
    obtain ⟨a1, b1, a2, b2, a3, b3, a4, b4, hz, f⟩ := h
    refine ⟨a1, b1, a2, b2, a3, b3, a4, b4, hz, fun zt hzt => ?_⟩
    obtain ⟨c1, d1, c2, d2, c3, d3, c4, d4, g1, g2, g3, g4, g5, g6, g7, g8, g9, g10, g11, g12, g13, g14, g15, bb, hbb, z⟩ := f zt hzt
    exact ⟨c1, d1, c2, d2, c3, d3, c4, d4, g1, g2, g3, g4, g5, g6, g7, g8, g9, g10, g11, g12, g13, g14, g15, bb, hbb, hq _ _ z⟩
def kvF (ns : List Str) (ms : List Int) : List (Key × V) := (ns.zip ms).map fun p => ((Sum.inr p.1 : Key), V.int p.2)
def wv : Sp := fun vs H Q _ => ∃ c : Int, vs = [.int c] ∧ ∀ (rd : Addr) (kvs : List (Key × V)) (H' : Hp), Same H H' → H rd = none → H' rd = some (.dK kvs) → R3 kvs → Q (.ref rd) H'
theorem wg (T : Tx K mg a) : FnOk P w K mg base CX0 2 a.a__law_reels a.f__law_reels ["_law_cell"] wv := by
  refine T.d__law_reels.F.ok sc__law_reels (fun vs H Q E h => ?_) (fun cdv A outer s H vs Q E hr h => ?_)
  · obtain ⟨c, rfl, _⟩ := h
    rfl
  obtain ⟨c, rfl, kk⟩ := h
  have hu1 := qEp hr
  refine ⟨_, (qE (qW (i := 1) sc__law_reels.nd rfl (Or.inl rfl) (qM qc (q8 (qA (q8 (qA qU (qA qU (qA qU qD)))) (qA (q8 (qA qU (qA qU (qA qU qD)))) (qA (q8 (qA qU (qA qU (qA qU qD)))) qD)))) (qP qg (pv 0) qB) (fun _ _ => rfl)))
      (qE (qW (i := 2) sc__law_reels.nd rfl (Or.inl rfl) qGt)
      (qE (vo PassesOwn.never rfl (kC rfl T.b_range (qA qB qD)) (jl (i := 3) sc__law_reels.nd rfl (Or.inl rfl)) (qG (qHf hu1 (pv 2) (qM qc (pv 1) (pv 3) (fun _ _ => rfl)) (qP jF qB (qP qg (qL T.d__law_mixed (jC T) hr rfl (qA (pv 0) (qA (pv 3) qD))) qB)) rfl)))
      (qG (qR (pv 2)))))), ?_⟩
  try dsimp only [xJ, qk]
  have qBs : (3 : Nat) ≤ sizeLine := by decide
  refine ⟨qBs, fun l0 g0 => ?_⟩
  have u0 := qH g0 (.lst [.str "ab", .str "abc", .str "b"])
  have x0 : upd H l0 (.lst [.str "ab", .str "abc", .str "b"]) l0 = some (.lst [.str "ab", .str "abc", .str "b"]) := qF
  change _
  generalize upd H l0 (.lst [.str "ab", .str "abc", .str "b"]) = G0 at u0 x0
  refine ⟨qBs, fun l1 g1 => ?_⟩
  have u1 := qH g1 (.lst [.str "r", .str "rr", .str "rrr"])
  have x1 : upd G0 l1 (.lst [.str "r", .str "rr", .str "rrr"]) l1 = some (.lst [.str "r", .str "rr", .str "rrr"]) := qF
  change _
  generalize upd G0 l1 (.lst [.str "r", .str "rr", .str "rrr"]) = G1 at u1 x1
  refine ⟨qBs, fun l2 g2 => ?_⟩
  have u2 := qH g2 (.lst [.str "reelaaaa", .str "reelaaab", .str "reel"])
  have x2 : upd G1 l2 (.lst [.str "reelaaaa", .str "reelaaab", .str "reel"]) l2 = some (.lst [.str "reelaaaa", .str "reelaaab", .str "reel"]) := qF
  change _
  generalize upd G1 l2 (.lst [.str "reelaaaa", .str "reelaaab", .str "reel"]) = G2 at u2 x2
  refine ⟨qBs, fun lo go => ?_⟩
  have u3 := qH go (.lst [.ref l0, .ref l1, .ref l2])
  have x3 : upd G2 lo (.lst [.ref l0, .ref l1, .ref l2]) lo = some (.lst [.ref l0, .ref l1, .ref l2]) := qF
  change _
  generalize upd G2 lo (.lst [.ref l0, .ref l1, .ref l2]) = G3 at u3 x3
  obtain ⟨ln, hat, n0, n1, n2, hln, d01, d02, d12⟩ : ∃ y, atI [V.ref l0, .ref l1, .ref l2] (c.fmod 3) = some (.ref y) ∧ ∃ n0 n1 n2 : Str, G3 y = some (.lst [.str n0, .str n1, .str n2]) ∧ n0 ≠ n1 ∧ n0 ≠ n2 ∧ n1 ≠ n2 := by
    obtain ⟨v, h1, h2⟩ := at3 (x := V.ref l0) (y := .ref l1) (z := .ref l2) (fm c (show (0 : Int) < 3 by decide)).1 (fm c (show (0 : Int) < 3 by decide)).2
    rcases h2 with rfl | rfl | rfl
    · exact ⟨l0, h1, _, _, _, u3 _ _ (u2 _ _ (u1 _ _ x0)), by decide +kernel, by decide +kernel, by decide +kernel⟩
    · exact ⟨l1, h1, _, _, _, u3 _ _ (u2 _ _ x1), by decide +kernel, by decide +kernel, by decide +kernel⟩
    · exact ⟨l2, h1, _, _, _, u3 _ _ x2, by decide +kernel, by decide +kernel, by decide +kernel⟩
  have u03 : Same H G3 := ((u0.trans u1).trans u2).trans u3
  refine ⟨_, rfl, _, _, rfl, rfl, nz, lo, _, _, _, rfl, rfl, SqL.of x3, hat, ?_⟩
  refine fun rd hrd => ?_
  have hrd0 : H rd = none := u03.free hrd
  refine ⟨3, rfl, by decide, by decide, vq (n := 3) (fun i σ H' => ∃ (ms : List Int) (o : Option V), σ = [some (.int c), some (.ref ln), some (.ref rd), o] ∧ H' = upd G3 rd (.dK (kvF [n0, n1, n2] ms)) ∧ ms.length = i ∧ ∀ m ∈ ms, 4 ≤ m ∧ m < 44) ⟨[], none, rfl, rfl, rfl, fun m h => absurd h (by simp)⟩ ?_ ?_⟩
  · rintro i σ H' hi ⟨ms, o, rfl, rfl, hl, hm⟩
    refine ⟨_, rfl, _, rfl, c, 0 + (i : Int), rfl, by omega, by omega, fun mx h0 h1 => ?_⟩
    have f := fm mx (show (0 : Int) < 40 by decide)
    have hln' : upd G3 rd (.dK (kvF [n0, n1, n2] ms)) ln = some (.lst [.str n0, .str n1, .str n2]) := by rw [qV (qZ hln hrd)]; exact hln
    have hi3 : i = 0 ∨ i = 1 ∨ i = 2 := by omega
    obtain ⟨nm, hnm, hno, hap⟩ : ∃ nm : Str, atI [V.str n0, .str n1, .str n2] (0 + (i : Int)) = some (.str nm) ∧ vx (kvF [n0, n1, n2] ms) (Sum.inr nm) = none ∧ ∀ m, kvF [n0, n1, n2] (ms ++ [m]) = kvF [n0, n1, n2] ms ++ [(Sum.inr nm, .int m)] := by
      rcases hi3 with rfl | rfl | rfl
      · match ms, hl with
        | [], _ => exact ⟨n0, rfl, rfl, fun m => rfl⟩
      · match ms, hl with
        | [a0], _ => exact ⟨n1, rfl, by unfold kvF; simp only [List.zip_cons_cons, List.map_cons]; rw [xM (p := (Sum.inr n0, .int a0)) (by intro e; exact d01 (Sum.inr.inj e))]; rfl, fun m => rfl⟩
      · match ms, hl with
        | [a0, a1], _ => exact ⟨n2, rfl, by unfold kvF; simp only [List.zip_cons_cons, List.map_cons]; rw [xM (p := (Sum.inr n0, .int a0)) (by intro e; exact d02 (Sum.inr.inj e)), xM (p := (Sum.inr n1, .int a1)) (by intro e; exact d12 (Sum.inr.inj e))]; rfl, fun m => rfl⟩
    have hkl : (kvF [n0, n1, n2] ms).length ≤ 3 := by unfold kvF; rw [List.length_map, List.length_zip]; exact Nat.min_le_left _ _
    refine ⟨_, _, rfl, rfl, nz, _, _, rfl, rfl, ?_⟩
    refine ⟨_, rfl, _, rfl, _, rfl, ln, _, _, _, rfl, rfl, SqL.of hln', hnm, rd, _, rfl, .inl ⟨_, Sum.inr nm, qF, rfl, qj (by omega), rfl⟩, ?_⟩
    rw [qGl _ hno, qH4, ← hap]
    refine ⟨ms ++ [4 + mx.fmod 40], _, rfl, rfl, by rw [List.length_append, hl]; rfl, fun m hm' => ?_⟩
    rcases List.mem_append.mp hm' with h | h
    · exact hm m h
    · have e : m = 4 + mx.fmod 40 := by simpa using h
      omega
  · rintro σ H' ⟨ms, o, rfl, rfl, hl, hm⟩
    match ms, hl with
    | [a0, a1, a2], _ =>
      refine ⟨_, rfl, kk rd _ _ (u03.trans (qH hrd _)) hrd0 qF ⟨n0, n1, n2, a0, a1, a2, rfl, d01, d02, d12, ?_⟩⟩
      have h0 := hm a0 (by simp)
      have h1 := hm a1 (by simp)
      have h2 := hm a2 (by simp)
      exact ⟨h0.1, h0.2, h1.1, h1.2, h2.1, h2.2⟩
def It (rl : Rls) (m : Im) : Prop := (∃ l, m = .gap l ∧ 1 ≤ l ∧ l ≤ 5) ∨ (∃ b l, m = .nest "t" b l ∧ 0 ≤ b ∧ b ≤ 6 ∧ 1 ≤ l ∧ l ≤ 5) ∨ Cl rl m
theorem It.pos {rl : Rls} {ms : List Im} (h : ∀ m ∈ ms, It rl m) : Pos ms := fun m hm => by
  rcases h m hm with ⟨l, rfl, h1, _⟩ | ⟨b, l, rfl, _, _, h1, _⟩ | ⟨n, p, q, r, s, l, N, rfl, hc, _⟩
  · exact ⟨by show 0 < l; omega, by show ("gap" : Str) ≠ "mix"; decide +kernel⟩
  · exact ⟨by show 0 < l; omega, by show ("nest" : Str) ≠ "mix"; decide +kernel⟩
  · exact ⟨by show 0 < l; have := hc.l1; omega, by show ("clip" : Str) ≠ "mix"; decide +kernel⟩
theorem qFb {H : Hp} {ms : List Im} {vs : List V} (h : IsIs H ms vs) (hne : ms ≠ []) : ∃ v m, vs[vs.length - 1]? = some v ∧ ms[ms.length - 1]? = some m ∧ IsI H m v := by
  have hl : 0 < ms.length := List.length_pos_iff.mpr hne
  have hi : vs.length - 1 < vs.length := by rw [h.len]; omega
  have ev : vs[vs.length - 1]? = some vs[vs.length - 1] := List.getElem?_eq_getElem hi
  obtain ⟨m, h1, h2⟩ := h.get ev
  refine ⟨_, m, ev, ?_, h2⟩
  rw [h.len] at h1
  exact h1
theorem vF {α : Type} {Pm : α → Prop} {ms : List α} {m : α} (h : ∀ x ∈ ms, Pm x) (hm : Pm m) : ∀ x ∈ ms ++ [m], Pm x := fun x hx => by
  rcases List.mem_append.mp hx with hx | hx
  · exact h x hx
  · have : x = m := by simpa using hx
    rw [this]; exact hm
def wN : Sp := fun vs H Q _ => ∃ (zc rd : Addr) (ns : List Int) (kvs : List (Key × V)), vs = [.ref zc, .ref rd] ∧ H zc = some (.lst (ns.map V.int)) ∧ ns.length ≤ 63 ∧ H rd = some (.dK kvs) ∧ R3 kvs ∧
  ∀ (y : Addr) (ms : List Im) (H' : Hp), Same H H' → H y = none → Tr H' y ms → (∀ m ∈ ms, It (rlF kvs) m) → ms.length ≤ 64 → Q (.ref y) H'
theorem wZ (T : Tx K mg a) : FnOk P w K mg base CX0 3 a.a__law_track a.f__law_track ["_law_cells", "_law_reels_here"] wN := by
  refine T.d__law_track.F.ok sc__law_track (fun vs H Q E h => ?_) (fun cdv A outer s H vs Q E hr h => ?_)
  · obtain ⟨zc, rd, ns, kvs, rfl, _⟩ := h
    rfl
  obtain ⟨zc, rd, ns, kvs, rfl, hz, hl, hrd, h3, kk⟩ := h
  have hu := hr.units
  refine ⟨_, (qE (qW (i := 2) sc__law_track.nd rfl (Or.inl rfl) (q8 qD))
      (qE (vo PassesOwn.never rfl (zH (pv 0)) (jl (i := 3) sc__law_track.nd rfl (Or.inl rfl)) (qE (qW (i := 4) sc__law_track.nd rfl (Or.inl rfl) (qL T.d__law_mixed (jC T) hr rfl (qA (pv 3) (qA qB qD))))
      (qG (qo (kN (PW.pt (xr (qN jv (qP qg (pv 4) qB) qB (qS _)) (xr (qN (qE2 hu) (pv 2) (q8 qD) (qS _)) (xp (qN kr (qM qK (qM qc (pv 2) (z9 xf qB) (fun _ _ => rfl)) qB (fun _ _ => rfl)) qU (qS _))))))) (qG (jx (qA1 F.plainAttrs_list F.slot_list_append F.type_list_append xY (pv 2) (qA (jB (qA qU (qA (qP jF qB (qP qg (qP qf (pv 4) qB) qB)) qD))) qD)))) (qG (qo (qN jv (qP qg (pv 4) qB) qB (qS _)) (qG (jx (qA1 F.plainAttrs_list F.slot_list_append F.type_list_append xY (pv 2) (qA (jB (qA qU (qA qU (qA (qP qg (qP qf (pv 4) qB) qB) (qA (qP jF qB (qP qg (qP qf (pv 4) qB) qB)) qD))))) qD)))) (qG (jx (qA1 F.plainAttrs_list F.slot_list_append F.type_list_append xY (pv 2) (qA (qL T.d__law_clip (ke T) hr rfl (qA (qP qf (pv 4) qB) (qA (pv 1) (qA qB qD)))) qD))))))))))
      (qE (qo (kN (PW.pt (xr (qN (qE2 hu) (pv 2) (q8 qD) (qS _)) (xp (qN jv (qM qK (qM qc (pv 2) (z9 xf qB) (fun _ _ => rfl)) qB (fun _ _ => rfl)) qU (qS _)))))) (qG (jx (qA1 F.plainAttrs_list F.slot_list_append F.type_list_append xY (pv 2) (qA (qL T.d__law_clip (ke T) hr rfl (qA (qL T.d__law_mixed (jC T) hr rfl (qA (qY qd rfl T.b_len rfl (qA (pv 2) qD)) (qA qB qD))) (qA (pv 1) (qA qB qD)))) qD)))) qX)
      (qG (qR (pv 2)))))), ?_⟩
  try dsimp only [xJ, qk]
  refine ⟨sL0, fun y hy => ?_⟩
  have w0 := qH hy (.lst [])
  have hnl : (ns.map V.int).length = ns.length := List.length_map _
  refine ⟨_, rfl, zc, rfl, ⟨_, SqL.of (w0 _ _ hz)⟩, wz (K := K) (a := zc) (xs := ns.map V.int) (fun i σ H' => ∃ (o1 o2 : Option V) (ms : List Im) (vs : List V), σ = [some (.ref zc), some (.ref rd), some (.ref y), o1, o2] ∧ H' y = some (.lst vs) ∧ IsIs H' ms vs ∧ ms.length ≤ i ∧ i ≤ ns.length ∧ (∀ m ∈ ms, It (rlF kvs) m) ∧ Same H H')
    ⟨none, none, [], [], rfl, qF, trivial, Nat.le_refl _, Nat.zero_le _, fun m h => absurd h (by simp), w0⟩ ?_ ?_ ?_⟩
  · rintro i σ H' hi ⟨o1, o2, ms, vs, rfl, hv, hiv, hml, hin, hit, e⟩
    exact SqL.of (e _ _ hz)
  · rintro i x σ H' hx ⟨o1, o2, ms, vs, rfl, hv, hiv, hml, hin, hit, e⟩
    have hin2 : i < ns.length := by have := (glt hx); omega
    obtain ⟨cl, rfl⟩ : ∃ cl : Int, x = .int cl := by
      rw [List.getElem?_map] at hx
      cases hq : ns[i]? with
      | none => rw [hq] at hx; cases hx
      | some cl => rw [hq] at hx; cases hx; exact ⟨cl, rfl⟩
    have hvl := hiv.len
    refine ⟨_, rfl, cl, 5, rfl, by decide, by decide, fun mx h0 h1 => ?_⟩
    refine ⟨fun b H2 => Same H' H2, ?_, ?_⟩
    · refine ⟨_, rfl, _, _, rfl, rfl, nz, rfl, _, rfl, xG (fun _ => ?_) (fun _ => Same.refl _)⟩
      refine ⟨_, rfl, sL0, fun en hen => qI8 ⟨vs, (qH hen _) _ _ hv, hiv.ts (qi (qH hen _))⟩ qF ⟨_, rfl, ?_⟩⟩
      have w3 := qH hen (.lst [])
      by_cases hne : ms = []
      · have e : ms.isEmpty = true := by rw [hne]; rfl
        rw [e]
        exact xq w3
      · have e : ms.isEmpty = false := by
          cases ms with
          | nil => exact absurd rfl hne
          | cons => rfl
        rw [e]
        refine ju ?_
        obtain ⟨v, m, h1, h2, h4⟩ := qFb (hiv.ts (qi w3)) hne
        obtain ⟨zi, xi, rfl, hzi, h0, _⟩ := h4.opn
        exact ⟨_, rfl, _, rfl, y, _, _, _, rfl, rfl, SqL.of (w3 _ _ hv), qCq h1, zi, xi, _, _, rfl, rfl, SqT.of hzi, h0, rfl, _, rfl, w3⟩
    rintro b H3 w3
    have hv3 := w3 _ _ hv
    have hiv3 := hiv.ts (qi w3)
    have e3 := e.trans w3
    have fin : ∀ (m : Im) (v : V) (H5 : Hp), Same H3 H5 → IsI H5 m v → It (rlF kvs) m → ∃ (o1 o2 : Option V) (ms' : List Im) (vs' : List V), [some (V.ref zc), some (.ref rd), some (.ref y), some (.int cl), some (.int mx)] = [some (V.ref zc), some (.ref rd), some (.ref y), o1, o2] ∧ upd H5 y (.lst (vs ++ [v])) y = some (.lst vs') ∧ IsIs (upd H5 y (.lst (vs ++ [v]))) ms' vs' ∧ ms'.length ≤ i + 1 ∧ i + 1 ≤ ns.length ∧ (∀ m ∈ ms', It (rlF kvs) m) ∧ Same H (upd H5 y (.lst (vs ++ [v]))) := fun m v H5 e5 hI hm =>
      ⟨_, _, ms ++ [m], vs ++ [v], rfl, qF, ((hiv3.ts (qi e5)).app (.one hI)).ts (zz (e5 _ _ hv3)), by simp; omega, hin2, vF hit hm, xH (e3.trans e5) hy⟩
    cases b with
    | true =>
      have f2 := fm (mx.fdiv 9) (show (0 : Int) < 5 by decide)
      refine ju ⟨_, rfl, .inl ⟨rfl, _, SqL.of hv3⟩, _, rfl, _, _, rfl, rfl, cdB (by decide) (by decide), _, _, rfl, rfl, nz, _, _, rfl, rfl, sL2, fun g hg => ?_⟩
      have w5 := qH hg (.tup [.str "gap", .int (1 + (mx.fdiv 9).fmod 5)])
      refine ⟨y, _, _, rfl, rfl, w5 _ _ hv3, qj (by omega), ?_⟩
      exact fin (.gap (1 + (mx.fdiv 9).fmod 5)) (.ref g) _ w5 (isG qF) (.inl ⟨_, rfl, by omega, by omega⟩)
    | false =>
      refine xq ⟨_, rfl, _, _, rfl, rfl, nz, rfl, _, rfl, xG (fun _ => ?_) (fun _ => ?_)⟩
      · have f2 := fm (mx.fdiv 9) (show (0 : Int) < 7 by decide)
        have f3 := fm (mx.fdiv 63) (show (0 : Int) < 5 by decide)
        refine ⟨_, rfl, .inl ⟨rfl, _, SqL.of hv3⟩, _, rfl, _, _, rfl, rfl, cdB (by decide) (by decide), _, _, rfl, rfl, nz, _, rfl, _, _, rfl, rfl, cdB (by decide) (by decide), _, _, rfl, rfl, nz, _, _, rfl, rfl, sL4, fun g hg => ?_⟩
        have w5 := qH hg (.tup [.str "nest", .str "t", .int ((mx.fdiv 9).fmod 7), .int (1 + (mx.fdiv 63).fmod 5)])
        refine ⟨y, _, _, rfl, rfl, w5 _ _ hv3, qj (by omega), ?_⟩
        exact fin (.nest "t" ((mx.fdiv 9).fmod 7) (1 + (mx.fdiv 63).fmod 5)) (.ref g) _ w5 (isN qF) (.inr (.inl ⟨_, _, rfl, by omega, by omega, by omega, by omega⟩))
      · refine ⟨_, rfl, .inl ⟨rfl, _, SqL.of hv3⟩, _, rfl, _, _, rfl, rfl, cdB (by decide) (by decide), _, rfl, rd, _, 9, kvs, rfl, ?_, by decide, by decide, e3 _ _ hrd, h3, fun v m H5 e5 hI hc => ?_⟩
        · have := (j8 (p := mx) (q := 9) (by decide)); omega
        exact ⟨y, _, _, rfl, rfl, e5 _ _ hv3, qj (by omega), fin m v H5 e5 hI (.inr (.inr hc))⟩
  rintro σ H' ⟨o1, o2, ms, vs, rfl, hv, hiv, hml, hin, hit, e⟩
  rw [hnl] at hml
  have hvl := hiv.len
  refine ⟨fun b H2 => Same H' H2, ?_, ?_⟩
  · refine ⟨_, rfl, sL0, fun en hen => qI8 ⟨vs, (qH hen _) _ _ hv, hiv.ts (qi (qH hen _))⟩ qF ⟨_, rfl, ?_⟩⟩
    have w3 := qH hen (.lst [])
    by_cases hne : ms = []
    · have e : ms.isEmpty = true := by rw [hne]; rfl
      rw [e]
      exact xq w3
    · have e : ms.isEmpty = false := by
        cases ms with
        | nil => exact absurd rfl hne
        | cons => rfl
      rw [e]
      refine ju ?_
      obtain ⟨v, m, h1, h2, h4⟩ := qFb (hiv.ts (qi w3)) hne
      obtain ⟨zi, xi, rfl, hzi, h0, _⟩ := h4.opn
      exact ⟨_, rfl, _, rfl, y, _, _, _, rfl, rfl, SqL.of (w3 _ _ hv), qCq h1, zi, xi, _, _, rfl, rfl, SqT.of hzi, h0, rfl, _, rfl, w3⟩
  rintro b H2 w2
  have hv2 := w2 _ _ hv
  have hiv2 := hiv.ts (qi w2)
  have e2 := e.trans w2
  cases b with
  | true =>
    refine ju ⟨_, rfl, .inl ⟨rfl, _, SqL.of hv2⟩, _, rfl, y, _, rfl, .inl (SqL.of hv2), _, 3, rfl, by decide, by decide, fun mx h0 h1 => ?_⟩
    refine ⟨_, rfl, rd, _, 9, kvs, rfl, h0, by decide, by decide, e2 _ _ hrd, h3, fun v m H5 e5 hI hc => ?_⟩
    refine ⟨y, _, _, rfl, rfl, e5 _ _ hv2, qj (by omega), _, rfl, ?_⟩
    exact kk y (ms ++ [m]) _ (xH (e2.trans e5) hy) hy ⟨_, qF, ((hiv2.ts (qi e5)).app (.one hI)).ts (zz (e5 _ _ hv2))⟩ (vF hit (.inr (.inr hc))) (by simp; omega)
  | false => exact xq ⟨_, rfl, kk y ms _ e2 hy ⟨_, hv2, hiv2⟩ hit (by omega)⟩
def wC : Sp := fun vs H Q _ => ∃ (v : V) (m : Im), vs = [v] ∧ IsI H m v ∧ Q (.int m.mo) H
theorem xm (T : Tx K mg a) : FnOk P w K mg base CX0 1 a.a__law_length a.f__law_length ["_law_item"] wC := by
  refine T.d__law_length.F.ok v8 (fun vs H Q E h => ?_) (fun cdv A outer s H vs Q E hr h => ?_)
  · obtain ⟨v, m, rfl, _⟩ := h
    rfl
  obtain ⟨v, m, rfl, hI, kk⟩ := h
  refine ⟨_, (qE (qo (qN jv (qM qK (pv 0) qB (fun _ _ => rfl)) qU (qS _)) (qG (qR qB)) qX)
      (qG (qR (qM qK (pv 0) (z9 xf qB) (fun _ _ => rfl))))), ?_⟩
  try dsimp only [xJ, qk]
  obtain ⟨z, xs, rfl, hz, h0, h1⟩ := hI.opn
  refine ⟨_, rfl, z, xs, _, _, rfl, rfl, SqT.of hz, h0, rfl, _, rfl, xG (fun c => ?_) (fun c => ?_)⟩
  · obtain ⟨l, rfl⟩ := qIe (m := m) (by simpa using c)
    exact kk
  · rw [qKi (by simpa using c)] at kk
    exact ⟨_, rfl, _, rfl, z, xs, _, _, rfl, rfl, SqT.of hz, h1, kk⟩
def qD3 : Int → Nat → List Im → Int → Option (Nat × Int)
  | _, _, [], _ => none
  | b, i, m :: ms, t => if m.wd = "clip" ∧ b ≤ t ∧ t < b + m.mo then some (i, t - b) else qD3 (b + m.mo) (i + 1) ms t
theorem wo : ∀ (ms : List Im) (b : Int) (i : Nat) (t : Int), t < b → (∀ m ∈ ms, 0 ≤ m.mo) → qD3 b i ms t = none
  | [], _, _, _, _, _ => rfl
  | m :: ms, b, i, t, h, hm => by
    have := hm m (by simp)
    rw [qD3, if_neg (by omega)]
    exact wo ms _ _ _ (by omega) fun x hx => hm x (by simp [hx])
theorem qDa : ∀ (ms : List Im) (b : Int) (i : Nat) (t : Int) (j : Nat) (d : Int), zJ b i ms t = some (j, d) → i ≤ j
  | [], _, _, _, _, _, h => by cases h
  | m :: ms, b, i, t, j, d, h => by
    rw [zJ] at h
    split at h
    · cases h; exact Nat.le_refl _
    · have := qDa ms _ _ _ _ _ h; omega
def qJe (ms : List Im) (j : Nat) : Str := match ms[j]? with
  | some m => m.wd
  | none => ""
theorem qA0 : ∀ (ms : List Im) (b : Int) (i : Nat) (t : Int), (∀ m ∈ ms, 0 ≤ m.mo) → qD3 b i ms t = match zJ b i ms t with
    | some (j, d) => if qJe ms (j - i) = "clip" then some (j, d) else none
    | none => none
  | [], _, _, _, _ => rfl
  | m :: ms, b, i, t, hm => by
    have h0 := hm m (by simp)
    have h1 : ∀ x ∈ ms, 0 ≤ x.mo := fun x hx => hm x (by simp [hx])
    rw [qD3, zJ]
    by_cases c : b ≤ t ∧ t < b + m.mo
    · rw [if_pos c]
      dsimp only
      rw [Nat.sub_self]
      show _ = if m.wd = "clip" then some (i, t - b) else none
      by_cases k : m.wd = "clip"
      · rw [if_pos ⟨k, c⟩, if_pos k]
      · rw [if_neg (fun z => k z.1), if_neg k]
        exact wo ms _ _ _ (by omega) h1
    · rw [if_neg (fun z => c z.2), if_neg c, qA0 ms _ _ _ h1]
      cases hi : zJ (b + m.mo) (i + 1) ms t with
      | none => rfl
      | some r =>
        obtain ⟨j, d⟩ := r
        have := qDa _ _ _ _ _ _ hi
        dsimp only
        unfold qJe
        rw [show j - i = (j - (i + 1)) + 1 by omega, List.getElem?_cons_succ]
def qLb (r : Option (Nat × Int)) : List V := match r with
  | some (i, d) => [.int (i : Int), .int d]
  | none => [.non, .int 0]
def vQ : Sp := fun vs H Q _ => ∃ (z : Addr) (ms : List Im) (t : Int), vs = [.ref z, .int t] ∧ Tr H z ms ∧ ms.length ≤ 300 ∧ ∀ (p : Addr) (H' : Hp), Same H H' → H' p = some (.tup (qLb (qD3 0 0 ms t))) → Q (.ref p) H'
theorem vp (T : Tx K mg a) : FnOk P w K mg base CX0 2 a.a__law_clip_at a.f__law_clip_at ["_law_track_here", "_law_moment"] vQ := by
  refine T.d__law_clip_at.F.ok sc__law_clip_at (fun vs H Q E h => ?_) (fun cdv A outer s H vs Q E hr h => ?_)
  · obtain ⟨z, ms, t, rfl, _⟩ := h
    rfl
  obtain ⟨z, ms, t, rfl, ⟨vs, hz, his⟩, hml, kk⟩ := h
  refine ⟨_, (qE (qW (i := 2) sc__law_clip_at.nd rfl (Or.inl rfl) qB)
      (qE (vo PassesOwn.never rfl (kC rfl T.b_range (qA (qY qd rfl T.b_len rfl (qA (pv 0) qD)) qD)) (jl (i := 3) sc__law_clip_at.nd rfl (Or.inl rfl)) (qE (qo (kN (PW.pt (xr (qN jv (qM qK (qM qc (pv 0) (pv 3) (fun _ _ => rfl)) qB (fun _ _ => rfl)) qU (qS _)) (xp (ze v6 kG (pv 2) (pv 1) (qP jF (pv 2) (qM qK (qM qc (pv 0) (pv 3) (fun _ _ => rfl)) qB (fun _ _ => rfl)))))))) (qG (qR (jB (qA (pv 3) (qA (qP jw (pv 1) (pv 2)) qD))))) qX)
      (qG (qW (i := 2) sc__law_clip_at.nd rfl (Or.inl rfl) (qP jF (pv 2) (qL T.d__law_length (xm T) hr rfl (qA (qM qc (pv 0) (pv 3) (fun _ _ => rfl)) qD)))))))
      (qG (qR (jB (qA xy (qA qB qD))))))), ?_⟩
  try dsimp only [xJ, qk]
  have hvl := his.len
  obtain ⟨F, hF⟩ : ∃ F, qD3 0 0 ms t = F := ⟨_, rfl⟩
  rw [hF] at kk
  refine ⟨_, rfl, z, vs, rfl, .inl (SqL.of hz), _, rfl, by omega, by omega, vq (n := ((vs.length : Nat) : Int).toNat) (fun i σ H' => ∃ (o : Option V) (b : Int), σ = [some (.ref z), some (.int t), some (.int b), o] ∧ qD3 b i (ms.drop i) t = F ∧ H' = H)
    ⟨none, 0, rfl, by rw [List.drop_zero]; exact hF, rfl⟩ ?_ ?_⟩
  · rintro i σ H' hi ⟨o, b, rfl, hFi, rfl⟩
    have hi' : i < vs.length := by omega
    obtain ⟨v, hv⟩ : ∃ v, vs[i]? = some v := ⟨_, List.getElem?_eq_getElem hi'⟩
    obtain ⟨m, hm, hI⟩ := his.get hv
    have ai : atI vs (0 + (i : Int)) = some v := by rw [Int.zero_add]; exact jc hv
    have hdr : ms.drop i = m :: ms.drop (i + 1) := qAb hm
    rw [hdr, qD3] at hFi
    obtain ⟨zi, xi, rfl, hzi, h0, _⟩ := hI.opn
    refine ⟨fun t' H2 => H2 = H' ∧ (t' = true ↔ m.wd = "clip" ∧ b ≤ t ∧ t < b + m.mo), ?_, ?_⟩
    · refine ⟨_, rfl, _, rfl, z, vs, _, _, rfl, rfl, SqL.of hz, ai, zi, xi, _, _, rfl, rfl, SqT.of hzi, h0, rfl, _, rfl, xG (fun c => ?_) (fun c => ?_)⟩
      · have hc : m.wd = "clip" := by simpa using c
        refine ⟨_, rfl, _, rfl, _, _, rfl, rfl, _, rfl, xG (fun c1 => ?_) (fun c1 => ?_)⟩
        · have h1 : b ≤ t := by simpa using c1
          cases m with
          | clip n p q r s' l =>
            obtain ⟨z', x', y', e', hz', _⟩ := id hI
            cases e'
            refine ⟨_, rfl, _, rfl, _, rfl, z, vs, _, _, rfl, rfl, SqL.of hz, ai, ixT (SqT.of hz') qBr ⟨_, _, rfl, rfl, _, _, rfl, rfl, _, rfl, rfl, ?_⟩⟩
            rw [decide_eq_true_iff]
            exact ⟨fun h => ⟨hc, h1, h⟩, fun h => h.2.2⟩
          | gap => exact absurd (show ("gap" : Str) = "clip" from hc) (by decide +kernel)
          | nest => exact absurd (show ("nest" : Str) = "clip" from hc) (by decide +kernel)
          | mix => exact absurd (show ("mix" : Str) = "clip" from hc) (by decide +kernel)
        · have h1 : ¬ b ≤ t := by simpa using c1
          exact ⟨_, rfl, rfl, (fun z => by cases z), fun z => absurd z.2.1 h1⟩
      · have hc : ¬ m.wd = "clip" := by simpa using c
        exact ⟨rfl, (fun z => by cases z), fun z => absurd z.1 hc⟩
    rintro t' H2 ⟨rfl, ht⟩
    cases t' with
    | true =>
      rw [if_pos (ht.mp rfl)] at hFi
      refine ju ⟨_, rfl, _, rfl, _, rfl, _, _, rfl, rfl, two, fun p hp => kk p _ (qH hp _) ?_⟩
      rw [qF, ← hFi, Int.zero_add]
      rfl
    | false =>
      rw [if_neg (fun z => by cases ht.mpr z)] at hFi
      exact xq ⟨_, rfl, _, rfl, _, rfl, z, vs, _, _, rfl, rfl, SqL.of hz, ai, _, m, rfl, hI, _, _, rfl, rfl, _, _, rfl, hFi, rfl⟩
  · rintro σ H' ⟨o, b, rfl, hFi, rfl⟩
    rw [Int.toNat_natCast, hvl, List.drop_length, qD3] at hFi
    refine ⟨two, fun p hp => kk p _ (qH hp _) ?_⟩
    rw [qF, ← hFi]
    rfl
theorem wm {ms : List Im} {x : Int} (h0 : 0 ≤ x) (h1 : x < ms.length) : ∃ m, ms[x.toNat]? = some m ∧ qh ms x = m.wd := by
  obtain ⟨m, hm⟩ : ∃ m, ms[x.toNat]? = some m := ⟨_, List.getElem?_eq_getElem (by omega)⟩
  exact ⟨m, hm, qAj hm (by omega)⟩
theorem xZ {ms : List Im} {x : Int} (h : ¬ (0 ≤ x ∧ x < ms.length)) : qh ms x = "" := by
  unfold qh
  split
  · rfl
  · rw [List.getElem?_eq_none (by omega)]
theorem wj : ("" : Str) ≠ "mix" := by decide +kernel
theorem wc : ("" : Str) ≠ "clip" := by decide +kernel
def bsF (ms : List Im) (i w : Int) : Int := if qh ms (i + w) = "mix" then i + w + w else i + w
def bsO (ms : List Im) (i w : Int) : Option Int := if qh ms (bsF ms i w) = "clip" then some (bsF ms i w) else none
def opV : Option Int → V
  | some i => .int i
  | none => .non
def v4 : Sp := fun vs H Q _ => ∃ (z : Addr) (ms : List Im) (i w : Int), vs = [.ref z, .int i, .int w] ∧ Tr H z ms ∧ Q (opV (bsO ms i w)) H
theorem zr (T : Tx K mg a) : FnOk P w K mg base CX0 1 a.a__law_beside a.f__law_beside ["_law_track_here", "_law_place", "_law_way"] v4 := by
  refine T.d__law_beside.F.ok sc__law_beside (fun vs H Q E h => ?_) (fun cdv A outer s H vs Q E hr h => ?_)
  · obtain ⟨z, ms, i, w, rfl, _⟩ := h
    rfl
  obtain ⟨z, ms, i, wy, rfl, ⟨vs, hz, his⟩, kk⟩ := h
  refine ⟨_, (qE (qW (i := 3) sc__law_beside.nd rfl (Or.inl rfl) (qP jF (pv 1) (pv 2)))
      (qE (xn (qo (kN (PW.pt (xr (ze v6 kG qB (pv 3) (qY qd rfl T.b_len rfl (qA (pv 0) qD))) (xp (qN jv (qM qK (qM qc (pv 0) (pv 3) (fun _ _ => rfl)) qB (fun _ _ => rfl)) qU (qS _)))))) (qG (qW (i := 3) sc__law_beside.nd rfl (Or.inl rfl) (qP jF (pv 3) (pv 2)))) qX))
      (qE (qo (kN (PW.pt (xr (ze v6 kG qB (pv 3) (qY qd rfl T.b_len rfl (qA (pv 0) qD))) (xp (qN jv (qM qK (qM qc (pv 0) (pv 3) (fun _ _ => rfl)) qB (fun _ _ => rfl)) qU (qS _)))))) (qG (qR (pv 3))) qX)
      (qG (qR xy))))), ?_⟩
  try dsimp only [xJ, qk]
  have hvl := his.len
  have len : ∀ {k : Int}, (k < ((vs.length : Nat) : Int)) = (k < (ms.length : Int)) := fun {k} => by rw [hvl]
  refine ⟨_, rfl, _, rfl, _, _, rfl, rfl, ?_⟩
  refine ⟨fun σ H' => σ = [some (.ref z), some (.int i), some (.int wy), some (.int (bsF ms i wy))] ∧ H' = H, ?_, ?_⟩
  · refine ⟨fun t' H2 => H2 = H ∧ (t' = true ↔ qh ms (i + wy) = "mix"), ?_, ?_⟩
    · refine ⟨_, rfl, _, _, rfl, rfl, _, rfl, xG (fun c1 => ?_) (fun c1 => ?_)⟩
      · have h0 : 0 ≤ i + wy := by simpa using c1
        refine ⟨_, rfl, z, vs, rfl, .inl (SqL.of hz), _, _, rfl, rfl, _, rfl, xG (fun c2 => ?_) (fun c2 => ?_)⟩
        · have h1 : i + wy < ms.length := by have : i + wy < vs.length := by simpa using c2
                                             omega
          obtain ⟨m, hm, hk⟩ := wm h0 h1
          obtain ⟨v, hv, hI⟩ := his.get' hm
          obtain ⟨zi, xi, rfl, hzi, a0, _⟩ := hI.opn
          have ai : atI vs (i + wy) = some (.ref zi) := by rw [show i + wy = (((i + wy).toNat : Nat) : Int) by omega]; exact jc hv
          refine ⟨_, rfl, _, rfl, z, vs, _, _, rfl, rfl, SqL.of hz, ai, zi, xi, _, _, rfl, rfl, SqT.of hzi, a0, rfl, _, rfl, rfl, ?_⟩
          rw [qH8, decide_eq_true_iff, hk]
        · have h1 : ¬ i + wy < vs.length := by simpa using c2
          exact ⟨rfl, (fun z => by cases z), fun z => by rw [xZ (by omega)] at z; exact absurd z wj⟩
      · have h0 : ¬ 0 ≤ i + wy := by simpa using c1
        exact ⟨_, rfl, rfl, (fun z => by cases z), fun z => by rw [xZ (by omega)] at z; exact absurd z wj⟩
    rintro t' H2 ⟨rfl, ht⟩
    unfold bsF
    cases t' with
    | true =>
      rw [if_pos (ht.mp rfl)]
      exact ju ⟨_, rfl, _, rfl, _, _, rfl, rfl, rfl, rfl⟩
    | false =>
      have hk : ¬ qh ms (i + wy) = "mix" := fun z => by cases ht.mpr z
      rw [if_neg hk]
      exact xq ⟨rfl, rfl⟩
  rintro σ H' ⟨rfl, rfl⟩
  unfold bsO at kk
  generalize bsF ms i wy = x at kk ⊢
  refine ⟨fun t' H2 => H2 = H' ∧ (t' = true ↔ qh ms x = "clip"), ?_, ?_⟩
  · refine ⟨_, rfl, _, _, rfl, rfl, _, rfl, xG (fun c1 => ?_) (fun c1 => ?_)⟩
    · have h0 : 0 ≤ x := by simpa using c1
      refine ⟨_, rfl, z, vs, rfl, .inl (SqL.of hz), _, _, rfl, rfl, _, rfl, xG (fun c2 => ?_) (fun c2 => ?_)⟩
      · have h1 : x < ms.length := by have : x < vs.length := by simpa using c2
                                      omega
        obtain ⟨m, hm, hk⟩ := wm h0 h1
        obtain ⟨v, hv, hI⟩ := his.get' hm
        obtain ⟨zi, xi, rfl, hzi, a0, _⟩ := hI.opn
        have ai : atI vs x = some (.ref zi) := by rw [show x = ((x.toNat : Nat) : Int) by omega]; exact jc hv
        refine ⟨_, rfl, _, rfl, z, vs, _, _, rfl, rfl, SqL.of hz, ai, zi, xi, _, _, rfl, rfl, SqT.of hzi, a0, rfl, _, rfl, rfl, ?_⟩
        rw [qH8, decide_eq_true_iff, hk]
      · have h1 : ¬ x < vs.length := by simpa using c2
        exact ⟨rfl, (fun z => by cases z), fun z => by rw [xZ (by omega)] at z; exact absurd z wc⟩
    · have h0 : ¬ 0 ≤ x := by simpa using c1
      exact ⟨_, rfl, rfl, (fun z => by cases z), fun z => by rw [xZ (by omega)] at z; exact absurd z wc⟩
  rintro t' H2 ⟨rfl, ht⟩
  cases t' with
  | true =>
    rw [if_pos (ht.mp rfl)] at kk
    exact ju ⟨_, rfl, kk⟩
  | false =>
    rw [if_neg (fun z => by cases ht.mpr z)] at kk
    exact xq kk
def vL : Sp := fun vs H Q _ => ∃ (z : Addr) (ms : List Im) (i : Int), vs = [.ref z, .int i] ∧ Tr H z ms ∧ ∀ H', Same H H' → Q (.bl (hmB ms i)) H'
theorem vW (T : Tx K mg a) : FnOk P w K mg base CX0 1 a.a__law_has_mix a.f__law_has_mix ["_law_track_here", "_law_place"] vL := by
  refine T.d__law_has_mix.F.ok sc__law_has_mix (fun vs H Q E h => ?_) (fun cdv A outer s H vs Q E hr h => ?_)
  · obtain ⟨z, ms, i, rfl, _⟩ := h
    rfl
  obtain ⟨z, ms, i, rfl, ⟨vs, hz, his⟩, kk⟩ := h
  refine ⟨_, (qE (vo PassesOwn.never rfl (zH (q8 (qA (qP jw (pv 1) qB) (qA (qP jF (pv 1) qB) qD)))) (jl (i := 2) sc__law_has_mix.nd rfl (Or.inl rfl)) (qG (qo (kN (PW.pt (xr (ze v6 kG qB (pv 2) (qY qd rfl T.b_len rfl (qA (pv 0) qD))) (xp (qN jv (qM qK (qM qc (pv 0) (pv 2) (fun _ _ => rfl)) qB (fun _ _ => rfl)) qU (qS _)))))) (qG (qR vz)) qX)))
      (qG (qR vz))), ?_⟩
  try dsimp only [xJ, qk]
  have hvl := his.len
  refine ⟨_, rfl, _, _, rfl, rfl, _, rfl, _, _, rfl, rfl, two, fun lo hlo => ?_⟩
  have w0 := qH hlo (.lst [.int (i - 1), .int (i + 1)])
  have elo : (upd H lo (.lst [.int (i - 1), .int (i + 1)])) lo = some (.lst [.int (i - 1), .int (i + 1)]) := qF
  generalize upd H lo (.lst [.int (i - 1), .int (i + 1)]) = H1 at w0 elo ⊢
  have hz1 := w0 _ _ hz
  have his1 := his.ts (qi w0)
  refine ⟨lo, rfl, ⟨_, SqL.of elo⟩, wz (K := K) (a := lo) (xs := [.int (i - 1), .int (i + 1)]) (fun j σ H' => ∃ o : Option V, σ = [some (.ref z), some (.int i), o] ∧ H' = H1 ∧ (1 ≤ j → qh ms (i - 1) ≠ "mix") ∧ (2 ≤ j → qh ms (i + 1) ≠ "mix"))
    ⟨none, rfl, rfl, by omega, by omega⟩ ?_ ?_ ?_⟩
  · rintro j σ H' hj ⟨o, _, rfl, _⟩
    exact SqL.of elo
  · rintro j v σ H' hv ⟨o, rfl, rfl, n1, n2⟩
    obtain ⟨x, rfl, hx⟩ : ∃ x : Int, v = .int x ∧ ((j = 0 ∧ x = i - 1) ∨ (j = 1 ∧ x = i + 1)) := by
      have hj := glt hv
      match j, hj with
      | 0, _ => exact ⟨_, (Option.some.inj hv).symm, .inl ⟨rfl, rfl⟩⟩
      | 1, _ => exact ⟨_, (Option.some.inj hv).symm, .inr ⟨rfl, rfl⟩⟩
    refine ⟨fun t' H2 => H2 = H' ∧ (t' = true ↔ qh ms x = "mix"), ?_, ?_⟩
    · refine ⟨_, rfl, _, _, rfl, rfl, _, rfl, xG (fun c1 => ?_) (fun c1 => ?_)⟩
      · have h0 : 0 ≤ x := by simpa using c1
        refine ⟨_, rfl, z, vs, rfl, .inl (SqL.of hz1), _, _, rfl, rfl, _, rfl, xG (fun c2 => ?_) (fun c2 => ?_)⟩
        · have h1 : x < ms.length := by have : x < vs.length := by simpa using c2
                                        omega
          obtain ⟨m, hm, hk⟩ := wm h0 h1
          obtain ⟨v, hv, hI⟩ := his1.get' hm
          obtain ⟨zi, xi, rfl, hzi, a0, _⟩ := hI.opn
          have ai : atI vs x = some (.ref zi) := by rw [show x = ((x.toNat : Nat) : Int) by omega]; exact jc hv
          refine ⟨_, rfl, _, rfl, z, vs, _, _, rfl, rfl, SqL.of hz1, ai, zi, xi, _, _, rfl, rfl, SqT.of hzi, a0, rfl, _, rfl, rfl, ?_⟩
          rw [qH8, decide_eq_true_iff, hk]
        · have h1 : ¬ x < vs.length := by simpa using c2
          exact ⟨rfl, (fun z => by cases z), fun z => by rw [xZ (by omega)] at z; exact absurd z wj⟩
      · have h0 : ¬ 0 ≤ x := by simpa using c1
        exact ⟨_, rfl, rfl, (fun z => by cases z), fun z => by rw [xZ (by omega)] at z; exact absurd z wj⟩
    rintro t' H2 ⟨rfl, ht⟩
    cases t' with
    | true =>
      have hx1 := ht.mp rfl
      have e : hmB ms i = true := by
        unfold hmB
        rcases hx with ⟨_, rfl⟩ | ⟨_, rfl⟩
        · rw [decide_eq_true hx1]; rfl
        · rw [decide_eq_true hx1, Bool.or_true]
      have := kk _ w0
      rw [e] at this
      exact ju this
    | false =>
      have hx1 : qh ms x ≠ "mix" := fun z => by cases ht.mpr z
      refine xq ⟨_, rfl, rfl, fun _ => ?_, fun hj => ?_⟩
      · rcases hx with ⟨_, rfl⟩ | ⟨h, rfl⟩
        · exact hx1
        · exact n1 (by omega)
      · rcases hx with ⟨h, rfl⟩ | ⟨_, rfl⟩
        · omega
        · exact hx1
  · rintro σ H' ⟨o, rfl, rfl, n1, n2⟩
    have e : hmB ms i = false := by
      unfold hmB
      rw [decide_eq_false (n1 (by show 1 ≤ 2; decide)), decide_eq_false (n2 (by show 2 ≤ 2; decide))]
      rfl
    have := kk _ w0
    rw [e] at this
    exact this
def kU : Sp := fun vs H Q _ => ∃ (x : V) (b : Bool), vs = [x] ∧ WhB H x b ∧ Q (.bl b) H
theorem xA (T : Tx K mg a) : FnOk P w K mg base CX0 1 a.a__law_is_number a.f__law_is_number ["_law_one"] kU := by
  refine T.d__law_is_number.F.ok kS (fun vs H Q E h => ?_) (fun cdv A outer s H vs Q E hr h => ?_)
  · obtain ⟨x, b, rfl, _⟩ := h
    rfl
  obtain ⟨x, b, rfl, hx, q⟩ := h
  refine ⟨_, (qG (qR (qC1 (qY j6 rfl T.b_isinstance rfl (qA (pv 0) (qA (qB6 rfl T.b_int rfl) qD))) (qAi (qCr (qY j6 rfl T.b_isinstance rfl (qA (pv 0) (qA (qB6 rfl T.b_bool rfl) qD)))))))), ?_⟩
  try dsimp only [xJ, qk]
  obtain ⟨t, i, c, ty, e1, e2, rfl⟩ := hx.ty (K := K)
  refine ⟨_, rfl, _, _, _, i, rfl, ty, ⟨_, .inl ⟨rfl, e1⟩⟩, i, rfl, ?_⟩
  cases i with
  | false => exact xq q
  | true => exact ju ⟨_, rfl, _, _, _, c, rfl, ty, ⟨_, .inl ⟨rfl, e2⟩⟩, c, rfl, q⟩
def qFo (wd : Str) (ms : List Im) (i : Int) : List (Option Int) := if wd = "slip" then [some i] else if wd = "roll" then [some i, bsO ms i (-1)] else [bsO ms i (-1), bsO ms i 1]
def qIl (ms : List Im) (cs : List (Option Int)) : Nat := if cs.any Option.isNone = true then 0 else if cs.any (fun o => hmB ms (o.getD 0)) = true then 1 else 2
def qIu (wd : Str) (ms : List Im) (t : Int) : Nat := match qD3 0 0 ms t with
  | none => 0
  | some (i, d) => if wd = "roll" ∧ 0 < d then 0 else qIl ms (qFo wd ms i)
theorem qEm : ∀ (ms : List Im) (b : Int) (i : Nat) (t : Int) (j : Nat) (d : Int), zJ b i ms t = some (j, d) → 0 ≤ d
  | [], _, _, _, _, _, h => by cases h
  | m :: ms, b, i, t, j, d, h => by
    rw [zJ] at h
    split at h
    · cases h; omega
    · exact qEm ms _ _ _ _ _ h
theorem qIr {ms : List Im} {i : Int} : bsF ms i (-1) = paF ms i := by
  unfold bsF paF
  rw [show i + -1 = i - 1 by omega]
  split <;> omega
theorem qKf {ms : List Im} {i : Int} : bsF ms i 1 = pbF ms i := by
  unfold bsF pbF
  split <;> omega
theorem qIv {wd : Str} {ms : List Im} {t : Int} (hw : Wd3 wd) (hm : ∀ m ∈ ms, 0 ≤ m.mo) : mxF ms (plF wd ms t) = qIu wd ms t := by
  unfold qIu
  rw [qA0 ms 0 0 t hm]
  unfold plF
  cases hit : zJ 0 0 ms t with
  | none =>
    have h1 : cbF ms t = none := by unfold cbF nbF; rw [hit]
    have h2 : ctF ms t = none := by unfold ctF; rw [hit]
    have h3 : csF ms t = none := by unfold csF; rw [h2]
    rw [h1, h2, h3]
    rcases hw with rfl | rfl | rfl
    · rw [if_pos rfl]; rfl
    · rw [if_neg (by decide +kernel), if_pos rfl]; rfl
    · rw [if_neg (by decide +kernel), if_neg (by decide +kernel)]; rfl
  | some r =>
    obtain ⟨i, d⟩ := r
    have hd := qEm _ _ _ _ _ _ hit
    dsimp only
    rw [Nat.sub_zero]
    have hki : qJe ms i = qh ms (i : Int) := by
      unfold qh qJe
      rw [if_neg (by omega), Int.toNat_natCast]
      all_goals (cases ms[i]? <;> rfl)
    rw [hki]
    by_cases hk : qh ms (i : Int) = "clip"
    case neg =>
      rw [if_neg hk]
      have h1 : cbF ms t = none := by
        unfold cbF nbF
        rw [hit]
        dsimp only
        split
        · rename_i h
          split at h
          · cases h
          · cases h
            rw [if_neg (fun z => hk z.2)]
        · rfl
      have h2 : ctF ms t = none := by unfold ctF; rw [hit]; dsimp only; rw [if_neg hk]
      have h3 : csF ms t = none := by unfold csF; rw [h2]
      rw [h1, h2, h3]
      rcases hw with rfl | rfl | rfl
      · rw [if_pos rfl]; rfl
      · rw [if_neg (by decide +kernel), if_pos rfl]; rfl
      · rw [if_neg (by decide +kernel), if_neg (by decide +kernel)]; rfl
    rw [if_pos hk]
    dsimp only
    have h2 : ctF ms t = some i := by unfold ctF; rw [hit]; dsimp only; rw [if_pos hk]
    rcases hw with rfl | rfl | rfl
    · rw [if_pos rfl]
      by_cases h0 : 0 < d
      · rw [if_pos ⟨rfl, h0⟩]
        have h1 : cbF ms t = none := by
          unfold cbF nbF
          rw [hit]
          dsimp only
          rw [if_pos (.inl (by omega))]
        rw [h1]; rfl
      · rw [if_neg (fun z => h0 z.2)]
        unfold qFo
        rw [if_neg (by decide +kernel), if_pos rfl]
        unfold qIl bsO
        rw [qIr]
        have h1 : cbF ms t = if qh ms (paF ms i) = "clip" then some (paF ms i, (i : Int)) else none := by
          unfold cbF nbF
          rw [hit]
          dsimp only
          by_cases hi0 : (i : Int) = 0
          · rw [if_pos (.inr hi0)]
            dsimp only
            rw [if_neg]
            intro z
            have : paF ms (i : Int) < 0 := by unfold paF; split <;> omega
            rw [xZ (by omega)] at z
            exact absurd z wc
          · rw [if_neg (by omega)]
            dsimp only
            unfold paF
            by_cases hc : qh ms (if qh ms ((i : Int) - 1) = "mix" then (i : Int) - 2 else (i : Int) - 1) = "clip"
            · rw [if_pos ⟨hc, hk⟩, if_pos hc]
            · rw [if_neg (fun z => hc z.1), if_neg hc]
        rw [h1]
        by_cases hc : qh ms (paF ms (i : Int)) = "clip"
        · rw [if_pos hc, if_pos hc]
          simp [mxF, Bool.or_comm]
        · rw [if_neg hc, if_neg hc]
          simp [mxF]
    · rw [if_neg (by decide +kernel), if_pos rfl, h2, if_neg (fun z => absurd z.1 (by decide +kernel))]
      unfold qFo
      rw [if_pos rfl]
      simp [mxF, qIl]
    · rw [if_neg (by decide +kernel), if_neg (by decide +kernel), if_neg (fun z => absurd z.1 (by decide +kernel))]
      unfold qFo
      rw [if_neg (by decide +kernel), if_neg (by decide +kernel)]
      unfold csF
      rw [h2]
      dsimp only
      unfold qIl bsO
      rw [qIr, qKf]
      by_cases hc : qh ms (paF ms (i : Int)) = "clip"
      case neg =>
        rw [if_neg (fun z => hc z.1), if_neg hc]
        simp [mxF]
      by_cases hc' : qh ms (pbF ms (i : Int)) = "clip"
      case neg =>
        rw [if_neg (fun z => hc' z.2), if_neg hc']
        simp [mxF]
      rw [if_pos ⟨hc, hc'⟩, if_pos hc, if_pos hc']
      have hmid : hmB ms (i : Int) = true → (hmB ms (paF ms i) || hmB ms (pbF ms i)) = true := fun h => by
        unfold hmB at h
        rw [Bool.or_eq_true, decide_eq_true_eq, decide_eq_true_eq] at h
        rw [Bool.or_eq_true]
        rcases h with h | h
        · left
          unfold hmB paF
          rw [if_pos h, show (i : Int) - 2 + 1 = (i : Int) - 1 by omega, decide_eq_true h, Bool.or_true]
        · right
          unfold hmB pbF
          rw [if_pos h, show (i : Int) + 2 - 1 = (i : Int) + 1 by omega, decide_eq_true h]
          rfl
      have ee : [paF ms (i : Int), (i : Int), pbF ms i].any (hmB ms) = (hmB ms (paF ms i) || hmB ms (pbF ms i)) := by
        simp only [List.any_cons, List.any_nil, Bool.or_false]
        cases h1 : hmB ms (i : Int) with
        | false => rw [Bool.false_or]
        | true => rw [hmid h1, Bool.true_or, Bool.or_true]
      show (if [paF ms (i : Int), (i : Int), pbF ms i].any (hmB ms) = true then 1 else 2) = _
      rw [ee]
      simp
def qJ6 : Nat → Str
  | 0 => "place"
  | 1 => "mixed"
  | _ => "done"
theorem inN : ∀ cs : List (Option Int), inV .non (cs.map opV) = cs.any Option.isNone
  | [] => rfl
  | o :: cs => by
    have := inN cs
    unfold inV at this ⊢
    rw [List.map_cons, List.any_cons, List.any_cons, this]
    cases o <;> rfl
theorem inT : ∀ bs : List Bool, inV (.bl true) (bs.map V.bl) = bs.any id
  | [] => rfl
  | b :: bs => by
    have := inT bs
    unfold inV at this ⊢
    rw [List.map_cons, List.any_cons, List.any_cons, this]
    cases b <;> rfl
theorem qHp (cs : List (Option Int)) : (cs.map opV).all xL = true := by
  induction cs with
  | nil => rfl
  | cons o cs ih => rw [List.map_cons, List.all_cons, ih]; cases o <;> rfl
theorem qD9 (bs : List Bool) : (bs.map V.bl).all xL = true := by
  induction bs with
  | nil => rfl
  | cons o cs ih => rw [List.map_cons, List.all_cons, ih]; rfl
def qCg : Sp := fun vs H Q _ => ∃ (lz dz : Addr) (zs : List V) (ts : List (List Im)) (wd : Str) (n t b : V) (on ot ob : Option Int), vs = [.ref lz, .ref dz] ∧ H lz = some (.lst zs) ∧ TrsAt H ts zs ∧ H dz = some (.tup [.str wd, n, t, b]) ∧ Nu H n on ∧ Nu H t ot ∧ Nu H b ob ∧ Wd3 wd ∧
  (∀ ms ∈ ts, ms.length ≤ 300 ∧ ∀ m ∈ ms, 0 ≤ m.mo) ∧ ∀ H', Same H H' → Q (.str (qJ6 (qBm ts wd on ot ob))) H'
theorem qBo (T : Tx K mg a) : FnOk P w K mg base CX0 3 a.a__law_due a.f__law_due ["_law_tracks", "_law_deed"] qCg := by
  refine T.d__law_due.F.ok sc__law_due (fun vs H Q E h => ?_) (fun cdv A outer s H vs Q E hr h => ?_)
  · obtain ⟨lz, dz, zs, ts, wd, n, t, b, on, ot, ob, rfl, _⟩ := h
    rfl
  obtain ⟨lz, dz, zs, ts, wd, n, t, b, on, ot, ob, rfl, hlz, hT, hd, hn, ht, hb, hw, hms, kk⟩ := h
  refine ⟨_, (qE (wI (pv 1) (qEi rfl (xk (jl (i := 2) sc__law_due.nd rfl (Or.inl rfl)) (xk (jl (i := 3) sc__law_due.nd rfl (Or.inr rfl)) (xk (jl (i := 4) sc__law_due.nd rfl (Or.inl rfl)) (xk (jl (i := 5) sc__law_due.nd rfl (Or.inl rfl)) qB7))))))
      (qE (qo (PW.pt (zP (zO (zN (qL T.d__law_is_number (xA T) hr rfl (qA (pv 3) qD)))) (zP (zO (ze v6 kG qB (pv 3) (qY qd rfl T.b_len rfl (qA (pv 0) qD)))) (zP (zO (zN (qL T.d__law_is_number (xA T) hr rfl (qA (pv 4) qD)))) (zL (zO (zN (qL T.d__law_is_number (xA T) hr rfl (qA (pv 5) qD))))))))) (qG (qR qU)) qX)
      (qE (wI (qL T.d__law_clip_at (vp T) hr rfl (qA (qM qc (pv 0) (pv 3) (fun _ _ => rfl)) (qA (pv 4) qD))) (qEi rfl (xk (jl (i := 6) sc__law_due.nd rfl (Or.inl rfl)) (xk (jl (i := 7) sc__law_due.nd rfl (Or.inl rfl)) qB7))))
      (qE (qo (kN (PW.pt (zP (wK (wJ (pv 6))) (zP (zO (ze v6 v6 (z9 xf (qP wG qB qB)) (pv 5) (qP wG qB qB))) (zL (PW.pt (xr (qN jv (pv 2) qU (qS _)) (xp (qN wB (pv 7) qB (qS _)))))))))) (qG (qR qU)) qX)
      (qE (qW (i := 8) sc__law_due.nd rfl (Or.inl rfl) (q8 (qA (pv 6) qD)))
      (qE (xn (qo (qN kr (pv 2) qU (qS _)) (qG (jx (qA1 F.plainAttrs_list F.slot_list_append F.type_list_append xY (pv 8) (qA (qL T.d__law_beside (zr T) hr rfl (qA (qM qc (pv 0) (pv 3) (fun _ _ => rfl)) (qA (pv 6) (qA (z9 xf qB) qD)))) qD)))) qX))
      (qE (xn (qo (qN jv (pv 2) qU (qS _)) (qG (qW (i := 8) sc__law_due.nd rfl (Or.inl rfl) (q8 (qA (qM qc (pv 8) qB (fun _ _ => rfl)) (qA (qL T.d__law_beside (zr T) hr rfl (qA (qM qc (pv 0) (pv 3) (fun _ _ => rfl)) (qA (pv 6) (qA qB qD)))) qD))))) qX))
      (qE (qo (qN vh xy (pv 8) rfl) (qG (qR qU)) qX)
      (qE (qo (qN vh vz (kW ["_law_tracks", "_law_at"] [0, 3] rfl (zH (pv 8)) (fun _ _ _ _ => (qL T.d__law_has_mix (vW T) hr rfl (qA (qM (qF4 (K := K) rfl) (pv 1) (pv 2) (fun _ _ => rfl)) (qA (pv 0) qD))))) rfl) (qG (qR qU)) qX)
      (qG (qR qU))))))))))), ?_⟩
  try dsimp only [xJ, qk]
  refine ⟨_, rfl, dz, _, rfl, SqT.of hd, rfl, _, _, rfl, _, _, rfl, _, _, rfl, _, _, rfl, rfl, ?_⟩
  have z0 : qBm ts wd on ot ob = 0 → ∀ H', Same H H' → Q (.str "place") H' := fun h H' e => by have := kk H' e; rw [h] at this; exact this
  have hzl := hT.len
  have r0 := Same.refl H
  cases hn with
  | no h => exact ⟨_, rfl, n, false, rfl, .no h, false, rfl, ju (ju (z0 rfl H r0))⟩
  | int n =>
  refine ⟨_, rfl, _, true, rfl, .int n, true, rfl, xq ?_⟩
  refine ⟨_, rfl, _, _, rfl, rfl, _, rfl, ?_⟩
  have pf : ¬ (0 ≤ n ∧ n < ts.length) → qBm ts wd (some n) ot ob = 0 := fun h => qJt (by
    have : qB9 ts.length (some n) ot = false := by
      unfold qB9
      cases ot with
      | none => rfl
      | some m =>
        dsimp only
        by_cases h0 : 0 ≤ n
        · rw [decide_eq_false (show ¬ n < ts.length from fun z => h ⟨h0, z⟩), Bool.and_false]; rfl
        · rw [decide_eq_false h0]; rfl
    rw [this]; rfl)
  by_cases h0 : 0 ≤ n
  case neg =>
    rw [decide_eq_false h0]
    exact xq ⟨_, rfl, ju (ju (z0 (pf fun z => h0 z.1) H r0))⟩
  rw [decide_eq_true h0]
  refine ju ⟨_, rfl, lz, zs, rfl, .inl (SqL.of hlz), _, _, rfl, rfl, _, rfl, ?_⟩
  by_cases h1 : n < zs.length
  case neg =>
    rw [decide_eq_false h1]
    exact ju (ju (z0 (pf fun z => h1 (by omega)) H r0))
  rw [decide_eq_true h1]
  refine xq ?_
  cases ht with
  | no h => exact ⟨_, rfl, t, false, rfl, .no h, false, rfl, ju (ju (z0 rfl H r0))⟩
  | int t =>
  refine ⟨_, rfl, _, true, rfl, .int t, true, rfl, xq ?_⟩
  cases hb with
  | no h => exact ⟨_, rfl, b, false, rfl, .no h, false, rfl, ju (z0 rfl H r0)⟩
  | int b =>
  refine ⟨_, rfl, _, true, rfl, .int b, true, rfl, xq ?_⟩
  obtain ⟨nt, rfl⟩ : ∃ k : Nat, n = (k : Int) := ⟨n.toNat, by omega⟩
  have hnt : nt < ts.length := by omega
  obtain ⟨ms, hmt⟩ : ∃ ms, ts[nt]? = some ms := ⟨_, List.getElem?_eq_getElem hnt⟩
  have ez : zs[nt]? = some zs[nt] := List.getElem?_eq_getElem (by omega)
  obtain ⟨ms1, z, hms1, ezz, tT⟩ := hT.get ez
  rw [hmt] at hms1
  cases hms1
  rw [ezz] at ez
  have ai : atI zs (nt : Int) = some (.ref z) := jc ez
  obtain ⟨hml, hmo⟩ := hms ms (List.mem_of_getElem? hmt)
  have hO : qBm ts wd (some (nt : Int)) (some t) (some b) = if b.natAbs ≤ 1000000 then qIu wd ms t else 0 := by
    unfold qBm
    dsimp only
    rw [Int.toNat_natCast, List.getD_eq_getElem?_getD, hmt]
    show (if _ then mxF ms (plF wd ms t) else 0) = _
    rw [qIv hw hmo]
    have hpl : qB9 ts.length (some (nt : Int)) (some t) = decide (0 ≤ t) := by
      unfold qB9
      dsimp only
      rw [decide_eq_true h0, decide_eq_true (show (nt : Int) < ts.length by omega)]
      rfl
    by_cases hb' : b.natAbs ≤ 1000000
    · rw [if_pos hb']
      by_cases ht' : 0 ≤ t
      · rw [if_pos ⟨by rw [hpl]; exact decide_eq_true ht', decide_eq_true hb'⟩]
      · rw [if_neg (fun z => by rw [hpl] at z; exact ht' (of_decide_eq_true z.1))]
        unfold qIu
        rw [wo ms 0 0 t (by omega) hmo]
    · rw [if_neg hb', if_neg (fun z => hb' (of_decide_eq_true z.2))]
  rw [hO] at kk z0
  clear hO pf hms
  refine ⟨_, rfl, _, rfl, lz, zs, _, _, rfl, rfl, SqL.of hlz, ai, _, rfl, z, ms, t, rfl, tT, hml, fun p H1 e1 hp => ?_⟩
  unfold qIu at kk z0
  cases hcat : qD3 0 0 ms t with
  | none =>
    rw [hcat] at hp kk z0
    refine ⟨p, _, rfl, SqT.of hp, rfl, _, _, rfl, _, _, rfl, rfl, ?_⟩
    refine ⟨fun t' H2 => H2 = H1 ∧ t' = true, ⟨_, rfl, _, rfl, qEj (by decide) ⟨rfl, rfl⟩⟩, ?_⟩
    rintro t' H2 ⟨rfl, rfl⟩
    exact ju (z0 (by split <;> rfl) _ e1)
  | some r =>
  obtain ⟨i, d⟩ := r
  rw [hcat] at hp kk z0
  dsimp only at kk z0
  refine ⟨p, _, rfl, SqT.of hp, rfl, _, _, rfl, _, _, rfl, rfl, ?_⟩
  have e6 : (10 : Int) ^ (6 : Int).toNat = 1000000 := by decide
  refine ⟨fun t' H2 => H2 = H1 ∧ (t' = true ↔ (¬ b.natAbs ≤ 1000000 ∨ (wd = "roll" ∧ 0 < d))), ?_, ?_⟩
  · refine ⟨_, rfl, _, rfl, qE5 (decide_eq_false (fun z => by cases z)) ?_⟩
    refine ⟨_, _, rfl, rfl, cpw (n := 6) (by decide), _, rfl, _, rfl, _, _, rfl, rfl, _, rfl, ?_⟩
    rw [e6]
    by_cases hb1 : -1000000 ≤ b
    case neg =>
      rw [decide_eq_false hb1]
      exact xq ⟨_, rfl, ju ⟨rfl, fun _ => .inl (by omega), fun _ => rfl⟩⟩
    rw [decide_eq_true hb1]
    refine ju ⟨_, _, rfl, rfl, cpw (n := 6) (by decide), _, _, rfl, rfl, _, rfl, ?_⟩
    rw [e6]
    by_cases hb2 : b ≤ 1000000
    case neg =>
      rw [decide_eq_false hb2]
      exact ju ⟨rfl, fun _ => .inl (by omega), fun _ => rfl⟩
    rw [decide_eq_true hb2]
    refine xq ⟨_, rfl, rfl, _, rfl, xG (fun c => ?_) (fun c => ?_)⟩
    · have hc : wd = "roll" := by simpa using c
      refine ⟨_, rfl, _, _, rfl, rfl, _, rfl, rfl, ?_⟩
      rw [decide_eq_true_iff]
      exact ⟨fun h => .inr ⟨hc, h⟩, fun h => h.elim (fun h => absurd h (by omega)) fun h => h.2⟩
    · have hc : ¬ wd = "roll" := by simpa using c
      exact ⟨rfl, (fun z => by cases z), fun h => h.elim (fun h => absurd h (by omega)) fun h => absurd h.1 hc⟩
  rintro t' H2 ⟨rfl, htt⟩
  cases t' with
  | true =>
    refine ju (z0 ?_ _ e1)
    rcases htt.mp rfl with h | h
    · rw [if_neg h]
    · by_cases hb3 : b.natAbs ≤ 1000000
      · rw [if_pos hb3, if_pos h]
      · rw [if_neg hb3]
  | false =>
  have hnn : ¬ (¬ b.natAbs ≤ 1000000 ∨ (wd = "roll" ∧ 0 < d)) := fun z => by cases htt.mpr z
  have hbb : b.natAbs ≤ 1000000 := by omega
  rw [if_pos hbb, if_neg (fun z => hnn (.inr z))] at kk
  clear z0 htt hnn hp
  have tT1 := tT.same e1
  have hlz1 := e1 _ _ hlz
  refine xq ⟨_, rfl, qK1, fun lc hlc => ?_⟩
  have w2 := qH hlc (.lst [.int (i : Int)])
  have e2 := e1.trans w2
  have elc : (upd H2 lc (.lst [.int (i : Int)])) lc = some (.lst [.int (i : Int)]) := qF
  have lc0 : H lc = none := e1.free hlc
  generalize upd H2 lc (.lst [.int (i : Int)]) = H3 at w2 e2 elc ⊢
  have tT3 := tT.same e2
  have hlz3 := e2 _ _ hlz
  refine ⟨fun σ H' => σ = [some (.ref lz), some (.ref dz), some (.str wd), some (.int (nt : Int)), some (.int t), some (.int b), some (.int (i : Int)), some (.int d), some (.ref lc)] ∧ Same H H' ∧ H' lc = some (.lst ((if wd = "slip" then [some (i : Int)] else [some (i : Int), bsO ms i (-1)]).map opV)), ?_, ?_⟩
  · refine ⟨_, rfl, rfl, _, rfl, xG (fun c => ?_) (fun c => ?_)⟩
    · have hc : ¬ wd = "slip" := by simpa using c
      rw [if_neg hc]
      refine ⟨_, rfl, .inl ⟨rfl, _, SqL.of elc⟩, _, rfl, _, rfl, lz, zs, _, _, rfl, rfl, SqL.of hlz3, ai, _, rfl, _, rfl, z, ms, i, -1, rfl, tT3, lc, _, _, rfl, rfl, elc, qj (by show 1 ≤ 1000; decide), ?_⟩
      exact ⟨rfl, xH e2 lc0, qF⟩
    · have hc : wd = "slip" := by simpa using c
      rw [if_pos hc]
      exact ⟨rfl, e2, elc⟩
  clear elc tT3 hlz3 e2 w2
  rintro σ H4 ⟨rfl, e4, elc⟩
  have tT4 := tT.same e4
  have hlz4 := e4 _ _ hlz
  refine ⟨fun σ H' => ∃ lc', σ = [some (.ref lz), some (.ref dz), some (.str wd), some (.int (nt : Int)), some (.int t), some (.int b), some (.int (i : Int)), some (.int d), some (.ref lc')] ∧ Same H H' ∧ H' lc' = some (.lst ((qFo wd ms i).map opV)), ?_, ?_⟩
  · refine ⟨_, rfl, rfl, _, rfl, xG (fun c => ?_) (fun c => ?_)⟩
    · have hc : wd = "slide" := by simpa using c
      rw [if_neg (by rw [hc]; decide +kernel)] at elc
      refine (qKn rfl (SqL.of elc) at1 ⟨_, rfl, _, rfl, lz, zs, _, _, rfl, rfl, SqL.of hlz4, ai, _, rfl, z, ms, i, 1, rfl, tT4, two, fun l2 hl2 => ?_⟩)
      refine ⟨l2, rfl, e4.trans (qH hl2 _), ?_⟩
      unfold qFo
      rw [if_neg (by rw [hc]; decide +kernel), if_neg (by rw [hc]; decide +kernel)]
      exact qF
    · have hc : ¬ wd = "slide" := by simpa using c
      refine ⟨lc, rfl, e4, ?_⟩
      rw [elc]
      unfold qFo
      rcases hw with rfl | rfl | rfl
      · rw [if_neg (by decide +kernel), if_neg (by decide +kernel), if_pos rfl]
      · rw [if_pos rfl, if_pos rfl]
      · exact absurd rfl hc
  clear elc tT4 hlz4 e4 lc0
  rintro σ H5 ⟨lc', rfl, e5, elc⟩
  have tT5 := tT.same e5
  have hlz5 := e5 _ _ hlz
  have hdl : (qFo wd ms i).length ≤ 2 := by
    unfold qFo
    split
    · show 1 ≤ 2; decide
    · split
      · show 2 ≤ 2; decide
      · show 2 ≤ 2; decide
  unfold qIl at kk
  generalize qFo wd ms i = cs at elc kk hdl
  refine ⟨_, rfl, lc', _, rfl, .inl (SqL.of elc), rfl, qHp _, _, rfl, ?_⟩
  rw [inN]
  cases hno : cs.any Option.isNone with
  | true =>
    rw [hno] at kk
    exact ju (kk _ e5)
  | false =>
  rw [hno, if_neg (by decide)] at kk
  refine xq ?_
  refine ⟨_, rfl, lc', rfl, ⟨_, SqL.of elc⟩, zB (K := K) (a := lc') (xs := cs.map opV) (fun j acc H2 => acc = ((cs.take j).map (fun o => hmB ms (o.getD 0))).map V.bl ∧ Same H5 H2) ⟨rfl, Same.refl _⟩ ?_ ?_ ?_⟩
  · rintro j acc H6 hj ⟨rfl, e6⟩
    exact ⟨SqL.of (e6 _ _ elc), qj (by rw [List.length_map, List.length_map, List.length_take]; omega)⟩
  · rintro j x acc H6 hj hx ⟨rfl, e6⟩
    obtain ⟨k, hk, rfl⟩ : ∃ k : Int, cs[j]? = some (some k) ∧ x = .int k := by
      rw [List.getElem?_map] at hx
      cases hq : cs[j]? with
      | none => rw [hq] at hx; cases hx
      | some o =>
        rw [hq] at hx
        cases o with
        | none =>
          have : cs.any Option.isNone = true := List.any_eq_true.mpr ⟨none, List.mem_of_getElem? hq, rfl⟩
          rw [hno] at this; cases this
        | some k => cases hx; exact ⟨k, rfl, rfl⟩
    refine ⟨_, rfl, _, rfl, lz, zs, _, _, rfl, rfl, SqL.of (e6 _ _ hlz5), ai, _, rfl, z, ms, k, rfl, tT5.same e6, fun H7 e7 => Nxt.mk hj ⟨?_, e6.trans e7⟩⟩
    rw [List.take_add_one, hk]
    simp
  rintro acc H6 ⟨rfl, e6⟩ D hD
  rw [List.length_map, List.take_length]
  refine ⟨D, _, rfl, .inl (SqL.of qF), rfl, qD9 _, _, rfl, ?_⟩
  have w7 := qH hD (.lst ((cs.map (fun o => hmB ms (o.getD 0))).map V.bl))
  have e7 := (e5.trans e6).trans w7
  rw [inT, List.any_map]
  have k7 := kk _ e7
  cases hmx : cs.any (fun o => hmB ms (o.getD 0)) with
  | true =>
    rw [hmx] at k7
    exact qEj hmx k7
  | false =>
    rw [hmx] at k7
    exact qE5 hmx k7
def kdF : Nat → List Bool
  | 0 => [true, false, false, false, false, false]
  | 1 => [false, true, false, false, false, false]
  | _ => [false, false, true, false, false, false]
theorem qIq {H : Hp} {x y : Addr} {bs : List Bool} {Q : VK} (h1 : H x = some (.lst (bs.map V.bl))) (h2 : H y = some (.lst [])) (q : Q (.bl bs.isEmpty) H) : qI4 K false (.ref x) (.ref y) H Q := by
  refine ⟨.lst ((bs.map V.bl).map D.leaf), .lst [], ?_, ?_, rfl, by unfold dep; rw [vO]; decide, ?_⟩
  · unfold Rep; exact ⟨x, _, rfl, SqL.of h1, vG (qD9 bs)⟩
  · unfold Rep; exact ⟨y, [], rfl, SqL.of h2, by unfold Reps; trivial⟩
  · have e : eqD (.lst ((bs.map V.bl).map D.leaf)) (.lst []) = bs.isEmpty := by cases bs <;> simp [eqD, zg]
    rw [e]
    exact q
def qBd : Sp := fun vs H Q _ => ∃ (wy : Int) (tz dz rd : Addr) (ts : List (List Im)) (tie : List Int) (wd : Str) (n t b : V) (on ot ob : Option Int) (rl : Rls), vs = [.int wy, .ref tz, .ref dz, .ref rd] ∧ RollIn H tz dz rd ts tie wd n t b on ot ob rl ∧ ∀ H', Same H H' → Q (.str (qJ6 (qBm ts wd on ot ob))) H'
theorem qI6 {ts : List (List Im)} {wd : Str} {n t b : Option Int} : qBm ts wd n t b ≤ 2 := by
  unfold qBm
  split
  · split
    · unfold mxF
      split
      · decide
      · split <;> decide
    · decide
  · decide
theorem qBh (T : Tx K mg a) : FnOk P w K mg base CX0 10 a.a__law_told a.f__law_told ["_law_way", "_law_table", "_law_deed", "_law_reels_here"] qBd := by
  refine T.d__law_told.F.ok sc__law_told (fun vs H Q E h => ?_) (fun cdv A outer s H vs Q E hr h => ?_)
  · obtain ⟨wy, tz, dz, rd, ts, tie, wd, n, t, b, on, ot, ob, rl, rfl, _⟩ := h
    rfl
  obtain ⟨wy, tz, dz, rd, ts, tie, wd, n, t, b, on, ot, ob, rl, rfl, hI, kk⟩ := h
  have hu := hr.units
  obtain ⟨r, hr'⟩ : ∃ r, qBm ts wd on ot ob = r := ⟨_, rfl⟩
  have hr2 : r ≤ 2 := by rw [← hr']; exact qI6
  rw [hr'] at kk
  obtain ⟨Exn, hEx⟩ : ∃ Exn : Value → Option Addr → Hp → Prop, Exn = fun B od H' => Same H H' ∧ ((B = .ref a.k_NoPlace ∧ od = none ∧ r = 0) ∨ (B = .ref a.k_Mixed ∧ od = none ∧ r = 1) ∨ (B = .ref a.k_Short ∧ (∃ dx v, od = some dx ∧ H' dx = some (.xd [("most", v)])) ∧ r = 2)) := ⟨_, rfl⟩
  refine ⟨_, (qE (qW (i := 4) sc__law_told.nd rfl (Or.inl rfl) (q8 qD))
      (qE (xn (qIw (Exn) (.some (i := 5) rfl rfl) sc__law_told.nd rfl T.c_CutError (fun _ => (qG (qo (qN jv (pv 0) qB (qS _)) (qG (jx (zK T.d_rolled (wE T) hr rfl (qA (pv 1) (qA (pv 2) (qA (pv 3) qD)))))) (qG (jx (zK T.d_deed_done (wQ T) hr rfl (qA (pv 1) (qA (pv 2) (qA (pv 3) qD))))))))) (fun _ _ => (qE (qW (i := 4) sc__law_told.nd rfl (Or.inl rfl) (q8 (qA (qY (jX (K := K) rfl) rfl T.b_isinstance rfl (qA (pv 5) (qA (jy (v := .ref a.k_NoPlace) rfl T.c_NoPlace rfl) qD))) (qA (qY (jX (K := K) rfl) rfl T.b_isinstance rfl (qA (pv 5) (qA (jy (v := .ref a.k_Mixed) rfl T.c_Mixed rfl) qD))) (qA (qY (jX (K := K) rfl) rfl T.b_isinstance rfl (qA (pv 5) (qA (jy (v := .ref a.k_Short) rfl T.c_Short rfl) qD))) (qA (qY (jX (K := K) rfl) rfl T.b_isinstance rfl (qA (pv 5) (qA (jy (v := .ref a.k_NoClip) rfl T.c_NoClip rfl) qD))) qD))))))
      (qG (qW (i := 4) sc__law_told.nd rfl (Or.inl rfl) (qP qIb (pv 4) (q8 (qA (qY (jX (K := K) rfl) rfl T.b_isinstance rfl (qA (pv 5) (qA (jy (v := .ref a.k_NoRoom) rfl T.c_NoRoom rfl) qD))) (qA (qCr (qY (jX (K := K) rfl) rfl T.b_isinstance rfl (qA (pv 5) (qA (qB6 rfl T.b_ValueError rfl) qD)))) qD))))))))))
      (qE (qo (qN (qIm hu) (pv 4) (q8 qD) (qS _)) (qG (qR qU)) qX)
      (qE (qo (qN kr (qY (vg rfl) rfl T.b_sum rfl (qA (kW [] [] rfl (zH (pv 4)) (fun _ _ _ _ => (xc qEu rfl T.b_int rfl (qA (pv 0) qD)))) qD)) qB (qS _)) (qG (qR qU)) qX)
      (qG (qR (qM qc (q8 (qA qU (qA qU (qA qU (qA qU (qA qU (qA qU qD))))))) (qA1 F.plainAttrs_list F.slot_list_index F.type_list_index qFj (pv 4) (qA vz qD)) (fun _ _ => rfl)))))))), ?_⟩
  try dsimp only [xJ, qk]
  subst hEx
  refine ⟨sL0, fun kz hkz => ?_⟩
  have w1 := qH hkz (.lst [])
  have ekz : (upd H kz (.lst [])) kz = some (.lst []) := qF
  generalize upd H kz (.lst []) = H1 at w1 ekz ⊢
  have hI1 := hI.same w1
  refine ⟨fun σ H' => ∃ (o1 o2 o3 o4 o6 : Option V) (kz : Addr) (bs : List Bool), σ = [o1, o2, o3, o4, some (.ref kz), o6] ∧ Same H H' ∧ H' kz = some (.lst (bs.map V.bl)) ∧ ((bs = [] ∧ r = 2) ∨ bs = kdF r), ?_, ?_⟩
  · refine ⟨?_, ?_⟩
    · have body : ∀ {E' : XK}, (E' = fun B od H' => Same H H' ∧ ((B = .ref a.k_NoPlace ∧ od = none ∧ r = 0) ∨ (B = .ref a.k_Mixed ∧ od = none ∧ r = 1) ∨ (B = .ref a.k_Short ∧ (∃ dx v, od = some dx ∧ H' dx = some (.xd [("most", v)])) ∧ r = 2))) → (r = 0 → ∀ H', Same H1 H' → E' (.ref a.k_NoPlace) none H') ∧ (r = 1 → ∀ H', Same H1 H' → E' (.ref a.k_Mixed) none H') ∧ (r = 2 → ∀ (dx : Addr) (v : V) (H' : Hp), Same H1 H' → H' dx = some (.xd [("most", v)]) → E' (.ref a.k_Short) (some dx) H') := by
        rintro E' rfl
        exact ⟨fun h H' e => ⟨w1.trans e, .inl ⟨rfl, rfl, h⟩⟩, fun h H' e => ⟨w1.trans e, .inr (.inl ⟨rfl, rfl, h⟩)⟩, fun h dx v H' e hd => ⟨w1.trans e, .inr (.inr ⟨rfl, ⟨dx, v, rfl, hd⟩, h⟩)⟩⟩
      obtain ⟨b0, b1, b2⟩ := body rfl
      refine ⟨_, rfl, rfl, _, rfl, xG (fun _ => ?_) (fun _ => ?_)⟩
      · refine ⟨_, rfl, _, rfl, _, rfl, tz, dz, rd, ts, tie, wd, n, t, b, on, ot, ob, rl, rfl, hI1, ?_⟩
        rw [hr']
        exact ⟨b0, b1, fun h => ⟨fun y H' e => ⟨_, _, _, _, _, kz, [], rfl, w1.trans e, e _ _ ekz, .inl ⟨rfl, h⟩⟩, b2 h⟩⟩
      · refine ⟨_, rfl, _, rfl, _, rfl, tz, dz, rd, ts, tie, wd, n, t, b, on, ot, ob, rl, rfl, hI1, ?_⟩
        rw [hr']
        exact ⟨b0, b1, fun h => ⟨fun y H' e => ⟨_, _, _, _, _, kz, [], rfl, w1.trans e, e _ _ ekz, .inl ⟨rfl, h⟩⟩, b2 h⟩⟩
    · rintro ea ⟨B1, B2⟩ σ' H' ⟨sH, hB⟩ hn hl'
      obtain ⟨o1, o2, o3, o4, o5, o6, rfl⟩ : ∃ o1 o2 o3 o4 o5 o6, σ' = [o1, o2, o3, o4, o5, o6] := by
        match σ', hl' with
        | [o1, o2, o3, o4, o5, o6], _ => exact ⟨o1, o2, o3, o4, o5, o6, rfl⟩
      obtain ⟨C, c1, c2, c3, rfl, hx, hE, hown, f1, f2, f3, f4, f5, f6, hk⟩ : ∃ (C : Addr) (c1 c2 c3 : Bool), B1 = .ref C ∧ W.exmOne K (.ref C) (.ref a.k_CutError) = some true ∧ L3.ExcK K C ∧ OwnD H' B2 ∧ W.kitOne K (.ref C) (.ref a.k_NoPlace) = some c1 ∧ W.kitOne K (.ref C) (.ref a.k_Mixed) = some c2 ∧ W.kitOne K (.ref C) (.ref a.k_Short) = some c3 ∧ W.kitOne K (.ref C) (.ref a.k_NoClip) = some false ∧ W.kitOne K (.ref C) (.ref a.k_NoRoom) = some false ∧ W.kitOne K (.ref C) (.type "ValueError") = some true ∧ [c1, c2, c3, false, false, false] = kdF r := by
        rcases hB with ⟨e1, e2, rfl⟩ | ⟨e1, e2, rfl⟩ | ⟨e1, ⟨dx, v, e2, hdx⟩, rfl⟩
        · dsimp only at e1 e2; subst e1 e2
          exact ⟨_, _, _, _, rfl, T.x1, T.e_NoPlace, .inl rfl, T.p1, T.p2, T.p3, T.p4, T.p5, T.p6, rfl⟩
        · dsimp only at e1 e2; subst e1 e2
          exact ⟨_, _, _, _, rfl, T.x2, T.e_Mixed, .inl rfl, T.q1, T.q2, T.q3, T.q4, T.q5, T.q6, rfl⟩
        · dsimp only at e1 e2; subst e1 e2
          exact ⟨_, _, _, _, rfl, T.x3, T.e_Short, .inr ⟨dx, _, rfl, hdx⟩, T.s1, T.s2, T.s3, T.s4, T.s5, T.s6, rfl⟩
      have w2 := qH hn (vm ea (.ref C, B2))
      have hea : (upd H' ea (vm ea (.ref C, B2))) ea = some (vm ea (.ref C, B2)) := qF
      have hown2 : OwnD (upd H' ea (vm ea (.ref C, B2))) B2 := hown.elim .inl fun ⟨dx, fs, h1, h2⟩ => .inr ⟨dx, fs, h1, w2 _ _ h2⟩
      have e2 := sH.trans w2
      refine ⟨hx, ?_⟩
      show _
      generalize upd H' ea (vm ea (.ref C, B2)) = H2 at hea hown2 e2 ⊢
      refine ⟨_, rfl, ea, _, _, _, c1, rfl, hea, hown2, hE, .inr ⟨_, rfl, f1⟩, ?_⟩
      refine ⟨_, rfl, ea, _, _, _, c2, rfl, hea, hown2, hE, .inr ⟨_, rfl, f2⟩, ?_⟩
      refine ⟨_, rfl, ea, _, _, _, c3, rfl, hea, hown2, hE, .inr ⟨_, rfl, f3⟩, ?_⟩
      refine ⟨_, rfl, ea, _, _, _, false, rfl, hea, hown2, hE, .inr ⟨_, rfl, f4⟩, qJn, fun l1 h1 => ?_⟩
      have w3 := qH h1 (.lst [.bl c1, .bl c2, .bl c3, .bl false])
      have el1 : (upd H2 l1 (.lst [.bl c1, .bl c2, .bl c3, .bl false])) l1 = some (.lst [.bl c1, .bl c2, .bl c3, .bl false]) := qF
      have hea3 := w3 _ _ hea
      have hown3 : OwnD (upd H2 l1 (.lst [.bl c1, .bl c2, .bl c3, .bl false])) B2 := hown2.elim .inl fun ⟨dx, fs, h1, h2⟩ => .inr ⟨dx, fs, h1, w3 _ _ h2⟩
      have e3 := e2.trans w3
      generalize upd H2 l1 (.lst [.bl c1, .bl c2, .bl c3, .bl false]) = H3 at el1 hea3 hown3 e3 ⊢
      refine ⟨_, rfl, ?_⟩
      refine ⟨_, rfl, ea, _, _, _, false, rfl, hea3, hown3, hE, .inr ⟨_, rfl, f5⟩, ?_⟩
      refine ⟨_, rfl, ea, _, _, _, true, rfl, hea3, hown3, hE, .inl ⟨_, rfl, f6⟩, _, rfl, two, fun l2 h2 => ?_⟩
      have w4 := qH h2 (.lst [.bl false, .bl false])
      refine ⟨l1, l2, _, _, rfl, rfl, w4 _ _ el1, qF, Nat.le_of_lt (qj (by show 6 ≤ 1000; decide)), fun l3 h3 => ?_⟩
      refine ⟨_, _, _, _, _, l3, kdF r, rfl, e3.trans (w4.trans (qH h3 _)), ?_, .inr rfl⟩
      rw [qF, ← hk]
      rfl
  rintro σ H4 ⟨o1, o2, o3, o4, o6, kz, bs, rfl, e4, ek, hbs⟩
  refine ⟨_, rfl, sL0, fun en hen => qIq ((qH hen _) _ _ ek) qF ⟨_, rfl, ?_⟩⟩
  have w5 := qH hen (.lst [])
  have e5 := e4.trans w5
  have ek5 := w5 _ _ ek
  generalize upd H4 en (.lst []) = H5 at e5 ek5 ⊢
  rcases hbs with ⟨rfl, rfl⟩ | rfl
  · exact ju (kk _ e5)
  obtain ⟨hne, hsum, hix⟩ : (kdF r).isEmpty = false ∧ ((kdF r).map (fun b => if b = true then (1 : Int) else 0)).sum = 1 ∧ (kdF r)[r]? = some true ∧ (∀ m, m < r → (kdF r)[m]? = some false) ∧ (kdF r).length = 6 ∧ atI [V.str "place", .str "mixed", .str "done", .str "clip", .str "room", .str "plain"] (r : Int) = some (.str (qJ6 r)) := by
    have : r = 0 ∨ r = 1 ∨ r = 2 := by omega
    rcases this with rfl | rfl | rfl
    · exact ⟨rfl, rfl, rfl, by omega, rfl, rfl⟩
    · refine ⟨rfl, rfl, rfl, fun m hm => ?_, rfl, rfl⟩
      have : m = 0 := by omega
      subst this; rfl
    · refine ⟨rfl, rfl, rfl, fun m hm => ?_, rfl, rfl⟩
      have : m = 0 ∨ m = 1 := by omega
      rcases this with rfl | rfl <;> rfl
  obtain ⟨hi1, hi2, hl6, hat⟩ := hix
  rw [hne]
  refine xq ?_
  generalize kdF r = bs at *
  refine ⟨_, rfl, kz, rfl, ⟨_, SqL.of ek5⟩, zB (K := K) (a := kz) (xs := bs.map V.bl) (fun j acc H2 => acc = ((bs.take j).map (fun b => if b = true then (1 : Int) else 0)).map V.int ∧ H2 = H5) ⟨rfl, rfl⟩ ?_ ?_ ?_⟩
  · rintro j acc H6 hj ⟨rfl, rfl⟩
    exact ⟨SqL.of ek5, qj (by rw [List.length_map, List.length_map, List.length_take]; omega)⟩
  · rintro j x acc H6 hj hx ⟨rfl, rfl⟩
    obtain ⟨k, hk, rfl⟩ : ∃ k : Bool, bs[j]? = some k ∧ x = .bl k := by
      rw [List.getElem?_map] at hx
      cases hq : bs[j]? with
      | none => rw [hq] at hx; cases hx
      | some k => rw [hq] at hx; cases hx; exact ⟨k, rfl, rfl⟩
    refine ⟨_, rfl, .inr ⟨k, rfl, Nxt.mk hj ⟨?_, rfl⟩⟩⟩
    rw [List.take_add_one, hk]
    simp
  rintro acc H6 ⟨rfl, rfl⟩ D hD
  rw [List.length_map, List.take_length]
  refine ⟨D, bs.map (fun b => if b = true then (1 : Int) else 0), rfl, SqL.of qF, rfl, _, rfl, ?_⟩
  rw [hsum]
  have w7 := qH hD (.lst ((bs.map (fun b => if b = true then (1 : Int) else 0)).map V.int))
  have e7 := e5.trans w7
  have ek7 := w7 _ _ ek5
  generalize upd H6 D _ = H7 at e7 ek7 ⊢
  refine qE5 (by decide) ?_
  refine ⟨(by show 6 ≤ sizeLine; decide), fun lw hlw => ?_⟩
  have w8 := qH hlw (.lst [.str "place", .str "mixed", .str "done", .str "clip", .str "room", .str "plain"])
  refine ⟨_, rfl, .inl ⟨rfl, _, SqL.of (w8 _ _ ek7)⟩, kz, bs, r, rfl, rfl, w8 _ _ ek7, hi1, hi2, ?_⟩
  exact ⟨lw, _, _, _, rfl, rfl, SqL.of qF, hat, kk _ (e7.trans w8)⟩
theorem qG0 {m : Im} (h : m.wd = "clip") : ∃ n p q r s l, m = .clip n p q r s l := by
  cases m with
  | clip n p q r s l => exact ⟨n, p, q, r, s, l, rfl⟩
  | gap => exact absurd (show ("gap" : Str) = "clip" from h) (by decide +kernel)
  | nest => exact absurd (show ("nest" : Str) = "clip" from h) (by decide +kernel)
  | mix => exact absurd (show ("mix" : Str) = "clip" from h) (by decide +kernel)
theorem It.clip {rl : Rls} {n : Str} {p q r s l : Int} (h : It rl (.clip n p q r s l)) : ∃ N, Rc n p q r s l rl N ∧ l ≤ 9 ∧ InR (Vk p q r s 0) (q * s) N ∧ InR (Vk p q r s (l - 1)) (q * s) N := by
  rcases h with ⟨l, e, _⟩ | ⟨b, l, e, _⟩ | ⟨n, p, q, r, s, l, N, e, hc, h9, _, _, i0, i1⟩
  · cases e
  · cases e
  · cases e
    exact ⟨N, hc, h9, i0, i1⟩
theorem qJw {H : Hp} {x y : Addr} {ts : List (List Im)} {tie : List Int} {Q : VK} (h1 : TabF H (.ref x) ts tie) (h2 : TabF H (.ref y) ts tie) (q : Q (.bl false) H) : qI4 K true (.ref x) (.ref y) H Q := by
  refine ⟨_, _, h1.rep, h2.rep, rfl, by have := (qCy ts tie).2; omega, ?_⟩
  rw [(qCy ts tie).1]
  exact q
theorem qIx {ns : List Int} (c : Int) (h : ns ≠ []) : ∃ x ∈ ns, atI (ns.map V.int) (c.fmod (((ns.map V.int).length : Nat) : Int)) = some (.int x) := by
  have hl : 0 < ns.length := List.length_pos_iff.mpr h
  have f := fm c (show (0 : Int) < (((ns.map V.int).length : Nat) : Int) by rw [List.length_map]; omega)
  rw [List.length_map] at f ⊢
  generalize c.fmod ((ns.length : Nat) : Int) = i at f ⊢
  have hi : i.toNat < ns.length := by omega
  refine ⟨ns[i.toNat], List.getElem_mem hi, ?_⟩
  have h1 : atI (ns.map V.int) ((i.toNat : Nat) : Int) = some (.int ns[i.toNat]) := jc (by rw [List.getElem?_map, List.getElem?_eq_getElem hi]; rfl)
  rw [show ((i.toNat : Nat) : Int) = i by omega] at h1
  exact h1
def ItM (rl : Rls) (m : Im) : Prop := It rl m ∨ m = .mix 1
theorem ItM.mo {rl : Rls} {m : Im} (h : ItM rl m) : 0 ≤ m.mo ∧ m.mo ≤ 9 := by
  rcases h with h | rfl
  · rcases h with ⟨l, rfl, h1, h2⟩ | ⟨b, l, rfl, _, _, h1, h2⟩ | ⟨n, p, q, r, s, l, N, rfl, hc, h9, _⟩
    · exact ⟨by show 0 ≤ l; omega, by show l ≤ 9; omega⟩
    · exact ⟨by show 0 ≤ l; omega, by show l ≤ 9; omega⟩
    · have := hc.l1
      exact ⟨by show 0 ≤ l; omega, by show l ≤ 9; omega⟩
  · exact ⟨by show (0 : Int) ≤ 0; decide, by show (0 : Int) ≤ 9; decide⟩
theorem ItM.itR {rl : Rls} {m : Im} (h : ItM rl m) : ItR rl m := fun n p q r s l e => by
  subst e
  rcases h with h | h
  · obtain ⟨N, hc, _⟩ := It.clip h
    exact ⟨N, hc⟩
  · cases h
def z7 : Sp := fun vs H Q _ => ∃ (z rd : Addr) (ms : List Im) (c : Int) (rl : Rls), vs = [.ref z, .int c, .ref rd] ∧ Tr H z ms ∧ ms.length ≤ 64 ∧ (∀ m ∈ ms, It rl m) ∧ ReelsAt H rd rl ∧
  ∀ (y : Addr) (ms' : List Im) (H' : Hp), Same H H' → H y = none → Tr H' y ms' → ms'.length ≤ 128 → (∀ m ∈ ms', ItM rl m) → Q (.ref y) H'
theorem z6 (T : Tx K mg a) : FnOk P w K mg base CX0 6 a.a__law_mixed_track a.f__law_mixed_track ["_law_track_here", "_law_cell", "_law_reels_here"] z7 := by
  refine T.d__law_mixed_track.F.ok sc__law_mixed_track (fun vs H Q E h => ?_) (fun cdv A outer s H vs Q E hr h => ?_)
  · obtain ⟨z, rd, ms, c, rl, rfl, _⟩ := h
    rfl
  obtain ⟨z, rd, ms, c, rl, rfl, ⟨vs, hz, his⟩, hml, hit, hre, kk⟩ := h
  refine ⟨_, (qE (qW (i := 3) sc__law_mixed_track.nd rfl (Or.inl rfl) (q8 qD))
      (qE (vo PassesOwn.never rfl (kC rfl T.b_range (qA (qY qd rfl T.b_len rfl (qA (pv 0) qD)) qD)) (jl (i := 4) sc__law_mixed_track.nd rfl (Or.inl rfl)) (qE (qW (i := 5) sc__law_mixed_track.nd rfl (Or.inl rfl) (qM qc (pv 0) (pv 4) (fun _ _ => rfl)))
      (qE (xn (qo (kN (PW.pt (xr (qN wB (pv 4) qB (qS _)) (xr (qN jv (qM qK (pv 5) qB (fun _ _ => rfl)) qU (qS _)) (xr (qN jv (qM qK (qM qc (pv 0) (qP jw (pv 4) qB) (fun _ _ => rfl)) qB (fun _ _ => rfl)) qU (qS _)) (xp (qN jv (qP qg (qL T.d__law_mixed (jC T) hr rfl (qA (pv 1) (qA (pv 4) qD))) qB) qB (qS _)))))))) (qG (qo (kN (PW.pt (xr (qN wB (qL T.d_tail_room (zR T) hr rfl (qA (qM qc (pv 0) (qP jw (pv 4) qB) (fun _ _ => rfl)) (qA (pv 2) qD))) qB (qS _)) (xp (qN wB (qL T.d_head_room (zX T) hr rfl (qA (pv 5) (qA (pv 2) qD))) qB (qS _)))))) (qG (jx (qA1 F.plainAttrs_list F.slot_list_append F.type_list_append xY (pv 3) (qA (jB (qA qU (qA qB qD))) qD)))) qX)) qX))
      (qG (jx (qA1 F.plainAttrs_list F.slot_list_append F.type_list_append xY (pv 3) (qA (pv 5) qD)))))))
      (qG (qR (pv 3))))), ?_⟩
  try dsimp only [xJ, qk]
  have hvl := his.len
  refine ⟨sL0, fun y hy => ?_⟩
  have w0 := qH hy (.lst [])
  refine ⟨_, rfl, z, vs, rfl, .inl (SqL.of (w0 _ _ hz)), _, rfl, by omega, by omega, vq (n := ((vs.length : Nat) : Int).toNat) (fun i σ H' => ∃ (o1 o2 : Option V) (ms' : List Im) (vs' : List V), σ = [some (.ref z), some (.int c), some (.ref rd), some (.ref y), o1, o2] ∧ H' y = some (.lst vs') ∧ IsIs H' ms' vs' ∧ ms'.length ≤ 2 * i ∧ (∀ m ∈ ms', ItM rl m) ∧ Same H H')
    ⟨none, none, [], [], rfl, qF, trivial, Nat.le_refl _, fun m h => absurd h (by simp), w0⟩ ?_ ?_⟩
  · rintro i σ H' hi ⟨o1, o2, ms', vs', rfl, hy', his', hml', hit', e⟩
    have hi' : i < vs.length := by omega
    have hvl' := his'.len
    obtain ⟨v, hv⟩ : ∃ v, vs[i]? = some v := ⟨_, List.getElem?_eq_getElem hi'⟩
    obtain ⟨m, hm, hI⟩ := his.get hv
    have ai : atI vs (0 + (i : Int)) = some v := by rw [Int.zero_add]; exact jc hv
    have sz : ∀ {H' : Hp}, Same H H' → SqL K H' z vs := fun e => SqL.of (e _ _ hz)
    refine ⟨_, rfl, _, rfl, z, vs, _, _, rfl, rfl, sz e, ai, ?_⟩
    have hIe := hI.ts (qi e)
    obtain ⟨zi, xi, rfl, hzi, h0, _⟩ := hIe.opn
    refine ⟨fun σ H2 => ∃ (ms2 : List Im) (vs2 : List V), σ = [some (.ref z), some (.int c), some (.ref rd), some (.ref y), some (.int (0 + (i : Int))), some (.ref zi)] ∧ H2 y = some (.lst vs2) ∧ IsIs H2 ms2 vs2 ∧ ms2.length ≤ 2 * i + 1 ∧ (∀ m ∈ ms2, ItM rl m) ∧ Same H H2, ?_, ?_⟩
    · refine ⟨fun t' H2 => H2 = H' ∧ (t' = true → m.wd = "clip" ∧ ∃ v' m', atI vs (0 + (i : Int) - 1) = some v' ∧ m' ∈ ms ∧ IsI H m' v' ∧ m'.wd = "clip"), ?_, ?_⟩
      · refine ⟨_, rfl, _, _, rfl, rfl, _, rfl, xG (fun c1 => ?_) (fun _ => ⟨rfl, fun z => by cases z⟩)⟩
        have hi0 : 0 < i := by have : (0 : Int) < 0 + (i : Int) := by simpa using c1
                               omega
        refine ⟨_, rfl, zi, xi, _, _, rfl, rfl, SqT.of hzi, h0, rfl, _, rfl, xG (fun c2 => ?_) (fun _ => ⟨rfl, fun z => by cases z⟩)⟩
        have hmc : m.wd = "clip" := by simpa using c2
        obtain ⟨v', hv'⟩ : ∃ v, vs[i - 1]? = some v := ⟨_, List.getElem?_eq_getElem (by omega)⟩
        obtain ⟨m', hm', hI'⟩ := his.get hv'
        have ai' : atI vs (0 + (i : Int) - 1) = some v' := by rw [show 0 + (i : Int) - 1 = ((i - 1 : Nat) : Int) by omega]; exact jc hv'
        obtain ⟨zj, xj, rfl, hzj, j0, _⟩ := hI'.opn
        refine ⟨_, rfl, _, rfl, _, _, rfl, rfl, z, vs, _, _, rfl, rfl, sz e, ai', zj, xj, _, _, rfl, rfl, SqT.of (e _ _ hzj), j0, rfl, _, rfl, xG (fun c3 => ?_) (fun _ => ⟨rfl, fun z => by cases z⟩)⟩
        have hmc' : m'.wd = "clip" := by simpa using c3
        exact ⟨_, rfl, _, rfl, _, _, rfl, by omega, by omega, fun nn _ _ => ⟨_, _, rfl, rfl, nz, rfl, _, rfl, rfl, fun _ => ⟨hmc, _, m', ai', List.mem_of_getElem? hm', hI', hmc'⟩⟩⟩
      rintro t' H2 ⟨rfl, ht⟩
      cases t' with
      | false => exact xq ⟨ms', vs', rfl, hy', his', by omega, hit', e⟩
      | true =>
        obtain ⟨hmc, v', m', ai', hm', hI', hmc'⟩ := ht rfl
        obtain ⟨n, p, q, r, s1, l, rfl⟩ := qG0 hmc
        obtain ⟨n', p', q', r', s1', l', rfl⟩ := qG0 hmc'
        obtain ⟨N, hc, _⟩ := It.clip (hit _ (List.mem_of_getElem? hm))
        obtain ⟨N', hc', _⟩ := It.clip (hit _ hm')
        refine ju ⟨fun t' H3 => Same H2 H3, ?_, ?_⟩
        · refine ⟨_, rfl, _, rfl, _, _, rfl, rfl, z, vs, _, _, rfl, rfl, sz e, ai', _, rfl, v', n', p', q', r', s1', l', N', rd, rfl, qCi (hI'.ts (qi e)), hc'.g1, hc'.g2, hc'.bl, (hre.same e) _ _ hc'.rn, hc'.bN, fun H3 e3 => ?_⟩
          refine ⟨_, _, rfl, rfl, _, rfl, xG (fun _ => ?_) (fun _ => e3)⟩
          exact ⟨_, rfl, _, rfl, _, n, p, q, r, s1, l, N, rd, rfl, qCi (hIe.ts (qi e3)), hc.g1, hc.g2, (hre.same (e.trans e3)) _ _ hc.rn, hc.bN, fun H4 e4 => ⟨_, _, rfl, rfl, _, rfl, e3.trans e4⟩⟩
        rintro t' H3 e3
        have e3' := e.trans e3
        have hy3 := e3 _ _ hy'
        have his3 := his'.ts (qi e3)
        cases t' with
        | false => exact xq ⟨ms', vs', rfl, hy3, his3, by omega, hit', e3'⟩
        | true =>
          refine ju ⟨_, rfl, .inl ⟨rfl, _, SqL.of hy3⟩, two, fun g hg => ?_⟩
          have w4 := qH hg (.tup [.str "mix", .int 1])
          refine ⟨y, _, _, rfl, rfl, w4 _ _ hy3, qj (by omega), ?_⟩
          exact ⟨ms' ++ [.mix 1], _, rfl, qF, ((his3.ts (qi w4)).app (.one (isM qF))).ts (zz (w4 _ _ hy3)), by simp; omega, vF hit' (.inr rfl), xH (e3'.trans w4) hy⟩
    rintro σ H2 ⟨ms2, vs2, rfl, hy2, his2, hml2, hit2, e2⟩
    have hvl2 := his2.len
    refine ⟨_, rfl, .inl ⟨rfl, _, SqL.of hy2⟩, _, rfl, y, _, _, rfl, rfl, hy2, qj (by omega), ?_⟩
    exact ⟨_, _, ms2 ++ [m], _, rfl, qF, (his2.app (.one (hI.ts (qi e2)))).ts (zz hy2), by simp; omega, vF hit2 (.inl (hit _ (List.mem_of_getElem? hm))), xH e2 hy⟩
  · rintro σ H' ⟨o1, o2, ms', vs', rfl, hy', his', hml', hit', e⟩
    exact ⟨_, rfl, kk y ms' H' e hy ⟨vs', hy', his'⟩ (by omega) hit'⟩
theorem qEs {rl : Rls} : ∀ {ms : List Im}, (∀ m ∈ ms, ItM rl m) → 0 ≤ (ms.map Im.mo).sum ∧ (ms.map Im.mo).sum ≤ 9 * ms.length
  | [], _ => by simp
  | m :: ms, h => by
    have h1 := (h m (by simp)).mo
    have h2 := qEs fun x hx => h x (List.mem_cons_of_mem _ hx)
    rw [List.map_cons, List.sum_cons, List.length_cons]
    omega
theorem qFs {us : List V} {lo hi : Option Int} : (∀ v ∈ qDt us lo hi, v ∈ us) ∧ (qDt us lo hi).length ≤ us.length := by
  unfold qDt
  refine ⟨fun v hv => List.mem_of_mem_drop (List.mem_of_mem_take hv), ?_⟩
  rw [List.length_take, List.length_drop]
  omega
theorem qJa (T : Tx K mg a) : FnOk P w K mg base CX0 12 a.a_law a.f_law ["_law_script"] (qGf K) := by
  refine T.d_law.F.ok sc_law (fun vs H Q E h => ?_) (fun cdv A outer s H vs Q E hr h => ?_)
  · obtain ⟨a, ns, rfl, _⟩ := h
    rfl
  obtain ⟨zs, ns, rfl, hS, hlen, kk⟩ := h
  have hu := hr.units
  refine ⟨_, (qE (qW (i := 1) sc_law.nd rfl (Or.inl rfl) (qL T.d__law_reels (wg T) hr rfl (qA (qL T.d__law_cell_at (jr T) hr rfl (qA (pv 0) (qA qB qD))) qD)))
      (qE (qW (i := 2) sc_law.nd rfl (Or.inr rfl) (qL T.d__law_mixed_track (z6 T) hr rfl (qA (qL T.d__law_track (wZ T) hr rfl (qA (qCz qEb (pv 0) (qBz qB) (qBz qB)) (qA (pv 1) qD))) (qA (qL T.d__law_cell_at (jr T) hr rfl (qA (pv 0) (qA qB qD))) (qA (pv 1) qD)))))
      (qE (qW (i := 3) sc_law.nd rfl (Or.inl rfl) (q8 (qA (pv 2) (qA (q8 qD) qD))))
      (qE (qW (i := 4) sc_law.nd rfl (Or.inl rfl) (qL T.d__law_mixed (jC T) hr rfl (qA (qL T.d__law_cell_at (jr T) hr rfl (qA (pv 0) (qA qB qD))) (qA qB qD))))
      (qE (qW (i := 5) sc_law.nd rfl (Or.inl rfl) (qY (vg rfl) rfl T.b_sum rfl (qA (kW [] [] rfl (zH (pv 2)) (fun _ _ _ _ => (qL T.d__law_length (xm T) hr rfl (qA (pv 0) qD)))) qD)))
      (qE (qW (i := 6) sc_law.nd rfl (Or.inl rfl) (qP jw (qP qg (qP qf (pv 4) qB) (qP jF (pv 5) qB)) qB))
      (qE (xn (qo (qN wB (qP qg (qP qf (pv 4) qB) qB) qB (qS _)) (qE (qFc (i := 7) ["_law_track_here"] [2] sc_law.nd rfl rfl rfl (kC rfl T.b_range (qA (qP jF (qY qd rfl T.b_len rfl (qA (pv 2) qD)) qB) qD)) (fun _ _ _ _ => (qY (qDk (K := K) rfl rfl) rfl T.b_sum rfl (qA (kW [] [] rfl (qGp (K := K) rfl (qCz (qGn (K := K) rfl) (pv 1) qG5 (qBz (pv 0)))) (fun _ _ _ _ => (qL T.d__law_length (xm T) hr rfl (qA (pv 0) qD)))) qD))))
      (qG (qW (i := 6) sc_law.nd rfl (Or.inl rfl) (qM qc (pv 7) (qP qg (qP qf (pv 4) qB) (qY qd rfl T.b_len rfl (qA (pv 7) qD))) (fun _ _ => rfl))))) qX))
      (qE (xn (qo (qN jv (qP qg (qP qf (pv 4) qB) qB) qB (qS _)) (qG (qW (i := 6) sc_law.nd rfl (Or.inl rfl) (qM qc (q8 (qA vz (qA xy (qA qU (qA vz qD))))) (qP qg (qP qf (pv 4) qB) qB) (fun _ _ => rfl)))) qX))
      (qE (qW (i := 8) sc_law.nd rfl (Or.inl rfl) (qP jw (qP qg (qL T.d__law_mixed (jC T) hr rfl (qA (qL T.d__law_cell_at (jr T) hr rfl (qA (pv 0) (qA qB qD))) (qA qB qD))) qB) qB))
      (qE (xn (qo (qN jv (qP qg (qP qf (pv 4) qB) qB) qB (qS _)) (qG (qW (i := 8) sc_law.nd rfl (Or.inl rfl) (qM qc (q8 (qA (qP jF (qP wG qB qB) qB) (qA (qP jw (z9 xf (qP wG qB qB)) qB) (qA vz (qA (jB (qA qB (qA qB qD))) (qA xy (qA qU (qA (qP wG qB qB) qD)))))))) (qP qg (qP qf (pv 4) qB) qB) (fun _ _ => rfl)))) qX))
      (qE (qW (i := 9) sc_law.nd rfl (Or.inl rfl) qB)
      (qE (xn (qo (qN jv (qP qg (qP qf (pv 4) qB) qB) qB (qS _)) (qG (qW (i := 9) sc_law.nd rfl (Or.inl rfl) (qM qc (q8 (qA qB (qA qB (qA (z9 xf qB) (qA vz (qA xy (qA (qP wG qB qB) qD))))))) (qP qg (qP qf (pv 4) qB) qB) (fun _ _ => rfl)))) qX))
      (qE (qW (i := 10) sc_law.nd rfl (Or.inl rfl) (jB (qA (qM qc (q8 (qA qU (qA qU (qA qU qD)))) (qP qg (pv 4) qB) (fun _ _ => rfl)) (qA (pv 9) (qA (pv 6) (qA (pv 8) qD))))))
      (qE (qW (i := 11) sc_law.nd rfl (Or.inl rfl) (jB (qA (kW [] [] rfl (zH (pv 3)) (fun _ _ _ _ => (xc (kK (K := K) rfl) rfl T.b_list rfl (qA (pv 0) qD)))) (qA (q8 (qA qB (qA qB qD))) qD))))
      (qE (vo PassesOwn.never rfl (zH (q8 (qA qB (qA qB (qA qB qD))))) (jl (i := 12) sc_law.nd rfl (Or.inl rfl)) (qG (qo (PW.pt (zP (qN kr (qL T.d__law_told (qBh T) hr rfl (qA (pv 12) (qA (pv 11) (qA (pv 10) (qA (pv 1) qD))))) (qL T.d__law_due (qBo T) hr rfl (qA (pv 3) (qA (pv 10) qD))) (qS _)) (zL (qN (qE2 hu) (pv 11) (jB (qA (pv 3) (qA (q8 (qA qB (qA qB qD))) qD))) (qS _))))) (qG (qR vz)) qX)))
      (qG (qR vz))))))))))))))))), ?_⟩
  try dsimp only [xJ, qk]
  refine ⟨_, rfl, zs, ns, 0, rfl, hS, hlen, by decide, fun c0 => ?_⟩
  refine ⟨c0, rfl, fun rd kvs H1 e1 hrd0 hrd h3 => ?_⟩
  have hS1 := e1.seq hS
  obtain ⟨ms0, hcut, hl0⟩ := qGs ns (some 4) (some 13)
  refine ⟨_, rfl, _, rfl, _, rfl, zs, _, rfl, hS1, fun zc hzc => ?_⟩
  rw [hcut]
  have w2 := qH hzc (.lst (ms0.map V.int))
  refine ⟨_, rfl, zc, rd, ms0, kvs, rfl, qF, by omega, w2 _ _ hrd, h3, fun y0 ms1 H3 e3 hy0 tT1 hit1 hml1 => ?_⟩
  have e13 := w2.trans e3
  refine ⟨_, rfl, zs, ns, 1, rfl, (e1.trans e13).seq hS, hlen, by decide, fun c1 => ?_⟩
  refine ⟨_, rfl, y0, rd, ms1, c1, rlF kvs, rfl, tT1, hml1, hit1, qC0 (.inl (e13 _ _ hrd)), fun y ms H4 e4 hy tT hml hit => ?_⟩
  have e14 := e13.trans e4
  refine ⟨_, rfl, sL0, fun em hem => ⟨two, fun lt hlt => ?_⟩⟩
  have w5 := qH hem (.lst [])
  have w6 := qH hlt (.lst [.ref y, .ref em])
  have elt : (upd (upd H4 em (.lst [])) lt (.lst [.ref y, .ref em])) lt = some (.lst [.ref y, .ref em]) := qF
  have eem := w6 _ _ (qF (H := H4) (a := em) (o := .lst []))
  have e16 := (e14.trans w5).trans w6
  have tT := tT.same (w5.trans w6)
  generalize upd (upd H4 em (.lst [])) lt (.lst [.ref y, .ref em]) = H6 at elt eem e16 tT ⊢
  clear w5 w6 hlt hem w2 e3 e13 e14 e4 hy tT1 hit1 hml1 hy0 hzc hcut hl0
  refine ⟨_, rfl, zs, ns, 2, rfl, (e1.trans e16).seq hS, hlen, by decide, fun c2 => ⟨c2, 3, rfl, by decide, by decide, fun num n0 n1 => ?_⟩⟩
  obtain ⟨vs, hyv, his⟩ := id tT
  have hvl := his.len
  refine ⟨_, rfl, y, rfl, ⟨_, SqL.of hyv⟩, zB (K := K) (a := y) (xs := vs) (fun j acc H' => H' = H6 ∧ acc = ((ms.take j).map Im.mo).map V.int) ⟨rfl, rfl⟩ ?_ ?_ ?_⟩
  · rintro j acc H' hj ⟨rfl, rfl⟩
    exact ⟨SqL.of hyv, qj (by simp; omega)⟩
  · rintro j x acc H' hj hx ⟨rfl, rfl⟩
    obtain ⟨m, hm, hI⟩ := his.get hx
    refine ⟨_, rfl, x, m, rfl, hI, Nxt.mk hj ⟨rfl, ?_⟩⟩
    rw [List.take_add_one, hm]
    simp
  rintro acc H' ⟨rfl, rfl⟩ D hD
  rw [hvl, List.take_length]
  have w7 := qH hD (.lst ((ms.map Im.mo).map V.int))
  refine ⟨D, ms.map Im.mo, rfl, SqL.of qF, ?_⟩
  have hsum := qEs hit
  have e17 := e16.trans w7
  have tT := tT.same w7
  have elt := w7 _ _ elt
  have eem := w7 _ _ eem
  have hyv := w7 _ _ hyv
  have his := his.ts (qi w7)
  generalize (ms.map Im.mo).sum = en at hsum ⊢
  generalize upd H' D _ = H7 at e17 tT elt eem hyv his ⊢
  clear w7 hD e16
  have f30 := fm (num.fdiv 30) (show (0 : Int) < en + 5 by omega)
  refine ⟨_, rfl, _, _, rfl, rfl, cdB (by decide) (by decide), _, rfl, _, _, rfl, rfl, _, _, rfl, rfl, (by omega), _, _, rfl, rfl, ?_⟩
  generalize (num.fdiv 30).fmod (en + 5) - 1 = mo0
  refine ⟨fun σ H' => ∃ (bg : Option V) (mo : Int), σ = [some (.ref zs), some (.ref rd), some (.ref y), some (.ref lt), some (.int num), some (.int en), some (.int mo), bg, none, none, none, none, none] ∧ Same H7 H', ?_, ?_⟩
  · refine ⟨_, rfl, _, _, rfl, rfl, cdB (by decide) (by decide), _, _, rfl, rfl, nz, _, _, rfl, rfl, _, rfl, xG (fun _ => ?_) (fun _ => ⟨_, _, rfl, Same.refl _⟩)⟩
    refine ⟨_, rfl, y, vs, rfl, .inl (SqL.of hyv), _, _, rfl, rfl, _, rfl, by omega, by omega, qDv (n := ((((vs.length : Nat) : Int) + 1)).toNat) (fun j acc H' => ∃ ks : List Int, acc = ks.map V.int ∧ ks.length = j ∧ Same H7 H') ⟨[], rfl, rfl, Same.refl _⟩ ?_ ?_ ?_⟩
    · rintro j acc H' hj ⟨ks, rfl, hkl, e⟩
      exact qj (by rw [List.length_map]; omega)
    · rintro j acc H' hj ⟨ks, rfl, hkl, e⟩
      refine ⟨_, rfl, _, rfl, _, rfl, y, vs, rfl, SqL.of (e _ _ hyv), fun lk hlk => ?_⟩
      obtain ⟨cm, cl⟩ := qFs (us := vs) (lo := none) (hi := some (0 + (j : Int)))
      have w8 := qH hlk (.lst (qDt vs none (some (0 + (j : Int)))))
      have elk : (upd H' lk (.lst (qDt vs none (some (0 + (j : Int)))))) lk = some (.lst (qDt vs none (some (0 + (j : Int))))) := qF
      have e8 := e.trans w8
      generalize upd H' lk _ = H8 at elk e8 ⊢
      generalize qDt vs none (some (0 + (j : Int))) = cs at elk cm cl ⊢
      refine ⟨lk, rfl, ⟨_, SqL.of elk⟩, zB (K := K) (a := lk) (xs := cs) (fun i acc H' => ∃ qs : List Int, acc = qs.map V.int ∧ qs.length = i ∧ H' = H8) ⟨[], rfl, rfl, rfl⟩ ?_ ?_ ?_⟩
      · rintro i acc H' hi ⟨qs, rfl, hql, rfl⟩
        exact ⟨SqL.of elk, qj (by rw [List.length_map]; omega)⟩
      · rintro i x acc H' hi hx ⟨qs, rfl, hql, rfl⟩
        obtain ⟨i2, hi2, ei2⟩ := List.mem_iff_getElem.mp (cm x (List.mem_of_getElem? hx))
        obtain ⟨m, hm, hI⟩ := his.get (i := i2) (v := x) (by rw [List.getElem?_eq_getElem hi2, ei2])
        exact ⟨_, rfl, x, m, rfl, hI.ts (qi e8), Nxt.mk hi ⟨qs ++ [m.mo], by rw [List.map_append]; rfl, by rw [List.length_append, hql]; rfl, rfl⟩⟩
      · rintro acc H' ⟨qs, rfl, hql, rfl⟩ D hD
        exact ⟨D, qs, rfl, SqL.of qF, Nxt.mk hj ⟨ks ++ [qs.sum], by rw [List.map_append]; rfl, by rw [List.length_append, hkl]; rfl, e8.trans (qH hD _)⟩⟩
    rintro acc H' ⟨ks, rfl, hkl, e⟩ lb hlb
    have w8 := qH hlb (.lst (ks.map V.int))
    have elb : (upd H' lb (.lst (ks.map V.int))) lb = some (.lst (ks.map V.int)) := qF
    have hne : ks ≠ [] := fun z => by rw [z] at hkl; have : ([] : List Int).length = 0 := rfl; omega
    obtain ⟨x, _, hx⟩ := qIx (ns := ks) (num.fdiv 30) hne
    have hl0 : 0 < ks.length := List.length_pos_iff.mpr hne
    refine ⟨_, rfl, _, rfl, _, _, rfl, rfl, cdB (by decide) (by decide), _, rfl, lb, _, rfl, .inl (SqL.of elb), _, _, rfl, rfl, (by show ((((ks.map V.int).length : Nat) : Int)) ≠ 0; rw [List.length_map]; omega), lb, _, _, _, rfl, rfl, SqL.of elb, hx, ?_⟩
    exact ⟨_, x, rfl, e.trans w8⟩
  clear f30
  rintro σ H8 ⟨bg, mo1, rfl, e8⟩
  refine ⟨fun σ H' => ∃ (mo : V) (ot : Option Int), σ = [some (.ref zs), some (.ref rd), some (.ref y), some (.ref lt), some (.int num), some (.int en), some mo, bg, none, none, none, none, none] ∧ Same H7 H' ∧ Nu H' mo ot, ?_, ?_⟩
  · refine ⟨_, rfl, _, _, rfl, rfl, cdB (by decide) (by decide), _, _, rfl, rfl, nz, rfl, _, rfl, xG (fun _ => ?_) (fun _ => ⟨_, _, rfl, e8, .int _⟩)⟩
    refine ⟨qJn, fun l hl => ?_⟩
    have f := fm (num.fdiv 108) (show (0 : Int) < 4 by decide)
    obtain ⟨v, hv, hvm⟩ := atN (xs := [V.bl true, .non, .str "1", .bl false]) (n := 4) rfl f.1 f.2
    refine ⟨_, rfl, _, _, rfl, rfl, cdB (by decide) (by decide), _, _, rfl, rfl, nz, l, _, _, v, rfl, rfl, SqL.of qF, hv, ?_⟩
    refine ⟨v, none, rfl, e8.trans (qH hl _), ?_⟩
    simp only [List.mem_cons, List.not_mem_nil, or_false] at hvm
    rcases hvm with rfl | rfl | rfl | rfl
    · exact .no (.bl true)
    · exact .no .non
    · exact .no (.str "1")
    · exact .no (.bl false)
  clear e8
  rintro σ H8 ⟨mo, ot, rfl, e8, hmo⟩
  refine ⟨_, rfl, zs, ns, 3, rfl, (e1.trans (e17.trans e8)).seq hS, hlen, by decide, fun c3 => ⟨c3, 4, rfl, by decide, by decide, fun mb _ _ => ⟨_, _, rfl, rfl, nz, _, _, rfl, rfl, ?_⟩⟩⟩
  generalize mb.fmod 9 - 4 = by0
  refine ⟨fun σ H' => ∃ (b : V) (ob : Option Int), σ = [some (.ref zs), some (.ref rd), some (.ref y), some (.ref lt), some (.int num), some (.int en), some mo, bg, some b, none, none, none, none] ∧ Same H8 H' ∧ Nu H' b ob, ?_, ?_⟩
  · refine ⟨_, rfl, _, _, rfl, rfl, cdB (by decide) (by decide), _, _, rfl, rfl, nz, rfl, _, rfl, xG (fun _ => ?_) (fun _ => ⟨_, _, rfl, Same.refl _, .int _⟩)⟩
    refine ⟨_, _, rfl, rfl, cpw (n := 6) (by decide), _, _, rfl, rfl, _, _, rfl, rfl, cpw (n := 6) (by decide), _, rfl, _, _, rfl, rfl, two, fun tp htp => ⟨_, _, rfl, rfl, cpw (n := 40) (by decide), (by show 7 ≤ sizeLine; decide), fun l hl => ?_⟩⟩
    have w9 := qH htp (.tup [.int 1, .int 1])
    have etp : (upd H8 tp (.tup [.int 1, .int 1])) tp = some (.tup [.int 1, .int 1]) := qF
    have f := fm (num.fdiv 7000) (show (0 : Int) < 7 by decide)
    obtain ⟨v, hv, hvm⟩ := atN (xs := [V.int (10 ^ (6 : Int).toNat + 1), .int (-10 ^ (6 : Int).toNat - 1), .bl true, .ref tp, .non, .str "1", .int (10 ^ (40 : Int).toNat)]) (n := 7) rfl f.1 f.2
    refine ⟨_, rfl, _, _, rfl, rfl, cdB (by decide) (by decide), _, _, rfl, rfl, nz, l, _, _, v, rfl, rfl, SqL.of qF, hv, ?_⟩
    have w10 := qH hl (.lst [V.int (10 ^ (6 : Int).toNat + 1), .int (-10 ^ (6 : Int).toNat - 1), .bl true, .ref tp, .non, .str "1", .int (10 ^ (40 : Int).toNat)])
    have hN : ∃ o, Nu (upd (upd H8 tp (.tup [.int 1, .int 1])) l (.lst [V.int (10 ^ (6 : Int).toNat + 1), .int (-10 ^ (6 : Int).toNat - 1), .bl true, .ref tp, .non, .str "1", .int (10 ^ (40 : Int).toNat)])) v o := by
      simp only [List.mem_cons, List.not_mem_nil, or_false] at hvm
      rcases hvm with rfl | rfl | rfl | rfl | rfl | rfl | rfl
      · exact ⟨_, .int _⟩
      · exact ⟨_, .int _⟩
      · exact ⟨_, .no (.bl true)⟩
      · exact ⟨_, .no (.tup (w10 _ _ etp))⟩
      · exact ⟨_, .no .non⟩
      · exact ⟨_, .no (.str "1")⟩
      · exact ⟨_, .int _⟩
    obtain ⟨o, hN⟩ := hN
    exact ⟨v, o, rfl, w9.trans w10, hN⟩
  rintro σ H9 ⟨b, ob, rfl, e9, hb⟩
  have hmo := hmo.same e9
  have e9 := e8.trans e9
  clear e8
  refine ⟨fun σ H' => ∃ (n : V) (on : Option Int), σ = [some (.ref zs), some (.ref rd), some (.ref y), some (.ref lt), some (.int num), some (.int en), some mo, bg, some b, some n, none, none, none] ∧ Same H9 H' ∧ Nu H' n on, ?_, ?_⟩
  · refine ⟨_, rfl, _, _, rfl, rfl, cdB (by decide) (by decide), _, _, rfl, rfl, nz, rfl, _, rfl, xG (fun _ => ?_) (fun _ => ⟨_, _, rfl, Same.refl _, .int _⟩)⟩
    refine ⟨_, rfl, _, _, rfl, rfl, cpw (n := 9) (by decide), (by show 6 ≤ sizeLine; decide), fun l hl => ?_⟩
    have f := fm (num.fdiv 18000) (show (0 : Int) < 6 by decide)
    obtain ⟨v, hv, hvm⟩ := atN (xs := [V.int 1, .int 2, .int (-1), .bl true, .non, .int (10 ^ (9 : Int).toNat)]) (n := 6) rfl f.1 f.2
    refine ⟨_, rfl, _, _, rfl, rfl, cdB (by decide) (by decide), _, _, rfl, rfl, nz, l, _, _, v, rfl, rfl, SqL.of qF, hv, ?_⟩
    have hN : ∃ o, Nu (upd H9 l (.lst [V.int 1, .int 2, .int (-1), .bl true, .non, .int (10 ^ (9 : Int).toNat)])) v o := by
      simp only [List.mem_cons, List.not_mem_nil, or_false] at hvm
      rcases hvm with rfl | rfl | rfl | rfl | rfl | rfl
      · exact ⟨_, .int _⟩
      · exact ⟨_, .int _⟩
      · exact ⟨_, .int _⟩
      · exact ⟨_, .no (.bl true)⟩
      · exact ⟨_, .no .non⟩
      · exact ⟨_, .int _⟩
    obtain ⟨o, hN⟩ := hN
    exact ⟨v, o, rfl, qH hl _, hN⟩
  rintro σ H10 ⟨n, on, rfl, e10, hn⟩
  have hmo := hmo.same e10
  have hb := hb.same e10
  have e10 := e9.trans e10
  clear e9
  refine ⟨qBs, fun lw hlw => ?_⟩
  have f := fm num (show (0 : Int) < 3 by decide)
  obtain ⟨v, hv, hvm⟩ := atN (xs := [V.str "roll", .str "slip", .str "slide"]) (n := 3) rfl f.1 f.2
  obtain ⟨wd, rfl, hw⟩ : ∃ wd : Str, v = .str wd ∧ Wd3 wd := by
    simp only [List.mem_cons, List.not_mem_nil, or_false] at hvm
    rcases hvm with rfl | rfl | rfl
    · exact ⟨_, rfl, .inl rfl⟩
    · exact ⟨_, rfl, .inr (.inl rfl)⟩
    · exact ⟨_, rfl, .inr (.inr rfl)⟩
  refine ⟨_, rfl, _, _, rfl, rfl, nz, lw, _, _, _, rfl, rfl, SqL.of qF, hv, _, rfl, _, rfl, _, rfl, qJn, fun dz hdz => ?_⟩
  have w11 := (qH hlw (.lst [V.str "roll", .str "slip", .str "slide"])).trans (qH hdz (.tup [.str wd, n, mo, b]))
  have edz : (upd (upd H10 lw (.lst [V.str "roll", .str "slip", .str "slide"])) dz (.tup [.str wd, n, mo, b])) dz = some (.tup [.str wd, n, mo, b]) := qF
  have hmo := hmo.same w11
  have hb := hb.same w11
  have hn := hn.same w11
  have e11 := e10.trans w11
  generalize upd (upd H10 lw _) dz _ = H11 at edz hmo hb hn e11 ⊢
  clear hv hvm w11 hlw hdz e10
  have tT := tT.same e11
  have elt := e11 _ _ elt
  have eem := e11 _ _ eem
  have hTrs : TrsAt H11 [ms, []] [.ref y, .ref em] := ⟨⟨y, rfl, tT⟩, ⟨em, rfl, [], eem, trivial⟩, trivial⟩
  refine ⟨_, rfl, lt, rfl, ⟨_, SqL.of elt⟩, zB (K := K) (a := lt) (xs := [.ref y, .ref em]) (fun j acc H2 => TrsAt H2 ([ms, []].take j) acc ∧ Same H11 H2) ⟨trivial, Same.refl _⟩ ?_ ?_ ?_⟩
  · rintro j acc H2 hj ⟨ht, e2⟩
    exact ⟨SqL.of (e2 _ _ elt), qj (by rw [ht.len, List.length_take]; have : [ms, []].length = 2 := rfl; omega)⟩
  · rintro j x acc H2 hj hx ⟨ht, e2⟩
    obtain ⟨msj, z, hmj, rfl, us, hz, hisj⟩ := hTrs.get hx
    refine ⟨_, rfl, z, us, rfl, .inl (SqL.of (e2 _ _ hz)), fun l hl' => Nxt.mk hj ⟨?_, e2.trans (qH hl' _)⟩⟩
    have w3 := qH hl' (.lst us)
    have etk : [ms, []].take (j + 1) = [ms, []].take j ++ [msj] := by rw [List.take_add_one, hmj]; rfl
    rw [etk]
    exact qB8 (ht.same w3) ⟨us, qF, hisj.ts (qi (e2.trans w3))⟩
  rintro acc H12 ⟨ht, e12⟩ d hd
  have ht : TrsAt H12 [ms, []] acc := ht
  have w13 := qH hd (.lst acc)
  refine ⟨two, fun l01 h01 => ⟨two, fun hz hhz => ?_⟩⟩
  have w14 := qH h01 (.lst [.int 0, .int 1])
  have w15 := qH hhz (.tup [.ref d, .ref l01])
  have hTab : TabF (upd (upd (upd H12 d (.lst acc)) l01 (.lst [.int 0, .int 1])) hz (.tup [.ref d, .ref l01])) (.ref hz) [ms, []] [0, 1] := ⟨hz, d, l01, acc, rfl, qF, w15 _ _ (w14 _ _ qF), ht.same ((w13.trans w14).trans w15), w15 _ _ qF⟩
  have e15 := e12.trans ((w13.trans w14).trans w15)
  generalize upd (upd (upd H12 d (.lst acc)) l01 (.lst [.int 0, .int 1])) hz (.tup [.ref d, .ref l01]) = H15 at hTab e15 ⊢
  clear w13 w14 w15 hd h01 hhz
  have hre : ReelsAt H15 rd (rlF kvs) := qC0 (.inl (e15 _ _ (e11 _ _ (e17 _ _ hrd))))
  have hIn : RollIn H15 hz dz rd [ms, []] [0, 1] wd n mo b on ot ob (rlF kvs) := by
    refine ⟨hTab, e15 _ _ edz, hn.same e15, hmo.same e15, hb.same e15, hw, by show 2 ≤ 300; decide, fun ms' hm' => ?_, hre⟩
    have : ms' = ms ∨ ms' = [] := by simpa using hm'
    rcases this with rfl | rfl
    · exact ⟨by omega, fun m hm => (hit m hm).itR⟩
    · exact ⟨by show 0 ≤ 300; decide, fun m hm => by simp at hm⟩
  have hnn : ∀ ms' ∈ [ms, []], ms'.length ≤ 300 ∧ ∀ m ∈ ms', 0 ≤ m.mo := fun ms' hm' => by
    have : ms' = ms ∨ ms' = [] := by simpa using hm'
    rcases this with rfl | rfl
    · exact ⟨by omega, fun m hm => (hit m hm).mo.1⟩
    · exact ⟨by show 0 ≤ 300; decide, fun m hm => by simp at hm⟩
  have hTrs := hTrs.same e15
  have elt := e15 _ _ elt
  have edz := e15 _ _ edz
  have hn := hn.same e15
  have hmo := hmo.same e15
  have hb := hb.same e15
  clear e15 e12 ht
  refine ⟨qBs, fun l3 hl3 => ?_⟩
  have w16 := qH hl3 (.lst [.int 0, .int 1, .int 0])
  have el3 : (upd H15 l3 (.lst [.int 0, .int 1, .int 0])) l3 = some (.lst [.int 0, .int 1, .int 0]) := qF
  generalize upd H15 l3 (.lst [.int 0, .int 1, .int 0]) = H16 at w16 el3 ⊢
  refine ⟨l3, rfl, ⟨_, SqL.of el3⟩, wz (K := K) (a := l3) (xs := [.int 0, .int 1, .int 0]) (fun j σ H' => ∃ o : Option V, σ = [some (.ref zs), some (.ref rd), some (.ref y), some (.ref lt), some (.int num), some (.int en), some mo, bg, some b, some n, some (.ref dz), some (.ref hz), o] ∧ Same H16 H')
    ⟨none, rfl, Same.refl _⟩ ?_ ?_ ?_⟩
  · rintro j σ H' hj ⟨_, _, e⟩
    exact SqL.of (e _ _ el3)
  · rintro j v σ H' hv ⟨o, rfl, e⟩
    obtain ⟨wy, rfl⟩ : ∃ wy : Int, v = .int wy := by
      have := List.mem_of_getElem? hv
      simp only [List.mem_cons, List.not_mem_nil, or_false] at this
      rcases this with rfl | rfl | rfl <;> exact ⟨_, rfl⟩
    have e' := w16.trans e
    refine ⟨_, rfl, _, rfl, _, rfl, _, rfl, wy, hz, dz, rd, [ms, []], [0, 1], wd, n, mo, b, on, ot, ob, rlF kvs, rfl, hIn.same e', fun H17 e17' => ?_⟩
    have f1 := e'.trans e17'
    refine ⟨_, rfl, _, rfl, lt, dz, _, [ms, []], wd, n, mo, b, on, ot, ob, rfl, f1 _ _ elt, hTrs.same f1, f1 _ _ edz, hn.same f1, hmo.same f1, hb.same f1, hw, hnn, fun H18 e18 => ?_⟩
    have f2 := f1.trans e18
    refine ⟨rfl, _, rfl, qE5 (by simp) ?_⟩
    refine ⟨_, rfl, _, rfl, two, fun l hl => ⟨two, fun tp htp => ?_⟩⟩
    have x1 := qH hl (.lst [.int 0, .int 1])
    have x2 := qH htp (.tup [.ref lt, .ref l])
    have f3 := f2.trans (x1.trans x2)
    refine qJw (hTab.same f3) ⟨tp, lt, l, _, rfl, qF, f3 _ _ elt, hTrs.same f3, x2 _ _ qF⟩ ⟨_, rfl, xq ?_⟩
    exact ⟨_, rfl, (e.trans e17').trans (e18.trans (x1.trans x2))⟩
  · rintro σ H' ⟨o, rfl, e⟩
    exact kk _
end
theorem all_mk {l : W.OpenLaw} {w : World} {K : W.Frag} {h : Heap} {mg : Str → Option Value} {fa f0 f1 f2 f3 f4 f5 f6 f7 f8 f9 f10 f11 f12 f13 f14 f15 f16 f17 f18 f19 f20 f21 f22 f23 f24 f25 f26 f27 f28 f29 f30 f31 f32 f33 f34 f35 f36 f37 f38 f39 f40 f41 f42 f43 f44 f45 f46 f47 f48 f49 f50 f51 f52 f53 f54 f55 f56 f57 f58 f59 f60 f61 f62 f63 f64 f65 f66 f67 f68 f69 f70 f71 f72 f73 f74 f75 f76 f77 f78 f79 f80 f81 f82 f83 f84 f85 C0 C1 C2 C3 C4 C5 C6 nNOUGHT nROLLS nLAYS nPUSHES nCHANGES fmShort : Addr} (X : K.In h) (G : h.Ns mainGlobals mg) (hfa : mg "law" = some (.ref fa))
    {od0 an0 od1 an1 od2 an2 od3 an3 od4 an4 od5 an5 od6 an6 od7 an7 od8 an8 od9 an9 od10 an10 od11 an11 od12 an12 od13 an13 od14 an14 od15 an15 od16 an16 od17 an17 od18 an18 od19 an19 od20 an20 od21 an21 od22 an22 od23 an23 od24 an24 od25 an25 od26 an26 od27 an27 od28 an28 od29 an29 od30 an30 od31 an31 od32 an32 od33 an33 od34 an34 od35 an35 od36 an36 od37 an37 od38 an38 od39 an39 od40 an40 od41 an41 od42 an42 od43 an43 od44 an44 od45 an45 od46 an46 od47 an47 od48 an48 od49 an49 od50 an50 od51 an51 od52 an52 od53 an53 od54 an54 od55 an55 od56 an56 od57 an57 od58 an58 od59 an59 od60 an60 od61 an61 od62 an62 od63 an63 od64 an64 od65 an65 od66 an66 od67 an67 od68 an68 od69 an69 od70 an70 od71 an71 od72 an72 od73 an73 od74 an74 od75 an75 od76 an76 od77 an77 od78 an78 od79 an79 od80 an80 od81 an81 od82 an82 od83 an83 od84 an84 od85 an85 odNOUGHT odROLLS odLAYS odPUSHES odCHANGES odmShort anmShort : Option Addr} {sl0 sl1 sl2 sl3 sl4 sl5 sl6 sl7 sl8 sl9 sl10 sl11 sl12 sl13 sl14 sl15 sl16 sl17 sl18 sl19 sl20 sl21 sl22 sl23 sl24 sl25 sl26 sl27 sl28 sl29 sl30 sl31 sl32 sl33 sl34 sl35 sl36 sl37 sl38 sl39 sl40 sl41 sl42 sl43 sl44 sl45 sl46 sl47 sl48 sl49 sl50 sl51 sl52 sl53 sl54 sl55 sl56 sl57 sl58 sl59 sl60 sl61 sl62 sl63 sl64 sl65 sl66 sl67 sl68 sl69 sl70 sl71 sl72 sl73 sl74 sl75 sl76 sl77 sl78 sl79 sl80 sl81 sl82 sl83 sl84 sl85 slNOUGHT slROLLS slLAYS slPUSHES slCHANGES slmShort : Array (Option Value)} {oc0 kV0 dc0 pm0 cd0 ct0 oc1 kV1 dc1 pm1 cd1 ct1 oc2 kV2 dc2 pm2 cd2 ct2 oc3 kV3 dc3 pm3 cd3 ct3 oc4 kV4 dc4 pm4 cd4 ct4 oc5 kV5 dc5 pm5 cd5 ct5 oc6 kV6 dc6 pm6 cd6 ct6 oc7 kV7 dc7 pm7 cd7 ct7 oc8 kV8 dc8 pm8 cd8 ct8 oc9 kV9 dc9 pm9 cd9 ct9 oc10 kV10 dc10 pm10 cd10 ct10 oc11 kV11 dc11 pm11 cd11 ct11 oc12 kV12 dc12 pm12 cd12 ct12 oc13 kV13 dc13 pm13 cd13 ct13 oc14 kV14 dc14 pm14 cd14 ct14 oc15 kV15 dc15 pm15 cd15 ct15 oc16 kV16 dc16 pm16 cd16 ct16 oc17 kV17 dc17 pm17 cd17 ct17 oc18 kV18 dc18 pm18 cd18 ct18 oc19 kV19 dc19 pm19 cd19 ct19 oc20 kV20 dc20 pm20 cd20 ct20 oc21 kV21 dc21 pm21 cd21 ct21 oc22 kV22 dc22 pm22 cd22 ct22 oc23 kV23 dc23 pm23 cd23 ct23 oc24 kV24 dc24 pm24 cd24 ct24 oc25 kV25 dc25 pm25 cd25 ct25 oc26 kV26 dc26 pm26 cd26 ct26 oc27 kV27 dc27 pm27 cd27 ct27 oc28 kV28 dc28 pm28 cd28 ct28 oc29 kV29 dc29 pm29 cd29 ct29 oc30 kV30 dc30 pm30 cd30 ct30 oc31 kV31 dc31 pm31 cd31 ct31 oc32 kV32 dc32 pm32 cd32 ct32 oc33 kV33 dc33 pm33 cd33 ct33 oc34 kV34 dc34 pm34 cd34 ct34 oc35 kV35 dc35 pm35 cd35 ct35 oc36 kV36 dc36 pm36 cd36 ct36 oc37 kV37 dc37 pm37 cd37 ct37 oc38 kV38 dc38 pm38 cd38 ct38 oc39 kV39 dc39 pm39 cd39 ct39 oc40 kV40 dc40 pm40 cd40 ct40 oc41 kV41 dc41 pm41 cd41 ct41 oc42 kV42 dc42 pm42 cd42 ct42 oc43 kV43 dc43 pm43 cd43 ct43 oc44 kV44 dc44 pm44 cd44 ct44 oc45 kV45 dc45 pm45 cd45 ct45 oc46 kV46 dc46 pm46 cd46 ct46 oc47 kV47 dc47 pm47 cd47 ct47 oc48 kV48 dc48 pm48 cd48 ct48 oc49 kV49 dc49 pm49 cd49 ct49 oc50 kV50 dc50 pm50 cd50 ct50 oc51 kV51 dc51 pm51 cd51 ct51 oc52 kV52 dc52 pm52 cd52 ct52 oc53 kV53 dc53 pm53 cd53 ct53 oc54 kV54 dc54 pm54 cd54 ct54 oc55 kV55 dc55 pm55 cd55 ct55 oc56 kV56 dc56 pm56 cd56 ct56 oc57 kV57 dc57 pm57 cd57 ct57 oc58 kV58 dc58 pm58 cd58 ct58 oc59 kV59 dc59 pm59 cd59 ct59 oc60 kV60 dc60 pm60 cd60 ct60 oc61 kV61 dc61 pm61 cd61 ct61 oc62 kV62 dc62 pm62 cd62 ct62 oc63 kV63 dc63 pm63 cd63 ct63 oc64 kV64 dc64 pm64 cd64 ct64 oc65 kV65 dc65 pm65 cd65 ct65 oc66 kV66 dc66 pm66 cd66 ct66 oc67 kV67 dc67 pm67 cd67 ct67 oc68 kV68 dc68 pm68 cd68 ct68 oc69 kV69 dc69 pm69 cd69 ct69 oc70 kV70 dc70 pm70 cd70 ct70 oc71 kV71 dc71 pm71 cd71 ct71 oc72 kV72 dc72 pm72 cd72 ct72 oc73 kV73 dc73 pm73 cd73 ct73 oc74 kV74 dc74 pm74 cd74 ct74 oc75 kV75 dc75 pm75 cd75 ct75 oc76 kV76 dc76 pm76 cd76 ct76 oc77 kV77 dc77 pm77 cd77 ct77 oc78 kV78 dc78 pm78 cd78 ct78 oc79 kV79 dc79 pm79 cd79 ct79 oc80 kV80 dc80 pm80 cd80 ct80 oc81 kV81 dc81 pm81 cd81 ct81 oc82 kV82 dc82 pm82 cd82 ct82 oc83 kV83 dc83 pm83 cd83 ct83 oc84 kV84 dc84 pm84 cd84 ct84 oc85 kV85 dc85 pm85 cd85 ct85 ocmShort kVmShort dcmShort pmmShort cdmShort ctmShort : Value} {tLETTERS tLONGEST_NAME tMOST_ROOM tNOUGHT_0 tNOUGHT_1 tMOST_BY tROLLS_0 tROLLS_1 tROLLS_2 tLAYS_0 tLAYS_1 tPUSHES_0 tPUSHES_1 tPUSHES_2 tCHANGES_0 tCHANGES_1 tCHANGES_2 tCHANGES_3 tCHANGES_4 tCHANGES_5 : Tok} {nnNOUGHT nnROLLS nnLAYS nnPUSHES nnCHANGES : Nat}
    (a0 : W.nsIn K mainGlobals "is_whole" = some (some (.ref f0))) (l0 : K.lookup f0 = some ⟨oc0, od0, .func (W.fnOf "is_whole" "is_whole" (qJ xO) (qI xO) (qC xO) .none kV0 dc0 pm0 an0 cd0 ct0), sl0⟩) (c0 : W.codeIn K cd0 "is_whole" = true) (k0 : W.keepIn K (.ref f0) = true)
    (a1 : W.nsIn K mainGlobals "common_divisor" = some (some (.ref f1))) (l1 : K.lookup f1 = some ⟨oc1, od1, .func (W.fnOf "common_divisor" "common_divisor" (qJ qr) (qI qr) (qC qr) .none kV1 dc1 pm1 an1 cd1 ct1), sl1⟩) (c1 : W.codeIn K cd1 "common_divisor" = true) (k1 : W.keepIn K (.ref f1) = true)
    (a2 : W.nsIn K mainGlobals "is_fraction" = some (some (.ref f2))) (l2 : K.lookup f2 = some ⟨oc2, od2, .func (W.fnOf "is_fraction" "is_fraction" (qJ jm) (qI jm) (qC jm) .none kV2 dc2 pm2 an2 cd2 ct2), sl2⟩) (c2 : W.codeIn K cd2 "is_fraction" = true) (k2 : W.keepIn K (.ref f2) = true)
    (a3 : W.nsIn K mainGlobals "fraction" = some (some (.ref f3))) (l3 : K.lookup f3 = some ⟨oc3, od3, .func (W.fnOf "fraction" "fraction" (qJ xQ) (qI xQ) (qC xQ) .none kV3 dc3 pm3 an3 cd3 ct3), sl3⟩) (c3 : W.codeIn K cd3 "fraction" = true) (k3 : W.keepIn K (.ref f3) = true)
    (a4 : W.nsIn K mainGlobals "sum_of" = some (some (.ref f4))) (l4 : K.lookup f4 = some ⟨oc4, od4, .func (W.fnOf "sum_of" "sum_of" (qJ zl) (qI zl) (qC zl) .none kV4 dc4 pm4 an4 cd4 ct4), sl4⟩) (c4 : W.codeIn K cd4 "sum_of" = true) (k4 : W.keepIn K (.ref f4) = true)
    (a5 : W.nsIn K mainGlobals "less_by" = some (some (.ref f5))) (l5 : K.lookup f5 = some ⟨oc5, od5, .func (W.fnOf "less_by" "less_by" (qJ zD) (qI zD) (qC zD) .none kV5 dc5 pm5 an5 cd5 ct5), sl5⟩) (c5 : W.codeIn K cd5 "less_by" = true) (k5 : W.keepIn K (.ref f5) = true)
    (a6 : W.nsIn K mainGlobals "times_of" = some (some (.ref f6))) (l6 : K.lookup f6 = some ⟨oc6, od6, .func (W.fnOf "times_of" "times_of" (qJ xT) (qI xT) (qC xT) .none kV6 dc6 pm6 an6 cd6 ct6), sl6⟩) (c6 : W.codeIn K cd6 "times_of" = true) (k6 : W.keepIn K (.ref f6) = true)
    (a7 : W.nsIn K mainGlobals "quotient" = some (some (.ref f7))) (l7 : K.lookup f7 = some ⟨oc7, od7, .func (W.fnOf "quotient" "quotient" (qJ xP) (qI xP) (qC xP) .none kV7 dc7 pm7 an7 cd7 ct7), sl7⟩) (c7 : W.codeIn K cd7 "quotient" = true) (k7 : W.keepIn K (.ref f7) = true)
    (a8 : W.nsIn K mainGlobals "is_before" = some (some (.ref f8))) (l8 : K.lookup f8 = some ⟨oc8, od8, .func (W.fnOf "is_before" "is_before" (qJ j3) (qI j3) (qC j3) .none kV8 dc8 pm8 an8 cd8 ct8), sl8⟩) (c8 : W.codeIn K cd8 "is_before" = true) (k8 : W.keepIn K (.ref f8) = true)
    (a9 : W.nsIn K mainGlobals "floor_of" = some (some (.ref f9))) (l9 : K.lookup f9 = some ⟨oc9, od9, .func (W.fnOf "floor_of" "floor_of" (qJ xU) (qI xU) (qC xU) .none kV9 dc9 pm9 an9 cd9 ct9), sl9⟩) (c9 : W.codeIn K cd9 "floor_of" = true) (k9 : W.keepIn K (.ref f9) = true)
    (a10 : W.nsIn K mainGlobals "is_name" = some (some (.ref f10))) (l10 : K.lookup f10 = some ⟨oc10, od10, .func (W.fnOf "is_name" "is_name" (qJ zW) (qI zW) (qC zW) .none kV10 dc10 pm10 an10 cd10 ct10), sl10⟩) (c10 : W.codeIn K cd10 "is_name" = true) (k10 : W.keepIn K (.ref f10) = true)
    (a11 : W.nsIn K mainGlobals "has_clip_form" = some (some (.ref f11))) (l11 : K.lookup f11 = some ⟨oc11, od11, .func (W.fnOf "has_clip_form" "has_clip_form" (qJ jN) (qI jN) (qC jN) .none kV11 dc11 pm11 an11 cd11 ct11), sl11⟩) (c11 : W.codeIn K cd11 "has_clip_form" = true) (k11 : W.keepIn K (.ref f11) = true)
    (a12 : W.nsIn K mainGlobals "place_at" = some (some (.ref f12))) (l12 : K.lookup f12 = some ⟨oc12, od12, .func (W.fnOf "place_at" "place_at" (qJ xN) (qI xN) (qC xN) .none kV12 dc12 pm12 an12 cd12 ct12), sl12⟩) (c12 : W.codeIn K cd12 "place_at" = true) (k12 : W.keepIn K (.ref f12) = true)
    (a13 : W.nsIn K mainGlobals "picture_at" = some (some (.ref f13))) (l13 : K.lookup f13 = some ⟨oc13, od13, .func (W.fnOf "picture_at" "picture_at" (qJ xI) (qI xI) (qC xI) .none kV13 dc13 pm13 an13 cd13 ct13), sl13⟩) (c13 : W.codeIn K cd13 "picture_at" = true) (k13 : W.keepIn K (.ref f13) = true)
    (a14 : W.nsIn K mainGlobals "is_there" = some (some (.ref f14))) (l14 : K.lookup f14 = some ⟨oc14, od14, .func (W.fnOf "is_there" "is_there" (qJ xV) (qI xV) (qC xV) .none kV14 dc14 pm14 an14 cd14 ct14), sl14⟩) (c14 : W.codeIn K cd14 "is_there" = true) (k14 : W.keepIn K (.ref f14) = true)
    (a15 : W.nsIn K mainGlobals "check_clip" = some (some (.ref f15))) (l15 : K.lookup f15 = some ⟨oc15, od15, .func (W.fnOf "check_clip" "check_clip" (qJ xE) (qI xE) (qC xE) .none kV15 dc15 pm15 an15 cd15 ct15), sl15⟩) (c15 : W.codeIn K cd15 "check_clip" = true) (k15 : W.keepIn K (.ref f15) = true)
    (a16 : W.nsIn K mainGlobals "clip_part" = some (some (.ref f16))) (l16 : K.lookup f16 = some ⟨oc16, od16, .func (W.fnOf "clip_part" "clip_part" (qJ j5) (qI j5) (qC j5) .none kV16 dc16 pm16 an16 cd16 ct16), sl16⟩) (c16 : W.codeIn K cd16 "clip_part" = true) (k16 : W.keepIn K (.ref f16) = true)
    (a17 : W.nsIn K mainGlobals "goes_on" = some (some (.ref f17))) (l17 : K.lookup f17 = some ⟨oc17, od17, .func (W.fnOf "goes_on" "goes_on" (qJ zZ) (qI zZ) (qC zZ) .none kV17 dc17 pm17 an17 cd17 ct17), sl17⟩) (c17 : W.codeIn K cd17 "goes_on" = true) (k17 : W.keepIn K (.ref f17) = true)
    (a18 : W.nsIn K mainGlobals "moments_there" = some (some (.ref f18))) (l18 : K.lookup f18 = some ⟨oc18, od18, .func (W.fnOf "moments_there" "moments_there" (qJ qy) (qI qy) (qC qy) .none kV18 dc18 pm18 an18 cd18 ct18), sl18⟩) (c18 : W.codeIn K cd18 "moments_there" = true) (k18 : W.keepIn K (.ref f18) = true)
    (a19 : W.nsIn K mainGlobals "head_room" = some (some (.ref f19))) (l19 : K.lookup f19 = some ⟨oc19, od19, .func (W.fnOf "head_room" "head_room" (qJ j7) (qI j7) (qC j7) .none kV19 dc19 pm19 an19 cd19 ct19), sl19⟩) (c19 : W.codeIn K cd19 "head_room" = true) (k19 : W.keepIn K (.ref f19) = true)
    (a20 : W.nsIn K mainGlobals "tail_room" = some (some (.ref f20))) (l20 : K.lookup f20 = some ⟨oc20, od20, .func (W.fnOf "tail_room" "tail_room" (qJ j9) (qI j9) (qC j9) .none kV20 dc20 pm20 an20 cd20 ct20), sl20⟩) (c20 : W.codeIn K cd20 "tail_room" = true) (k20 : W.keepIn K (.ref f20) = true)
    (a21 : W.nsIn K mainGlobals "is_length" = some (some (.ref f21))) (l21 : K.lookup f21 = some ⟨oc21, od21, .func (W.fnOf "is_length" "is_length" (qJ xh) (qI xh) (qC xh) .none kV21 dc21 pm21 an21 cd21 ct21), sl21⟩) (c21 : W.codeIn K cd21 "is_length" = true) (k21 : W.keepIn K (.ref f21) = true)
    (a22 : W.nsIn K mainGlobals "has_nest_form" = some (some (.ref f22))) (l22 : K.lookup f22 = some ⟨oc22, od22, .func (W.fnOf "has_nest_form" "has_nest_form" (qJ jP) (qI jP) (qC jP) .none kV22 dc22 pm22 an22 cd22 ct22), sl22⟩) (c22 : W.codeIn K cd22 "has_nest_form" = true) (k22 : W.keepIn K (.ref f22) = true)
    (a23 : W.nsIn K mainGlobals "moments_of" = some (some (.ref f23))) (l23 : K.lookup f23 = some ⟨oc23, od23, .func (W.fnOf "moments_of" "moments_of" (qJ jj) (qI jj) (qC jj) .none kV23 dc23 pm23 an23 cd23 ct23), sl23⟩) (c23 : W.codeIn K cd23 "moments_of" = true) (k23 : W.keepIn K (.ref f23) = true)
    (a24 : W.nsIn K mainGlobals "one_form" = some (some (.ref f24))) (l24 : K.lookup f24 = some ⟨oc24, od24, .func (W.fnOf "one_form" "one_form" (qJ zA) (qI zA) (qC zA) .none kV24 dc24 pm24 an24 cd24 ct24), sl24⟩) (c24 : W.codeIn K cd24 "one_form" = true) (k24 : W.keepIn K (.ref f24) = true)
    (a25 : W.nsIn K mainGlobals "length_of" = some (some (.ref f25))) (l25 : K.lookup f25 = some ⟨oc25, od25, .func (W.fnOf "length_of" "length_of" (qJ xg) (qI xg) (qC xg) .none kV25 dc25 pm25 an25 cd25 ct25), sl25⟩) (c25 : W.codeIn K cd25 "length_of" = true) (k25 : W.keepIn K (.ref f25) = true)
    (a26 : W.nsIn K mainGlobals "item_at" = some (some (.ref f26))) (l26 : K.lookup f26 = some ⟨oc26, od26, .func (W.fnOf "item_at" "item_at" (qJ zF) (qI zF) (qC zF) .none kV26 dc26 pm26 an26 cd26 ct26), sl26⟩) (c26 : W.codeIn K cd26 "item_at" = true) (k26 : W.keepIn K (.ref f26) = true)
    (a27 : W.nsIn K mainGlobals "kind_at" = some (some (.ref f27))) (l27 : K.lookup f27 = some ⟨oc27, od27, .func (W.fnOf "kind_at" "kind_at" (qJ xw) (qI xw) (qC xw) .none kV27 dc27 pm27 an27 cd27 ct27), sl27⟩) (c27 : W.codeIn K cd27 "kind_at" = true) (k27 : W.keepIn K (.ref f27) = true)
    (a28 : W.nsIn K mainGlobals "place_ahead" = some (some (.ref f28))) (l28 : K.lookup f28 = some ⟨oc28, od28, .func (W.fnOf "place_ahead" "place_ahead" (qJ jS) (qI jS) (qC jS) .none kV28 dc28 pm28 an28 cd28 ct28), sl28⟩) (c28 : W.codeIn K cd28 "place_ahead" = true) (k28 : W.keepIn K (.ref f28) = true)
    (a29 : W.nsIn K mainGlobals "place_behind" = some (some (.ref f29))) (l29 : K.lookup f29 = some ⟨oc29, od29, .func (W.fnOf "place_behind" "place_behind" (qJ jH) (qI jH) (qC jH) .none kV29 dc29 pm29 an29 cd29 ct29), sl29⟩) (c29 : W.codeIn K cd29 "place_behind" = true) (k29 : W.keepIn K (.ref f29) = true)
    (a30 : W.nsIn K mainGlobals "neighbours_at" = some (some (.ref f30))) (l30 : K.lookup f30 = some ⟨oc30, od30, .func (W.fnOf "neighbours_at" "neighbours_at" (qJ qz) (qI qz) (qC qz) .none kV30 dc30 pm30 an30 cd30 ct30), sl30⟩) (c30 : W.codeIn K cd30 "neighbours_at" = true) (k30 : W.keepIn K (.ref f30) = true)
    (a31 : W.nsIn K mainGlobals "clips_at_border" = some (some (.ref f31))) (l31 : K.lookup f31 = some ⟨oc31, od31, .func (W.fnOf "clips_at_border" "clips_at_border" (qJ qp) (qI qp) (qC qp) .none kV31 dc31 pm31 an31 cd31 ct31), sl31⟩) (c31 : W.codeIn K cd31 "clips_at_border" = true) (k31 : W.keepIn K (.ref f31) = true)
    (a32 : W.nsIn K mainGlobals "lies_within" = some (some (.ref f32))) (l32 : K.lookup f32 = some ⟨oc32, od32, .func (W.fnOf "lies_within" "lies_within" (qJ jq) (qI jq) (qC jq) .none kV32 dc32 pm32 an32 cd32 ct32), sl32⟩) (c32 : W.codeIn K cd32 "lies_within" = true) (k32 : W.keepIn K (.ref f32) = true)
    (a33 : W.nsIn K mainGlobals "item_part" = some (some (.ref f33))) (l33 : K.lookup f33 = some ⟨oc33, od33, .func (W.fnOf "item_part" "item_part" (qJ xX) (qI xX) (qC xX) .none kV33 dc33 pm33 an33 cd33 ct33), sl33⟩) (c33 : W.codeIn K cd33 "item_part" = true) (k33 : W.keepIn K (.ref f33) = true)
    (a34 : W.nsIn K mainGlobals "part_of_track" = some (some (.ref f34))) (l34 : K.lookup f34 = some ⟨oc34, od34, .func (W.fnOf "part_of_track" "part_of_track" (qJ jQ) (qI jQ) (qC jQ) .none kV34 dc34 pm34 an34 cd34 ct34), sl34⟩) (c34 : W.codeIn K cd34 "part_of_track" = true) (k34 : W.keepIn K (.ref f34) = true)
    (a35 : W.nsIn K mainGlobals "part_ahead" = some (some (.ref f35))) (l35 : K.lookup f35 = some ⟨oc35, od35, .func (W.fnOf "part_ahead" "part_ahead" (qJ xF) (qI xF) (qC xF) .none kV35 dc35 pm35 an35 cd35 ct35), sl35⟩) (c35 : W.codeIn K cd35 "part_ahead" = true) (k35 : W.keepIn K (.ref f35) = true)
    (a36 : W.nsIn K mainGlobals "part_behind" = some (some (.ref f36))) (l36 : K.lookup f36 = some ⟨oc36, od36, .func (W.fnOf "part_behind" "part_behind" (qJ jp) (qI jp) (qC jp) .none kV36 dc36 pm36 an36 cd36 ct36), sl36⟩) (c36 : W.codeIn K cd36 "part_behind" = true) (k36 : W.keepIn K (.ref f36) = true)
    (a37 : W.nsIn K mainGlobals "mix_spans" = some (some (.ref f37))) (l37 : K.lookup f37 = some ⟨oc37, od37, .func (W.fnOf "mix_spans" "mix_spans" (qJ xW) (qI xW) (qC xW) .none kV37 dc37 pm37 an37 cd37 ct37), sl37⟩) (c37 : W.codeIn K cd37 "mix_spans" = true) (k37 : W.keepIn K (.ref f37) = true)
    (a38 : W.nsIn K mainGlobals "taken_at_begin" = some (some (.ref f38))) (l38 : K.lookup f38 = some ⟨oc38, od38, .func (W.fnOf "taken_at_begin" "taken_at_begin" (qJ jG) (qI jG) (qC jG) .none kV38 dc38 pm38 an38 cd38 ct38), sl38⟩) (c38 : W.codeIn K cd38 "taken_at_begin" = true) (k38 : W.keepIn K (.ref f38) = true)
    (a39 : W.nsIn K mainGlobals "taken_at_end" = some (some (.ref f39))) (l39 : K.lookup f39 = some ⟨oc39, od39, .func (W.fnOf "taken_at_end" "taken_at_end" (qJ jY) (qI jY) (qC jY) .none kV39 dc39 pm39 an39 cd39 ct39), sl39⟩) (c39 : W.codeIn K cd39 "taken_at_end" = true) (k39 : W.keepIn K (.ref f39) = true)
    (a40 : W.nsIn K mainGlobals "most_mix" = some (some (.ref f40))) (l40 : K.lookup f40 = some ⟨oc40, od40, .func (W.fnOf "most_mix" "most_mix" (qJ xt) (qI xt) (qC xt) .none kV40 dc40 pm40 an40 cd40 ct40), sl40⟩) (c40 : W.codeIn K cd40 "most_mix" = true) (k40 : W.keepIn K (.ref f40) = true)
    (a41 : W.nsIn K mainGlobals "check_place" = some (some (.ref f41))) (l41 : K.lookup f41 = some ⟨oc41, od41, .func (W.fnOf "check_place" "check_place" (qJ jU) (qI jU) (qC jU) .none kV41 dc41 pm41 an41 cd41 ct41), sl41⟩) (c41 : W.codeIn K cd41 "check_place" = true) (k41 : W.keepIn K (.ref f41) = true)
    (a42 : W.nsIn K mainGlobals "check_by" = some (some (.ref f42))) (l42 : K.lookup f42 = some ⟨oc42, od42, .func (W.fnOf "check_by" "check_by" (qJ xS) (qI xS) (qC xS) .none kV42 dc42 pm42 an42 cd42 ct42), sl42⟩) (c42 : W.codeIn K cd42 "check_by" = true) (k42 : W.keepIn K (.ref f42) = true)
    (a43 : W.nsIn K mainGlobals "clip_there" = some (some (.ref f43))) (l43 : K.lookup f43 = some ⟨oc43, od43, .func (W.fnOf "clip_there" "clip_there" (qJ jf) (qI jf) (qC jf) .none kV43 dc43 pm43 an43 cd43 ct43), sl43⟩) (c43 : W.codeIn K cd43 "clip_there" = true) (k43 : W.keepIn K (.ref f43) = true)
    (a44 : W.nsIn K mainGlobals "clip_and_sides" = some (some (.ref f44))) (l44 : K.lookup f44 = some ⟨oc44, od44, .func (W.fnOf "clip_and_sides" "clip_and_sides" (qJ qv) (qI qv) (qC qv) .none kV44 dc44 pm44 an44 cd44 ct44), sl44⟩) (c44 : W.codeIn K cd44 "clip_and_sides" = true) (k44 : W.keepIn K (.ref f44) = true)
    (a45 : W.nsIn K mainGlobals "places_named" = some (some (.ref f45))) (l45 : K.lookup f45 = some ⟨oc45, od45, .func (W.fnOf "places_named" "places_named" (qJ jL) (qI jL) (qC jL) .none kV45 dc45 pm45 an45 cd45 ct45), sl45⟩) (c45 : W.codeIn K cd45 "places_named" = true) (k45 : W.keepIn K (.ref f45) = true)
    (a46 : W.nsIn K mainGlobals "has_mix" = some (some (.ref f46))) (l46 : K.lookup f46 = some ⟨oc46, od46, .func (W.fnOf "has_mix" "has_mix" (qJ zC) (qI zC) (qC zC) .none kV46 dc46 pm46 an46 cd46 ct46), sl46⟩) (c46 : W.codeIn K cd46 "has_mix" = true) (k46 : W.keepIn K (.ref f46) = true)
    (a47 : W.nsIn K mainGlobals "check_short" = some (some (.ref f47))) (l47 : K.lookup f47 = some ⟨oc47, od47, .func (W.fnOf "check_short" "check_short" (qJ jT) (qI jT) (qC jT) .none kV47 dc47 pm47 an47 cd47 ct47), sl47⟩) (c47 : W.codeIn K cd47 "check_short" = true) (k47 : W.keepIn K (.ref f47) = true)
    (a48 : W.nsIn K mainGlobals "most_slip" = some (some (.ref f48))) (l48 : K.lookup f48 = some ⟨oc48, od48, .func (W.fnOf "most_slip" "most_slip" (qJ j1) (qI j1) (qC j1) .none kV48 dc48 pm48 an48 cd48 ct48), sl48⟩) (c48 : W.codeIn K cd48 "most_slip" = true) (k48 : W.keepIn K (.ref f48) = true)
    (a49 : W.nsIn K mainGlobals "most_roll" = some (some (.ref f49))) (l49 : K.lookup f49 = some ⟨oc49, od49, .func (W.fnOf "most_roll" "most_roll" (qJ jz) (qI jz) (qC jz) .none kV49 dc49 pm49 an49 cd49 ct49), sl49⟩) (c49 : W.codeIn K cd49 "most_roll" = true) (k49 : W.keepIn K (.ref f49) = true)
    (a50 : W.nsIn K mainGlobals "slipped" = some (some (.ref f50))) (l50 : K.lookup f50 = some ⟨oc50, od50, .func (W.fnOf "slipped" "slipped" (qJ xx) (qI xx) (qC xx) .none kV50 dc50 pm50 an50 cd50 ct50), sl50⟩) (c50 : W.codeIn K cd50 "slipped" = true) (k50 : W.keepIn K (.ref f50) = true)
    (a51 : W.nsIn K mainGlobals "with_rolled_ends" = some (some (.ref f51))) (l51 : K.lookup f51 = some ⟨oc51, od51, .func (W.fnOf "with_rolled_ends" "with_rolled_ends" (qJ ql) (qI ql) (qC ql) .none kV51 dc51 pm51 an51 cd51 ct51), sl51⟩) (c51 : W.codeIn K cd51 "with_rolled_ends" = true) (k51 : W.keepIn K (.ref f51) = true)
    (a52 : W.nsIn K mainGlobals "table_with" = some (some (.ref f52))) (l52 : K.lookup f52 = some ⟨oc52, od52, .func (W.fnOf "table_with" "table_with" (qJ jg) (qI jg) (qC jg) .none kV52 dc52 pm52 an52 cd52 ct52), sl52⟩) (c52 : W.codeIn K cd52 "table_with" = true) (k52 : W.keepIn K (.ref f52) = true)
    (a53 : W.nsIn K mainGlobals "rolled" = some (some (.ref f53))) (l53 : K.lookup f53 = some ⟨oc53, od53, .func (W.fnOf "rolled" "rolled" (qJ zk) (qI zk) (qC zk) .none kV53 dc53 pm53 an53 cd53 ct53), sl53⟩) (c53 : W.codeIn K cd53 "rolled" = true) (k53 : W.keepIn K (.ref f53) = true)
    (a54 : W.nsIn K mainGlobals "stretch_of" = some (some (.ref f54))) (l54 : K.lookup f54 = some ⟨oc54, od54, .func (W.fnOf "stretch_of" "stretch_of" (qJ xD) (qI xD) (qC xD) .none kV54 dc54 pm54 an54 cd54 ct54), sl54⟩) (c54 : W.codeIn K cd54 "stretch_of" = true) (k54 : W.keepIn K (.ref f54) = true)
    (a55 : W.nsIn K mainGlobals "laid_by" = some (some (.ref f55))) (l55 : K.lookup f55 = some ⟨oc55, od55, .func (W.fnOf "laid_by" "laid_by" (qJ zS) (qI zS) (qC zS) .none kV55 dc55 pm55 an55 cd55 ct55), sl55⟩) (c55 : W.codeIn K cd55 "laid_by" = true) (k55 : W.keepIn K (.ref f55) = true)
    (a56 : W.nsIn K mainGlobals "laid_on_tied" = some (some (.ref f56))) (l56 : K.lookup f56 = some ⟨oc56, od56, .func (W.fnOf "laid_on_tied" "laid_on_tied" (qJ jb) (qI jb) (qC jb) .none kV56 dc56 pm56 an56 cd56 ct56), sl56⟩) (c56 : W.codeIn K cd56 "laid_on_tied" = true) (k56 : W.keepIn K (.ref f56) = true)
    (a57 : W.nsIn K mainGlobals "tracks_changed" = some (some (.ref f57))) (l57 : K.lookup f57 = some ⟨oc57, od57, .func (W.fnOf "tracks_changed" "tracks_changed" (qJ jE) (qI jE) (qC jE) .none kV57 dc57 pm57 an57 cd57 ct57), sl57⟩) (c57 : W.codeIn K cd57 "tracks_changed" = true) (k57 : W.keepIn K (.ref f57) = true)
    (a58 : W.nsIn K mainGlobals "check_numbers" = some (some (.ref f58))) (l58 : K.lookup f58 = some ⟨oc58, od58, .func (W.fnOf "check_numbers" "check_numbers" (qJ jO) (qI jO) (qC jO) .none kV58 dc58 pm58 an58 cd58 ct58), sl58⟩) (c58 : W.codeIn K cd58 "check_numbers" = true) (k58 : W.keepIn K (.ref f58) = true)
    (a59 : W.nsIn K mainGlobals "touches_mix" = some (some (.ref f59))) (l59 : K.lookup f59 = some ⟨oc59, od59, .func (W.fnOf "touches_mix" "touches_mix" (qJ jt) (qI jt) (qC jt) .none kV59 dc59 pm59 an59 cd59 ct59), sl59⟩) (c59 : W.codeIn K cd59 "touches_mix" = true) (k59 : W.keepIn K (.ref f59) = true)
    (a60 : W.nsIn K mainGlobals "check_mixes" = some (some (.ref f60))) (l60 : K.lookup f60 = some ⟨oc60, od60, .func (W.fnOf "check_mixes" "check_mixes" (qJ jo) (qI jo) (qC jo) .none kV60 dc60 pm60 an60 cd60 ct60), sl60⟩) (c60 : W.codeIn K cd60 "check_mixes" = true) (k60 : W.keepIn K (.ref f60) = true)
    (a61 : W.nsIn K mainGlobals "check_change" = some (some (.ref f61))) (l61 : K.lookup f61 = some ⟨oc61, od61, .func (W.fnOf "check_change" "check_change" (qJ ja) (qI ja) (qC ja) .none kV61 dc61 pm61 an61 cd61 ct61), sl61⟩) (c61 : W.codeIn K cd61 "check_change" = true) (k61 : W.keepIn K (.ref f61) = true)
    (a62 : W.nsIn K mainGlobals "nest_goes_on" = some (some (.ref f62))) (l62 : K.lookup f62 = some ⟨oc62, od62, .func (W.fnOf "nest_goes_on" "nest_goes_on" (qJ jZ) (qI jZ) (qC jZ) .none kV62 dc62 pm62 an62 cd62 ct62), sl62⟩) (c62 : W.codeIn K cd62 "nest_goes_on" = true) (k62 : W.keepIn K (.ref f62) = true)
    (a63 : W.nsIn K mainGlobals "can_heal" = some (some (.ref f63))) (l63 : K.lookup f63 = some ⟨oc63, od63, .func (W.fnOf "can_heal" "can_heal" (qJ zE) (qI zE) (qC zE) .none kV63 dc63 pm63 an63 cd63 ct63), sl63⟩) (c63 : W.codeIn K cd63 "can_heal" = true) (k63 : W.keepIn K (.ref f63) = true)
    (a64 : W.nsIn K mainGlobals "healed" = some (some (.ref f64))) (l64 : K.lookup f64 = some ⟨oc64, od64, .func (W.fnOf "healed" "healed" (qJ kF) (qI kF) (qC kF) .none kV64 dc64 pm64 an64 cd64 ct64), sl64⟩) (c64 : W.codeIn K cd64 "healed" = true) (k64 : W.keepIn K (.ref f64) = true)
    (a65 : W.nsIn K mainGlobals "mixed" = some (some (.ref f65))) (l65 : K.lookup f65 = some ⟨oc65, od65, .func (W.fnOf "mixed" "mixed" (qJ vY) (qI vY) (qC vY) .none kV65 dc65 pm65 an65 cd65 ct65), sl65⟩) (c65 : W.codeIn K cd65 "mixed" = true) (k65 : W.keepIn K (.ref f65) = true)
    (a66 : W.nsIn K mainGlobals "unmixed" = some (some (.ref f66))) (l66 : K.lookup f66 = some ⟨oc66, od66, .func (W.fnOf "unmixed" "unmixed" (qJ zU) (qI zU) (qC zU) .none kV66 dc66 pm66 an66 cd66 ct66), sl66⟩) (c66 : W.codeIn K cd66 "unmixed" = true) (k66 : W.keepIn K (.ref f66) = true)
    (a67 : W.nsIn K mainGlobals "relaid" = some (some (.ref f67))) (l67 : K.lookup f67 = some ⟨oc67, od67, .func (W.fnOf "relaid" "relaid" (qJ kL) (qI kL) (qC kL) .none kV67 dc67 pm67 an67 cd67 ct67), sl67⟩) (c67 : W.codeIn K cd67 "relaid" = true) (k67 : W.keepIn K (.ref f67) = true)
    (a68 : W.nsIn K mainGlobals "changed" = some (some (.ref f68))) (l68 : K.lookup f68 = some ⟨oc68, od68, .func (W.fnOf "changed" "changed" (qJ zT) (qI zT) (qC zT) .none kV68 dc68 pm68 an68 cd68 ct68), sl68⟩) (c68 : W.codeIn K cd68 "changed" = true) (k68 : W.keepIn K (.ref f68) = true)
    (a69 : W.nsIn K mainGlobals "deed_done" = some (some (.ref f69))) (l69 : K.lookup f69 = some ⟨oc69, od69, .func (W.fnOf "deed_done" "deed_done" (qJ xB) (qI xB) (qC xB) .none kV69 dc69 pm69 an69 cd69 ct69), sl69⟩) (c69 : W.codeIn K cd69 "deed_done" = true) (k69 : W.keepIn K (.ref f69) = true)
    (a70 : W.nsIn K mainGlobals "_law_cell_at" = some (some (.ref f70))) (l70 : K.lookup f70 = some ⟨oc70, od70, .func (W.fnOf "_law_cell_at" "_law_cell_at" (qJ jI) (qI jI) (qC jI) .none kV70 dc70 pm70 an70 cd70 ct70), sl70⟩) (c70 : W.codeIn K cd70 "_law_cell_at" = true) (k70 : W.keepIn K (.ref f70) = true)
    (a71 : W.nsIn K mainGlobals "_law_mixed" = some (some (.ref f71))) (l71 : K.lookup f71 = some ⟨oc71, od71, .func (W.fnOf "_law_mixed" "_law_mixed" (qJ jh) (qI jh) (qC jh) .none kV71 dc71 pm71 an71 cd71 ct71), sl71⟩) (c71 : W.codeIn K cd71 "_law_mixed" = true) (k71 : W.keepIn K (.ref f71) = true)
    (a72 : W.nsIn K mainGlobals "_law_fraction" = some (some (.ref f72))) (l72 : K.lookup f72 = some ⟨oc72, od72, .func (W.fnOf "_law_fraction" "_law_fraction" (qJ q9) (qI q9) (qC q9) .none kV72 dc72 pm72 an72 cd72 ct72), sl72⟩) (c72 : W.codeIn K cd72 "_law_fraction" = true) (k72 : W.keepIn K (.ref f72) = true)
    (a73 : W.nsIn K mainGlobals "_law_there" = some (some (.ref f73))) (l73 : K.lookup f73 = some ⟨oc73, od73, .func (W.fnOf "_law_there" "_law_there" (qJ je) (qI je) (qC je) .none kV73 dc73 pm73 an73 cd73 ct73), sl73⟩) (c73 : W.codeIn K cd73 "_law_there" = true) (k73 : W.keepIn K (.ref f73) = true)
    (a74 : W.nsIn K mainGlobals "_law_clip" = some (some (.ref f74))) (l74 : K.lookup f74 = some ⟨oc74, od74, .func (W.fnOf "_law_clip" "_law_clip" (qJ j2) (qI j2) (qC j2) .none kV74 dc74 pm74 an74 cd74 ct74), sl74⟩) (c74 : W.codeIn K cd74 "_law_clip" = true) (k74 : W.keepIn K (.ref f74) = true)
    (a75 : W.nsIn K mainGlobals "_law_reels" = some (some (.ref f75))) (l75 : K.lookup f75 = some ⟨oc75, od75, .func (W.fnOf "_law_reels" "_law_reels" (qJ ji) (qI ji) (qC ji) .none kV75 dc75 pm75 an75 cd75 ct75), sl75⟩) (c75 : W.codeIn K cd75 "_law_reels" = true) (k75 : W.keepIn K (.ref f75) = true)
    (a76 : W.nsIn K mainGlobals "_law_track" = some (some (.ref f76))) (l76 : K.lookup f76 = some ⟨oc76, od76, .func (W.fnOf "_law_track" "_law_track" (qJ jd) (qI jd) (qC jd) .none kV76 dc76 pm76 an76 cd76 ct76), sl76⟩) (c76 : W.codeIn K cd76 "_law_track" = true) (k76 : W.keepIn K (.ref f76) = true)
    (a77 : W.nsIn K mainGlobals "_law_mixed_track" = some (some (.ref f77))) (l77 : K.lookup f77 = some ⟨oc77, od77, .func (W.fnOf "_law_mixed_track" "_law_mixed_track" (qJ qm) (qI qm) (qC qm) .none kV77 dc77 pm77 an77 cd77 ct77), sl77⟩) (c77 : W.codeIn K cd77 "_law_mixed_track" = true) (k77 : W.keepIn K (.ref f77) = true)
    (a78 : W.nsIn K mainGlobals "_law_length" = some (some (.ref f78))) (l78 : K.lookup f78 = some ⟨oc78, od78, .func (W.fnOf "_law_length" "_law_length" (qJ jR) (qI jR) (qC jR) .none kV78 dc78 pm78 an78 cd78 ct78), sl78⟩) (c78 : W.codeIn K cd78 "_law_length" = true) (k78 : W.keepIn K (.ref f78) = true)
    (a79 : W.nsIn K mainGlobals "_law_clip_at" = some (some (.ref f79))) (l79 : K.lookup f79 = some ⟨oc79, od79, .func (W.fnOf "_law_clip_at" "_law_clip_at" (qJ jM) (qI jM) (qC jM) .none kV79 dc79 pm79 an79 cd79 ct79), sl79⟩) (c79 : W.codeIn K cd79 "_law_clip_at" = true) (k79 : W.keepIn K (.ref f79) = true)
    (a80 : W.nsIn K mainGlobals "_law_beside" = some (some (.ref f80))) (l80 : K.lookup f80 = some ⟨oc80, od80, .func (W.fnOf "_law_beside" "_law_beside" (qJ jW) (qI jW) (qC jW) .none kV80 dc80 pm80 an80 cd80 ct80), sl80⟩) (c80 : W.codeIn K cd80 "_law_beside" = true) (k80 : W.keepIn K (.ref f80) = true)
    (a81 : W.nsIn K mainGlobals "_law_has_mix" = some (some (.ref f81))) (l81 : K.lookup f81 = some ⟨oc81, od81, .func (W.fnOf "_law_has_mix" "_law_has_mix" (qJ jJ) (qI jJ) (qC jJ) .none kV81 dc81 pm81 an81 cd81 ct81), sl81⟩) (c81 : W.codeIn K cd81 "_law_has_mix" = true) (k81 : W.keepIn K (.ref f81) = true)
    (a82 : W.nsIn K mainGlobals "_law_is_number" = some (some (.ref f82))) (l82 : K.lookup f82 = some ⟨oc82, od82, .func (W.fnOf "_law_is_number" "_law_is_number" (qJ qt) (qI qt) (qC qt) .none kV82 dc82 pm82 an82 cd82 ct82), sl82⟩) (c82 : W.codeIn K cd82 "_law_is_number" = true) (k82 : W.keepIn K (.ref f82) = true)
    (a83 : W.nsIn K mainGlobals "_law_due" = some (some (.ref f83))) (l83 : K.lookup f83 = some ⟨oc83, od83, .func (W.fnOf "_law_due" "_law_due" (qJ xR) (qI xR) (qC xR) .none kV83 dc83 pm83 an83 cd83 ct83), sl83⟩) (c83 : W.codeIn K cd83 "_law_due" = true) (k83 : W.keepIn K (.ref f83) = true)
    (a84 : W.nsIn K mainGlobals "_law_told" = some (some (.ref f84))) (l84 : K.lookup f84 = some ⟨oc84, od84, .func (W.fnOf "_law_told" "_law_told" (qJ j4) (qI j4) (qC j4) .none kV84 dc84 pm84 an84 cd84 ct84), sl84⟩) (c84 : W.codeIn K cd84 "_law_told" = true) (k84 : W.keepIn K (.ref f84) = true)
    (a85 : W.nsIn K mainGlobals "law" = some (some (.ref f85))) (l85 : K.lookup f85 = some ⟨oc85, od85, .func (W.fnOf "law" "law" (qJ wM) (qI wM) (qC wM) .none kV85 dc85 pm85 an85 cd85 ct85), sl85⟩) (c85 : W.codeIn K cd85 "law" = true) (k85 : W.keepIn K (.ref f85) = true)
    (xg0 : W.nsIn K mainGlobals "CutError" = some (some (.ref C0)))
    (xg1 : W.nsIn K mainGlobals "NoNumber" = some (some (.ref C1)))
    (xg2 : W.nsIn K mainGlobals "NoClip" = some (some (.ref C2)))
    (xg3 : W.nsIn K mainGlobals "NoPlace" = some (some (.ref C3)))
    (xg4 : W.nsIn K mainGlobals "Mixed" = some (some (.ref C4)))
    (xg5 : W.nsIn K mainGlobals "NoRoom" = some (some (.ref C5)))
    (xg6 : W.nsIn K mainGlobals "Short" = some (some (.ref C6)))
    (x_NoPlace : L3.OwnX K C3)
    (x_Mixed : L3.OwnX K C4)
    (e_NoPlace : L3.ExcK K C3)
    (e_Mixed : L3.ExcK K C4)
    (e_Short : L3.ExcK K C6)
    (x1 : W.exmOne K (.ref C3) (.ref C0) = some true)
    (x2 : W.exmOne K (.ref C4) (.ref C0) = some true)
    (x3 : W.exmOne K (.ref C6) (.ref C0) = some true)
    (p1 : W.kitOne K (.ref C3) (.ref C3) = some true)
    (p2 : W.kitOne K (.ref C3) (.ref C4) = some false)
    (p3 : W.kitOne K (.ref C3) (.ref C6) = some false)
    (p4 : W.kitOne K (.ref C3) (.ref C2) = some false)
    (p5 : W.kitOne K (.ref C3) (.ref C5) = some false)
    (p6 : W.kitOne K (.ref C3) (.type "ValueError") = some true)
    (q1 : W.kitOne K (.ref C4) (.ref C3) = some false)
    (q2 : W.kitOne K (.ref C4) (.ref C4) = some true)
    (q3 : W.kitOne K (.ref C4) (.ref C6) = some false)
    (q4 : W.kitOne K (.ref C4) (.ref C2) = some false)
    (q5 : W.kitOne K (.ref C4) (.ref C5) = some false)
    (q6 : W.kitOne K (.ref C4) (.type "ValueError") = some true)
    (s1 : W.kitOne K (.ref C6) (.ref C3) = some false)
    (s2 : W.kitOne K (.ref C6) (.ref C4) = some false)
    (s3 : W.kitOne K (.ref C6) (.ref C6) = some true)
    (s4 : W.kitOne K (.ref C6) (.ref C2) = some false)
    (s5 : W.kitOne K (.ref C6) (.ref C5) = some false)
    (s6 : W.kitOne K (.ref C6) (.type "ValueError") = some true)
    (xz0 : W.nsIn K mainGlobals "isinstance" = some none)
    (xz1 : W.nsIn K mainGlobals "int" = some none)
    (xz2 : W.nsIn K mainGlobals "bool" = some none)
    (xz3 : W.nsIn K mainGlobals "abs" = some none)
    (xz4 : W.nsIn K mainGlobals "tuple" = some none)
    (xz5 : W.nsIn K mainGlobals "len" = some none)
    (xz6 : W.nsIn K mainGlobals "all" = some none)
    (xz7 : W.nsIn K mainGlobals "str" = some none)
    (xz8 : W.nsIn K mainGlobals "min" = some none)
    (xz9 : W.nsIn K mainGlobals "sum" = some none)
    (xz10 : W.nsIn K mainGlobals "enumerate" = some none)
    (xz11 : W.nsIn K mainGlobals "max" = some none)
    (xz12 : W.nsIn K mainGlobals "list" = some none)
    (xz13 : W.nsIn K mainGlobals "any" = some none)
    (xz14 : W.nsIn K mainGlobals "range" = some none)
    (xz15 : W.nsIn K mainGlobals "ValueError" = some none)
    (xcLETTERS : W.nsIn K mainGlobals "LETTERS" = some (some (.str "abcdefghijklmnopqrstuvwxyz" tLETTERS)))
    (xcLONGEST_NAME : W.nsIn K mainGlobals "LONGEST_NAME" = some (some (.int 8 tLONGEST_NAME)))
    (xcMOST_ROOM : W.nsIn K mainGlobals "MOST_ROOM" = some (some (.int 1000000 tMOST_ROOM)))
    (xcNOUGHT : W.nsIn K mainGlobals "NOUGHT" = some (some (.ref nNOUGHT))) (xlNOUGHT : K.lookup nNOUGHT = some ⟨.type "tuple", odNOUGHT, .seq #[.int 0 tNOUGHT_0, .int 1 tNOUGHT_1] nnNOUGHT, slNOUGHT⟩)
    (xcMOST_BY : W.nsIn K mainGlobals "MOST_BY" = some (some (.int 1000000 tMOST_BY)))
    (xcROLLS : W.nsIn K mainGlobals "ROLLS" = some (some (.ref nROLLS))) (xlROLLS : K.lookup nROLLS = some ⟨.type "tuple", odROLLS, .seq #[.str "roll" tROLLS_0, .str "slip" tROLLS_1, .str "slide" tROLLS_2] nnROLLS, slROLLS⟩)
    (xcLAYS : W.nsIn K mainGlobals "LAYS" = some (some (.ref nLAYS))) (xlLAYS : K.lookup nLAYS = some ⟨.type "tuple", odLAYS, .seq #[.str "lay_in" tLAYS_0, .str "lay_over" tLAYS_1] nnLAYS, slLAYS⟩)
    (xcPUSHES : W.nsIn K mainGlobals "PUSHES" = some (some (.ref nPUSHES))) (xlPUSHES : K.lookup nPUSHES = some ⟨.type "tuple", odPUSHES, .seq #[.str "lay_in" tPUSHES_0, .str "open" tPUSHES_1, .str "close" tPUSHES_2] nnPUSHES, slPUSHES⟩)
    (xcCHANGES : W.nsIn K mainGlobals "CHANGES" = some (some (.ref nCHANGES))) (xlCHANGES : K.lookup nCHANGES = some ⟨.type "tuple", odCHANGES, .seq #[.str "cut" tCHANGES_0, .str "lay_in" tCHANGES_1, .str "open" tCHANGES_2, .str "close" tCHANGES_3, .str "lift" tCHANGES_4, .str "lay_over" tCHANGES_5] nnCHANGES, slCHANGES⟩)
    (iaShort : W.findIn K (.ref C6) "__init__" = some (some (.ref fmShort))) (ilShort : K.lookup fmShort = some ⟨ocmShort, odmShort, .func (W.fnOf "__init__" "Short.__init__" (qJ zf) (qI zf) (qC zf) .none kVmShort dcmShort pmmShort anmShort cdmShort ctmShort), slmShort⟩) (icShort : W.codeIn K cdmShort "Short.__init__" = true) (ikShort : W.keepIn K (.ref fmShort) = true) (ifShort : W.isFn K (.ref fmShort) = true)
    (ivShort : L3.exOver K C6 C0 = true) (ihShort : W.hasDictIn K C6 = true) (isShort : W.findIn K (.ref C6) "__setattr__" = some (some (.builtin "object.__setattr__"))) (ixShort : L3.excInitIn K C6 fmShort = true) (itShort : W.takerIn K C6 "most" = some none)
    : ∃ fd : FuncData, (∀ (s : Shared) (v : Value), BindsTo s fd ⟨[v], []⟩ [("_law_script", v)]) ∧ ∀ base : Heap, K.In base → base.Ns mainGlobals mg → FnOk l.prog w K mg base CX0 12 fa fd ["_law_script"] (qGf K) := by
  have e := hfa.symm.trans (W.mg_of X G a85)
  obtain rfl : f85 = fa := by cases e; rfl
  have F0 := qO (st := xO) l0 c0 k0
  have b0 := F0.binds (ps := ["x"]) fun _ _ _ _ _ _ us hl => match us, hl with | [_], _ => rfl
  have F1 := qO (st := qr) l1 c1 k1
  have b1 := F1.binds (ps := ["one", "other"]) fun _ _ _ _ _ _ us hl => match us, hl with | [_, _], _ => rfl
  have F2 := qO (st := jm) l2 c2 k2
  have b2 := F2.binds (ps := ["x"]) fun _ _ _ _ _ _ us hl => match us, hl with | [_], _ => rfl
  have F3 := qO (st := xQ) l3 c3 k3
  have b3 := F3.binds (ps := ["top", "bottom"]) fun _ _ _ _ _ _ us hl => match us, hl with | [_, _], _ => rfl
  have F4 := qO (st := zl) l4 c4 k4
  have b4 := F4.binds (ps := ["one", "other"]) fun _ _ _ _ _ _ us hl => match us, hl with | [_, _], _ => rfl
  have F5 := qO (st := zD) l5 c5 k5
  have b5 := F5.binds (ps := ["one", "other"]) fun _ _ _ _ _ _ us hl => match us, hl with | [_, _], _ => rfl
  have F6 := qO (st := xT) l6 c6 k6
  have b6 := F6.binds (ps := ["one", "other"]) fun _ _ _ _ _ _ us hl => match us, hl with | [_, _], _ => rfl
  have F7 := qO (st := xP) l7 c7 k7
  have b7 := F7.binds (ps := ["one", "other"]) fun _ _ _ _ _ _ us hl => match us, hl with | [_, _], _ => rfl
  have F8 := qO (st := j3) l8 c8 k8
  have b8 := F8.binds (ps := ["one", "other"]) fun _ _ _ _ _ _ us hl => match us, hl with | [_, _], _ => rfl
  have F9 := qO (st := xU) l9 c9 k9
  have b9 := F9.binds (ps := ["one"]) fun _ _ _ _ _ _ us hl => match us, hl with | [_], _ => rfl
  have F10 := qO (st := zW) l10 c10 k10
  have b10 := F10.binds (ps := ["thing"]) fun _ _ _ _ _ _ us hl => match us, hl with | [_], _ => rfl
  have F11 := qO (st := jN) l11 c11 k11
  have b11 := F11.binds (ps := ["item"]) fun _ _ _ _ _ _ us hl => match us, hl with | [_], _ => rfl
  have F12 := qO (st := xN) l12 c12 k12
  have b12 := F12.binds (ps := ["clip", "k"]) fun _ _ _ _ _ _ us hl => match us, hl with | [_, _], _ => rfl
  have F13 := qO (st := xI) l13 c13 k13
  have b13 := F13.binds (ps := ["clip", "k"]) fun _ _ _ _ _ _ us hl => match us, hl with | [_, _], _ => rfl
  have F14 := qO (st := xV) l14 c14 k14
  have b14 := F14.binds (ps := ["picture", "many"]) fun _ _ _ _ _ _ us hl => match us, hl with | [_, _], _ => rfl
  have F15 := qO (st := xE) l15 c15 k15
  have b15 := F15.binds (ps := ["item", "reels"]) fun _ _ _ _ _ _ us hl => match us, hl with | [_, _], _ => rfl
  have F16 := qO (st := j5) l16 c16 k16
  have b16 := F16.binds (ps := ["clip", "low", "high"]) fun _ _ _ _ _ _ us hl => match us, hl with | [_, _, _], _ => rfl
  have F17 := qO (st := zZ) l17 c17 k17
  have b17 := F17.binds (ps := ["one", "other"]) fun _ _ _ _ _ _ us hl => match us, hl with | [_, _], _ => rfl
  have F18 := qO (st := qy) l18 c18 k18
  have b18 := F18.binds (ps := ["first", "step", "many"]) fun _ _ _ _ _ _ us hl => match us, hl with | [_, _, _], _ => rfl
  have F19 := qO (st := j7) l19 c19 k19
  have b19 := F19.binds (ps := ["clip", "reels"]) fun _ _ _ _ _ _ us hl => match us, hl with | [_, _], _ => rfl
  have F20 := qO (st := j9) l20 c20 k20
  have b20 := F20.binds (ps := ["clip", "reels"]) fun _ _ _ _ _ _ us hl => match us, hl with | [_, _], _ => rfl
  have F21 := qO (st := xh) l21 c21 k21
  have b21 := F21.binds (ps := ["thing"]) fun _ _ _ _ _ _ us hl => match us, hl with | [_], _ => rfl
  have F22 := qO (st := jP) l22 c22 k22
  have b22 := F22.binds (ps := ["item"]) fun _ _ _ _ _ _ us hl => match us, hl with | [_], _ => rfl
  have F23 := qO (st := jj) l23 c23 k23
  have b23 := F23.binds (ps := ["item"]) fun _ _ _ _ _ _ us hl => match us, hl with | [_], _ => rfl
  have F24 := qO (st := zA) l24 c24 k24
  have b24 := F24.binds (ps := ["some"]) fun _ _ _ _ _ _ us hl => match us, hl with | [_], _ => rfl
  have F25 := qO (st := xg) l25 c25 k25
  have b25 := F25.binds (ps := ["track"]) fun _ _ _ _ _ _ us hl => match us, hl with | [_], _ => rfl
  have F26 := qO (st := zF) l26 c26 k26
  have b26 := F26.binds (ps := ["track", "moment"]) fun _ _ _ _ _ _ us hl => match us, hl with | [_, _], _ => rfl
  have F27 := qO (st := xw) l27 c27 k27
  have b27 := F27.binds (ps := ["track", "place"]) fun _ _ _ _ _ _ us hl => match us, hl with | [_, _], _ => rfl
  have F28 := qO (st := jS) l28 c28 k28
  have b28 := F28.binds (ps := ["track", "place"]) fun _ _ _ _ _ _ us hl => match us, hl with | [_, _], _ => rfl
  have F29 := qO (st := jH) l29 c29 k29
  have b29 := F29.binds (ps := ["track", "place"]) fun _ _ _ _ _ _ us hl => match us, hl with | [_, _], _ => rfl
  have F30 := qO (st := qz) l30 c30 k30
  have b30 := F30.binds (ps := ["track", "moment"]) fun _ _ _ _ _ _ us hl => match us, hl with | [_, _], _ => rfl
  have F31 := qO (st := qp) l31 c31 k31
  have b31 := F31.binds (ps := ["track", "moment"]) fun _ _ _ _ _ _ us hl => match us, hl with | [_, _], _ => rfl
  have F32 := qO (st := jq) l32 c32 k32
  have b32 := F32.binds (ps := ["track", "moment"]) fun _ _ _ _ _ _ us hl => match us, hl with | [_, _], _ => rfl
  have F33 := qO (st := xX) l33 c33 k33
  have b33 := F33.binds (ps := ["item", "low", "high"]) fun _ _ _ _ _ _ us hl => match us, hl with | [_, _, _], _ => rfl
  have F34 := qO (st := jQ) l34 c34 k34
  have b34 := F34.binds (ps := ["track", "low", "high"]) fun _ _ _ _ _ _ us hl => match us, hl with | [_, _, _], _ => rfl
  have F35 := qO (st := xF) l35 c35 k35
  have b35 := F35.binds (ps := ["length"]) fun _ _ _ _ _ _ us hl => match us, hl with | [_], _ => rfl
  have F36 := qO (st := jp) l36 c36 k36
  have b36 := F36.binds (ps := ["length"]) fun _ _ _ _ _ _ us hl => match us, hl with | [_], _ => rfl
  have F37 := qO (st := xW) l37 c37 k37
  have b37 := F37.binds (ps := ["track"]) fun _ _ _ _ _ _ us hl => match us, hl with | [_], _ => rfl
  have F38 := qO (st := jG) l38 c38 k38
  have b38 := F38.binds (ps := ["track", "place"]) fun _ _ _ _ _ _ us hl => match us, hl with | [_, _], _ => rfl
  have F39 := qO (st := jY) l39 c39 k39
  have b39 := F39.binds (ps := ["track", "place"]) fun _ _ _ _ _ _ us hl => match us, hl with | [_, _], _ => rfl
  have F40 := qO (st := xt) l40 c40 k40
  have b40 := F40.binds (ps := ["track", "moment", "reels"]) fun _ _ _ _ _ _ us hl => match us, hl with | [_, _, _], _ => rfl
  have F41 := qO (st := jU) l41 c41 k41
  have b41 := F41.binds (ps := ["table", "number", "moment"]) fun _ _ _ _ _ _ us hl => match us, hl with | [_, _, _], _ => rfl
  have F42 := qO (st := xS) l42 c42 k42
  have b42 := F42.binds (ps := ["by"]) fun _ _ _ _ _ _ us hl => match us, hl with | [_], _ => rfl
  have F43 := qO (st := jf) l43 c43 k43
  have b43 := F43.binds (ps := ["track", "moment"]) fun _ _ _ _ _ _ us hl => match us, hl with | [_, _], _ => rfl
  have F44 := qO (st := qv) l44 c44 k44
  have b44 := F44.binds (ps := ["track", "moment"]) fun _ _ _ _ _ _ us hl => match us, hl with | [_, _], _ => rfl
  have F45 := qO (st := jL) l45 c45 k45
  have b45 := F45.binds (ps := ["track", "deed"]) fun _ _ _ _ _ _ us hl => match us, hl with | [_, _], _ => rfl
  have F46 := qO (st := zC) l46 c46 k46
  have b46 := F46.binds (ps := ["track", "place"]) fun _ _ _ _ _ _ us hl => match us, hl with | [_, _], _ => rfl
  have F47 := qO (st := jT) l47 c47 k47
  have b47 := F47.binds (ps := ["most", "by"]) fun _ _ _ _ _ _ us hl => match us, hl with | [_, _], _ => rfl
  have F48 := qO (st := j1) l48 c48 k48
  have b48 := F48.binds (ps := ["clip", "by", "reels"]) fun _ _ _ _ _ _ us hl => match us, hl with | [_, _, _], _ => rfl
  have F49 := qO (st := jz) l49 c49 k49
  have b49 := F49.binds (ps := ["left", "right", "by", "reels"]) fun _ _ _ _ _ _ us hl => match us, hl with | [_, _, _, _], _ => rfl
  have F50 := qO (st := xx) l50 c50 k50
  have b50 := F50.binds (ps := ["track", "place", "by", "reels"]) fun _ _ _ _ _ _ us hl => match us, hl with | [_, _, _, _], _ => rfl
  have F51 := qO (st := ql) l51 c51 k51
  have b51 := F51.binds (ps := ["track", "first", "last", "by", "reels"]) fun _ _ _ _ _ _ us hl => match us, hl with | [_, _, _, _, _], _ => rfl
  have F52 := qO (st := jg) l52 c52 k52
  have b52 := F52.binds (ps := ["table", "number", "track"]) fun _ _ _ _ _ _ us hl => match us, hl with | [_, _, _], _ => rfl
  have F53 := qO (st := zk) l53 c53 k53
  have b53 := F53.binds (ps := ["table", "deed", "reels"]) fun _ _ _ _ _ _ us hl => match us, hl with | [_, _, _], _ => rfl
  have F54 := qO (st := xD) l54 c54 k54
  have b54 := F54.binds (ps := ["deed"]) fun _ _ _ _ _ _ us hl => match us, hl with | [_], _ => rfl
  have F55 := qO (st := zS) l55 c55 k55
  have b55 := F55.binds (ps := ["deed"]) fun _ _ _ _ _ _ us hl => match us, hl with | [_], _ => rfl
  have F56 := qO (st := jb) l56 c56 k56
  have b56 := F56.binds (ps := ["deed"]) fun _ _ _ _ _ _ us hl => match us, hl with | [_], _ => rfl
  have F57 := qO (st := jE) l57 c57 k57
  have b57 := F57.binds (ps := ["table", "deed"]) fun _ _ _ _ _ _ us hl => match us, hl with | [_, _], _ => rfl
  have F58 := qO (st := jO) l58 c58 k58
  have b58 := F58.binds (ps := ["deed"]) fun _ _ _ _ _ _ us hl => match us, hl with | [_], _ => rfl
  have F59 := qO (st := jt) l59 c59 k59
  have b59 := F59.binds (ps := ["track", "low", "high"]) fun _ _ _ _ _ _ us hl => match us, hl with | [_, _, _], _ => rfl
  have F60 := qO (st := jo) l60 c60 k60
  have b60 := F60.binds (ps := ["table", "deed"]) fun _ _ _ _ _ _ us hl => match us, hl with | [_, _], _ => rfl
  have F61 := qO (st := ja) l61 c61 k61
  have b61 := F61.binds (ps := ["table", "deed", "reels"]) fun _ _ _ _ _ _ us hl => match us, hl with | [_, _, _], _ => rfl
  have F62 := qO (st := jZ) l62 c62 k62
  have b62 := F62.binds (ps := ["one", "other"]) fun _ _ _ _ _ _ us hl => match us, hl with | [_, _], _ => rfl
  have F63 := qO (st := zE) l63 c63 k63
  have b63 := F63.binds (ps := ["track", "places"]) fun _ _ _ _ _ _ us hl => match us, hl with | [_, _], _ => rfl
  have F64 := qO (st := kF) l64 c64 k64
  have b64 := F64.binds (ps := ["table", "deed"]) fun _ _ _ _ _ _ us hl => match us, hl with | [_, _], _ => rfl
  have F65 := qO (st := vY) l65 c65 k65
  have b65 := F65.binds (ps := ["table", "deed", "reels"]) fun _ _ _ _ _ _ us hl => match us, hl with | [_, _, _], _ => rfl
  have F66 := qO (st := zU) l66 c66 k66
  have b66 := F66.binds (ps := ["table", "deed"]) fun _ _ _ _ _ _ us hl => match us, hl with | [_, _], _ => rfl
  have F67 := qO (st := kL) l67 c67 k67
  have b67 := F67.binds (ps := ["track", "low", "high", "laid"]) fun _ _ _ _ _ _ us hl => match us, hl with | [_, _, _, _], _ => rfl
  have F68 := qO (st := zT) l68 c68 k68
  have b68 := F68.binds (ps := ["table", "deed"]) fun _ _ _ _ _ _ us hl => match us, hl with | [_, _], _ => rfl
  have F69 := qO (st := xB) l69 c69 k69
  have b69 := F69.binds (ps := ["table", "deed", "reels"]) fun _ _ _ _ _ _ us hl => match us, hl with | [_, _, _], _ => rfl
  have F70 := qO (st := jI) l70 c70 k70
  have b70 := F70.binds (ps := ["_law_script", "_law_k"]) fun _ _ _ _ _ _ us hl => match us, hl with | [_, _], _ => rfl
  have F71 := qO (st := jh) l71 c71 k71
  have b71 := F71.binds (ps := ["_law_cell", "_law_k"]) fun _ _ _ _ _ _ us hl => match us, hl with | [_, _], _ => rfl
  have F72 := qO (st := q9) l72 c72 k72
  have b72 := F72.binds (ps := ["_law_top", "_law_bottom"]) fun _ _ _ _ _ _ us hl => match us, hl with | [_, _], _ => rfl
  have F73 := qO (st := je) l73 c73 k73
  have b73 := F73.binds (ps := ["_law_clip_here", "_law_k", "_law_reels_here"]) fun _ _ _ _ _ _ us hl => match us, hl with | [_, _, _], _ => rfl
  have F74 := qO (st := j2) l74 c74 k74
  have b74 := F74.binds (ps := ["_law_number", "_law_reels_here", "_law_most"]) fun _ _ _ _ _ _ us hl => match us, hl with | [_, _, _], _ => rfl
  have F75 := qO (st := ji) l75 c75 k75
  have b75 := F75.binds (ps := ["_law_cell"]) fun _ _ _ _ _ _ us hl => match us, hl with | [_], _ => rfl
  have F76 := qO (st := jd) l76 c76 k76
  have b76 := F76.binds (ps := ["_law_cells", "_law_reels_here"]) fun _ _ _ _ _ _ us hl => match us, hl with | [_, _], _ => rfl
  have F77 := qO (st := qm) l77 c77 k77
  have b77 := F77.binds (ps := ["_law_track_here", "_law_cell", "_law_reels_here"]) fun _ _ _ _ _ _ us hl => match us, hl with | [_, _, _], _ => rfl
  have F78 := qO (st := jR) l78 c78 k78
  have b78 := F78.binds (ps := ["_law_item"]) fun _ _ _ _ _ _ us hl => match us, hl with | [_], _ => rfl
  have F79 := qO (st := jM) l79 c79 k79
  have b79 := F79.binds (ps := ["_law_track_here", "_law_moment"]) fun _ _ _ _ _ _ us hl => match us, hl with | [_, _], _ => rfl
  have F80 := qO (st := jW) l80 c80 k80
  have b80 := F80.binds (ps := ["_law_track_here", "_law_place", "_law_way"]) fun _ _ _ _ _ _ us hl => match us, hl with | [_, _, _], _ => rfl
  have F81 := qO (st := jJ) l81 c81 k81
  have b81 := F81.binds (ps := ["_law_track_here", "_law_place"]) fun _ _ _ _ _ _ us hl => match us, hl with | [_, _], _ => rfl
  have F82 := qO (st := qt) l82 c82 k82
  have b82 := F82.binds (ps := ["_law_one"]) fun _ _ _ _ _ _ us hl => match us, hl with | [_], _ => rfl
  have F83 := qO (st := xR) l83 c83 k83
  have b83 := F83.binds (ps := ["_law_tracks", "_law_deed"]) fun _ _ _ _ _ _ us hl => match us, hl with | [_, _], _ => rfl
  have F84 := qO (st := j4) l84 c84 k84
  have b84 := F84.binds (ps := ["_law_way", "_law_table", "_law_deed", "_law_reels_here"]) fun _ _ _ _ _ _ us hl => match us, hl with | [_, _, _, _], _ => rfl
  have F85 := qO (st := wM) l85 c85 k85
  have b85 := F85.binds (ps := ["_law_script"]) fun _ _ _ _ _ _ us hl => match us, hl with | [_], _ => rfl
  have FmShort := qO (st := zf) ilShort icShort ikShort
  have bmShort := FmShort.binds (ps := ["self", "most"]) fun _ _ _ _ _ _ us hl => match us, hl with | [_, _], _ => rfl
  have T : Tx K mg ⟨f0, _, f1, _, f2, _, f3, _, f4, _, f5, _, f6, _, f7, _, f8, _, f9, _, f10, _, f11, _, f12, _, f13, _, f14, _, f15, _, f16, _, f17, _, f18, _, f19, _, f20, _, f21, _, f22, _, f23, _, f24, _, f25, _, f26, _, f27, _, f28, _, f29, _, f30, _, f31, _, f32, _, f33, _, f34, _, f35, _, f36, _, f37, _, f38, _, f39, _, f40, _, f41, _, f42, _, f43, _, f44, _, f45, _, f46, _, f47, _, f48, _, f49, _, f50, _, f51, _, f52, _, f53, _, f54, _, f55, _, f56, _, f57, _, f58, _, f59, _, f60, _, f61, _, f62, _, f63, _, f64, _, f65, _, f66, _, f67, _, f68, _, f69, _, f70, _, f71, _, f72, _, f73, _, f74, _, f75, _, f76, _, f77, _, f78, _, f79, _, f80, _, f81, _, f82, _, f83, _, f84, _, f85, _, C0, C1, C2, C3, C4, C5, C6, tLETTERS, tLONGEST_NAME, tMOST_ROOM, nNOUGHT, tMOST_BY, nROLLS, nLAYS, nPUSHES, nCHANGES, fmShort, _⟩ := ⟨⟨F0, b0, W.mg_of X G a0⟩, ⟨F1, b1, W.mg_of X G a1⟩, ⟨F2, b2, W.mg_of X G a2⟩, ⟨F3, b3, W.mg_of X G a3⟩, ⟨F4, b4, W.mg_of X G a4⟩, ⟨F5, b5, W.mg_of X G a5⟩, ⟨F6, b6, W.mg_of X G a6⟩, ⟨F7, b7, W.mg_of X G a7⟩, ⟨F8, b8, W.mg_of X G a8⟩, ⟨F9, b9, W.mg_of X G a9⟩, ⟨F10, b10, W.mg_of X G a10⟩, ⟨F11, b11, W.mg_of X G a11⟩, ⟨F12, b12, W.mg_of X G a12⟩, ⟨F13, b13, W.mg_of X G a13⟩, ⟨F14, b14, W.mg_of X G a14⟩, ⟨F15, b15, W.mg_of X G a15⟩, ⟨F16, b16, W.mg_of X G a16⟩, ⟨F17, b17, W.mg_of X G a17⟩, ⟨F18, b18, W.mg_of X G a18⟩, ⟨F19, b19, W.mg_of X G a19⟩, ⟨F20, b20, W.mg_of X G a20⟩, ⟨F21, b21, W.mg_of X G a21⟩, ⟨F22, b22, W.mg_of X G a22⟩, ⟨F23, b23, W.mg_of X G a23⟩, ⟨F24, b24, W.mg_of X G a24⟩, ⟨F25, b25, W.mg_of X G a25⟩, ⟨F26, b26, W.mg_of X G a26⟩, ⟨F27, b27, W.mg_of X G a27⟩, ⟨F28, b28, W.mg_of X G a28⟩, ⟨F29, b29, W.mg_of X G a29⟩, ⟨F30, b30, W.mg_of X G a30⟩, ⟨F31, b31, W.mg_of X G a31⟩, ⟨F32, b32, W.mg_of X G a32⟩, ⟨F33, b33, W.mg_of X G a33⟩, ⟨F34, b34, W.mg_of X G a34⟩, ⟨F35, b35, W.mg_of X G a35⟩, ⟨F36, b36, W.mg_of X G a36⟩, ⟨F37, b37, W.mg_of X G a37⟩, ⟨F38, b38, W.mg_of X G a38⟩, ⟨F39, b39, W.mg_of X G a39⟩, ⟨F40, b40, W.mg_of X G a40⟩, ⟨F41, b41, W.mg_of X G a41⟩, ⟨F42, b42, W.mg_of X G a42⟩, ⟨F43, b43, W.mg_of X G a43⟩, ⟨F44, b44, W.mg_of X G a44⟩, ⟨F45, b45, W.mg_of X G a45⟩, ⟨F46, b46, W.mg_of X G a46⟩, ⟨F47, b47, W.mg_of X G a47⟩, ⟨F48, b48, W.mg_of X G a48⟩, ⟨F49, b49, W.mg_of X G a49⟩, ⟨F50, b50, W.mg_of X G a50⟩, ⟨F51, b51, W.mg_of X G a51⟩, ⟨F52, b52, W.mg_of X G a52⟩, ⟨F53, b53, W.mg_of X G a53⟩, ⟨F54, b54, W.mg_of X G a54⟩, ⟨F55, b55, W.mg_of X G a55⟩, ⟨F56, b56, W.mg_of X G a56⟩, ⟨F57, b57, W.mg_of X G a57⟩, ⟨F58, b58, W.mg_of X G a58⟩, ⟨F59, b59, W.mg_of X G a59⟩, ⟨F60, b60, W.mg_of X G a60⟩, ⟨F61, b61, W.mg_of X G a61⟩, ⟨F62, b62, W.mg_of X G a62⟩, ⟨F63, b63, W.mg_of X G a63⟩, ⟨F64, b64, W.mg_of X G a64⟩, ⟨F65, b65, W.mg_of X G a65⟩, ⟨F66, b66, W.mg_of X G a66⟩, ⟨F67, b67, W.mg_of X G a67⟩, ⟨F68, b68, W.mg_of X G a68⟩, ⟨F69, b69, W.mg_of X G a69⟩, ⟨F70, b70, W.mg_of X G a70⟩, ⟨F71, b71, W.mg_of X G a71⟩, ⟨F72, b72, W.mg_of X G a72⟩, ⟨F73, b73, W.mg_of X G a73⟩, ⟨F74, b74, W.mg_of X G a74⟩, ⟨F75, b75, W.mg_of X G a75⟩, ⟨F76, b76, W.mg_of X G a76⟩, ⟨F77, b77, W.mg_of X G a77⟩, ⟨F78, b78, W.mg_of X G a78⟩, ⟨F79, b79, W.mg_of X G a79⟩, ⟨F80, b80, W.mg_of X G a80⟩, ⟨F81, b81, W.mg_of X G a81⟩, ⟨F82, b82, W.mg_of X G a82⟩, ⟨F83, b83, W.mg_of X G a83⟩, ⟨F84, b84, W.mg_of X G a84⟩, ⟨F85, b85, W.mg_of X G a85⟩, W.mg_of X G xg0, W.mg_of X G xg1, W.mg_of X G xg2, W.mg_of X G xg3, W.mg_of X G xg4, W.mg_of X G xg5, W.mg_of X G xg6, W.mg_none_of X G xz0, W.mg_none_of X G xz1, W.mg_none_of X G xz2, W.mg_none_of X G xz3, W.mg_none_of X G xz4, W.mg_none_of X G xz5, W.mg_none_of X G xz6, W.mg_none_of X G xz7, W.mg_none_of X G xz8, W.mg_none_of X G xz9, W.mg_none_of X G xz10, W.mg_none_of X G xz11, W.mg_none_of X G xz12, W.mg_none_of X G xz13, W.mg_none_of X G xz14, W.mg_none_of X G xz15, W.mg_of X G xcLETTERS, W.mg_of X G xcLONGEST_NAME, W.mg_of X G xcMOST_ROOM, W.mg_of X G xcNOUGHT, fun H => .inr ⟨_, _, _, xlNOUGHT, rfl, rfl, by show 2 ≤ sizeLine; decide, .cons ⟨_, rfl⟩ (.cons ⟨_, rfl⟩ (.nil))⟩, W.mg_of X G xcMOST_BY, W.mg_of X G xcROLLS, fun H => .inr ⟨_, _, _, xlROLLS, rfl, rfl, by show 3 ≤ sizeLine; decide, .cons ⟨_, rfl⟩ (.cons ⟨_, rfl⟩ (.cons ⟨_, rfl⟩ (.nil)))⟩, W.mg_of X G xcLAYS, fun H => .inr ⟨_, _, _, xlLAYS, rfl, rfl, by show 2 ≤ sizeLine; decide, .cons ⟨_, rfl⟩ (.cons ⟨_, rfl⟩ (.nil))⟩, W.mg_of X G xcPUSHES, fun H => .inr ⟨_, _, _, xlPUSHES, rfl, rfl, by show 3 ≤ sizeLine; decide, .cons ⟨_, rfl⟩ (.cons ⟨_, rfl⟩ (.cons ⟨_, rfl⟩ (.nil)))⟩, W.mg_of X G xcCHANGES, fun H => .inr ⟨_, _, _, xlCHANGES, rfl, rfl, by show 6 ≤ sizeLine; decide, .cons ⟨_, rfl⟩ (.cons ⟨_, rfl⟩ (.cons ⟨_, rfl⟩ (.cons ⟨_, rfl⟩ (.cons ⟨_, rfl⟩ (.cons ⟨_, rfl⟩ (.nil))))))⟩, x_NoPlace, x_Mixed, e_NoPlace, e_Mixed, e_Short, x1, x2, x3, p1, p2, p3, p4, p5, p6, q1, q2, q3, q4, q5, q6, s1, s2, s3, s4, s5, s6, FmShort, bmShort, ⟨ivShort, ihShort, isShort, ixShort, ifShort⟩, itShort⟩
  exact ⟨W.fnOf "law" "law" (qJ wM) (qI wM) (qC wM) .none kV85 dc85 pm85 an85 cd85 ct85, fun s v => .of_eq rfl, fun base _ _ => qJa T⟩
theorem walk {l : W.OpenLaw} {q : Program} {loose : List Str} {XP : (Str → Option Value) → Heap → Prop} {YP : World → Heap → Prop} {d : DefRec} {K : Params → W.Frag} (hn : l.most = some 63) (hdf : d.params.defaults = [])
    (hY : ∀ (w : World) (h : Heap), YP w h → (K w.params).In h)
    (F : ∀ (w : World) (mg : Str → Option Value) (fa : Addr) (h : Heap), (K w.params).In h → h.Ns mainGlobals mg → mg d.name = some (.ref fa) →
      ∃ fd : FuncData, (∀ (s : Shared) (u : Value), BindsTo s fd ⟨[u], []⟩ [("_law_script", u)]) ∧ ∀ base : Heap, (K w.params).In base → base.Ns mainGlobals mg → FnOk l.prog w (K w.params) mg base CX0 12 fa fd ["_law_script"] (qGf (K w.params))) :
    W.WalkO q loose XP YP l.row.toRowW d [] (fun f vs => PySem.call f vs) :=
  L2.walk_of (n := 63) (k := 12) (x := "_law_script") (CX := fun _ => CX0) (sp := fun w => qGf (K w.params)) hn (by decide) hdf ⟨rfl, by decide, by decide⟩ hY F (fun _ _ a ns hl _ hS => ⟨a, ns, rfl, hS, hl, fun _ => rfl⟩) fun _ _ _ _ _ z => z
end Lw
namespace PySem.W.Fast
def tw6098998242101893505 := ()
def tw12196388866973909027 := ()
def tw13621472453068964803 := ()
def tw6174122455049925636 := ()
def tw10409398401542324836 := ()
def tw14225601253283361221 := ()
def tw702110931420930054 := ()
def tw11253880449404283238 := ()
def tw18118549931269113450 := ()
def tw1434241866902857354 := ()
def tw11481073049436287658 := ()
def tw9385576913821193868 := ()
def tw4252120981195281005 := ()
def tw12758667853002389325 := ()
def tw7068733613291496333 := ()
def tw916978513702160942 := ()
def tw1165199662278346606 := ()
def tw14513208058265572270 := ()
def tw5865799030857660303 := ()
def tw13745464915597237104 := ()
def tw15120211047681985297 := ()
def tw16667499999438608402 := ()
def tw11012654537979244658 := ()
def tw8942177405200973108 := ()
def tw18422024154070105620 := ()
def tw1330299060490102740 := ()
def tw1721714299675312661 := ()
def tw3286572079763215893 := ()
def tw5840148142942069559 := ()
def tw12227868068103166648 := ()
def tw7047342115536800696 := ()
def tw8054356194371088893 := ()
def tw15292208213383274013 := ()
def tw571970271581695551 := ()
def tw2453850820224507551 := ()
def tw4903055031124305912 := ()
def tw7889682388121360448 := ()
def tw6399672153483519454 := ()
def tw13635106504943975314 := ()
def tw8522273766686778501 := ()
def tw8140493411295890878 := ()
def tw567045716189455058 := ()
def tw6277290037430622816 := ()
def tw10667503622926063868 := ()
def tw17580083606357361736 := ()
def tw4100559083496468582 := ()
def tw7518899991499308198 := ()
def tw10075794910207104682 := ()
def tw9654054888405436452 := ()
def tw7320272561785505902 := ()
def tw16025081236973056989 := ()
def tw9609278123229154975 := ()
def tw1883269879905962370 := ()
def tw1516611517122873775 := ()
def tw12831812139231029262 := ()
def tw18086265731173136427 := ()
def tw6037701773434775871 := ()
def tw1211588403664450910 := ()
def tw7765653759970696734 := ()
def tw6077460372797911535 := ()
def tw15120383015695159861 := ()
def tw1553632384435226083 := ()
def tw14395295645578497192 := ()
def tw12714830019024927175 := ()
def tw1535622762551803441 := ()
def tw7272811812371805158 := ()
def tw9784724635332235133 := ()
def tw7997354316126835551 := ()
def tw1988501564480778680 := ()
def tw7132168213982132298 := ()
def tw1529192070133575573 := ()
def tw8580366411628379829 := ()
def tw1597588497379253118 := ()
def tw3923929870337312010 := ()
def tw12118709238146007833 := ()
def tw9098300589385477084 := ()
def tw9468510172450828470 := ()
def tw6009658106173628739 := ()
def tw5830458185254147350 := ()
def tw13073050594080226583 := ()
def tw17575372734213265788 := ()
def tw4648250210225504631 := ()
def tw6949607405033440983 := ()
def tw11419691596253875271 := ()
def tw17428249684887753396 := ()
def tw7835106388001420867 := ()
def tw17393748775826741488 := ()
def tw11368075667436203153 := ()
def tw861512382198101399 := ()
def tw12017376242528671632 := ()
end PySem.W.Fast
open PySem PySem.W PyProof.Rows
set_option maxRecDepth 100000 in
set_option maxHeartbeats 0 in
theorem PySem.Challenge.cw_reelcut_k44_rolls_refused_holds : PySem.Challenge.rw_reelcut_k44_rolls_refused.Holds := by
  w_on; o_law; k_head; (case hw => w_witness2)
  k_fill
  refine Lw.walk (l := PySem.Challenge.rw_reelcut_k44_rolls_refused) rfl rfl (fun w h Y => PySem.W.kIn_of Y) ?F
  case F =>
    intro w mg fa h KX G hmg
    refine' Lw.all_mk KX G hmg ?a0 ?l0 ?c0 ?k0 ?a1 ?l1 ?c1 ?k1 ?a2 ?l2 ?c2 ?k2 ?a3 ?l3 ?c3 ?k3 ?a4 ?l4 ?c4 ?k4 ?a5 ?l5 ?c5 ?k5 ?a6 ?l6 ?c6 ?k6 ?a7 ?l7 ?c7 ?k7 ?a8 ?l8 ?c8 ?k8 ?a9 ?l9 ?c9 ?k9 ?a10 ?l10 ?c10 ?k10 ?a11 ?l11 ?c11 ?k11 ?a12 ?l12 ?c12 ?k12 ?a13 ?l13 ?c13 ?k13 ?a14 ?l14 ?c14 ?k14 ?a15 ?l15 ?c15 ?k15 ?a16 ?l16 ?c16 ?k16 ?a17 ?l17 ?c17 ?k17 ?a18 ?l18 ?c18 ?k18 ?a19 ?l19 ?c19 ?k19 ?a20 ?l20 ?c20 ?k20 ?a21 ?l21 ?c21 ?k21 ?a22 ?l22 ?c22 ?k22 ?a23 ?l23 ?c23 ?k23 ?a24 ?l24 ?c24 ?k24 ?a25 ?l25 ?c25 ?k25 ?a26 ?l26 ?c26 ?k26 ?a27 ?l27 ?c27 ?k27 ?a28 ?l28 ?c28 ?k28 ?a29 ?l29 ?c29 ?k29 ?a30 ?l30 ?c30 ?k30 ?a31 ?l31 ?c31 ?k31 ?a32 ?l32 ?c32 ?k32 ?a33 ?l33 ?c33 ?k33 ?a34 ?l34 ?c34 ?k34 ?a35 ?l35 ?c35 ?k35 ?a36 ?l36 ?c36 ?k36 ?a37 ?l37 ?c37 ?k37 ?a38 ?l38 ?c38 ?k38 ?a39 ?l39 ?c39 ?k39 ?a40 ?l40 ?c40 ?k40 ?a41 ?l41 ?c41 ?k41 ?a42 ?l42 ?c42 ?k42 ?a43 ?l43 ?c43 ?k43 ?a44 ?l44 ?c44 ?k44 ?a45 ?l45 ?c45 ?k45 ?a46 ?l46 ?c46 ?k46 ?a47 ?l47 ?c47 ?k47 ?a48 ?l48 ?c48 ?k48 ?a49 ?l49 ?c49 ?k49 ?a50 ?l50 ?c50 ?k50 ?a51 ?l51 ?c51 ?k51 ?a52 ?l52 ?c52 ?k52 ?a53 ?l53 ?c53 ?k53 ?a54 ?l54 ?c54 ?k54 ?a55 ?l55 ?c55 ?k55 ?a56 ?l56 ?c56 ?k56 ?a57 ?l57 ?c57 ?k57 ?a58 ?l58 ?c58 ?k58 ?a59 ?l59 ?c59 ?k59 ?a60 ?l60 ?c60 ?k60 ?a61 ?l61 ?c61 ?k61 ?a62 ?l62 ?c62 ?k62 ?a63 ?l63 ?c63 ?k63 ?a64 ?l64 ?c64 ?k64 ?a65 ?l65 ?c65 ?k65 ?a66 ?l66 ?c66 ?k66 ?a67 ?l67 ?c67 ?k67 ?a68 ?l68 ?c68 ?k68 ?a69 ?l69 ?c69 ?k69 ?a70 ?l70 ?c70 ?k70 ?a71 ?l71 ?c71 ?k71 ?a72 ?l72 ?c72 ?k72 ?a73 ?l73 ?c73 ?k73 ?a74 ?l74 ?c74 ?k74 ?a75 ?l75 ?c75 ?k75 ?a76 ?l76 ?c76 ?k76 ?a77 ?l77 ?c77 ?k77 ?a78 ?l78 ?c78 ?k78 ?a79 ?l79 ?c79 ?k79 ?a80 ?l80 ?c80 ?k80 ?a81 ?l81 ?c81 ?k81 ?a82 ?l82 ?c82 ?k82 ?a83 ?l83 ?c83 ?k83 ?a84 ?l84 ?c84 ?k84 ?a85 ?l85 ?c85 ?k85 ?xg0 ?xg1 ?xg2 ?xg3 ?xg4 ?xg5 ?xg6 ?x_NoPlace ?x_Mixed ?e_NoPlace ?e_Mixed ?e_Short ?x1 ?x2 ?x3 ?p1 ?p2 ?p3 ?p4 ?p5 ?p6 ?q1 ?q2 ?q3 ?q4 ?q5 ?q6 ?s1 ?s2 ?s3 ?s4 ?s5 ?s6 ?xz0 ?xz1 ?xz2 ?xz3 ?xz4 ?xz5 ?xz6 ?xz7 ?xz8 ?xz9 ?xz10 ?xz11 ?xz12 ?xz13 ?xz14 ?xz15 ?xcLETTERS ?xcLONGEST_NAME ?xcMOST_ROOM ?xcNOUGHT ?xlNOUGHT ?xcMOST_BY ?xcROLLS ?xlROLLS ?xcLAYS ?xlLAYS ?xcPUSHES ?xlPUSHES ?xcCHANGES ?xlCHANGES ?iaShort ?ilShort ?icShort ?ikShort ?ifShort ?ivShort ?ihShort ?isShort ?ixShort ?itShort
    (case a0 | l0 | c0 | k0 | a1 | l1 | c1 | k1 | a2 | l2 | c2 | k2 | a3 | l3 | c3 | k3 | a4 | l4 | c4 | k4 | a5 | l5 | c5 | k5 | a6 | l6 | c6 | k6 | a7 | l7 | c7 | k7 | a8 | l8 | c8 | k8 | a9 | l9 | c9 | k9 | a10 | l10 | c10 | k10 | a11 | l11 | c11 | k11 | a12 | l12 | c12 | k12 | a13 | l13 | c13 | k13 | a14 | l14 | c14 | k14 | a15 | l15 | c15 | k15 | a16 | l16 | c16 | k16 | a17 | l17 | c17 | k17 | a18 | l18 | c18 | k18 | a19 | l19 | c19 | k19 | a20 | l20 | c20 | k20 | a21 | l21 | c21 | k21 | a22 | l22 | c22 | k22 | a23 | l23 | c23 | k23 | a24 | l24 | c24 | k24 | a25 | l25 | c25 | k25 | a26 | l26 | c26 | k26 | a27 | l27 | c27 | k27 | a28 | l28 | c28 | k28 | a29 | l29 | c29 | k29 | a30 | l30 | c30 | k30 | a31 | l31 | c31 | k31 | a32 | l32 | c32 | k32 | a33 | l33 | c33 | k33 | a34 | l34 | c34 | k34 | a35 | l35 | c35 | k35 | a36 | l36 | c36 | k36 | a37 | l37 | c37 | k37 | a38 | l38 | c38 | k38 | a39 | l39 | c39 | k39 | a40 | l40 | c40 | k40 | a41 | l41 | c41 | k41 | a42 | l42 | c42 | k42 | a43 | l43 | c43 | k43 | a44 | l44 | c44 | k44 | a45 | l45 | c45 | k45 | a46 | l46 | c46 | k46 | a47 | l47 | c47 | k47 | a48 | l48 | c48 | k48 | a49 | l49 | c49 | k49 | a50 | l50 | c50 | k50 | a51 | l51 | c51 | k51 | a52 | l52 | c52 | k52 | a53 | l53 | c53 | k53 | a54 | l54 | c54 | k54 | a55 | l55 | c55 | k55 | a56 | l56 | c56 | k56 | a57 | l57 | c57 | k57 | a58 | l58 | c58 | k58 | a59 | l59 | c59 | k59 | a60 | l60 | c60 | k60 | a61 | l61 | c61 | k61 | a62 | l62 | c62 | k62 | a63 | l63 | c63 | k63 | a64 | l64 | c64 | k64 | a65 | l65 | c65 | k65 | a66 | l66 | c66 | k66 | a67 | l67 | c67 | k67 | a68 | l68 | c68 | k68 | a69 | l69 | c69 | k69 | a70 | l70 | c70 | k70 | a71 | l71 | c71 | k71 | a72 | l72 | c72 | k72 | a73 | l73 | c73 | k73 | a74 | l74 | c74 | k74 | a75 | l75 | c75 | k75 | a76 | l76 | c76 | k76 | a77 | l77 | c77 | k77 | a78 | l78 | c78 | k78 | a79 | l79 | c79 | k79 | a80 | l80 | c80 | k80 | a81 | l81 | c81 | k81 | a82 | l82 | c82 | k82 | a83 | l83 | c83 | k83 | a84 | l84 | c84 | k84 | a85 | l85 | c85 | k85 | xg0 | xg1 | xg2 | xg3 | xg4 | xg5 | xg6 => k_is)
    (case x_NoPlace => (unfold L3.OwnX; kernel_rfl))
    (case x_Mixed => (unfold L3.OwnX; kernel_rfl))
    (case e_NoPlace => exact ⟨by k_is, by k_is, by k_is, by k_is, by k_is, by k_is, by k_is⟩)
    (case e_Mixed => exact ⟨by k_is, by k_is, by k_is, by k_is, by k_is, by k_is, by k_is⟩)
    (case e_Short => exact ⟨by k_is, by k_is, by k_is, by k_is, by k_is, by k_is, by k_is⟩)
    (case x1 => kernel_rfl)
    (case x2 => kernel_rfl)
    (case x3 => kernel_rfl)
    (case p1 => kernel_rfl)
    (case p2 => kernel_rfl)
    (case p3 => kernel_rfl)
    (case p4 => kernel_rfl)
    (case p5 => kernel_rfl)
    (case p6 => kernel_rfl)
    (case q1 => kernel_rfl)
    (case q2 => kernel_rfl)
    (case q3 => kernel_rfl)
    (case q4 => kernel_rfl)
    (case q5 => kernel_rfl)
    (case q6 => kernel_rfl)
    (case s1 => kernel_rfl)
    (case s2 => kernel_rfl)
    (case s3 => kernel_rfl)
    (case s4 => kernel_rfl)
    (case s5 => kernel_rfl)
    (case s6 => kernel_rfl)
    (case xz0 | xz1 | xz2 | xz3 | xz4 | xz5 | xz6 | xz7 | xz8 | xz9 | xz10 | xz11 | xz12 | xz13 | xz14 | xz15 | xcLETTERS | xcLONGEST_NAME | xcMOST_ROOM | xcNOUGHT | xlNOUGHT | xcMOST_BY | xcROLLS | xlROLLS | xcLAYS | xlLAYS | xcPUSHES | xlPUSHES | xcCHANGES | xlCHANGES | iaShort | ilShort | icShort | ikShort | ifShort => k_is)
    (case ivShort => (unfold L3.exOver; kernel_rfl))
    (case ihShort | isShort => k_is)
    (case ixShort => (unfold L3.excInitIn; kernel_rfl))
    (case itShort => k_is)

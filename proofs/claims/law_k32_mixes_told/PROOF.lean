import PyProof.Rows.All
import Wide.All
import OpenK.AllK
import Wide.FinOn
import Lean
import PyProof.EqAt
import PyProof.EqKinds
import PyProof.TupleCall
import PySem.Challenge.RW_reelcut_k32_mixes_told
set_option Elab.async false
set_option linter.all false
set_option maxRecDepth 100000
/-! THE HAND LAYER, for ints, bools, texts, own classes, LISTS and tuples (index, slices, in, append, pop ..), calls, loops. Paste it whole ahead of your own text; what your proof does not reach may be deleted. -/
namespace L2
open PySem PySem.Spec PyProof.Rows

/-- a key: an int or a str -/
abbrev Key := Sum Int Str
def keyIs : Key → Value → Bool
  | .inl k, v => Value.isInt k v
  | .inr x, v => Value.isStrOf x v
def keyH (w : World) : Key → Int
  | .inl k => hashInt k
  | .inr x => hashStr w x
theorem keyIs_shape : ∀ {k : Key} {v : Value}, keyIs k v = true → (∃ i t, k = Sum.inl i ∧ v = Value.int i t) ∨ (∃ x t, k = Sum.inr x ∧ v = Value.str x t)
  | .inl i, v, h => by
    obtain ⟨t, e⟩ := Value.isInt_shape (k := i) (v := v) h
    exact .inl ⟨i, t, rfl, e⟩
  | .inr x, v, h => by
    obtain ⟨t, e⟩ := Value.isStrOf_shape (x := x) (v := v) h
    exact .inr ⟨x, t, rfl, e⟩
theorem keyIs_int (i : Int) (t : Tok) : keyIs (.inl i) (.int i t) = true := by simp [keyIs, Value.isInt]
theorem keyIs_str (x : Str) (t : Tok) : keyIs (.inr x) (.str x t) = true := by simp [keyIs, Value.isStrOf]
theorem key_ll (a b : Int) : decide ((Sum.inl a : Key) = Sum.inl b) = (a == b) := by
  by_cases e : a = b
  · subst e; simp
  · have h : ¬ (Sum.inl a : Key) = Sum.inl b := fun q => e (Sum.inl.inj q)
    rw [decide_eq_false h]
    exact (beq_eq_false_iff_ne.mpr e).symm
theorem key_rr (a b : Str) : decide ((Sum.inr a : Key) = Sum.inr b) = decide (a = b) := by
  by_cases e : a = b
  · subst e; simp
  · have h : ¬ (Sum.inr a : Key) = Sum.inr b := fun q => e (Sum.inr.inj q)
    rw [decide_eq_false h, decide_eq_false e]
theorem key_lr (a : Int) (b : Str) : decide ((Sum.inl a : Key) = Sum.inr b) = false := decide_eq_false (fun q => nomatch q)
theorem key_rl (a : Str) (b : Int) : decide ((Sum.inr a : Key) = Sum.inl b) = false := decide_eq_false (fun q => nomatch q)

def mixKind (prog : Program) (w : World) : PySem.KeyKind prog w Key where
  is := keyIs
  hash := keyH w
  inj := fun v a b ha hb => by
    rcases keyIs_shape ha with ⟨i, t, rfl, rfl⟩ | ⟨x, t, rfl, rfl⟩
    · rcases keyIs_shape hb with ⟨j, u, rfl, e⟩ | ⟨y, u, rfl, e⟩
      · injection e with e1 _; rw [e1]
      · exact nomatch e
    · rcases keyIs_shape hb with ⟨j, u, rfl, e⟩ | ⟨y, u, rfl, e⟩
      · exact nomatch e
      · injection e with e1 _; rw [e1]
  byValue := fun k v h => by
    rcases keyIs_shape h with ⟨i, t, rfl, rfl⟩ | ⟨x, t, rfl, rfl⟩ <;> rfl
  pyHash := fun hv h => by
    rcases keyIs_shape hv with ⟨i, t, rfl, rfl⟩ | ⟨x, t, rfl, rfl⟩
    · exact wpAny_pyHash_int h
    · exact wpAny_pyHash_str h
  eqBool := fun hu hv h => by
    rcases keyIs_shape hu with ⟨i, t, rfl, rfl⟩ | ⟨x, t, rfl, rfl⟩
    · rcases keyIs_shape hv with ⟨j, u, rfl, rfl⟩ | ⟨y, u, rfl, rfl⟩
      · rw [key_ll] at h; exact wpAny_eqBool_int h
      · rw [key_lr] at h; exact SeqAt.EqAt.int_str i t y u _ _ _ _ h
    · rcases keyIs_shape hv with ⟨j, u, rfl, rfl⟩ | ⟨y, u, rfl, rfl⟩
      · rw [key_rl] at h; exact SeqAt.EqAt.str_int x t j u _ _ _ _ h
      · rw [key_rr] at h; exact wpAny_eqBool_str h
  «strs» := fun k x t v h => by
    rcases keyIs_shape h with ⟨i, u, rfl, e⟩ | ⟨y, u, rfl, e⟩
    · exact nomatch e
    · injection e with e1 _
      subst e1
      cases v <;> rfl

theorem mixKind_int (prog : Program) (w : World) (i : Int) (t : Tok) : (mixKind prog w).is (.inl i) (.int i t) = true := keyIs_int i t
theorem mixKind_str (prog : Program) (w : World) (x : Str) (t : Tok) : (mixKind prog w).is (.inr x) (.str x t) = true := keyIs_str x t
end L2

namespace L2
open PySem PySem.Spec PyProof.Rows

/-- a value, without the heap -/
inductive V where
  | non | bl (b : Bool) | int (i : Int) | str (x : Str) | byt (b : Array UInt8) | flt (b : UInt64) | ref (a : Addr) | ty (n : String)
  deriving DecidableEq

def RelV : V → Value → Prop
  | .non, u => u = Value.none
  | .bl b, u => u = Value.bool b
  | .int i, u => ∃ t, u = Value.int i t
  | .str x, u => ∃ t, u = Value.str x t
  | .byt b, u => ∃ t, u = Value.bytes b t
  | .flt b, u => ∃ t, u = Value.float b t
  | .ref a, u => u = Value.ref a
  | .ty n, u => u = Value.type n

abbrev Vals : List V → List Value → Prop := Paired RelV
theorem Vals.length {xs : List V} {us : List Value} (r : Vals xs us) : xs.length = us.length := Paired.length r
theorem Vals.get : ∀ {xs : List V} {us : List Value} {i : Nat} {x : V}, Vals xs us → xs[i]? = some x → ∃ u, us[i]? = some u ∧ RelV x u
  | _, _, _, _, .nil, e => by simp at e
  | _, _, 0, _, .cons r _, e => by simp at e; subst e; exact ⟨_, rfl, r⟩
  | _, _, i + 1, x, .cons _ t, e => by
    obtain ⟨u, h1, h2⟩ := Vals.get (i := i) (x := x) t (by simpa using e)
    exact ⟨u, by simpa using h1, h2⟩
theorem Vals.set {x : V} {u : Value} (r : RelV x u) : ∀ {xs : List V} {us : List Value} (i : Nat), Vals xs us → Vals (xs.set i x) (us.set i u)
  | _, _, _, .nil => .nil
  | _, _, 0, .cons _ t => .cons r t
  | _, _, i + 1, .cons q t => .cons q (Vals.set r i t)
theorem Vals.append : ∀ {xs ys : List V} {us ws : List Value}, Vals xs us → Vals ys ws → Vals (xs ++ ys) (us ++ ws)
  | _, _, _, _, .nil, s => s
  | _, _, _, _, .cons r t, s => .cons r (Vals.append t s)
theorem Vals.take : ∀ {xs : List V} {us : List Value} (n : Nat), Vals xs us → Vals (xs.take n) (us.take n)
  | _, _, 0, _ => .nil
  | _, _, _ + 1, .nil => .nil
  | _, _, n + 1, .cons r t => .cons r (Vals.take n t)
theorem Vals.drop : ∀ {xs : List V} {us : List Value} (n : Nat), Vals xs us → Vals (xs.drop n) (us.drop n)
  | _, _, 0, r => r
  | _, _, _ + 1, .nil => .nil
  | _, _, n + 1, .cons _ t => Vals.drop n t
def RelO : Option V → Option Value → Prop
  | some v, some u => RelV v u
  | none, none => True
  | _, _ => False
def KV {κ : Type} : List (κ × V) → List (κ × Value) → Prop := Paired fun (p : κ × V) (q : κ × Value) => p.1 = q.1 ∧ RelV p.2 q.2

/-- a key of a dict (00_mix): an int or a text -/
def kV : Key → V
  | .inl i => .int i
  | .inr x => .str x

/-- what stands at a tracked address -/
inductive HO where
  /-- a list -/
  | lst (xs : List V)
  /-- a tuple (never changes) -/
  | tup (xs : List V)
  /-- a dict whose keys are ints and texts; one whose keys are tuples of ints and texts (the empty one is both) -/
  | dK (kvs : List (Key × V)) | dT (kvs : List (List Key × V))
  /-- a set of ints: its members, its size -/
  | set (S : Int → Bool) (n : Nat)
  /-- an instance of the class at C, its dict at dx, its attributes -/
  | ins (C dx : Addr) (fs : List (Str × V))
  /-- the dict of the instance at x -/
  | own (x : Addr)
  /-- the dict of an exception -/
  | xd (fs : List (Str × V))
  /-- a bound method, f of x -/
  | met (f x : Addr)
  /-- a range object lo, lo + 1, .. below hi -/
  | rng (lo hi : Int)
  /-- a thing that is known to the object (the script; a dict while a loop walks it): read, never written while it is so -/
  | frz (o : Obj) (u : HO)
  /-- a code object's table -/
  | tbl (ps : Array Value)
  /-- any other thing, by what is true of its one object (a def of one's own: SetO a S n := HO.ext fun h => ..) -/
  | ext (φ : Heap → Prop)

abbrev Hp := Addr → Option HO
def upd (H : Hp) (a : Addr) (o : HO) : Hp := fun b => if b = a then some o else H b
theorem upd_same {H : Hp} {a : Addr} {o : HO} : upd H a o a = some o := by unfold upd; rw [if_pos rfl]
theorem upd_ne {H : Hp} {a b : Addr} {o : HO} (h : b ≠ a) : upd H a o b = H b := by unfold upd; rw [if_neg h]
theorem upd_upd {H : Hp} {a : Addr} {o u : HO} : upd (upd H a o) a u = upd H a u := by
  funext b; unfold upd; split <;> rfl
/-- two objects of different content stand apart -/
theorem ne_of {H : Hp} {a b : Addr} {o u : HO} (h : H a = some o) (h' : H b = some u) (d : o ≠ u) : a ≠ b := by
  intro e; subst e; rw [h] at h'; exact d (Option.some.inj h')
theorem ne_of_none {H : Hp} {a b : Addr} {o : HO} (h : H a = some o) (h' : H b = none) : a ≠ b := by
  intro e; subst e; rw [h] at h'; cases h'

section
variable (P : Program) (w : World)
def ObjOk (H : Hp) (h : Heap) (a : Addr) : HO → Prop
  | .lst xs => xs.length ≤ sizeLine ∧ ∃ (its : List Value) (n : Nat), Vals xs its ∧ h.get? a = some { cls := .type "list", data := .seq its.toArray n }
  | .tup xs => xs.length ≤ sizeLine ∧ ∃ its : List Value, Vals xs its ∧ IsTup h a its.toArray
  | .dK kvs => kvs.length ≤ sizeLine ∧ (a == sysModules) = false ∧ ∃ vs, KV kvs vs ∧ h.DictOf (mixKind P w) a vs
  | .dT kvs => kvs.length ≤ sizeLine ∧ (a == sysModules) = false ∧ ∃ xs : List (List Key × Addr × Value),
      Paired (fun (p : List Key × V) (q : List Key × Addr × Value) => p.1 = q.1 ∧ H q.2.1 = some (.tup (p.1.map kV)) ∧ RelV p.2 q.2.2) kvs xs ∧
      ∃ o es ep, h.get? a = some o ∧ o.ExactDict ∧ o.data = .dict es ep ∧ es.toList = xs.map (entryOfKey (tupleKind (mixKind P w))) ∧ (xs.map (·.1)).Nodup
  | .set S n => h.SetOf (intKind P w) a S n
  | .ins C dx fs => H dx = some (.own a) ∧ fs.length ≤ 1000 ∧ dx ≠ a ∧ h.get? a = some (PySem.W.instObj C dx) ∧
      ∃ mA, h.Ns1 dx mA ∧ (∀ f, RelO (fs.lookup f) (mA f)) ∧ PySem.Within mA (fs.map (·.1))
  | .own _ => ∃ o, h.get? a = some o
  | .xd fs => ∃ mA, h.Ns1 a mA ∧ ∀ f, RelO (fs.lookup f) (mA f)
  | .rng lo hi => ∃ t u v, h.get? a = some { cls := .type "range", data := .fields #[.int lo t, .int hi u, .int 1 v] }
  | .frz o u => h.get? a = some o ∧ ObjOk H h a u
  | .tbl ps => h.get? a = some { cls := .none, data := .fields ps }
  | .met f x => h.get? a = some (PySem.W.methodObj (.ref f) (.ref x))
  | .ext φ => φ h ∧ (∃ o, h.get? a = some o) ∧ ∀ h1 h2 : Heap, φ h1 → (∀ o, h1.get? a = some o → h2.get? a = some o) → φ h2
/-- the abstract heap is held -/
def HOk (H : Hp) (h : Heap) : Prop := ∀ a o, H a = some o → ObjOk P w H h a o
end

section
variable {P : Program} {w : World} {H H' : Hp} {h h' : Heap} {a : Addr} {o : HO}
theorem ObjOk.lt (x : ObjOk P w H h a o) : a < h.objs.size := by
  cases o with
  | lst xs => obtain ⟨_, _, _, _, e⟩ := x; exact Heap.lt_size e
  | tup xs => obtain ⟨_, _, _, p⟩ := x; exact p.lt
  | dK kvs => obtain ⟨_, _, _, _, o, _, _, e, _⟩ := x; exact Heap.lt_size e
  | dT kvs => obtain ⟨_, _, _, _, o, _, _, e, _⟩ := x; exact Heap.lt_size e
  | set S n => obtain ⟨o, _, _, _, e, _⟩ := x; exact Heap.lt_size e
  | ins C dx fs => obtain ⟨_, _, _, e, _⟩ := x; exact Heap.lt_size e
  | own y => obtain ⟨_, e⟩ := x; exact Heap.lt_size e
  | xd fs => obtain ⟨_, ⟨_, _, _, e, _⟩, _⟩ := x; exact Heap.lt_size e
  | rng lo hi => obtain ⟨_, _, _, e⟩ := x; exact Heap.lt_size e
  | frz ob u => obtain ⟨e, _⟩ := x; exact Heap.lt_size e
  | tbl ps => exact Heap.lt_size (show h.get? a = some _ from x)
  | met f y => exact Heap.lt_size (show h.get? a = some _ from x)
  | ext φ => obtain ⟨_, ⟨_, e⟩, _⟩ := x; exact Heap.lt_size e
theorem Paired.mapP {α β : Type} {F G : α → β → Prop} : ∀ {l₁ : List α} {l₂ : List β}, Paired F l₁ l₂ → (∀ a b, F a b → G a b) → Paired G l₁ l₂
  | _, _, .nil, _ => .nil
  | _, _, .cons r t, f => .cons (f _ _ r) (Paired.mapP t f)
/-- what an object's description leans on: its own object, its own dict, the tuples -/
theorem ObjOk.stay (x : ObjOk P w H h a o) (k : ∀ b u, (b = a ∨ H b = some (.own a)) → h.get? b = some u → h'.get? b = some u)
    (ho : ∀ b, H b = some (.own a) → H' b = some (.own a)) (ht : ∀ b xs, H b = some (.tup xs) → H' b = some (.tup xs)) : ObjOk P w H' h' a o := by
  induction o with
  | lst xs => obtain ⟨z, its, n, r, e⟩ := x; exact ⟨z, its, n, r, k _ _ (.inl rfl) e⟩
  | tup xs => obtain ⟨z, its, r, ob, e, c⟩ := x; exact ⟨z, its, r, ob, k _ _ (.inl rfl) e, c⟩
  | dK kvs => obtain ⟨z, y, vs, r, ob, es, ep, e, c⟩ := x; exact ⟨z, y, vs, r, ob, es, ep, k _ _ (.inl rfl) e, c⟩
  | dT kvs =>
    obtain ⟨z, y, xs, r, ob, es, ep, e, c⟩ := x
    exact ⟨z, y, xs, Paired.mapP r fun p q z => ⟨z.1, ht _ _ z.2.1, z.2.2⟩, ob, es, ep, k _ _ (.inl rfl) e, c⟩
  | set S n => obtain ⟨ob, es, ep, t, e, c⟩ := x; exact ⟨ob, es, ep, t, k _ _ (.inl rfl) e, c⟩
  | ins C dx fs =>
    obtain ⟨d, z, ne, e, mA, ⟨od, es, ep, e2, c⟩, r⟩ := x
    exact ⟨ho _ d, z, ne, k _ _ (.inl rfl) e, mA, ⟨od, es, ep, k _ _ (.inr d) e2, c⟩, r⟩
  | own y => obtain ⟨ob, e⟩ := x; exact ⟨ob, k _ _ (.inl rfl) e⟩
  | xd fs => obtain ⟨mA, ⟨od, es, ep, e, c⟩, r⟩ := x; exact ⟨mA, ⟨od, es, ep, k _ _ (.inl rfl) e, c⟩, r⟩
  | rng lo hi => obtain ⟨t, u, v, e⟩ := x; exact ⟨t, u, v, k _ _ (.inl rfl) e⟩
  | frz ob u ih => obtain ⟨e, q⟩ := x; exact ⟨k _ _ (.inl rfl) e, ih q⟩
  | tbl ps =>
    have e : h.get? a = some { cls := .none, data := .fields ps } := x
    show h'.get? a = some { cls := .none, data := .fields ps }
    exact k a _ (.inl rfl) e
  | met f y =>
    have e : h.get? a = some (PySem.W.methodObj (.ref f) (.ref y)) := x
    show h'.get? a = some (PySem.W.methodObj (.ref f) (.ref y))
    exact k a _ (.inl rfl) e
  | ext φ => obtain ⟨p, ⟨o, e⟩, st⟩ := x; exact ⟨st _ _ p fun o q => k _ _ (.inl rfl) q, ⟨o, k _ _ (.inl rfl) e⟩, st⟩
theorem HOk.lt (x : HOk P w H h) (e : H a = some o) : a < h.objs.size := (x a o e).lt
theorem HOk.fresh (x : HOk P w H h) (e : h.objs.size ≤ a) : H a = none := by
  cases q : H a with
  | none => rfl
  | some u => exact absurd (Nat.lt_of_lt_of_le (x.lt q) e) (Nat.lt_irrefl _)
/-- every object of the heap is kept -/
theorem HOk.kept (x : HOk P w H h) (k : ∀ b u, h.get? b = some u → h'.get? b = some u) : HOk P w H h' := fun a o e =>
  (x a o e).stay (fun b u _ q => k b u q) (fun _ q => q) fun _ _ q => q
/-- a new object is laid and tracked -/
theorem HOk.laid (x : HOk P w H h) (k : ∀ b u, h.get? b = some u → h'.get? b = some u) (hp : h.objs.size ≤ a) (new : ObjOk P w (upd H a o) h' a o) : HOk P w (upd H a o) h' := fun b u e => by
  have hn := x.fresh hp
  by_cases hb : b = a
  · subst hb; rw [upd_same] at e; cases e; exact new
  · rw [upd_ne hb] at e
    exact (x b u e).stay (fun c v _ q => k c v q) (fun c q => by rw [upd_ne (ne_of_none q hn)]; exact q) fun c xs q => by rw [upd_ne (ne_of_none q hn)]; exact q
end

/-- what may be read as u: it is u, or a known u -/
def Rd (H : Hp) (a : Addr) (u : HO) : Prop := H a = some u ∨ ∃ o, H a = some (.frz o u)
theorem Rd.of {H : Hp} {a : Addr} {u : HO} (h : H a = some u) : Rd H a u := .inl h
theorem Rd.ok {P : Program} {w : World} {H : Hp} {h : Heap} {a : Addr} {u : HO} (r : Rd H a u) (x : HOk P w H h) : ObjOk P w H h a u := by
  rcases r with r | ⟨o, r⟩
  · exact x a u r
  · obtain ⟨_, q⟩ := x a _ r
    exact q
/-- what may be written -/
def Mut : Option HO → Prop
  | some (.lst _) => True
  | some (.dK _) => True
  | some (.dT _) => True
  | some (.set _ _) => True
  | some (.ins _ _ _) => True
  | some (.ext _) => True
  | _ => False
section
variable {P : Program} {w : World} {H : Hp} {h h' : Heap} {x e : Addr} {o' : HO}
/-- the object at e is changed: x itself, or the dict of the instance x -/
theorem HOk.write (ok : HOk P w H h) (mu : Mut (H x)) (he : e = x ∨ H e = some (.own x)) (k : ∀ b u, b ≠ e → h.get? b = some u → h'.get? b = some u) (heo : ∃ u, h'.get? e = some u)
    (new : ObjOk P w (upd H x o') h' x o') : HOk P w (upd H x o') h' := fun b u q => by
  have nown : ∀ c y, H c = some (.own y) → c ≠ x := fun c y r z => by subst z; rw [r] at mu; exact mu
  have ntup : ∀ c xs, H c = some (.tup xs) → c ≠ x := fun c xs r z => by subst z; rw [r] at mu; exact mu
  by_cases hb : b = x
  · subst hb; rw [upd_same] at q; cases q; exact new
  · rw [upd_ne hb] at q
    by_cases hbe : b = e
    · have q' : H b = some (.own x) := by
        rcases he with z | z
        · exact absurd (hbe.trans z) hb
        · rw [hbe]; exact z
      rw [q] at q'; cases q'
      obtain ⟨v, hv⟩ := heo
      exact ⟨v, by rw [hbe]; exact hv⟩
    · refine (ok b u q).stay (fun c v hc r => k c v ?_ r) (fun c r => by rw [upd_ne (nown c b r)]; exact r) fun c xs r => by rw [upd_ne (ntup c xs r)]; exact r
      rcases hc with rfl | hc
      · exact hbe
      · rintro rfl
        rcases he with z | z
        · exact nown c b hc z
        · rw [hc] at z; cases z; exact hb rfl
end

/-! ### kept unless tracked; of the frames at fs (the callers') the slots may change (an exception that passes writes there); of the records at ex (iterators) nothing is said -/
structure Un (fs ex : List Addr) (H H' : Hp) (h h' : Heap) : Prop where
  keep : ∀ b o, h.get? b = some o → H b = none → b ∉ fs → b ∉ ex → h'.get? b = some o
  slot : ∀ b o, h.get? b = some o → H b = none → b ∈ fs → b ∉ ex → ∃ sl, h'.get? b = some { o with slots := sl }
  free : ∀ b o, h.get? b = some o → H b = none → b ∉ ex → H' b = none
  there : ∀ b o, h.get? b = some o → b ∉ ex → ∃ o', h'.get? b = some o'
  tups : ∀ b xs, H b = some (.tup xs) → H' b = some (.tup xs)
  frzs : ∀ b o u, H b = some (.frz o u) → H' b = some (.frz o u)
  tbls : ∀ b ps, H b = some (.tbl ps) → ∃ more, H' b = some (.tbl (ps ++ more))
section
variable {fs fs' ex ex' : List Addr} {H H1 H2 : Hp} {h h1 h2 h' : Heap} {a x e : Addr} {o : HO}
theorem Un.any (u : Un fs ex H H1 h h1) {b : Addr} {ob : Obj} (q : h.get? b = some ob) (n : H b = none) (hx : b ∉ ex) : ∃ sl, h1.get? b = some { ob with slots := sl } := by
  by_cases hb : b ∈ fs
  · exact u.slot b ob q n hb hx
  · exact ⟨ob.slots, u.keep b ob q n hb hx⟩
theorem Un.trans (a : Un fs ex H H1 h h1) (b : Un fs ex H1 H2 h1 h2) : Un fs ex H H2 h h2 where
  keep := fun c ob q n hc hx => b.keep c ob (a.keep c ob q n hc hx) (a.free c ob q n hx) hc hx
  slot := fun c ob q n hc hx => by
    obtain ⟨sl, e1⟩ := a.slot c ob q n hc hx
    obtain ⟨sl', e2⟩ := b.slot c _ e1 (a.free c ob q n hx) hc hx
    exact ⟨sl', e2⟩
  free := fun c ob q n hx => by
    obtain ⟨o', e1⟩ := a.there c ob q hx
    exact b.free c o' e1 (a.free c ob q n hx) hx
  there := fun c ob q hx => by
    obtain ⟨o', e1⟩ := a.there c ob q hx
    exact b.there c o' e1 hx
  tups := fun c xs q => b.tups c xs (a.tups c xs q)
  frzs := fun c ob xs q => b.frzs c ob xs (a.frzs c ob xs q)
  tbls := fun c ps q => by
    obtain ⟨m1, e1⟩ := a.tbls c ps q
    obtain ⟨m2, e2⟩ := b.tbls c _ e1
    exact ⟨m1 ++ m2, by rw [e2, Array.append_assoc]⟩
theorem Un.kept (k : ∀ b u, h.get? b = some u → h'.get? b = some u) : Un fs ex H H h h' :=
  ⟨fun b ob q _ _ _ => k b ob q, fun b ob q _ _ _ => ⟨ob.slots, k b ob q⟩, fun _ _ _ n _ => n, fun b ob q _ => ⟨ob, k b ob q⟩, fun _ _ q => q, fun _ _ _ q => q, fun _ ps q => ⟨#[], by rw [q]; simp⟩⟩
theorem Un.refl : Un fs ex H H h h := Un.kept fun _ _ q => q
theorem Un.laid (k : ∀ b u, h.get? b = some u → h'.get? b = some u) (hp : h.objs.size ≤ a) (hn : H a = none) : Un fs ex H (upd H a o) h h' where
  keep := fun b u q _ _ _ => k b u q
  slot := fun b u q _ _ _ => ⟨u.slots, k b u q⟩
  free := fun b u q n _ => by rw [upd_ne (Nat.ne_of_lt (Nat.lt_of_lt_of_le (Heap.lt_size q) hp))]; exact n
  there := fun b u q _ => ⟨u, k b u q⟩
  tups := fun b xs q => by rw [upd_ne (ne_of_none q hn)]; exact q
  frzs := fun b u xs q => by rw [upd_ne (ne_of_none q hn)]; exact q
  tbls := fun b ps q => ⟨#[], by rw [upd_ne (ne_of_none q hn), q]; simp⟩
theorem Un.write (mu : Mut (H x)) (he : e = x ∨ H e = some (.own x)) (k : ∀ b u, b ≠ e → h.get? b = some u → h'.get? b = some u) (heo : ∃ u, h'.get? e = some u) : Un fs ex H (upd H x o) h h' := by
  have hx : ∀ b, H b = none → b ≠ x := fun b n z => by subst z; rw [n] at mu; exact mu
  have hb : ∀ b, H b = none → b ≠ e := fun b n z => by
    subst z
    rcases he with r | r
    · exact hx b n r
    · rw [n] at r; cases r
  have hm : ∀ b u, H b = some u → ¬ Mut (some u) → b ≠ x := fun b u q nm z => by subst z; rw [q] at mu; exact nm mu
  refine ⟨fun b u q n _ _ => k b u (hb b n) q, fun b u q n _ _ => ⟨u.slots, k b u (hb b n) q⟩, fun b u q n _ => by rw [upd_ne (hx b n)]; exact n, fun b u q _ => ?_,
    fun b xs q => by rw [upd_ne (hm b _ q fun z => z)]; exact q, fun b u xs q => by rw [upd_ne (hm b _ q fun z => z)]; exact q, fun b ps q => ⟨#[], by rw [upd_ne (hm b _ q fun z => z), q]; simp⟩⟩
  by_cases hbe : b = e
  · subst hbe; exact heo
  · exact ⟨u, k b u hbe q⟩
theorem Un.mono (u : Un fs ex H H1 h h1) (hs : ∀ b ∈ fs, b ∈ fs') (hx : ∀ b ∈ ex, b ∈ ex') : Un fs' ex' H H1 h h1 :=
  ⟨fun b ob q n hb he => u.keep b ob q n (fun z => hb (hs b z)) fun z => he (hx b z), fun _ _ q n _ he => u.any q n fun z => he (hx _ z), fun b ob q n he => u.free b ob q n fun z => he (hx b z), fun b ob q he => u.there b ob q fun z => he (hx b z), u.tups, u.frzs, u.tbls⟩
end

/-! ### the heap without what is tracked -/
def trk (h : Heap) (H : Hp) : List Addr := (List.range h.objs.size).filter fun a => (H a).isSome
def hidT (h : Heap) (H : Hp) : Heap := PySem.W.hideAll h (trk h H)
theorem hidT_size (h : Heap) (H : Hp) : (hidT h H).objs.size = h.objs.size := PySem.W.hideAll_size _ _
theorem hidT_get {h : Heap} {H : Hp} {b : Addr} {o : Obj} (e : h.get? b = some o) (n : H b = none) : (hidT h H).get? b = some o :=
  PySem.W.hideAll_get _ e fun hm => by
    have q : (H b).isSome = true := (List.mem_filter.mp hm).2
    rw [n] at q; simp at q
theorem of_hidT {h : Heap} {H : Hp} {b : Addr} {o : Obj} (e : (hidT h H).get? b = some o) : h.get? b = some o ∧ H b = none := by
  have e' : h.get? b = some o := PySem.W.of_hideAll (trk h H) e
  refine ⟨e', ?_⟩
  cases q : H b with
  | none => rfl
  | some x =>
    have hm : b ∈ trk h H := List.mem_filter.mpr ⟨List.mem_range.mpr (Heap.lt_size e'), by simp [q]⟩
    have z : (hidT h H).get? b = none := PySem.W.hideAll_none (trk h H) hm
    rw [z] at e; cases e

/-! ### OpenK's ledger, filled with every new object but one -/
def allNews (g h : Heap) (L : Addr) : List (Addr × Obj) := (List.range h.objs.size).filterMap fun a => if a = L ∨ (g.get? a).isSome = true then none else (h.get? a).map fun o => (a, o)
def rest (g h : Heap) (L d : Addr) : List (Addr × Obj) := (allNews g h L).filter fun p => decide (p.1 ≠ d)
end L2

namespace L2
open PySem PySem.Spec PyProof.Rows

/-- the module's facts, over the base: the heap at the law's entry without what is tracked there -/
structure Mod (K : PySem.W.Frag) (mg : Str → Option Value) (base : Heap) : Prop where
  kin : K.In base
  glob : base.Ns mainGlobals mg
  blt : ∃ mb, base.Ns builtinsNs mb ∧ ∀ x : Str, x ≠ "__name__" → mb x = bootBuiltins x
  nolimit : base.NoLimit

/-- the context: a def's body (or a comprehension's block) running. base: fixed through the whole law; s₀, H₀: the entry; outer: the frames whose slots others may change (a def's callers); stack: all frames that run;
   ex: iterators that were made ahead of the entry and are walked here (a comprehension's); fn: the names whose cells were made at the entry (a def: all; a comprehension's block: its own); calm: not within an except suite; pn: pins that every state bears; xe: what is wanted of an exception that leaves the code -/
structure Cx where
  prog : Program
  w : World
  K : PySem.W.Frag
  mg : Str → Option Value
  base : Heap
  A : Around
  N : List Str
  s₀ : Shared
  H₀ : Hp
  env : Env
  outer : List Env
  stack : List Env
  ex : List Addr
  fn : Str → Bool
  calm : Bool
  pn : List (Addr × Obj)
  xe : Value → Shared → Prop
/-- the callers' frames -/
def frs (l : List Env) : List Addr := l.filterMap (·.frame)
abbrev Cx.fs (X : Cx) : List Addr := frs X.outer

def Vis (sc : Scope) (x : Str) : Prop := sc.names.lookup x = some .local ∨ sc.names.lookup x = some .cell ∨ sc.names.lookup x = some .free
def Loc (sc : Scope) (x : Str) : Prop := sc.names.lookup x = some .local ∨ sc.names.lookup x = some .cell
def Look (env : Env) (h : Heap) (m : Str → Option Value) (x : Str) (u : Value) : Prop :=
  (env.kindOf x = some .local ∧ m x = some u) ∨ ((env.kindOf x = some .cell ∨ env.kindOf x = some .free) ∧ ∃ c, env.cells.lookup x = some c ∧ h.IsCell c (some u))

structure Cx.Ok (X : Cx) : Prop where
  mod : Mod X.K X.mg X.base
  kind : X.env.scope.kind = .function
  glob : X.env.globals = mainGlobals
  blt : X.env.builtins = builtinsNs
  above : X.s₀.heap.objs.size ≤ X.env.locals
  inj : ∀ x y c, X.env.cells.lookup x = some c → X.env.cells.lookup y = some c → x = y
  has : ∀ x, (X.env.kindOf x = some .cell ∨ X.env.kindOf x = some .free) → ∃ c, X.env.cells.lookup x = some c
  cab : ∀ x c, X.fn x = true → X.env.cells.lookup x = some c → X.s₀.heap.objs.size ≤ c
  hd : X.calm = true → X.A.handled = none
  frames : X.A.frames = some X.stack
  stk : X.stack = X.outer ∨ (X.stack = X.env :: X.outer ∧ X.env.frame = some X.env.locals)
  exf : ∀ b ∈ X.ex, b ≠ X.env.locals ∧ ∀ x c, X.env.cells.lookup x = some c → c ≠ b
  bs : ∀ b o, X.base.get? b = some o → X.s₀.heap.get? b = some o ∧ X.H₀ b = none
  bsz : X.base.objs.size ≤ X.s₀.heap.objs.size
  noex : ∀ b o, X.base.get? b = some o → b ∉ X.ex
  exfs : ∀ b ∈ X.ex, b ∉ X.fs
  funs : X.s₀.heap.FunFrames X.base X.outer
  frf : ∀ b ∈ X.fs, X.H₀ b = none

structure Inv (X : Cx) (pins : List (Addr × Obj)) (σ : List (Option V)) (H : Hp) (s : Shared) : Prop where
  ok : X.Ok
  os : s.os = X.s₀.os
  bare : AllBare s.gens
  base : Un X.fs X.ex X.H₀ H X.s₀.heap s.heap
  loc : ∃ m, s.heap.Ns X.env.locals m ∧ ∀ (i : Nat) (x : Str) (v : V), X.N[i]? = some x → σ[i]? = some (some v) → Vis X.env.scope x → ∃ u, RelV v u ∧ Look X.env s.heap m x u
  cell : ∀ x c, X.env.cells.lookup x = some c → ∃ v, s.heap.IsCell c v
  free : H X.env.locals = none
  freeC : ∀ x c, X.env.cells.lookup x = some c → H c = none
  pin : ∀ p ∈ X.pn ++ pins, s.heap.get? p.1 = some p.2 ∧ H p.1 = none ∧ p.1 ≠ X.env.locals ∧ p.1 ∉ X.fs ∧ ∀ v, p.2.data ≠ .cell v
  hok : HOk X.prog X.w H s.heap
  len : σ.length = X.N.length

section
variable {X : Cx} {pins : List (Addr × Obj)} {σ : List (Option V)} {H H' : Hp} {s : Shared} {h' : Heap}

theorem Cx.Ok.nofr (ok : X.Ok) {b : Addr} {o : Obj} (e : X.base.get? b = some o) : b ∉ X.fs := fun hb => by
  have := (ok.funs.mem hb).1
  rw [e] at this; cases this
theorem Inv.bs (I : Inv X pins σ H s) : ∀ b o, X.base.get? b = some o → s.heap.get? b = some o ∧ H b = none := fun b o e =>
  ⟨I.base.keep b o (I.ok.bs b o e).1 (I.ok.bs b o e).2 (I.ok.nofr e) (I.ok.noex b o e), I.base.free b o (I.ok.bs b o e).1 (I.ok.bs b o e).2 (I.ok.noex b o e)⟩
theorem Inv.bk (I : Inv X pins σ H s) : ∀ b o, X.base.get? b = some o → s.heap.get? b = some o := fun b o e => (I.bs b o e).1
theorem Inv.mod (I : Inv X pins σ H s) : Mod X.K X.mg X.base := I.ok.mod
theorem Inv.kIn (I : Inv X pins σ H s) : X.K.In s.heap := I.ok.mod.kin.keeps I.bk
theorem Inv.nolimit (I : Inv X pins σ H s) : s.heap.NoLimit := I.ok.mod.nolimit.keeps I.bk
/-- the frame over the base: for OpenK's rules (K.In X.base is I.mod.kin) -/
theorem Inv.fr (I : Inv X pins σ H s) : ∃ m, Fr X.base X.env.locals s.heap m :=
  let ⟨m, hn, _⟩ := I.loc
  ⟨m, hn, I.bk, Nat.le_trans I.ok.bsz I.ok.above⟩
theorem Inv.lt (I : Inv X pins σ H s) : X.env.locals < s.heap.objs.size := let ⟨_, hn, _⟩ := I.loc; hn.lt
theorem Inv.sz (I : Inv X pins σ H s) : X.s₀.heap.objs.size ≤ s.heap.objs.size := Nat.le_trans I.ok.above (Nat.le_of_lt I.lt)
theorem Inv.nofs (I : Inv X pins σ H s) {a : Addr} (h : s.heap.objs.size ≤ a) : a ∉ X.fs := fun hb => by
  obtain ⟨_, o, ho, _⟩ := I.ok.funs.mem hb
  exact absurd (Nat.lt_of_lt_of_le (Heap.lt_size ho) (Nat.le_trans I.sz h)) (Nat.lt_irrefl _)
theorem Inv.cne (I : Inv X pins σ H s) : ∀ x c, X.env.cells.lookup x = some c → c ≠ X.env.locals := fun x c e z => by
  obtain ⟨v, o, ho, hd⟩ := I.cell x c e
  obtain ⟨m, ⟨o', es, ep, ho', hd', _⟩, _⟩ := I.loc
  rw [z, ho'] at ho; cases ho; rw [hd'] at hd; cases hd
theorem Inv.funs (I : Inv X pins σ H s) : s.heap.FunFrames X.base X.outer := by
  have all : ∀ (l : List Env), (∀ b ∈ frs l, b ∈ X.fs) → X.s₀.heap.FunFrames X.base l → s.heap.FunFrames X.base l := by
    intro l
    induction l with
    | nil => intro _ _; trivial
    | cons env r ih =>
      intro hs hl
      obtain ⟨hk, ⟨L, o, hf, hn, ho, hd⟩, hr⟩ := hl
      have hL : L ∈ X.fs := hs L (by unfold frs; rw [List.filterMap_cons, hf]; exact List.mem_cons_self)
      obtain ⟨sl, e⟩ := I.base.slot L o ho (I.ok.frf L hL) hL fun z => I.ok.exfs L z hL
      exact ⟨hk, ⟨L, _, hf, hn, e, hd⟩, ih (fun b hb => hs b (by unfold frs; rw [List.filterMap_cons, hf]; exact List.mem_cons_of_mem _ hb)) hr⟩
  exact all X.outer (fun _ hb => hb) I.ok.funs

/-- the frames that run, for a call -/
theorem Inv.stack (I : Inv X pins σ H s) : s.heap.FunFrames X.base X.stack := by
  rcases I.ok.stk with e | ⟨e, hf⟩
  · rw [e]; exact I.funs
  · rw [e]
    obtain ⟨m, hn, _⟩ := I.loc
    refine .cons (by rw [I.ok.kind]; decide) hf hn ?_ I.funs
    exact Heap.get?_none_of_le (Nat.le_trans I.ok.bsz I.ok.above)
theorem Inv.stkSub (I : Inv X pins σ H s) : ∀ b ∈ frs X.stack, b ∈ X.env.locals :: X.fs := fun b hb => by
  rcases I.ok.stk with e | ⟨e, hf⟩
  · rw [e] at hb; exact List.mem_cons_of_mem _ hb
  · rw [e] at hb
    unfold frs at hb
    rw [List.filterMap_cons, hf] at hb
    exact hb
theorem Inv.stkFree (I : Inv X pins σ H s) : ∀ b ∈ frs X.stack, H b = none := fun b hb => by
  rcases List.mem_cons.mp (I.stkSub b hb) with e | hb
  · rw [e]; exact I.free
  · obtain ⟨_, o, ho, _⟩ := I.ok.funs.mem hb
    exact I.base.free b o ho (I.ok.frf b hb) fun z => I.ok.exfs b z hb

/-- THE STEP: the untracked objects but the frame and the records at ch are kept (the callers' frames up to slots), the frame's map is kept, the new abstract heap is held -/
theorem Inv.step {g' : Array GenState} {t' : Nat} {d' : Drawn} {ch : List Addr} (I : Inv X pins σ H s)
    (hch : ∀ b ∈ ch, (b ∈ X.ex ∨ X.s₀.heap.objs.size ≤ b) ∧ b ≠ X.env.locals ∧ (∀ x c, X.env.cells.lookup x = some c → c ≠ b) ∧ ∀ p ∈ X.pn ++ pins, p.1 ≠ b)
    (keep : ∀ b o, b ≠ X.env.locals → b ∉ X.fs → b ∉ ch → s.heap.get? b = some o → H b = none → h'.get? b = some o)
    (slot : ∀ b o, b ≠ X.env.locals → b ∈ X.fs → b ∉ ch → s.heap.get? b = some o → H b = none → ∃ sl, h'.get? b = some { o with slots := sl }) (free : ∀ b o, b ∉ ch → s.heap.get? b = some o → H b = none → H' b = none)
    (there : ∀ b o, b ∉ ch → s.heap.get? b = some o → ∃ o', h'.get? b = some o')
    (tups : ∀ b xs, H b = some (.tup xs) → H' b = some (.tup xs)) (frzs : ∀ b o u, H b = some (.frz o u) → H' b = some (.frz o u)) (tbls : ∀ b ps, H b = some (.tbl ps) → ∃ more, H' b = some (.tbl (ps ++ more)))
    (ns : ∀ m, s.heap.Ns X.env.locals m → h'.Ns X.env.locals m) (hok : HOk X.prog X.w H' h') (hg : AllBare g') :
    Inv X pins σ H' { s with heap := h', gens := g', drawn := d', toks := t' } := by
  have neL : ∀ b o, X.s₀.heap.get? b = some o → b ≠ X.env.locals := fun b o e => Nat.ne_of_lt (Nat.lt_of_lt_of_le (Heap.lt_size e) I.ok.above)
  have neC : ∀ b o, X.s₀.heap.get? b = some o → b ∉ X.ex → b ∉ ch := fun b o e hx hb => by
    rcases (hch b hb).1 with z | z
    · exact hx z
    · exact absurd (Nat.lt_of_lt_of_le (Heap.lt_size e) z) (Nat.lt_irrefl _)
  have cellK : ∀ x c, X.env.cells.lookup x = some c → ∀ v, s.heap.IsCell c v → h'.IsCell c v := fun x c e v ⟨o, ho, hd⟩ => by
    have nch : c ∉ ch := fun z => (hch c z).2.2.1 x c e rfl
    by_cases hc : c ∈ X.fs
    · obtain ⟨sl, q⟩ := slot c o (I.cne x c e) hc nch ho (I.freeC x c e)
      exact ⟨_, q, hd⟩
    · exact ⟨o, keep c o (I.cne x c e) hc nch ho (I.freeC x c e), hd⟩
  refine ⟨I.ok, I.os, hg, ⟨fun b o e n hb hx => ?_, fun b o e n hb hx => ?_, fun b o e n hx => ?_, fun b o e hx => ?_, fun b xs e => tups b xs (I.base.tups b xs e), fun b o xs e => frzs b o xs (I.base.frzs b o xs e), fun b ps e => ?_⟩, ?_, fun x c e => ?_, ?_, fun x c e => ?_, fun p hp => ?_, hok, I.len⟩
  · exact keep b o (neL b o e) hb (neC b o e hx) (I.base.keep b o e n hb hx) (I.base.free b o e n hx)
  · obtain ⟨sl, e1⟩ := I.base.slot b o e n hb hx
    obtain ⟨sl', e2⟩ := slot b _ (neL b o e) hb (neC b o e hx) e1 (I.base.free b o e n hx)
    exact ⟨sl', e2⟩
  · obtain ⟨o', e1⟩ := I.base.there b o e hx
    exact free b o' (neC b o e hx) e1 (I.base.free b o e n hx)
  · obtain ⟨o', e1⟩ := I.base.there b o e hx
    exact there b o' (neC b o e hx) e1
  · obtain ⟨m1, e1⟩ := I.base.tbls b ps e
    obtain ⟨m2, e2⟩ := tbls b _ e1
    exact ⟨m1 ++ m2, by rw [e2, Array.append_assoc]⟩
  · obtain ⟨m, hn, hl⟩ := I.loc
    refine ⟨m, ns m hn, fun i x v e1 e2 e3 => ?_⟩
    obtain ⟨u, r, l⟩ := hl i x v e1 e2 e3
    refine ⟨u, r, ?_⟩
    rcases l with l | ⟨k, c, e, z⟩
    · exact .inl l
    · exact .inr ⟨k, c, e, cellK x c e _ z⟩
  · obtain ⟨v, z⟩ := I.cell x c e
    exact ⟨v, cellK x c e v z⟩
  · obtain ⟨m, ⟨o, _, _, ho, _⟩, _⟩ := I.loc
    exact free _ o (fun z => (hch _ z).2.1 rfl) ho I.free
  · obtain ⟨v, o, ho, hd⟩ := I.cell x c e
    exact free c o (fun z => (hch c z).2.2.1 x c e rfl) ho (I.freeC x c e)
  · obtain ⟨e, n, ne, nf, d⟩ := I.pin p hp
    have nch : p.1 ∉ ch := fun z => (hch p.1 z).2.2.2 p hp rfl
    exact ⟨keep p.1 p.2 ne nf nch e n, free p.1 p.2 nch e n, ne, nf, d⟩
/-- .. where the frame's own object is kept too -/
theorem Inv.un {t' : Nat} (I : Inv X pins σ H s) (u : Un X.fs [] H H' s.heap h') (hok : HOk X.prog X.w H' h') : Inv X pins σ H' { s with heap := h', toks := t' } := by
  obtain ⟨m, ⟨o, es, ep, ho, r⟩, _⟩ := id I.loc
  obtain ⟨sl, hL⟩ := u.any ho I.free (by simp)
  exact I.step (g' := s.gens) (d' := s.drawn) (ch := []) (fun _ z => nomatch z) (fun b o _ hb _ e n => u.keep b o e n hb (by simp)) (fun b o _ hb _ e n => u.slot b o e n hb (by simp)) (fun b o _ e n => u.free b o e n (by simp)) (fun b o _ e => u.there b o e (by simp)) u.tups u.frzs u.tbls (fun m' hm => by
    obtain ⟨o', es', ep', ho', r'⟩ := hm
    rw [ho] at ho'; cases ho'
    exact ⟨_, es', ep', hL, r'⟩) hok I.bare
/-- behind a call (or a comprehension's block): the slots of this frame may have changed too, the records at ch may have turned -/
theorem Inv.call {g' : Array GenState} {t' : Nat} {d' : Drawn} {ch : List Addr} (I : Inv X pins σ H s) (u : Un (frs X.stack) ch H H' s.heap h') (hok : HOk X.prog X.w H' h') (hg : AllBare g')
    (hch : ∀ b ∈ ch, (b ∈ X.ex ∨ X.s₀.heap.objs.size ≤ b) ∧ b ≠ X.env.locals ∧ (∀ x c, X.env.cells.lookup x = some c → c ≠ b) ∧ ∀ p ∈ X.pn ++ pins, p.1 ≠ b) :
    Inv X pins σ H' { s with heap := h', gens := g', drawn := d', toks := t' } := by
  obtain ⟨m, ⟨o, es, ep, ho, r⟩, _⟩ := id I.loc
  obtain ⟨sl, hL⟩ := u.any ho I.free fun z => (hch _ z).2.1 rfl
  exact I.step (ch := ch) hch (fun b o hL hb hc e n => u.keep b o e n (fun z => (List.mem_cons.mp (I.stkSub b z)).elim hL hb) hc) (fun b o _ _ hc e n => u.any e n hc) (fun b o hc e n => u.free b o e n hc) (fun b o hc e => u.there b o e hc) u.tups u.frzs u.tbls (fun m' hm => by
    obtain ⟨o', es', ep', ho', r'⟩ := hm
    rw [ho] at ho'; cases ho'
    exact ⟨_, es', ep', hL, r'⟩) hok hg
/-- an untracked record of ours (an iterator) has turned -/
theorem Inv.turned {t' : Nat} {it : Addr} (I : Inv X pins σ H s) (k : ∀ b o, b ≠ it → s.heap.get? b = some o → h'.get? b = some o) (hn : H it = none) (hL : it ≠ X.env.locals)
    (h1 : it ∈ X.ex ∨ X.s₀.heap.objs.size ≤ it) (h2 : ∀ x c, X.env.cells.lookup x = some c → c ≠ it) (h3 : ∀ p ∈ X.pn ++ pins, p.1 ≠ it) : Inv X pins σ H { s with heap := h', toks := t' } := by
  have nit : ∀ b u, H b = some u → b ≠ it := fun b u e z => by rw [z, hn] at e; cases e
  refine I.step (g' := s.gens) (d' := s.drawn) (ch := [it]) (fun b hb => ?_) (fun b o _ _ hc e _ => k b o (fun z => hc (by simp [z])) e) (fun b o _ _ hc e _ => ⟨o.slots, k b o (fun z => hc (by simp [z])) e⟩) (fun _ _ _ _ n => n)
    (fun b o hc e => ⟨o, k b o (fun z => hc (by simp [z])) e⟩) (fun _ _ e => e) (fun _ _ _ e => e) (fun b ps e => ⟨#[], by rw [e]; simp⟩) (fun m hm => ?_) (fun b u e => ?_) I.bare
  · have e : b = it := by simpa using hb
    subst e
    exact ⟨h1, hL, h2, h3⟩
  · obtain ⟨o, es, ep, ho, r⟩ := hm
    exact ⟨o, es, ep, k _ o (Ne.symm hL) ho, r⟩
  · refine (I.hok b u e).stay (fun c v hc q => k c v ?_ q) (fun _ q => q) fun _ _ q => q
    rcases hc with z | z
    · rw [z]; exact nit b u e
    · exact nit c _ z
theorem Inv.tok (I : Inv X pins σ H s) (t : Nat) : Inv X pins σ H { s with toks := t } := I.un (h' := s.heap) (t' := t) Un.refl I.hok
/-- all objects kept -/
theorem Inv.kept {t' : Nat} (I : Inv X pins σ H s) (k : ∀ b u, s.heap.get? b = some u → h'.get? b = some u) : Inv X pins σ H { s with heap := h', toks := t' } := I.un (Un.kept k) (I.hok.kept k)
/-- a new object laid and tracked -/
theorem Inv.laid {a : Addr} {o : HO} {t' : Nat} (I : Inv X pins σ H s) (k : ∀ b u, s.heap.get? b = some u → h'.get? b = some u) (hp : s.heap.objs.size ≤ a) (new : ObjOk X.prog X.w (upd H a o) h' a o) :
    Inv X pins σ (upd H a o) { s with heap := h', toks := t' } := I.un (Un.laid k hp (I.hok.fresh hp)) (I.hok.laid k hp new)
/-- an object written -/
theorem Inv.write {x e : Addr} {o : HO} {t' : Nat} (I : Inv X pins σ H s) (mu : Mut (H x)) (he : e = x ∨ H e = some (.own x)) (k : ∀ b u, b ≠ e → s.heap.get? b = some u → h'.get? b = some u) (heo : ∃ u, h'.get? e = some u)
    (new : ObjOk X.prog X.w (upd H x o) h' x o) : Inv X pins σ (upd H x o) { s with heap := h', toks := t' } := I.un (Un.write mu he k heo) (I.hok.write mu he k heo new)
/-- forgetting slots, pins -/
theorem Inv.weak {σ' : List (Option V)} (I : Inv X pins σ H s) (hl : σ'.length = σ.length) (w : ∀ (i : Nat) v, σ'[i]? = some (some v) → σ[i]? = some (some v)) : Inv X pins σ' H s :=
  ⟨I.ok, I.os, I.bare, I.base, let ⟨m, hn, hl'⟩ := I.loc; ⟨m, hn, fun i x v e1 e2 e3 => hl' i x v e1 (w i v e2) e3⟩, I.cell, I.free, I.freeC, I.pin, I.hok, hl.trans I.len⟩
theorem Inv.pins_of {pins' : List (Addr × Obj)} (I : Inv X pins σ H s) (h : ∀ p ∈ pins', s.heap.get? p.1 = some p.2 ∧ H p.1 = none ∧ p.1 ≠ X.env.locals ∧ p.1 ∉ X.fs ∧ ∀ v, p.2.data ≠ .cell v) : Inv X pins' σ H s :=
  ⟨I.ok, I.os, I.bare, I.base, I.loc, I.cell, I.free, I.freeC, fun p hp => (List.mem_append.mp hp).elim (fun z => I.pin p (List.mem_append_left _ z)) (h p), I.hok, I.len⟩

theorem nodup_ix {N : List Str} (hN : N.Nodup) {i j : Nat} {x : Str} (a : N[i]? = some x) (b : N[j]? = some x) : i = j := by
  obtain ⟨h1, e1⟩ := List.getElem?_eq_some_iff.mp a
  obtain ⟨h2, e2⟩ := List.getElem?_eq_some_iff.mp b
  exact (List.getElem_inj hN).mp (e1.trans e2.symm)

/-- a name is stored; what changed -/
theorem store_ok2 {M : Model} {A : Around} {E : Value → Shared → Prop} {i : Nat} {x : Str} {v : V} {u : Value} {Q : Unit → Shared → Prop} (I : Inv X pins σ H s) (hN : X.N.Nodup) (hi : X.N[i]? = some x) (hx : Loc X.env.scope x) (r : RelV v u)
    (h : ∀ s', Inv X pins (σ.set i (some v)) H s' → (∃ a, Heap.SameBut a s.heap s'.heap ∧ (a = X.env.locals ∨ X.env.cells.lookup x = some a)) → Q () s') (hf : X.fn x = true ∨ X.env.scope.names.lookup x = some .local := by first | exact .inl rfl | exact .inr rfl | assumption) : wpAny M A (storeName X.env x u) Q E s := by
  obtain ⟨m, hn, hl⟩ := id I.loc
  have hcls : (X.env.scope.kind == .class || (X.env.scope.kind == .module && X.env.locals != X.env.globals)) = false := by rw [I.ok.kind]; rfl
  have hiσ : i < σ.length := by rw [I.len]; exact (List.getElem?_eq_some_iff.mp hi).1
  have cne := I.cne
  have tracked : ∀ {a : Addr} {h' : Heap}, (∃ o, s.heap.get? a = some o ∧ H a = none) → Heap.SameBut a s.heap h' → HOk X.prog X.w H h' := fun {a h'} ha hs b ob e => by
    obtain ⟨_, _, hfree⟩ := ha
    refine (I.hok b ob e).stay (fun c w' hc q => (hs.2 c ?_).trans q) (fun _ q => q) fun _ _ q => q
    rintro rfl
    rcases hc with rfl | hc
    · rw [hfree] at e; cases e
    · rw [hfree] at hc; cases hc
  rcases hx with hk | hk
  · refine wpAny_storeName_local hk hn (fun h' hn' hs => ?_) hcls
    obtain ⟨oL, _, _, hoL, _⟩ := id hn
    refine h _ ⟨I.ok, I.os, I.bare, ⟨fun b o e n hb hx => ?_, fun b o e n hb hx => ?_, I.base.free, fun b o e hx => ?_, I.base.tups, I.base.frzs, I.base.tbls⟩, ⟨_, hn', fun j y v' e1 e2 e3 => ?_⟩, fun y c e => ?_, I.free, I.freeC, fun p hp => ?_, tracked ⟨oL, hoL, I.free⟩ hs, by simpa using I.len⟩ ⟨_, hs, .inl rfl⟩
    · exact (hs.2 b (Nat.ne_of_lt (Nat.lt_of_lt_of_le (Heap.lt_size e) I.ok.above))).trans (I.base.keep b o e n hb hx)
    · obtain ⟨sl, e1⟩ := I.base.slot b o e n hb hx
      exact ⟨sl, (hs.2 b (Nat.ne_of_lt (Nat.lt_of_lt_of_le (Heap.lt_size e) I.ok.above))).trans e1⟩
    · obtain ⟨o', e1⟩ := I.base.there b o e hx
      exact ⟨o', (hs.2 b (Nat.ne_of_lt (Nat.lt_of_lt_of_le (Heap.lt_size e) I.ok.above))).trans e1⟩
    · by_cases hj : j = i
      · subst hj
        rw [hi] at e1; cases e1
        rw [List.getElem?_set_self hiσ] at e2
        cases e2
        exact ⟨u, r, .inl ⟨hk, by simp⟩⟩
      · rw [List.getElem?_set_ne (Ne.symm hj)] at e2
        obtain ⟨u', r', q⟩ := hl j y v' e1 e2 e3
        refine ⟨u', r', ?_⟩
        rcases q with ⟨k, e⟩ | ⟨k, c, e, z⟩
        · refine .inl ⟨k, ?_⟩
          have : y ≠ x := fun e => hj (nodup_ix hN e1 (e ▸ hi))
          simp [this, e]
        · exact .inr ⟨k, c, e, z.sameBut hs (cne y c e)⟩
    · obtain ⟨w', z⟩ := I.cell y c e
      exact ⟨w', z.sameBut hs (cne y c e)⟩
    · obtain ⟨e, n, ne, nf, d⟩ := I.pin p hp
      exact ⟨(hs.2 p.1 ne).trans e, n, ne, nf, d⟩
  · have hfn : X.fn x = true := by
      rcases hf with z | z
      · exact z
      · rw [z] at hk; cases hk
    obtain ⟨c, hc⟩ := I.ok.has x (.inl hk)
    obtain ⟨w', z⟩ := I.cell x c hc
    refine wpAny_storeName_cell I.ok.kind hk hc z (fun h' hc' hs => ?_)
    obtain ⟨oc, hoc, hocd⟩ := id z
    refine h { s with heap := h' } ⟨I.ok, I.os, I.bare, ⟨fun b o e n hb hx => ?_, fun b o e n hb hx => ?_, I.base.free, fun b o e hx => ?_, I.base.tups, I.base.frzs, I.base.tbls⟩, ⟨m, hn.sameBut hs (Ne.symm (cne x c hc)), fun j y v' e1 e2 e3 => ?_⟩, fun y c' e => ?_, I.free, I.freeC, fun p hp => ?_, tracked ⟨oc, hoc, I.freeC x c hc⟩ hs, by simpa using I.len⟩ ⟨c, hs, .inr hc⟩
    · exact (hs.2 b (Nat.ne_of_lt (Nat.lt_of_lt_of_le (Heap.lt_size e) (I.ok.cab x c hfn hc)))).trans (I.base.keep b o e n hb hx)
    · obtain ⟨sl, e1⟩ := I.base.slot b o e n hb hx
      exact ⟨sl, (hs.2 b (Nat.ne_of_lt (Nat.lt_of_lt_of_le (Heap.lt_size e) (I.ok.cab x c hfn hc)))).trans e1⟩
    · obtain ⟨o', e1⟩ := I.base.there b o e hx
      exact ⟨o', (hs.2 b (Nat.ne_of_lt (Nat.lt_of_lt_of_le (Heap.lt_size e) (I.ok.cab x c hfn hc)))).trans e1⟩
    · by_cases hj : j = i
      · subst hj
        rw [hi] at e1; cases e1
        rw [List.getElem?_set_self hiσ] at e2
        cases e2
        exact ⟨u, r, .inr ⟨.inl hk, c, hc, hc'⟩⟩
      · rw [List.getElem?_set_ne (Ne.symm hj)] at e2
        obtain ⟨u', r', q⟩ := hl j y v' e1 e2 e3
        refine ⟨u', r', ?_⟩
        rcases q with q | ⟨k, c', e, z'⟩
        · exact .inl q
        · refine .inr ⟨k, c', e, z'.sameBut hs ?_⟩
          rintro rfl
          exact hj (nodup_ix hN e1 (I.ok.inj _ _ _ e hc ▸ hi))
    · by_cases hcc : c' = c
      · subst hcc; exact ⟨_, hc'⟩
      · obtain ⟨w2, z2⟩ := I.cell y c' e
        exact ⟨w2, z2.sameBut hs hcc⟩
    · obtain ⟨e, n, ne, nf, d⟩ := I.pin p hp
      refine ⟨(hs.2 p.1 ?_).trans e, n, ne, nf, d⟩
      intro q
      rw [q, hoc] at e
      have q' : oc = p.2 := Option.some.inj e
      exact d w' (by rw [← q']; exact hocd)
theorem store_ok {M : Model} {A : Around} {E : Value → Shared → Prop} {i : Nat} {x : Str} {v : V} {u : Value} {Q : Unit → Shared → Prop} (I : Inv X pins σ H s) (hN : X.N.Nodup) (hi : X.N[i]? = some x) (hx : Loc X.env.scope x) (r : RelV v u)
    (h : ∀ s', Inv X pins (σ.set i (some v)) H s' → Q () s') (hf : X.fn x = true ∨ X.env.scope.names.lookup x = some .local := by first | exact .inl rfl | exact .inr rfl | assumption) : wpAny M A (storeName X.env x u) Q E s :=
  store_ok2 I hN hi hx r (fun s' I' _ => h s' I') hf
/-- behind a call or a block, the state as it is -/
theorem Inv.call' {s' : Shared} {ch : List Addr} (I : Inv X pins σ H s) (ho : s'.os = s.os) (u : Un (frs X.stack) ch H H' s.heap s'.heap) (hok : HOk X.prog X.w H' s'.heap) (hg : AllBare s'.gens)
    (hch : ∀ b ∈ ch, (b ∈ X.ex ∨ X.s₀.heap.objs.size ≤ b) ∧ b ≠ X.env.locals ∧ (∀ x c, X.env.cells.lookup x = some c → c ≠ b) ∧ ∀ p ∈ X.pn ++ pins, p.1 ≠ b) : Inv X pins σ H' s' := by
  obtain ⟨h', g', d', t', o'⟩ := s'
  have e : o' = s.os := ho
  subst e
  exact I.call (g' := g') (t' := t') (d' := d') u hok hg hch
end

/-! ### the judgements -/
/-- an exception: its class, its own dict's address (where it has one), the abstract heap behind it -/
abbrev XK := Value → Option Addr → Hp → Prop
abbrev St := List (Option V)
abbrev VK := V → Hp → Prop
/-- an expression's reading; a test's; an argument list's -/
abbrev TE := St → Hp → VK → Prop
abbrev TT := St → Hp → (Bool → Hp → Prop) → Prop
abbrev TA := St → Hp → (List V → Hp → Prop) → Prop
/-- what is wanted behind a statement -/
structure Ends where
  nx : St → Hp → Prop
  rt : VK
  bk : St → Hp → Prop := fun _ _ => False
  ct : St → Hp → Prop := fun _ _ => False
abbrev TS := Ends → St → Hp → Prop

def EP (X : Cx) (pins : List (Addr × Obj)) (σ : St) (Q : VK) (u : Value) (s' : Shared) : Prop := ∃ v H', Inv X pins σ H' s' ∧ RelV v u ∧ Q v H'
def TP (X : Cx) (pins : List (Addr × Obj)) (σ : St) (Q : Bool → Hp → Prop) (b : Bool) (s' : Shared) : Prop := ∃ H', Inv X pins σ H' s' ∧ Q b H'
def AP (X : Cx) (pins : List (Addr × Obj)) (σ : St) (Q : List V → Hp → Prop) (us : List Value) (s' : Shared) : Prop := ∃ vs H', Inv X pins σ H' s' ∧ Vals vs us ∧ Q vs H'
def SP (X : Cx) (pins : List (Addr × Obj)) (D : Ends) (f : Flow) (s' : Shared) : Prop :=
  match f with
  | .next => ∃ σ' H', Inv X pins σ' H' s' ∧ D.nx σ' H'
  | .brk => ∃ σ' H', Inv X pins σ' H' s' ∧ D.bk σ' H'
  | .cont => ∃ σ' H', Inv X pins σ' H' s' ∧ D.ct σ' H'
  | .ret u => ∃ v σ' H', Inv X pins σ' H' s' ∧ RelV v u ∧ D.rt v H'

def PE (X : Cx) (e : Expr) (t : TE) : Prop :=
  ∀ (pins : List (Addr × Obj)) (s : Shared) (σ : St) (H : Hp) (Q : VK), Inv X pins σ H s → t σ H Q → wpAny (model X.prog X.w) X.A (eval e X.env) (EP X pins σ Q) X.xe s
def PT (X : Cx) (e : Expr) (t : TT) : Prop :=
  ∀ (pins : List (Addr × Obj)) (s : Shared) (σ : St) (H : Hp) (Q : Bool → Hp → Prop), Inv X pins σ H s → t σ H Q → wpAny (model X.prog X.w) X.A (isTrue e X.env (eval e X.env)) (TP X pins σ Q) X.xe s
/-- a test whatever its 'whole' is (and, or) -/
def PW (X : Cx) (e : Expr) (t : TT) : Prop :=
  ∀ (whole : Sem Value) (pins : List (Addr × Obj)) (s : Shared) (σ : St) (H : Hp) (Q : Bool → Hp → Prop), Inv X pins σ H s → t σ H Q → wpAny (model X.prog X.w) X.A (isTrue e X.env whole) (TP X pins σ Q) X.xe s
theorem PW.pt {X : Cx} {e : Expr} {t : TT} (h : PW X e t) : PT X e t := h _
/-- an argument list (no star), from the left -/
def PA (X : Cx) (es : List Expr) (t : TA) : Prop :=
  ∀ (pos : Pos) (pins : List (Addr × Obj)) (s : Shared) (σ : St) (H : Hp) (Q : List V → Hp → Prop), Inv X pins σ H s → t σ H Q → wpAny (model X.prog X.w) X.A (spliced (backTo pos (starEach es X.env))) (AP X pins σ Q) X.xe s
def PS (X : Cx) (st : Stmt) (t : TS) : Prop :=
  ∀ (pins : List (Addr × Obj)) (s : Shared) (σ : St) (H : Hp) (D : Ends), Inv X pins σ H s → t D σ H → wpAny (model X.prog X.w) X.A (exec st X.env) (SP X pins D) X.xe s
def PSs (X : Cx) (st : List Stmt) (t : TS) : Prop :=
  ∀ (pins : List (Addr × Obj)) (s : Shared) (σ : St) (H : Hp) (D : Ends), Inv X pins σ H s → t D σ H → wpAny (model X.prog X.w) X.A (execs st X.env) (SP X pins D) X.xe s
/-- weaken the end -/
theorem thn {α : Type} {t : Sem α} {Q Q' : α → Shared → Prop} {M : Model} {A : Around} {E : Value → Shared → Prop} {s : Shared} (h : wpAny M A t Q E s) (hQ : ∀ a s, Q a s → Q' a s) : wpAny M A t Q' E s := wpAny_mono h hQ fun _ _ x => x
end L2

namespace L2
open PySem PySem.Spec PyProof.Rows
section
variable {X : Cx}

/-! ### names and constants -/
def tVar (i : Nat) : TE := fun σ H Q => ∃ v, σ[i]? = some (some v) ∧ Q v H
def tC (v : V) : TE := fun _ H Q => Q v H
theorem pe_var {i : Nat} {x : Str} {pos : Pos} (hN : X.N[i]? = some x) (hv : Vis X.env.scope x) (hd : (x == ("__debug__" : Str)) = false := by decide) (hcd : (x == ("__classdict__" : Str)) = false := by decide) : PE X (.Name x pos) (tVar i) := by
  intro pins s σ H Q I h
  obtain ⟨v, e, h⟩ := h
  obtain ⟨m, hn, hl⟩ := I.loc
  obtain ⟨u, r, l⟩ := hl i x v hN e hv
  have fin : EP X pins σ Q u s := ⟨v, H, I, r, h⟩
  rcases l with ⟨hk, hm⟩ | ⟨hk, c, hc, hcell⟩
  · exact wpAny_Name (wpAny_loadName_local I.ok.kind hk hn hm fin) hd
  · rcases hk with hk | hk
    · exact wpAny_Name (wpAny_loadName_cell I.ok.kind hk hc hcell fin) hd
    · exact wpAny_Name (wpAny_loadName_free I.ok.kind hk hc hcell fin hcd) hd
theorem pe_int {i j pos} : PE X (.Constant (.int i) j pos) (tC (.int i)) := fun _ _ _ H _ I h => wpAny_Constant_int ⟨.int i, H, I.tok _, ⟨_, rfl⟩, h⟩
theorem pe_bl {b j pos} : PE X (.Constant (.bool b) j pos) (tC (.bl b)) := fun _ _ _ H _ I h => Constant_bool ⟨.bl b, H, I, rfl, h⟩
theorem pe_non {j pos} : PE X (.Constant .none j pos) (tC .non) := fun _ _ _ H _ I h => Constant_none ⟨.non, H, I, rfl, h⟩
theorem pe_str {x j pos} : PE X (.Constant (.str x) j pos) (tC (.str x)) := fun _ _ _ H _ I h => Calls.Constant_str ⟨.str x, H, I.tok _, ⟨_, rfl⟩, h⟩

/-- a global name of the def -/
def Gl (X : Cx) (x : Str) : Prop := X.env.kindOf x = some .globalImplicit
theorem ld_glob {E : Value → Shared → Prop} {pins : List (Addr × Obj)} {s : Shared} {σ : St} {H : Hp} {x : Str} {u : Value} {pos : Pos} {Q : Value → Shared → Prop} (I : Inv X pins σ H s) (hg : Gl X x) (hm : X.mg x = some u) (h : Q u s)
    (hd : (x == ("__debug__" : Str)) = false := by decide) : wpAny (model X.prog X.w) X.A (eval (.Name x pos) X.env) Q E s :=
  Calls.Name_function_global I.ok.kind hg (Calls.loadGlobal_global (by rw [I.ok.glob]; exact I.mod.glob.keeps I.bk) hm h) hd
theorem ld_blt {E : Value → Shared → Prop} {pins : List (Addr × Obj)} {s : Shared} {σ : St} {H : Hp} {x : Str} {u : Value} {pos : Pos} {Q : Value → Shared → Prop} (I : Inv X pins σ H s) (hg : Gl X x) (hm : X.mg x = none) (hv : bootBuiltins x = some u) (h : Q u s)
    (hn : x ≠ "__name__" := by decide) (hd : (x == ("__debug__" : Str)) = false := by decide) : wpAny (model X.prog X.w) X.A (eval (.Name x pos) X.env) Q E s := by
  obtain ⟨mb, h1, h2⟩ := I.mod.blt
  exact Calls.Name_function_global I.ok.kind hg (Calls.loadGlobal_builtin (by rw [I.ok.glob]; exact I.mod.glob.keeps I.bk) hm (by rw [I.ok.blt]; exact h1.keeps I.bk) ((h2 x hn).trans hv) h) hd
/-- a module's constant, a class, a function, as a value -/
theorem pe_glob {x : Str} {v : V} {u : Value} {pos : Pos} (hg : Gl X x) (hm : X.mg x = some u) (r : RelV v u) (hd : (x == ("__debug__" : Str)) = false := by decide) : PE X (.Name x pos) (tC v) :=
  fun _ _ _ H _ I h => ld_glob I hg hm ⟨v, H, I, r, h⟩ hd
theorem pe_bltn {x : Str} {v : V} {u : Value} {pos : Pos} (hg : Gl X x) (hm : X.mg x = none) (hv : bootBuiltins x = some u) (r : RelV v u) (hn : x ≠ "__name__" := by decide) (hd : (x == ("__debug__" : Str)) = false := by decide) : PE X (.Name x pos) (tC v) :=
  fun _ _ _ H _ I h => ld_blt I hg hm hv ⟨v, H, I, r, h⟩ hn hd

/-! ### arithmetic -/
variable {a b : Expr} {ta tb : TE} {pos : Pos}
/-! ### comparisons -/
def PC (X : Cx) (op : CmpOp) (a b : Expr) (t : TE) : Prop :=
  ∀ (pins : List (Addr × Obj)) (s : Shared) (σ : St) (H : Hp) (Q : VK), Inv X pins σ H s → t σ H Q →
    wpAny (model X.prog X.w) X.A (eval a X.env) (fun v s₁ => wpAny (model X.prog X.w) X.A (eval b X.env) (fun u s₂ => wpAny (model X.prog X.w) X.A (compareOp op v u) (EP X pins σ Q) X.xe s₂) X.xe s₁) X.xe s
theorem nobehind (b : Expr) {op : CmpOp} (h : op ≠ .In) (h2 : op ≠ .NotIn) : behindInMarks op b = false := by
  have e1 : (op == CmpOp.In) = false := by cases op <;> first | rfl | exact absurd rfl h
  have e2 : (op == CmpOp.NotIn) = false := by cases op <;> first | rfl | exact absurd rfl h2
  cases b <;> simp [behindInMarks, e1, e2]
/-- is None -/
def tIsN (ta : TE) : TE := fun σ H Q => ta σ H fun x H1 => Q (.bl (decide (x = .non))) H1
def tNotN (ta : TE) : TE := fun σ H Q => ta σ H fun x H1 => Q (.bl (!decide (x = .non))) H1
theorem RelV.none_iff {x : V} {v : Value} (r : RelV x v) : (v == Value.none) = decide (x = .non) := by
  cases x with
  | non => cases r; rfl
  | bl _ => cases r; rfl
  | int _ => obtain ⟨t, rfl⟩ := r; rfl
  | str _ => obtain ⟨t, rfl⟩ := r; rfl
  | byt _ => obtain ⟨t, rfl⟩ := r; rfl
  | flt _ => obtain ⟨t, rfl⟩ := r; rfl
  | ref _ => cases r; rfl
  | ty _ => cases r; rfl
theorem pc_isN {j pos'} (ha : PE X a ta) : PC X .Is a (.Constant .none j pos') (tIsN ta) := by
  intro pins s σ H Q I h
  refine thn (ha pins s σ H _ I h) fun v s1 ⟨x, H1, I1, r1, q1⟩ => ?_
  exact Constant_none (is_none_gen ⟨.bl _, H1, I1, by rw [r1.none_iff]; rfl, q1⟩)
theorem pc_notN {j pos'} (ha : PE X a ta) : PC X .IsNot a (.Constant .none j pos') (tNotN ta) := by
  intro pins s σ H Q I h
  refine thn (ha pins s σ H _ I h) fun v s1 ⟨x, H1, I1, r1, q1⟩ => ?_
  exact Constant_none (isnot_none_gen ⟨.bl _, H1, I1, by rw [r1.none_iff]; rfl, q1⟩)
/-- a comparison as a value, as a test -/
def tB (t : TE) : TT := fun σ H Q => t σ H fun x H1 => ∃ c, x = .bl c ∧ Q c H1
theorem pe_cmp {op : CmpOp} {t : TE} (h : PC X op a b t) (h1 : behindInMarks op b = false := by first | exact nobehind _ (by decide) (by decide) | rfl) : PE X (.Compare a [op] [b] pos) t := fun pins s σ H Q I hw => wpAny_Compare1 (h pins s σ H Q I hw) h1
theorem pt_cmp {op : CmpOp} {t : TE} (h : PC X op a b t) (h1 : behindInMarks op b = false := by first | exact nobehind _ (by decide) (by decide) | rfl) : PT X (.Compare a [op] [b] pos) (tB t) := by
  intro pins s σ H Q I hw
  refine wpAny_isTrue_Compare1 (thn (h pins s σ H _ I hw) fun v s1 h1 => thn h1 fun u s2 h2 => thn h2 fun c s3 ⟨x, H1, I1, r1, q1⟩ => ?_) h1
  obtain ⟨d, rfl, q⟩ := q1
  cases r1
  exact wpAny_truthy_bool ⟨H1, I1, q⟩
/-- an expression whose value is a bool, as a test -/
theorem pt_val {e : Expr} {t : TE} (h : PE X e t) (he : ∀ whole, isTrue e X.env whole = (do let v ← whole; standAt e.pos; holding [v] (truthy v)) := by intro _; rfl) : PT X e (tB t) := by
  intro pins s σ H Q I hw
  refine isTrue_plain (thn (h pins s σ H _ I hw) fun v s1 ⟨x, H1, I1, r1, q1⟩ => ?_) (he _)
  obtain ⟨d, rfl, q⟩ := q1
  cases r1
  exact wpAny_truthy_bool ⟨H1, I1, q⟩

/-! ### and, or, not -/
variable {tA tB' : TT} {rest : List Expr}
def tAnd (t u : TT) : TT := fun σ H Q => t σ H fun c H1 => if c = true then u σ H1 Q else Q false H1
def tOr (t u : TT) : TT := fun σ H Q => t σ H fun c H1 => if c = true then Q true H1 else u σ H1 Q
def tNot (t : TT) : TT := fun σ H Q => t σ H fun c H1 => Q (!c) H1
theorem pw_and1 (ha : PT X a tA) : PW X (.BoolOp .And [a] pos) tA := by
  intro wh pins s σ H Q I h
  refine isTrue_and (thn (ha pins s σ H Q I h) fun c s1 e => ?_)
  cases c with
  | true => exact isTrue_and_nil e
  | false => exact e
theorem pw_or1 (ha : PT X a tA) : PW X (.BoolOp .Or [a] pos) tA := by
  intro wh pins s σ H Q I h
  refine isTrue_or (thn (ha pins s σ H Q I h) fun c s1 e => ?_)
  cases c with
  | false => exact isTrue_or_nil e
  | true => exact e
theorem pw_and (ha : PT X a tA) (hb : PW X (.BoolOp .And (b :: rest) pos) tB') : PW X (.BoolOp .And (a :: b :: rest) pos) (tAnd tA tB') := by
  intro wh pins s σ H Q I h
  refine isTrue_and (thn (ha pins s σ H _ I h) fun c s1 ⟨H1, I1, q1⟩ => ?_)
  cases c with
  | true => exact hb wh pins s1 σ H1 Q I1 q1
  | false => exact ⟨H1, I1, q1⟩
theorem pw_or (ha : PT X a tA) (hb : PW X (.BoolOp .Or (b :: rest) pos) tB') : PW X (.BoolOp .Or (a :: b :: rest) pos) (tOr tA tB') := by
  intro wh pins s σ H Q I h
  refine isTrue_or (thn (ha pins s σ H _ I h) fun c s1 ⟨H1, I1, q1⟩ => ?_)
  cases c with
  | true => exact ⟨H1, I1, q1⟩
  | false => exact hb wh pins s1 σ H1 Q I1 q1
theorem pt_not (ha : PT X a tA) : PT X (.UnaryOp .Not a pos) (tNot tA) := by
  intro pins s σ H Q I h
  exact isTrue_not (ha pins s σ H (fun c H1 => Q (!c) H1) I h)
/-- .. as values (bools) -/
def tAndV (ta tb : TE) : TE := fun σ H Q => ta σ H fun x H1 => ∃ c, x = .bl c ∧ if c = true then tb σ H1 Q else Q (.bl false) H1
def tNotV (ta : TE) : TE := fun σ H Q => ta σ H fun x H1 => ∃ c, x = .bl c ∧ Q (.bl (!c)) H1
theorem pe_one {op} {t : TE} (h : PE X a t) : PE X (.BoolOp op [a] pos) t := fun pins s σ H Q I hw => BoolOp_one (h pins s σ H Q I hw)
theorem pe_and (ha : PE X a ta) (hb : PE X (.BoolOp .And (b :: rest) pos) tb) : PE X (.BoolOp .And (a :: b :: rest) pos) (tAndV ta tb) := by
  intro pins s σ H Q I h
  refine BoolOp_and (thn (ha pins s σ H _ I h) fun v s1 ⟨x, H1, I1, r1, q1⟩ => ?_)
  obtain ⟨c, rfl, q1⟩ := q1
  cases r1
  refine wpAny_truthy_bool ?_
  cases c with
  | true => exact hb pins s1 σ H1 Q I1 q1
  | false => exact ⟨.bl false, H1, I1, rfl, q1⟩
theorem pe_not (ha : PE X a ta) : PE X (.UnaryOp .Not a pos) (tNotV ta) := by
  intro pins s σ H Q I h
  refine UnaryOp_ (thn (ha pins s σ H _ I h) fun v s1 ⟨x, H1, I1, r1, q1⟩ => ?_)
  obtain ⟨c, rfl, q1⟩ := q1
  cases r1
  exact not_of (wpAny_truthy_bool ⟨.bl (!c), H1, I1, rfl, q1⟩)
/-- a if t else b -/
def tIf (t : TT) (ta tb : TE) : TE := fun σ H Q => t σ H fun c H1 => if c = true then ta σ H1 Q else tb σ H1 Q
theorem pe_ifExp {c : Expr} (hc : PT X c tA) (ha : PE X a ta) (hb : PE X b tb) : PE X (.IfExp c a b pos) (tIf tA ta tb) := by
  intro pins s σ H Q I h
  refine wpAny_IfExp (thn (hc pins s σ H _ I h) fun d s1 ⟨H1, I1, q1⟩ => ?_)
  cases d with
  | true => exact ha pins s1 σ H1 Q I1 q1
  | false => exact hb pins s1 σ H1 Q I1 q1
end
end L2

namespace L2
open PySem PySem.Spec PyProof.Rows

/-! ### a list, a tuple that is read: tracked, frozen, or an object of the module -/
def SqL (K : PySem.W.Frag) (H : Hp) (a : Addr) (xs : List V) : Prop :=
  Rd H a (.lst xs) ∨
    ∃ (o : Obj) (its : Array Value) (n : Nat), K.lookup a = some o ∧ o.cls = .type "list" ∧ o.dict = none ∧ o.data = .seq its n ∧ its.size ≤ sizeLine ∧ Vals xs its.toList
def SqT (K : PySem.W.Frag) (H : Hp) (a : Addr) (xs : List V) : Prop :=
  Rd H a (.tup xs) ∨
    ∃ (o : Obj) (its : Array Value) (n : Nat), K.lookup a = some o ∧ o.cls = .type "tuple" ∧ o.data = .seq its n ∧ its.size ≤ sizeLine ∧ Vals xs its.toList
def absV : Value → Option V
  | .none => some .non
  | .bool b => some (.bl b)
  | .int i _ => some (.int i)
  | .str x _ => some (.str x)
  | .bytes b _ => some (.byt b)
  | .float b _ => some (.flt b)
  | .ref a => some (.ref a)
  | .type n => some (.ty n)
  | _ => none
theorem RelV.abs {x : V} {u : Value} (r : RelV x u) : absV u = some x := by
  cases x with
  | non => cases r; rfl
  | bl _ => cases r; rfl
  | int _ => obtain ⟨t, rfl⟩ := r; rfl
  | str _ => obtain ⟨t, rfl⟩ := r; rfl
  | byt _ => obtain ⟨t, rfl⟩ := r; rfl
  | flt _ => obtain ⟨t, rfl⟩ := r; rfl
  | ref _ => cases r; rfl
  | ty _ => cases r; rfl
theorem RelV.inj {x y : V} {u : Value} (r : RelV x u) (q : RelV y u) : x = y := Option.some.inj (r.abs.symm.trans q.abs)
theorem Vals.inj : ∀ {xs ys : List V} {us : List Value}, Vals xs us → Vals ys us → xs = ys
  | _, _, _, .nil, .nil => rfl
  | _, _, _, .cons r t, .cons r' t' => by rw [r.inj r', Vals.inj t t']
section
variable {X : Cx} {pins : List (Addr × Obj)} {σ : St} {H : Hp} {s : Shared} {a : Addr} {xs ys : List V}
theorem SqL.of {K : PySem.W.Frag} (h : H a = some (.lst xs)) : SqL K H a xs := .inl (.inl h)
theorem SqT.of {K : PySem.W.Frag} (h : H a = some (.tup xs)) : SqT K H a xs := .inl (.inl h)
theorem Inv.list (I : Inv X pins σ H s) (h : SqL X.K H a xs) : ∃ its : List Value, Vals xs its ∧ PlainL s.heap a its.toArray ∧ xs.length ≤ sizeLine := by
  rcases h with h | ⟨o, its, n, hk, hc, hd, hs, hz, r⟩
  · obtain ⟨z, its, n, r, e⟩ := h.ok I.hok
    exact ⟨its, r, ⟨_, n, e, rfl, rfl, rfl⟩, z⟩
  · refine ⟨its.toList, r, ⟨o, n, I.kIn a o hk, hc, hd, by simpa using hs⟩, ?_⟩
    have e := r.length
    simp only [Array.length_toList] at e
    omega
theorem Inv.tuple (I : Inv X pins σ H s) (h : SqT X.K H a xs) : ∃ its : List Value, Vals xs its ∧ IsTup s.heap a its.toArray ∧ xs.length ≤ sizeLine := by
  rcases h with h | ⟨o, its, n, hk, hc, hs, hz, r⟩
  · obtain ⟨z, its, r, p⟩ := h.ok I.hok
    exact ⟨its, r, p, z⟩
  · refine ⟨its.toList, r, ⟨o, I.kIn a o hk, hc, n, by simpa using hs⟩, ?_⟩
    have e := r.length
    simp only [Array.length_toList] at e
    omega
theorem Inv.list_inj (I : Inv X pins σ H s) (h : SqL X.K H a xs) (h' : SqL X.K H a ys) : xs = ys := by
  obtain ⟨its, r, ⟨o, n, e, _, _, d⟩, _⟩ := I.list h
  obtain ⟨its', r', ⟨o', n', e', _, _, d'⟩, _⟩ := I.list h'
  rw [e] at e'; cases e'
  rw [d] at d'
  injection d' with d1 _
  have : its = its' := by simpa using congrArg Array.toList d1
  subst this
  exact r.inj r'
theorem Inv.tuple_inj (I : Inv X pins σ H s) (h : SqT X.K H a xs) (h' : SqT X.K H a ys) : xs = ys := by
  obtain ⟨its, r, ⟨o, e, _, n, d⟩, _⟩ := I.tuple h
  obtain ⟨its', r', ⟨o', e', _, n', d'⟩, _⟩ := I.tuple h'
  rw [e] at e'; cases e'
  rw [d] at d'
  injection d' with d1 _
  have : its = its' := by simpa using congrArg Array.toList d1
  subst this
  exact r.inj r'
end

/-! ### another wish about exceptions -/
abbrev Cx.wish (X : Cx) (E : Value → Shared → Prop) : Cx := { X with xe := E }
/-- no exception leaves -/
abbrev Cx.nox (X : Cx) : Cx := X.wish fun _ _ => False
theorem Cx.Ok.wish {X : Cx} (ok : X.Ok) (E : Value → Shared → Prop) : (X.wish E).Ok :=
  ⟨ok.mod, ok.kind, ok.glob, ok.blt, ok.above, ok.inj, ok.has, ok.cab, ok.hd, ok.frames, ok.stk, ok.exf, ok.bs, ok.bsz, ok.noex, ok.exfs, ok.funs, ok.frf⟩
theorem Cx.Ok.unwish {X : Cx} {E : Value → Shared → Prop} (ok : (X.wish E).Ok) : X.Ok :=
  ⟨ok.mod, ok.kind, ok.glob, ok.blt, ok.above, ok.inj, ok.has, ok.cab, ok.hd, ok.frames, ok.stk, ok.exf, ok.bs, ok.bsz, ok.noex, ok.exfs, ok.funs, ok.frf⟩
section
variable {X : Cx} {pins : List (Addr × Obj)} {σ : St} {H : Hp} {s : Shared} {E : Value → Shared → Prop}
theorem Inv.wish (I : Inv X pins σ H s) (E : Value → Shared → Prop) : Inv (X.wish E) pins σ H s := ⟨I.ok.wish E, I.os, I.bare, I.base, I.loc, I.cell, I.free, I.freeC, I.pin, I.hok, I.len⟩
theorem Inv.unwish (I : Inv (X.wish E) pins σ H s) : Inv X pins σ H s := ⟨I.ok.unwish, I.os, I.bare, I.base, I.loc, I.cell, I.free, I.freeC, I.pin, I.hok, I.len⟩
theorem SP.unwish {D : Ends} {f : Flow} {s' : Shared} (h : SP (X.wish E) pins D f s') : SP X pins D f s' := by
  cases f with
  | next => obtain ⟨σ', H', I, q⟩ := h; exact ⟨σ', H', I.unwish, q⟩
  | brk => obtain ⟨σ', H', I, q⟩ := h; exact ⟨σ', H', I.unwish, q⟩
  | cont => obtain ⟨σ', H', I, q⟩ := h; exact ⟨σ', H', I.unwish, q⟩
  | ret u => obtain ⟨v, σ', H', I, r, q⟩ := h; exact ⟨v, σ', H', I.unwish, r, q⟩
theorem PE.nox {e : Expr} {t : TE} (h : PE X.nox e t) : PE X e t := fun pins s σ H Q I hw =>
  wpAny_mono (h pins s σ H Q (I.wish _) hw) (fun _ _ ⟨v, H', I', r, q⟩ => ⟨v, H', I'.unwish, r, q⟩) fun _ _ z => False.elim z
theorem PT.nox {e : Expr} {t : TT} (h : PT X.nox e t) : PT X e t := fun pins s σ H Q I hw =>
  wpAny_mono (h pins s σ H Q (I.wish _) hw) (fun _ _ ⟨H', I', q⟩ => ⟨H', I'.unwish, q⟩) fun _ _ z => False.elim z
theorem PSs.nox {st : List Stmt} {t : TS} (h : PSs X.nox st t) : PSs X st t := fun pins s σ H D I hw =>
  wpAny_mono (h pins s σ H D (I.wish _) hw) (fun _ _ q => q.unwish) fun _ _ z => False.elim z
end

/-! ### blocks and small statements -/
section
variable {X : Cx} {st : Stmt} {rest : List Stmt} {t u : TS} {e : Expr} {te : TE} {pos : Pos}
def tNext : TS := fun D σ H => D.nx σ H
def tSeq (t u : TS) : TS := fun D σ H => t { D with nx := u D } σ H
theorem pss_nil : PSs X [] tNext := fun _ _ σ H _ I h => wpAny_execs_nil ⟨σ, H, I, h⟩
theorem pss_cons (h1 : PS X st t) (h2 : PSs X rest u) : PSs X (st :: rest) (tSeq t u) := by
  intro pins s σ H D I h
  refine wpAny_execs_cons (thn (h1 pins s σ H { D with nx := u D } I h) fun f s1 q => ?_)
  cases f with
  | next =>
    obtain ⟨σ', H', I', q⟩ := q
    exact h2 pins s1 σ' H' D I' q
  | ret v => exact q
  | brk => exact q
  | cont => exact q
theorem pss_one (h1 : PS X st t) : PSs X [st] t := by
  intro pins s σ H D I h
  refine wpAny_execs_cons (thn (h1 pins s σ H D I h) fun f s1 q => ?_)
  cases f with
  | next => exact wpAny_execs_nil q
  | ret v => exact q
  | brk => exact q
  | cont => exact q
/-- in a def's body nothing is shown -/
theorem Inv.quiet {pins : List (Addr × Obj)} {σ : St} {H : Hp} {s : Shared} (I : Inv X pins σ H s) : interactive X.env = false := by simp [interactive, I.ok.kind]
/-- an expression whose value is dropped -/
def tDrop (te : TE) : TS := fun D σ H => te σ H fun _ H1 => D.nx σ H1
theorem ps_expr (he : PE X e te) (hs : swapsWith e none pos.line X.env = pure false := by rfl) : PS X (.Expr e pos) (tDrop te) := by
  intro pins s σ H D I h
  exact wpAny_Expr_any (thn (he pins s σ H _ I h) fun v s1 ⟨x, H1, I1, r1, q1⟩ => ⟨σ, H1, I1, q1⟩) I.quiet hs
def tRet (te : TE) : TS := fun D σ H => te σ H D.rt
theorem ps_ret (he : PE X e te) : PS X (.Return (some e) pos) (tRet te) := by
  intro pins s σ H D I h
  exact wpAny_Return_some (thn (he pins s σ H _ I h) fun v s1 ⟨x, H1, I1, r1, q1⟩ => ⟨x, σ, H1, I1, r1, q1⟩)
def tIfS (c : TT) (t u : TS) : TS := fun D σ H => c σ H fun b H1 => if b = true then t D σ H1 else u D σ H1
theorem ps_if {c : Expr} {a b : List Stmt} {tc : TT} (hc : PT X c tc) (ha : PSs X a t) (hb : PSs X b u) : PS X (.If c a b pos) (tIfS tc t u) := by
  intro pins s σ H D I h
  refine wpAny_If (thn (hc pins s σ H _ I h) fun d s1 ⟨H1, I1, q1⟩ => ?_)
  cases d with
  | true => exact ha pins s1 σ H1 D I1 q1
  | false => exact hb pins s1 σ H1 D I1 q1
/-- code that the proof never comes to -/
def tNever : TS := fun _ _ _ => False
theorem pss_never {sts : List Stmt} : PSs X sts tNever := fun _ _ _ _ _ _ h => h.elim
end

/-! ### targets -/
abbrev TG := V → St → Hp → (St → Hp → Prop) → Prop
abbrev TGs := List V → St → Hp → (St → Hp → Prop) → Prop
def PG (X : Cx) (target : Expr) (t : TG) : Prop :=
  ∀ (pins : List (Addr × Obj)) (s : Shared) (σ : St) (H : Hp) (v : V) (u : Value) (Q : St → Hp → Prop), Inv X pins σ H s → RelV v u → t v σ H Q →
    wpAny (model X.prog X.w) X.A (assign target X.env u) (fun _ s' => ∃ σ' H', Inv X pins σ' H' s' ∧ Q σ' H') X.xe s
/-- several targets, one after another -/
def PGs (X : Cx) (ts : List Expr) (t : TGs) : Prop :=
  ∀ (pins : List (Addr × Obj)) (s : Shared) (σ : St) (H : Hp) (vs : List V) (us : List Value) (Q : St → Hp → Prop), Inv X pins σ H s → Vals vs us → t vs σ H Q →
    wpAny (model X.prog X.w) X.A (assignInOrder ((assignEach ts X.env).map (·.2)) us) (fun _ s' => ∃ σ' H', Inv X pins σ' H' s' ∧ Q σ' H') X.xe s
section
variable {X : Cx} {pos : Pos}
def gName (i : Nat) : TG := fun v σ H Q => Q (σ.set i (some v)) H
theorem pg_name {i : Nat} {x : Str} (hN : X.N.Nodup) (hi : X.N[i]? = some x) (hx : Loc X.env.scope x) (hf : X.fn x = true ∨ X.env.scope.names.lookup x = some .local := by first | exact .inl rfl | exact .inr rfl | assumption) : PG X (.Name x pos) (gName i) := by
  intro pins s σ H v u Q I r h
  exact wpAny_assign_Name (store_ok I hN hi hx r (fun s' I' => ⟨_, H, I', h⟩) hf)
def gNil : TGs := fun vs σ H Q => vs = [] ∧ Q σ H
def gCons (t : TG) (u : TGs) : TGs := fun vs σ H Q => ∃ v r, vs = v :: r ∧ t v σ H fun σ' H' => u r σ' H' Q
theorem pgs_nil : PGs X [] gNil := by
  intro pins s σ H vs us Q I r h
  obtain ⟨e, h⟩ := h
  subst e
  cases r
  exact assignInOrder_nil ⟨σ, H, I, h⟩
theorem pgs_cons {e : Expr} {es : List Expr} {t : TG} {u : TGs} (h1 : PG X e t) (h2 : PGs X es u)
    (hs : (assignEach (e :: es) X.env).map (·.2) = assign e X.env :: (assignEach es X.env).map (·.2) := by rfl) : PGs X (e :: es) (gCons t u) := by
  intro pins s σ H vs us Q I r h
  obtain ⟨v, vr, e1, h⟩ := h
  subst e1
  cases r with
  | cons r rr =>
    rw [hs]
    refine assignInOrder_cons (thn (h1 pins s σ H _ _ _ I r h) fun _ s1 ⟨σ1, H1, I1, q1⟩ => ?_)
    exact h2 pins s1 σ1 H1 _ _ Q I1 rr q1
/-- (a, b, ..) = a tuple of that length -/
def gTup (K : PySem.W.Frag) (n : Nat) (t : TGs) : TG := fun v σ H Q => ∃ a xs, v = .ref a ∧ SqT K H a xs ∧ xs.length = n ∧ t xs σ H Q
theorem pg_tup {es : List Expr} {k : Nat} {t : TGs} {n : Nat} (hc : X.calm = true) (h : PGs X es t)
    (hn : (assignEach es X.env).length = n := by rfl) (hst : (assignEach es X.env).findIdx? (·.1) = none := by rfl) : PG X (.Tuple es k pos) (gTup X.K n t) := by
  intro pins s σ H v u Q I r hw
  obtain ⟨a, xs, e1, hq, hl, hw⟩ := hw
  subst e1
  cases r
  obtain ⟨its, rv, ht, hz⟩ := I.tuple hq
  refine assign_Tuple_tuple (I.ok.hd hc) ht (by simp [hn, ← hl, rv.length]) hst fun h' hx => ?_
  have I1 : Inv X pins σ H { s with heap := h' } := I.kept (t' := s.toks) fun b o e => hx b o (Nat.ne_of_lt (Heap.lt_size e)) e
  exact h pins _ σ H xs _ Q I1 (by simpa using rv) hw
/-- target = value -/
def tAsg (te : TE) (g : TG) : TS := fun D σ H => te σ H fun x H1 => g x σ H1 D.nx
/-- name = value -/
theorem ps_set {i : Nat} {x : Str} {e : Expr} {te : TE} {pos' : Pos} (hN : X.N.Nodup) (hi : X.N[i]? = some x) (hx : Loc X.env.scope x) (he : PE X e te) (hs : swapsWith e (some (.Name x pos')) pos.line X.env = pure false := by rfl) (hf : X.fn x = true ∨ X.env.scope.names.lookup x = some .local := by first | exact .inl rfl | exact .inr rfl | assumption) :
    PS X (.Assign [.Name x pos'] e pos) (tAsg te (gName i)) := by
  intro pins s σ H D I h
  refine wpAny_Assign_Name (thn (he pins s σ H _ I h) fun v s1 ⟨y, H1, I1, r1, q1⟩ => ?_) hs
  exact store_ok I1 hN hi hx r1 (fun s2 I2 => ⟨_, H1, I2, q1⟩) hf
/-- a, b = x, y with plain local names: stored from the right; the pair itself is not tracked (the opening rows as in PyProof/Rows/TupAssign.lean:23) -/
def tPar (i j : Nat) (ta : TA) : TS := fun D σ H => ta σ H fun vs H1 => ∃ v w, vs = [v, w] ∧ D.nx ((σ.set i (some v)).set j (some w)) H1
theorem ps_par {i j : Nat} {x y : Str} {a b : Expr} {ta : TA} {px py pt : Pos} {kt k2 pt2} (hc : X.calm = true) (hN : X.N.Nodup) (hi : X.N[i]? = some x) (hj : X.N[j]? = some y) (hij : i ≠ j)
    (hx : X.env.scope.names.lookup x = some .local) (hy : X.env.scope.names.lookup y = some .local) (ha : PA X [a, b] ta)
    (hw : swappedStores [.Tuple [.Name x px, .Name y py] kt pt] (.Tuple [a, b] k2 pt2) X.env = pure (some [x, y]))
    (hs : swapsWithSole [.Tuple [.Name x px, .Name y py] kt pt] (.Tuple [a, b] k2 pt2) pos.line X.env = pure false := by rfl) :
    PS X (.Assign [.Tuple [.Name x px, .Name y py] kt pt] (.Tuple [a, b] k2 pt2) pos) (tPar i j ta) := by
  intro pins s σ H D I h
  rw [exec_Assign_arm]
  refine wpAny_bind (wpAny_standAt ?_)
  rw [hs]
  refine wpAny_bind (wpAny_pure ?_)
  rw [if_neg (by decide)]
  refine wpAny_bind (Tuple_ (thn (ha _ pins s σ H _ I h) fun us s1 ⟨vs, H1, I1, r1, q1⟩ => ?_))
  obtain ⟨v, w, e1, q1⟩ := q1
  subst e1
  obtain ⟨u1, u2, rfl, rv, rw'⟩ : ∃ u1 u2, us = [u1, u2] ∧ RelV v u1 ∧ RelV w u2 := by
    cases r1 with
    | cons p q =>
      cases q with
      | cons p' q' =>
        cases q'
        exact ⟨_, _, rfl, p, p'⟩
  refine wpAny_newObj_type ?_ (by show 2 ≤ sizeLine; decide)
  have I2 : Inv X pins σ H1 { s1 with heap := s1.heap.push { cls := .type "tuple", data := .seq [u1, u2].toArray } } := I1.kept (t' := s1.toks) fun b o e => Heap.get?_push_of_some _ e
  rw [hw]
  refine wpAny_bind (wpAny_pure ?_)
  show wpAny (model X.prog X.w) X.A (do rule "assign.swapped-stores"; let items ← unpackItems (.ref s1.heap.objs.size) 2 none; assignInOrder [fun v => bindName X.env y v, fun v => bindName X.env x v] items.reverse; pure Flow.next) _ _ _
  refine wpAny_bind (wpAny_rule (wpAny_bind (unpackItems_tuple (items := #[u1, u2]) (I.ok.hd hc) (IsTup.new s1.heap _) fun h' hx' => ?_)))
  have I3 := I2.kept (h' := h') (t' := s1.toks) fun b o e => hx' b o (Nat.ne_of_lt (Heap.lt_size e)) e
  show wpAny _ _ (assignInOrder [fun v => bindName X.env y v, fun v => bindName X.env x v] [u2, u1] >>= fun _ => pure Flow.next) _ _ _
  refine wpAny_bind (assignInOrder_cons (wpAny_bindName (store_ok I3 hN hj (.inl hy) rw' (fun s2 I4 => ?_) (.inr hy))))
  refine assignInOrder_cons (wpAny_bindName (store_ok I4 hN hi (.inl hx) rv (fun s3 I5 => assignInOrder_nil (wpAny_pure ?_)) (.inr hx)))
  rw [List.set_comm _ _ (Ne.symm hij)] at I5
  exact ⟨_, H1, I5, q1⟩
end

/-! ### while -/
section
variable {X : Cx} {pos : Pos}
/-- the invariant W with its measure -/
def tWhile (c : TT) (tb : TS) : TS := fun D σ H => ∃ W : Nat → St → Hp → Prop, (∃ m, W m σ H) ∧ ∀ m σ H, W m σ H →
  c σ H fun b H1 => if b = true then ∃ N : St → Hp → Prop, (∀ σ' H', N σ' H' → ∃ m', m' < m ∧ W m' σ' H') ∧ tb { D with nx := N, ct := N, bk := D.nx } σ H1 else D.nx σ H1
theorem ps_while {c : Expr} {body : List Stmt} {tc : TT} {tb : TS} (hp : PassesOwn (model X.prog X.w) X.A X.env X.xe) (hc : PT X c tc) (hb : PSs X body tb) : PS X (.While c body [] pos) (tWhile tc tb) := by
  intro pins s σ H D I h
  obtain ⟨W, ⟨m0, w0⟩, turn⟩ := h
  refine wpAny_While (codeAny_whileLoop (fun n s' => ∃ σ' H', Inv X pins σ' H' s' ∧ W n σ' H') ?_ m0 ⟨σ, H, I, w0⟩)
  rintro n s1 ⟨σ1, H1, I1, w1⟩
  refine wpAny_passesOwn hp (thn (hc pins s1 σ1 H1 _ I1 (turn n σ1 H1 w1)) fun b s2 ⟨H2, I2, q2⟩ => ?_)
  cases b with
  | true =>
    obtain ⟨N, hN, q2⟩ := q2
    rw [if_pos rfl]
    refine wpAny_passesOwn hp (thn (hb pins s2 σ1 H2 _ I2 q2) fun f s3 q3 => ?_)
    cases f with
    | next =>
      obtain ⟨σ3, H3, I3, n3⟩ := q3
      obtain ⟨m', hm, w3⟩ := hN σ3 H3 n3
      exact ⟨m', hm, σ3, H3, I3, w3⟩
    | cont =>
      obtain ⟨σ3, H3, I3, n3⟩ := q3
      obtain ⟨m', hm, w3⟩ := hN σ3 H3 n3
      exact ⟨m', hm, σ3, H3, I3, w3⟩
    | brk => exact q3
    | ret v => exact q3
  | false =>
    rw [if_neg Bool.false_ne_true]
    exact wpAny_execs_nil ⟨σ1, H2, I2, q2⟩
end

/-! ### what a loop or a comprehension walks -/
/-- at turn i: it yields x (the heap may grow), or it stops -/
structure It where
  go : Nat → Hp → Prop
  yld : Nat → Hp → V → Hp → Prop
  stop : Nat → Hp → Prop
/-- the iterator's own objects may turn: they are not the frame's, not pinned, younger than the entry (or a comprehension's own) -/
def FpOk (X : Cx) (pins : List (Addr × Obj)) (H : Hp) (b : Addr) : Prop :=
  H b = none ∧ b ≠ X.env.locals ∧ b ∉ X.fs ∧ (b ∈ X.ex ∨ X.s₀.heap.objs.size ≤ b) ∧ (∀ x c, X.env.cells.lookup x = some c → c ≠ b) ∧ ∀ p ∈ X.pn ++ pins, p.1 ≠ b
theorem Inv.fpOk {X : Cx} {pins : List (Addr × Obj)} {σ : St} {H H' : Hp} {s : Shared} {b : Addr} (I : Inv X pins σ H s) (hb : s.heap.objs.size ≤ b) (hn : H' b = none) : FpOk X pins H' b := by
  refine ⟨hn, Nat.ne_of_gt (Nat.lt_of_lt_of_le I.lt hb), I.nofs hb, .inr (Nat.le_trans I.sz hb), fun x c e z => ?_, fun p hp z => ?_⟩
  · obtain ⟨v, q⟩ := I.cell x c e
    exact absurd (Nat.lt_of_lt_of_le q.lt (by rw [z]; exact hb)) (Nat.lt_irrefl _)
  · exact absurd (Nat.lt_of_lt_of_le (Heap.lt_size (I.pin p hp).1) (by rw [z]; exact hb)) (Nat.lt_irrefl _)
structure Turn (P : Program) (w : World) (K : PySem.W.Frag) (tg : Expr) (J : It) (fp : List Addr) (it : Addr) (tn : Nat → Heap → Prop) : Prop where
  mem : it ∈ fp
  obj : ∀ i h, tn i h → ∀ b ∈ fp, ∃ o, h.get? b = some o ∧ ∀ v, o.data ≠ .cell v
  keep : ∀ i h h', tn i h → (∀ b ∈ fp, ∀ o, h.get? b = some o → h'.get? b = some o) → tn i h'
  item : ∀ (X : Cx), X.prog = P → X.w = w → X.K = K → X.calm = true → ∀ (i : Nat) (pins : List (Addr × Obj)) (s : Shared) (σ : St) (H : Hp) (E : Value → Shared → Prop), Inv X pins σ H s → (∀ b ∈ fp, FpOk X pins H b) → tn i s.heap → J.go i H →
    wpAny (model P w) X.A (pyNext (.ref it)) (fun r s1 => ∃ u, r = some u ∧
      wpAny (model P w) X.A (letOwnedTupleGo tg (.ref it) u) (fun _ s2 => ∃ x H', Inv X pins σ H' s2 ∧ RelV x u ∧ J.yld i H x H' ∧ tn (i + 1) s2.heap ∧ ∀ b ∈ fp, H' b = none) E s1) E s
  done : ∀ (X : Cx), X.prog = P → X.w = w → X.K = K → X.calm = true → ∀ (i : Nat) (pins : List (Addr × Obj)) (s : Shared) (σ : St) (H : Hp) (E : Value → Shared → Prop), Inv X pins σ H s → (∀ b ∈ fp, FpOk X pins H b) → tn i s.heap → J.stop i H →
    wpAny (model P w) X.A (pyNext (.ref it)) (fun r s1 => r = none ∧ Inv X pins σ H s1) E s
  self : ∀ (A : Around) (i : Nat) (s : Shared) (Q : Value → Shared → Prop) (E : Value → Shared → Prop), tn i s.heap → Q (.ref it) s → wpAny (model P w) A (pyIter (.ref it)) Q E s
abbrev TI := St → Hp → (It → Hp → Prop) → Prop
/-- an iterator has come -/
def PIE (X : Cx) (pins : List (Addr × Obj)) (σ : St) (tg : Expr) (R : It → Hp → Prop) (itv : Value) (s2 : Shared) : Prop :=
  ∃ (it : Addr) (fp : List Addr) (tn : Nat → Heap → Prop) (J : It) (H' : Hp), itv = .ref it ∧ Inv X pins σ H' s2 ∧ Turn X.prog X.w X.K tg J fp it tn ∧ tn 0 s2.heap ∧ (∀ b ∈ fp, FpOk X pins H' b) ∧ R J H'
def PI (X : Cx) (tg iter : Expr) (wi : TI) : Prop :=
  ∀ (pins : List (Addr × Obj)) (s : Shared) (σ : St) (H : Hp) (R : It → Hp → Prop), Inv X pins σ H s → wi σ H R →
    wpAny (model X.prog X.w) X.A (eval iter X.env) (fun v s1 => wpAny (model X.prog X.w) X.A (pyIter v) (PIE X pins σ tg R) X.xe s1) X.xe s

/-- the step ahead of the store is nothing for an iterator that keeps no tuple -/
theorem go_of {M : Model} {A : Around} {E : Value → Shared → Prop} {s : Shared} {tg : Expr} {it : Addr} {u : Value} {o : Obj} {n : String} {vs : Array Value} {Q : Unit → Shared → Prop} (ho : s.heap.get? it = some o) (hc : o.cls = .type n) (hd : o.data = .fields vs)
    (hn : ["enumerate", "zip", "dict_itemiterator", "dict_reverseitemiterator", "odict_iterator", "itertools.zip_longest", "itertools.pairwise"].contains n = false) (hQ : Q () s) : wpAny M A (letOwnedTupleGo tg (.ref it) u) Q E s := by
  unfold letOwnedTupleGo
  cases tg <;> first
    | exact wpAny_pure hQ
    | (cases u <;> first
        | exact wpAny_pure hQ
        | (refine wpAny_bind (wpAny_load ho ?_)
           rw [hc, hd]
           show wpAny M A (if (["enumerate", "zip", "dict_itemiterator", "dict_reverseitemiterator", "odict_iterator", "itertools.zip_longest", "itertools.pairwise"].contains n && vs[0]? == some (rawInt _)) = true then _ else _) Q E s
           rw [if_neg (by intro h; rw [hn, Bool.false_and] at h; cases h)]
           exact wpAny_pure hQ))

/-- the list at a, as it stands at each turn (a loop may append to it) -/
def Itl (K : PySem.W.Frag) (a : Addr) : It :=
  ⟨fun i H => ∃ xs x, SqL K H a xs ∧ xs[i]? = some x, fun i H x H' => H' = H ∧ ∀ xs, SqL K H a xs → xs[i]? = some x, fun i H => ∃ xs, SqL K H a xs ∧ xs.length ≤ i⟩
/-- lo, lo + 1, .. (n of them) -/
def Itr (lo : Int) (n : Nat) : It := ⟨fun i _ => i < n, fun i H x H' => H' = H ∧ x = .int (lo + i), fun i _ => n ≤ i⟩
theorem turn_list {P : Program} {w : World} {K : PySem.W.Frag} {tg : Expr} (a it : Addr) : Turn P w K tg (Itl K a) [it] it (fun i h => h.IsListIter it a i) where
  mem := by simp
  obj := fun i h st b hb => by
    have e : b = it := by simpa using hb
    subst e
    obtain ⟨o, e, c, d⟩ := st
    exact ⟨o, e, fun v z => by rw [d] at z; cases z⟩
  keep := fun i h h' st k => st.at fun o e => k it (by simp) o e
  item := by
    intro X hP hw hK hc i pins s σ H E I hf st hg
    subst hP hw hK
    obtain ⟨xs, x, hq, hx⟩ := hg
    obtain ⟨its, rv, p, hz⟩ := I.list hq
    obtain ⟨u, hu, ru⟩ := rv.get hx
    obtain ⟨f0, f1, f2, f3, f4, f5⟩ := hf it (by simp)
    refine wpAny_pyNext_list_item st p.isList (x := u) (by simpa using hu) fun h' st' sb => ?_
    have I1 : Inv X pins σ H { s with heap := h' } := I.turned (t' := s.toks) (fun b o hb e => (sb.2 b hb).trans e) f0 f1 f3 f4 f5
    obtain ⟨o, e, c, d⟩ := id st'
    exact ⟨u, rfl, go_of (s := { s with heap := h' }) e c d (by decide) ⟨x, H, I1, ru, ⟨rfl, fun ys hy => by rw [I.list_inj hy hq]; exact hx⟩, st', fun b hb => (hf b hb).1⟩⟩
  done := by
    intro X hP hw hK hc i pins s σ H E I hf st hg
    subst hP hw hK
    obtain ⟨xs, hq, hx⟩ := hg
    obtain ⟨its, rv, p, hz⟩ := I.list hq
    obtain ⟨f0, f1, f2, f3, f4, f5⟩ := hf it (by simp)
    have hl := rv.length
    exact wpAny_pyNext_list_end (I.ok.hd hc) st p.isList (by simp; omega) fun h' eb => ⟨rfl, I.turned (t' := s.toks) (fun b o hb e => eb b o hb e) f0 f1 f3 f4 f5⟩
  self := fun _ _ _ _ _ st h => wpAny_pyIter_listiter st h
theorem turn_range {P : Program} {w : World} {K : PySem.W.Frag} {tg : Expr} (it : Addr) (lo : Int) (n : Nat) : Turn P w K tg (Itr lo n) [it] it (fun i h => IsRangeIter h it (lo + (i : Nat) * 1) ((n : Int) - (i : Nat)) 1) where
  mem := by simp
  obj := fun i h st b hb => by
    have e : b = it := by simpa using hb
    subst e
    exact ⟨_, st, fun v z => by
      have z' : Data.fields _ = Data.cell v := z
      cases z'⟩
  keep := fun i h h' st k => k it (by simp) _ st
  item := by
    intro X hP hw hK hc i pins s σ H E I hf st hg
    subst hP hw hK
    obtain ⟨f0, f1, f2, f3, f4, f5⟩ := hf it (by simp)
    have W := Walks.range (prog := X.prog) (w := X.w) (I.ok.hd hc) it lo 1 n
    refine W.item i s _ _ hg st fun v h' tk hv st' kk => ?_
    obtain ⟨t, rfl⟩ := hv
    have I1 : Inv X pins σ H { s with heap := h', toks := tk } := I.turned (fun b o hb e => kk b o (by simpa using hb) e) f0 f1 f3 f4 f5
    refine ⟨_, rfl, go_of (s := { s with heap := h', toks := tk }) (n := "range_iterator") st' rfl rfl (by decide) ⟨.int (lo + i), H, I1, ⟨t, ?_⟩, ⟨rfl, rfl⟩, st', fun b hb => (hf b hb).1⟩⟩
    rw [Int.mul_one]
  done := by
    intro X hP hw hK hc i pins s σ H E I hf st hg
    subst hP hw hK
    obtain ⟨f0, f1, f2, f3, f4, f5⟩ := hf it (by simp)
    exact wpAny_pyNext_range_end (I.ok.hd hc) st (by have : n ≤ i := hg; omega) fun h' eb => ⟨rfl, I.turned (t' := s.toks) (fun b o hb e => eb b o hb e) f0 f1 f3 f4 f5⟩
  self := fun _ _ _ _ _ st h => wpAny_pyIter_rangeiter st h
end L2

namespace L2
open PySem PySem.Spec PyProof.Rows
section
variable {X : Cx} {tg : Expr}
def iList (K : PySem.W.Frag) (tl : TE) : TI := fun σ H R => tl σ H fun x H1 => ∃ a, x = .ref a ∧ (∃ xs, SqL K H1 a xs) ∧ R (Itl K a) H1
theorem pi_list {l : Expr} {tl : TE} (hl : PE X l tl) : PI X tg l (iList X.K tl) := by
  intro pins s σ H R I h
  refine thn (hl pins s σ H _ I h) fun v s1 ⟨x, H1, I1, r1, q1⟩ => ?_
  obtain ⟨a, e, ⟨xs, hq⟩, q⟩ := q1
  subst e
  cases r1
  obtain ⟨its, rv, p, hz⟩ := I1.list hq
  refine wpAny_pyIter_list p.isList ?_
  refine ⟨s1.heap.objs.size, [s1.heap.objs.size], _, _, H1, rfl, I1.kept (t' := s1.toks) fun b o e => Heap.get?_push_of_some _ e, turn_list a _, ⟨_, Heap.get?_push_size _ rfl, rfl, rfl⟩, fun b hb => ?_, q⟩
  have e : b = s1.heap.objs.size := by simpa using hb
  subst e
  exact I1.fpOk (Nat.le_refl _) (I1.hok.fresh (Nat.le_refl _))
/-- a range object just made, walked -/
theorem range_it {pins : List (Addr × Obj)} {σ : St} {H : Hp} {s : Shared} {R : It → Hp → Prop} {E : Value → Shared → Prop} {lo hi : Int} {t u v : Tok} {tk : Nat} (I : Inv X pins σ H s) (h1 : -(2 ^ 62) ≤ lo) (h2 : lo < 2 ^ 62) (h3 : -(2 ^ 62) ≤ hi) (h4 : hi < 2 ^ 62)
    (q : R (Itr lo (hi - lo).toNat) H) : wpAny (model X.prog X.w) X.A (pyIter (.ref s.heap.objs.size)) (PIE X pins σ tg R) E { s with heap := s.heap.push { cls := .type "range", data := .fields #[.int lo t, .int hi u, .int 1 v] }, toks := tk } := by
  refine wpAny_pyIter_range (IsRange.new ..) (small_one h1 h2 h3 h4) ?_
  have I1 : Inv X pins σ H { s with heap := s.heap.push { cls := .type "range", data := .fields #[.int lo t, .int hi u, .int 1 v] }, toks := tk } := I.kept fun b o e => Heap.get?_push_of_some _ e
  refine ⟨(s.heap.push { cls := .type "range", data := .fields #[.int lo t, .int hi u, .int 1 v] }).objs.size, [(s.heap.push { cls := .type "range", data := .fields #[.int lo t, .int hi u, .int 1 v] }).objs.size], _, _, H, rfl,
    I1.kept (t' := tk) fun b o e => Heap.get?_push_of_some _ e, turn_range _ lo (hi - lo).toNat, ?_, fun b hb => ?_, q⟩
  · have e1 : lo + ((0 : Nat) : Int) * 1 = lo := by simp
    have e2 : (((hi - lo).toNat : Nat) : Int) - ((0 : Nat) : Int) = Builtin.Range.rangeSize lo hi 1 := by rw [rangeSize_one]; split <;> omega
    show IsRangeIter _ _ (lo + ((0 : Nat) : Int) * 1) ((((hi - lo).toNat : Nat) : Int) - ((0 : Nat) : Int)) 1
    rw [e1, e2]
    exact Heap.get?_push_size _ rfl
  · have e : b = (s.heap.push { cls := .type "range", data := .fields #[.int lo t, .int hi u, .int 1 v] }).objs.size := by simpa using hb
    subst e
    exact I1.fpOk (Nat.le_refl _) (I1.hok.fresh (Nat.le_refl _))
def iRng1 (ta : TA) : TI := fun σ H R => ta σ H fun vs H1 => ∃ j : Int, vs = [.int j] ∧ -(2 ^ 62) ≤ j ∧ j < 2 ^ 62 ∧ R (Itr 0 j.toNat) H1
theorem pi_range1 {a : Expr} {ta : TA} {p pos : Pos} (hg : Gl X "range") (hm : X.mg "range" = none) (ha : PA X [a] ta) (hs : starEach [a] X.env = [(false, eval a X.env)] := by rfl) : PI X tg (.Call (.Name "range" p) [a] [] pos) (iRng1 ta) := by
  intro pins s σ H R I h
  refine Call_ (ld_blt I hg hm boot_range (PyProof.Rows.callWith_type1 (thn (ha pos pins s σ H _ I h) fun us s1 ⟨vs, H1, I1, r1, q1⟩ => ?_) hs rfl))
  obtain ⟨j, e, q1, q2, q⟩ := q1
  subst e
  cases r1 with
  | cons r rr =>
    cases rr
    obtain ⟨t, rfl⟩ := r
    exact call_range_1 (range_it I1 (by omega) (by omega) q1 q2 (by simpa using q))
/-! ### for -/
/-- W: the invariant by the turn and a measure; N: what the body is to reach -/
def tFor (wi : TI) (g : TG) (tb : TS) : TS := fun D σ H => wi σ H fun J H1 => ∃ W : Nat → Nat → St → Hp → Prop, (∃ m, W 0 m σ H1) ∧ ∀ i m σ H, W i m σ H →
  (J.stop i H ∧ D.nx σ H) ∨ (J.go i H ∧ ∃ N : St → Hp → Prop, (∀ σ' H', N σ' H' → ∃ m', m' < m ∧ W (i + 1) m' σ' H') ∧ ∀ x H', J.yld i H x H' → g x σ H' fun σ2 H2 => tb { D with nx := N, ct := N, bk := D.nx } σ2 H2)
/-- the records at fp as they stand -/
def pinsAt (fp : List Addr) (h : Heap) : List (Addr × Obj) := fp.filterMap fun b => (h.get? b).map fun o => (b, o)
theorem mem_pinsAt {fp : List Addr} {h : Heap} {b : Addr} {o : Obj} (hb : b ∈ fp) (e : h.get? b = some o) : (b, o) ∈ pinsAt fp h := List.mem_filterMap.mpr ⟨b, hb, by rw [e]; rfl⟩
theorem of_pinsAt {fp : List Addr} {h : Heap} {p : Addr × Obj} (hp : p ∈ pinsAt fp h) : p.1 ∈ fp ∧ h.get? p.1 = some p.2 := by
  obtain ⟨b, hb, e⟩ := List.mem_filterMap.mp hp
  cases q : h.get? b with
  | none => rw [q] at e; cases e
  | some o =>
    rw [q] at e
    have e' : (b, o) = p := Option.some.inj e
    subst e'
    exact ⟨hb, q⟩
theorem Inv.pinned {pins : List (Addr × Obj)} {σ : St} {H : Hp} {s : Shared} {fp : List Addr} (I : Inv X pins σ H s) (hf : ∀ b ∈ fp, FpOk X pins H b) (ho : ∀ b ∈ fp, ∃ o, s.heap.get? b = some o ∧ ∀ v, o.data ≠ .cell v) : Inv X (pins ++ pinsAt fp s.heap) σ H s :=
  I.pins_of fun p hp => (List.mem_append.mp hp).elim (fun z => I.pin p (List.mem_append_right _ z)) fun z => by
    obtain ⟨hb, e⟩ := of_pinsAt z
    obtain ⟨f0, f1, f2, _⟩ := hf p.1 hb
    obtain ⟨o, e', d⟩ := ho p.1 hb
    rw [e] at e'; cases e'
    exact ⟨e, f0, f1, f2, d⟩
theorem Inv.unpinned {pins pl : List (Addr × Obj)} {σ : St} {H : Hp} {s : Shared} (I : Inv X (pins ++ pl) σ H s) : Inv X pins σ H s := I.pins_of fun p hp => I.pin p (List.mem_append_right _ (List.mem_append_left _ hp))
theorem ps_for {iter : Expr} {body : List Stmt} {wi : TI} {g : TG} {tb : TS} {pos : Pos} (hp : PassesOwn (model X.prog X.w) X.A X.env X.xe) (hc : X.calm = true) (hi : PI X tg iter wi) (hg : PG X tg g) (hb : PSs X body tb)
    (hs : ∀ x, foldedSetIterable iter X.env x = pure x := by intro _; rfl) : PS X (.For tg iter body [] pos) (tFor wi g tb) := by
  intro pins s σ H D I h
  refine wpAny_For (thn (hi pins s σ H _ I h) fun v s1 h1 => thn h1 fun itv s2 h2 => ?_) hs
  obtain ⟨it, fp, tn, J, H2, e, I2, T, st2, f2, W, ⟨m0, w0⟩, turn⟩ := h2
  subst e
  -- what stays true of the iterator's objects through the loop
  have stat : ∀ {H' : Hp}, (∀ b ∈ fp, H' b = none) → ∀ b ∈ fp, FpOk X pins H' b := fun hn b hb => ⟨hn b hb, (f2 b hb).2⟩
  refine codeAny_forLoop_any (fun n s' => ∃ i σ' H', Inv X pins σ' H' s' ∧ tn i s'.heap ∧ (∀ b ∈ fp, H' b = none) ∧ W i n σ' H') ?_ m0 ⟨0, σ, H2, I2, st2, fun b hb => (f2 b hb).1, w0⟩
  rintro n s3 ⟨i, σ3, H3, I3, st3, fr3, w3⟩
  rcases turn i n σ3 H3 w3 with ⟨stop, qn⟩ | ⟨go, N, hN, step⟩
  · refine wpAny_passesOwn hp (thn (T.done X rfl rfl rfl hc i pins s3 σ3 H3 X.xe I3 (stat fr3) st3 stop) fun r s4 ⟨hr, I4⟩ => ?_)
    subst hr
    exact wpAny_execs_nil ⟨σ3, H3, I4, qn⟩
  · refine wpAny_passesOwn hp (thn (T.item X rfl rfl rfl hc i pins s3 σ3 H3 X.xe I3 (stat fr3) st3 go) fun r s4 ⟨u, hr, h4⟩ => ?_)
    subst hr
    refine wpAny_passesOwn hp (thn h4 fun _ s5 ⟨x, H5, I5, r5, y5, st5, fr5⟩ => ?_)
    have I5' := I5.pinned (stat fr5) (T.obj _ _ st5)
    refine wpAny_passesOwn hp (thn (hg _ s5 σ3 H5 x u _ I5' r5 (step x H5 y5)) fun _ s6 ⟨σ6, H6, I6, q6⟩ => ?_)
    refine wpAny_passesOwn hp (thn (hb _ s6 σ6 H6 _ I6 q6) fun f s7 q7 => ?_)
    have again : ∀ {σ7 : St} {H7 : Hp}, Inv X (pins ++ pinsAt fp s5.heap) σ7 H7 s7 → N σ7 H7 → ∃ m, m < n ∧ ∃ i σ' H', Inv X pins σ' H' s7 ∧ tn i s7.heap ∧ (∀ b ∈ fp, H' b = none) ∧ W i m σ' H' := fun {σ7 H7} I7 n7 => by
      obtain ⟨m', hm, w7⟩ := hN σ7 H7 n7
      refine ⟨m', hm, i + 1, σ7, H7, I7.unpinned, T.keep _ _ _ st5 fun b hb o e => (I7.pin (b, o) (List.mem_append_right _ (List.mem_append_right _ (mem_pinsAt hb e)))).1, fun b hb => ?_, w7⟩
      obtain ⟨o, e, d⟩ := T.obj _ _ st5 b hb
      exact (I7.pin (b, o) (List.mem_append_right _ (List.mem_append_right _ (mem_pinsAt hb e)))).2.1
    cases f with
    | next => obtain ⟨σ7, H7, I7, n7⟩ := q7; exact again I7 n7
    | cont => obtain ⟨σ7, H7, I7, n7⟩ := q7; exact again I7 n7
    | brk => obtain ⟨σ7, H7, I7, q7⟩ := q7; exact ⟨σ7, H7, I7.unpinned, q7⟩
    | ret v => obtain ⟨x7, σ7, H7, I7, r7, q7⟩ := q7; exact ⟨x7, σ7, H7, I7.unpinned, r7, q7⟩
end

/-! ### the forms one uses -/
/-- over a list that the body leaves as it is -/
theorem for_list {K : PySem.W.Frag} {a : Addr} {xs : List V} {g : TG} {tb : TS} {D : Ends} {σ : St} {H : Hp} (Pv : Nat → St → Hp → Prop) (h0 : Pv 0 σ H) (hl : ∀ i σ H, i ≤ xs.length → Pv i σ H → SqL K H a xs)
    (hs : ∀ i x σ H, xs[i]? = some x → Pv i σ H → g x σ H fun σ2 H2 => tb { D with nx := Pv (i + 1), ct := Pv (i + 1), bk := D.nx } σ2 H2) (hd : ∀ σ H, Pv xs.length σ H → D.nx σ H) :
    ∃ W : Nat → Nat → St → Hp → Prop, (∃ m, W 0 m σ H) ∧ ∀ i m σ H, W i m σ H →
      ((Itl K a).stop i H ∧ D.nx σ H) ∨ ((Itl K a).go i H ∧ ∃ N : St → Hp → Prop, (∀ σ' H', N σ' H' → ∃ m', m' < m ∧ W (i + 1) m' σ' H') ∧ ∀ x H', (Itl K a).yld i H x H' → g x σ H' fun σ2 H2 => tb { D with nx := N, ct := N, bk := D.nx } σ2 H2) := by
  refine ⟨fun i m σ H => m = xs.length - i ∧ i ≤ xs.length ∧ Pv i σ H, ⟨xs.length, by simp, Nat.zero_le _, h0⟩, ?_⟩
  rintro i m σ H ⟨rfl, hi, p⟩
  have q := hl i σ H hi p
  by_cases hlt : i < xs.length
  · refine .inr ⟨⟨xs, xs[i], q, by simp [hlt]⟩, Pv (i + 1), fun σ' H' p' => ⟨xs.length - (i + 1), by omega, rfl, hlt, p'⟩, fun x H' y => ?_⟩
    obtain ⟨e, y⟩ := y
    subst e
    exact hs i x σ _ (y xs q) p
  · have e : i = xs.length := by omega
    subst e
    exact .inl ⟨⟨xs, q, Nat.le_refl _⟩, hd σ H p⟩
theorem for_range {lo : Int} {n : Nat} {g : TG} {tb : TS} {D : Ends} {σ : St} {H : Hp} (Pv : Nat → St → Hp → Prop) (h0 : Pv 0 σ H)
    (hs : ∀ i σ H, i < n → Pv i σ H → g (.int (lo + i)) σ H fun σ2 H2 => tb { D with nx := Pv (i + 1), ct := Pv (i + 1), bk := D.nx } σ2 H2) (hd : ∀ σ H, Pv n σ H → D.nx σ H) :
    ∃ W : Nat → Nat → St → Hp → Prop, (∃ m, W 0 m σ H) ∧ ∀ i m σ H, W i m σ H →
      ((Itr lo n).stop i H ∧ D.nx σ H) ∨ ((Itr lo n).go i H ∧ ∃ N : St → Hp → Prop, (∀ σ' H', N σ' H' → ∃ m', m' < m ∧ W (i + 1) m' σ' H') ∧ ∀ x H', (Itr lo n).yld i H x H' → g x σ H' fun σ2 H2 => tb { D with nx := N, ct := N, bk := D.nx } σ2 H2) := by
  refine ⟨fun i m σ H => m = n - i ∧ i ≤ n ∧ Pv i σ H, ⟨n, by simp, Nat.zero_le _, h0⟩, ?_⟩
  rintro i m σ H ⟨rfl, hi, p⟩
  by_cases hlt : i < n
  · refine .inr ⟨hlt, Pv (i + 1), fun σ' H' p' => ⟨n - (i + 1), by omega, rfl, hlt, p'⟩, fun x H' y => ?_⟩
    obtain ⟨e, y⟩ := y
    subst e y
    exact hs i σ _ hlt p
  · have e : i = n := by omega
    subst e
    exact .inl ⟨Nat.le_refl _, hd σ H p⟩
/-- while, by a word and a measure of the state -/
theorem while_by {c : TT} {tb : TS} {D : Ends} {σ : St} {H : Hp} (Pv : St → Hp → Prop) (μ : St → Hp → Nat) (h0 : Pv σ H)
    (hs : ∀ σ H, Pv σ H → c σ H fun b H1 => if b = true then tb { D with nx := fun σ' H' => Pv σ' H' ∧ μ σ' H' < μ σ H, ct := fun σ' H' => Pv σ' H' ∧ μ σ' H' < μ σ H, bk := D.nx } σ H1 else D.nx σ H1)
    (mono : ∀ σ H Q Q', (∀ b H1, Q b H1 → Q' b H1) → c σ H Q → c σ H Q') : tWhile c tb D σ H := by
  refine ⟨fun m σ H => m = μ σ H ∧ Pv σ H, ⟨_, rfl, h0⟩, ?_⟩
  rintro m σ H ⟨rfl, p⟩
  refine mono σ H _ _ (fun b H1 q => ?_) (hs σ H p)
  cases b with
  | true => exact ⟨_, fun σ' H' ⟨p', l⟩ => ⟨_, l, rfl, p'⟩, q⟩
  | false => exact q
end L2

namespace L2
open PySem PySem.Spec PyProof.Rows

abbrev R2 := V → V → Hp → VK → Prop
/-- a two-place operation on values: f is binaryOp op, inplaceOp op or compareOp op -/
def OpR (X : Cx) (f : Value → Value → Sem Value) (r : R2) : Prop :=
  ∀ (pins : List (Addr × Obj)) (s : Shared) (σ : St) (H : Hp) (x y : V) (v u : Value) (Q : VK), Inv X pins σ H s → RelV x v → RelV y u → r x y H Q →
    wpAny (model X.prog X.w) X.A (f v u) (EP X pins σ Q) X.xe s
/-- a one-place operation -/
def UnR (X : Cx) (f : Value → Sem Value) (r : V → Hp → VK → Prop) : Prop :=
  ∀ (pins : List (Addr × Obj)) (s : Shared) (σ : St) (H : Hp) (x : V) (v : Value) (Q : VK), Inv X pins σ H s → RelV x v → r x H Q →
    wpAny (model X.prog X.w) X.A (f v) (EP X pins σ Q) X.xe s
/-- a call of a value that is known (a builtin, a type) with values -/
def CallR (X : Cx) (f : Value) (r : List V → Hp → VK → Prop) : Prop :=
  ∀ (pins : List (Addr × Obj)) (s : Shared) (σ : St) (H : Hp) (xs : List V) (us : List Value) (Q : VK), Inv X pins σ H s → Vals xs us → r xs H Q →
    wpAny (model X.prog X.w) X.A (call f us) (EP X pins σ Q) X.xe s
def tOp (r : R2) (ta tb : TE) : TE := fun σ H Q => ta σ H fun x H1 => tb σ H1 fun y H2 => r x y H2 Q
def tUn (r : V → Hp → VK → Prop) (ta : TE) : TE := fun σ H Q => ta σ H fun x H1 => r x H1 Q
/-- ints in, under C, and a value out -/
def rI (C : Int → Int → Prop) (g : Int → Int → V) : R2 := fun x y H Q => ∃ i j, x = .int i ∧ y = .int j ∧ C i j ∧ Q (g i j) H
def rI0 (g : Int → Int → V) : R2 := fun x y H Q => ∃ i j, x = .int i ∧ y = .int j ∧ Q (g i j) H
def rU (g : Int → V) : V → Hp → VK → Prop := fun x H Q => ∃ i, x = .int i ∧ Q (g i) H

section
variable {X : Cx} {a b c : Expr} {ta tb tc : TE} {pos : Pos}

theorem binT (ha : PE X a ta) (hb : PE X b tb) {pins : List (Addr × Obj)} {s : Shared} {σ : St} {H : Hp} {R : V → V → Hp → Prop} (I : Inv X pins σ H s)
    (h : ta σ H fun x H1 => tb σ H1 fun y H2 => R x y H2) {Q : Value → Shared → Prop} {f : Value → Value → Sem Value}
    (hf : ∀ v u s2 x y H2, Inv X pins σ H2 s2 → RelV x v → RelV y u → R x y H2 → wpAny (model X.prog X.w) X.A (f v u) Q X.xe s2) :
    wpAny (model X.prog X.w) X.A (eval a X.env) (fun v s₁ => wpAny (model X.prog X.w) X.A (eval b X.env) (fun u s₂ => wpAny (model X.prog X.w) X.A (f v u) Q X.xe s₂) X.xe s₁) X.xe s := by
  refine thn (ha pins s σ H _ I h) fun v s1 ⟨x, H1, I1, r1, q1⟩ => ?_
  refine thn (hb pins s1 σ H1 _ I1 q1) fun u s2 ⟨y, H2, I2, r2, q2⟩ => ?_
  exact hf v u s2 x y H2 I2 r1 r2 q2

theorem pe_op {op : Operator} {r : R2} (ho : OpR X (binaryOp op) r) (ha : PE X a ta) (hb : PE X b tb) : PE X (.BinOp a op b pos) (tOp r ta tb) := by
  intro pins s σ H Q I h
  exact wpAny_BinOp (binT ha hb I h fun v u s2 x y H2 I2 rx ry q => ho pins s2 σ H2 x y v u Q I2 rx ry q)
theorem pe_un {op : UnaryOp} {r : V → Hp → VK → Prop} (ho : UnR X (unaryOp op) r) (ha : PE X a ta) : PE X (.UnaryOp op a pos) (tUn r ta) := by
  intro pins s σ H Q I h
  exact UnaryOp_ (thn (ha pins s σ H _ I h) fun v s1 ⟨x, H1, I1, r1, q1⟩ => ho pins s1 σ H1 x v Q I1 r1 q1)
/-! ### ints -/
theorem opI {f : Value → Value → Sem Value} {C : Int → Int → Prop} {g : Int → Int → Int}
    (rule : ∀ (i j : Int) (t u : Tok) (s : Shared) (Q : Value → Shared → Prop) (E : Value → Shared → Prop), C i j → Q (.int (g i j) s.toks) { s with toks := s.toks + 1 } → wpAny (model X.prog X.w) X.A (f (.int i t) (.int j u)) Q E s) :
    OpR X f (rI C fun i j => .int (g i j)) := by
  intro pins s σ H x y v u Q I rx ry h
  obtain ⟨i, j, rfl, rfl, hc, q⟩ := h
  obtain ⟨t, rfl⟩ := rx
  obtain ⟨t', rfl⟩ := ry
  exact rule i j t t' s _ _ hc ⟨.int (g i j), H, I.tok _, ⟨_, rfl⟩, q⟩
theorem opI0 {f : Value → Value → Sem Value} {g : Int → Int → Int}
    (rule : ∀ (i j : Int) (t u : Tok) (s : Shared) (Q : Value → Shared → Prop) (E : Value → Shared → Prop), Q (.int (g i j) s.toks) { s with toks := s.toks + 1 } → wpAny (model X.prog X.w) X.A (f (.int i t) (.int j u)) Q E s) :
    OpR X f (rI0 fun i j => .int (g i j)) := by
  intro pins s σ H x y v u Q I rx ry h
  obtain ⟨i, j, rfl, rfl, q⟩ := h
  obtain ⟨t, rfl⟩ := rx
  obtain ⟨t', rfl⟩ := ry
  exact rule i j t t' s _ _ ⟨.int (g i j), H, I.tok _, ⟨_, rfl⟩, q⟩
theorem opB0 {f : Value → Value → Sem Value} {g : Int → Int → Bool}
    (rule : ∀ (i j : Int) (t u : Tok) (s : Shared) (Q : Value → Shared → Prop) (E : Value → Shared → Prop), Q (.bool (g i j)) s → wpAny (model X.prog X.w) X.A (f (.int i t) (.int j u)) Q E s) :
    OpR X f (rI0 fun i j => .bl (g i j)) := by
  intro pins s σ H x y v u Q I rx ry h
  obtain ⟨i, j, rfl, rfl, q⟩ := h
  obtain ⟨t, rfl⟩ := rx
  obtain ⟨t', rfl⟩ := ry
  exact rule i j t t' s _ _ ⟨.bl (g i j), H, I, rfl, q⟩

def CPow (i j : Int) : Prop := 0 ≤ j ∧ j ≤ 1000000 ∧ i.natAbs < 2 ^ 64
def CMul (i j : Int) : Prop := (-(2 ^ 64) < i ∧ i < 2 ^ 64) ∨ (-(2 ^ 64) < j ∧ j < 2 ^ 64)
theorem CMul.ok {i j : Int} (h : CMul i j) : IntMulOk i j := by
  rcases h with ⟨h1, h2⟩ | ⟨h1, h2⟩
  · exact .of_left (intBits_le_64 h1 h2)
  · exact .of_right (intBits_le_64 h1 h2)
theorem op_add : OpR X (binaryOp .Add) (rI0 fun i j => .int (i + j)) := opI0 fun _ _ _ _ _ _ _ q => add_int q
theorem op_sub : OpR X (binaryOp .Sub) (rI0 fun i j => .int (i - j)) := opI0 fun _ _ _ _ _ _ _ q => sub_int q
theorem op_modN : OpR X (binaryOp .Mod) (rI (fun _ j => j ≠ 0) fun i j => .int (i.fmod j)) := opI fun _ _ _ _ _ _ _ hc q => mod_int' hc q
theorem op_pow : OpR X (binaryOp .Pow) (rI CPow fun i j => .int (i ^ j.toNat)) := opI fun _ _ _ _ _ _ _ hc q => pow_int_small hc.1 hc.2.1 hc.2.2 q
theorem unI {f : Value → Sem Value} {g : Int → Int}
    (rule : ∀ (i : Int) (t : Tok) (s : Shared) (Q : Value → Shared → Prop) (E : Value → Shared → Prop), Q (.int (g i) s.toks) { s with toks := s.toks + 1 } → wpAny (model X.prog X.w) X.A (f (.int i t)) Q E s) :
    UnR X f (rU fun i => .int (g i)) := by
  intro pins s σ H x v Q I rx h
  obtain ⟨i, rfl, q⟩ := h
  obtain ⟨t, rfl⟩ := rx
  exact rule i t s _ _ ⟨.int (g i), H, I.tok _, ⟨_, rfl⟩, q⟩
theorem un_neg : UnR X (unaryOp .USub) (rU fun i => .int (-i)) := unI fun _ _ _ _ _ q => neg_int q
/-! ### bools among ints: n += (a < b) -/
end

/-! ### comparisons -/
/-- the scalars that == tells apart as data does -/
def scal : V → V → Bool
  | .non, .non => true | .non, .int _ => true | .int _, .non => true | .non, .bl _ => true | .bl _, .non => true | .non, .str _ => true | .str _, .non => true
  | .int _, .int _ => true | .bl _, .bl _ => true | .str _, .str _ => true | .byt _, .byt _ => true
  | .int _, .str _ => true | .str _, .int _ => true | .bl _, .str _ => true | .str _, .bl _ => true
  | _, _ => false
def rEq : R2 := fun x y H Q => scal x y = true ∧ Q (.bl (decide (x = y))) H
def rNe : R2 := fun x y H Q => scal x y = true ∧ Q (.bl (!decide (x = y))) H

theorem dec_int {i j : Int} : decide (V.int i = V.int j) = (i == j) := by
  rw [Bool.eq_iff_iff]
  simp
theorem dec_bl {i j : Bool} : decide (V.bl i = V.bl j) = (i == j) := by
  rw [Bool.eq_iff_iff]
  simp
theorem dec_str {i j : Str} : decide (V.str i = V.str j) = (i == j) := by
  rw [Bool.eq_iff_iff]
  simp
theorem dec_byt {i j : Array UInt8} : decide (V.byt i = V.byt j) = (i.toList == j.toList) := by
  rw [Bool.eq_iff_iff]
  cases i
  cases j
  simp

section
variable {X : Cx} {a b c : Expr} {ta tb tc : TE} {pos : Pos}
theorem fin_bl {pins : List (Addr × Obj)} {σ : St} {H : Hp} {s : Shared} {Q : VK} {k k' : Bool} (I : Inv X pins σ H s) (q : Q (.bl k) H) (e : k = k') : EP X pins σ Q (.bool k') s := by
  subst e
  exact ⟨.bl k, H, I, rfl, q⟩
theorem op_eq : OpR X (compareOp .Eq) rEq := by
  intro pins s σ H x y v u Q I rx ry h
  obtain ⟨hs, q⟩ := h
  cases x with
  | non =>
    cases rx
    cases y with
    | non => cases ry; exact PySem.EqNone.eq_none_none (fin_bl I q (by simp))
    | bl j => cases ry; exact PySem.EqNone.eq_none_bool (fin_bl I q (by simp))
    | int j => obtain ⟨t', rfl⟩ := ry; exact PySem.EqNone.eq_none_int (fin_bl I q (by simp))
    | str j => obtain ⟨t', rfl⟩ := ry; exact PySem.EqNone.eq_none_str (fin_bl I q (by simp))
    | _ => exact absurd (show false = true from hs) Bool.false_ne_true
  | bl i =>
    cases rx
    cases y with
    | non => cases ry; exact PySem.EqNone.eq_bool_none (fin_bl I q (by simp))
    | bl j => cases ry; exact eq_bool (fin_bl I q dec_bl)
    | str j => obtain ⟨t', rfl⟩ := ry; exact PySem.EqMixed.eq_bool_str (fin_bl I q (by simp))
    | _ => exact absurd (show false = true from hs) Bool.false_ne_true
  | int i =>
    obtain ⟨t, rfl⟩ := rx
    cases y with
    | non => cases ry; exact PySem.EqNone.eq_int_none (fin_bl I q (by simp))
    | int j => obtain ⟨t', rfl⟩ := ry; exact eq_int (fin_bl I q dec_int)
    | str j => obtain ⟨t', rfl⟩ := ry; exact PySem.EqMixed.eq_int_str (fin_bl I q (by simp))
    | _ => exact absurd (show false = true from hs) Bool.false_ne_true
  | str i =>
    obtain ⟨t, rfl⟩ := rx
    cases y with
    | non => cases ry; exact PySem.EqNone.eq_str_none (fin_bl I q (by simp))
    | bl j => cases ry; exact PySem.EqMixed.eq_str_bool (fin_bl I q (by simp))
    | int j => obtain ⟨t', rfl⟩ := ry; exact PySem.EqMixed.eq_str_int (fin_bl I q (by simp))
    | str j => obtain ⟨t', rfl⟩ := ry; exact eq_str (fin_bl I q dec_str)
    | _ => exact absurd (show false = true from hs) Bool.false_ne_true
  | byt i =>
    obtain ⟨t, rfl⟩ := rx
    cases y with
    | byt j => obtain ⟨t', rfl⟩ := ry; exact PySem.W.eq_bytes (fin_bl I q dec_byt)
    | _ => exact absurd (show false = true from hs) Bool.false_ne_true
  | _ => cases y <;> exact absurd (show false = true from hs) Bool.false_ne_true
theorem op_ne : OpR X (compareOp .NotEq) rNe := by
  intro pins s σ H x y v u Q I rx ry h
  obtain ⟨hs, q⟩ := h
  cases x with
  | non =>
    cases rx
    cases y with
    | non => cases ry; exact PySem.EqNone.ne_none_none (fin_bl I q (by simp))
    | bl j => cases ry; exact PySem.EqNone.ne_none_bool (fin_bl I q (by simp))
    | int j => obtain ⟨t', rfl⟩ := ry; exact PySem.EqNone.ne_none_int (fin_bl I q (by simp))
    | str j => obtain ⟨t', rfl⟩ := ry; exact PySem.EqNone.ne_none_str (fin_bl I q (by simp))
    | _ => exact absurd (show false = true from hs) Bool.false_ne_true
  | bl i =>
    cases rx
    cases y with
    | non => cases ry; exact PySem.EqNone.ne_bool_none (fin_bl I q (by simp))
    | bl j => cases ry; exact ne_bool (fin_bl I q (congrArg not dec_bl))
    | str j => obtain ⟨t', rfl⟩ := ry; exact PySem.EqMixed.ne_bool_str (fin_bl I q (by simp))
    | _ => exact absurd (show false = true from hs) Bool.false_ne_true
  | int i =>
    obtain ⟨t, rfl⟩ := rx
    cases y with
    | non => cases ry; exact PySem.EqNone.ne_int_none (fin_bl I q (by simp))
    | int j => obtain ⟨t', rfl⟩ := ry; exact ne_int (fin_bl I q (congrArg not dec_int))
    | str j => obtain ⟨t', rfl⟩ := ry; exact PySem.EqMixed.ne_int_str (fin_bl I q (by simp))
    | _ => exact absurd (show false = true from hs) Bool.false_ne_true
  | str i =>
    obtain ⟨t, rfl⟩ := rx
    cases y with
    | non => cases ry; exact PySem.EqNone.ne_str_none (fin_bl I q (by simp))
    | bl j => cases ry; exact PySem.EqMixed.ne_str_bool (fin_bl I q (by simp))
    | int j => obtain ⟨t', rfl⟩ := ry; exact PySem.EqMixed.ne_str_int (fin_bl I q (by simp))
    | str j => obtain ⟨t', rfl⟩ := ry; exact ne_str (fin_bl I q (congrArg not dec_str))
    | _ => exact absurd (show false = true from hs) Bool.false_ne_true
  | byt i =>
    obtain ⟨t, rfl⟩ := rx
    cases y with
    | byt j => obtain ⟨t', rfl⟩ := ry; exact PySem.W.ne_bytes (fin_bl I q (congrArg not dec_byt))
    | _ => exact absurd (show false = true from hs) Bool.false_ne_true
  | _ => cases y <;> exact absurd (show false = true from hs) Bool.false_ne_true

theorem op_lt : OpR X (compareOp .Lt) (rI0 fun i j => .bl (decide (i < j))) := opB0 fun _ _ _ _ _ _ _ q => lt_int q
theorem op_le : OpR X (compareOp .LtE) (rI0 fun i j => .bl (decide (i ≤ j))) := opB0 fun _ _ _ _ _ _ _ q => le_int q
theorem op_gt : OpR X (compareOp .Gt) (rI0 fun i j => .bl (decide (j < i))) := opB0 fun _ _ _ _ _ _ _ q => gt_int q
theorem op_ge : OpR X (compareOp .GtE) (rI0 fun i j => .bl (decide (j ≤ i))) := opB0 fun _ _ _ _ _ _ _ q => ge_int q
/-- two rules for one operation: by cases -/
theorem OpR.or {f : Value → Value → Sem Value} {r r' : R2} (h : OpR X f r) (h' : OpR X f r') : OpR X f (fun x y H Q => r x y H Q ∨ r' x y H Q) := by
  intro pins s σ H x y v u Q I rx ry q
  rcases q with q | q
  · exact h pins s σ H x y v u Q I rx ry q
  · exact h' pins s σ H x y v u Q I rx ry q

theorem nomark (b : Expr) {op : CmpOp} (h : op ≠ .In := by decide) (h2 : op ≠ .NotIn := by decide) : behindInMarks op b = false := by
  have e1 : (op == CmpOp.In) = false := by cases op <;> first | rfl | exact absurd rfl h
  have e2 : (op == CmpOp.NotIn) = false := by cases op <;> first | rfl | exact absurd rfl h2
  cases b <;> simp [behindInMarks, e1, e2]
/-- a comparison as a value; hm: nomark b, or (for in, not in) by with_unfolding_all rfl -/
theorem pe_cmpR {op : CmpOp} {r : R2} (ho : OpR X (compareOp op) r) (ha : PE X a ta) (hb : PE X b tb) (hm : behindInMarks op b = false) : PE X (.Compare a [op] [b] pos) (tOp r ta tb) := by
  intro pins s σ H Q I h
  exact wpAny_Compare1 (binT ha hb I h fun v u s2 x y H2 I2 rx ry q => ho pins s2 σ H2 x y v u Q I2 rx ry q) hm
/-- a reading of a value as a test -/
def tTest (t : TE) : TT := fun σ H Q => t σ H fun x H' => ∃ k, x = .bl k ∧ Q k H'
theorem pt_cmpR {op : CmpOp} {r : R2} (ho : OpR X (compareOp op) r) (ha : PE X a ta) (hb : PE X b tb) (hm : behindInMarks op b = false) : PT X (.Compare a [op] [b] pos) (tTest (tOp r ta tb)) := by
  intro pins s σ H Q I h
  refine wpAny_isTrue_Compare1 (thn (ha pins s σ H _ I h) fun v s1 ⟨x, H1, I1, r1, q1⟩ => thn (hb pins s1 σ H1 _ I1 q1) fun u s2 ⟨y, H2, I2, r2, q2⟩ =>
    thn (ho pins s2 σ H2 x y v u _ I2 r1 r2 q2) fun c s3 ⟨z, H3, I3, r3, k, e, q3⟩ => ?_) hm
  subst e
  cases r3
  exact wpAny_truthy_bool ⟨H3, I3, q3⟩
/-! ### truth -/
theorem line63 : (sizeLine : Nat) < 2 ^ 63 := by rw [sizeLine_eq]; decide
/-! ### strs and bytes -/
/-! ### scalar builtins, by CallR -/
theorem vals1 {x : V} {us : List Value} (r : Vals [x] us) : ∃ u, us = [u] ∧ RelV x u := by
  cases r with
  | cons r1 r2 => cases r2; exact ⟨_, rfl, r1⟩
theorem vals2 {x y : V} {us : List Value} (r : Vals [x, y] us) : ∃ u w', us = [u, w'] ∧ RelV x u ∧ RelV y w' := by
  cases r with
  | cons r1 r2 =>
    cases r2 with
    | cons r3 r4 => cases r4; exact ⟨_, _, rfl, r1, r3⟩
theorem call_abs : CallR X (.builtin "abs") (fun xs H Q => ∃ i, xs = [.int i] ∧ Q (.int (if i < 0 then -i else i)) H) := by
  intro pins s σ H xs us Q I r h
  obtain ⟨i, rfl, q⟩ := h
  obtain ⟨u, rfl, t, rfl⟩ := vals1 r
  exact call_abs_int fun u tk => ⟨.int (if i < 0 then -i else i), H, I.tok _, ⟨_, rfl⟩, q⟩
theorem call_max2 (hc : X.calm = true) : CallR X (.builtin "max") (fun xs H Q => ∃ i j, xs = [.int i, .int j] ∧ Q (.int (if j > i then j else i)) H) := by
  intro pins s σ H xs us Q I r h
  obtain ⟨i, j, rfl, q⟩ := h
  obtain ⟨u, w', rfl, ⟨t, rfl⟩, ⟨t', rfl⟩⟩ := vals2 r
  refine max_two_ints (I.ok.hd hc) fun h' tk k => ⟨_, H, I.kept k, ?_, q⟩
  by_cases hj : j > i
  · rw [if_pos hj, if_pos hj]; exact ⟨_, rfl⟩
  · rw [if_neg hj, if_neg hj]; exact ⟨_, rfl⟩
theorem call_min2 (hc : X.calm = true) : CallR X (.builtin "min") (fun xs H Q => ∃ i j, xs = [.int i, .int j] ∧ Q (.int (if j < i then j else i)) H) := by
  intro pins s σ H xs us Q I r h
  obtain ⟨i, j, rfl, q⟩ := h
  obtain ⟨u, w', rfl, ⟨t, rfl⟩, ⟨t', rfl⟩⟩ := vals2 r
  refine min_two_ints (I.ok.hd hc) fun h' tk k => ⟨_, H, I.kept k, ?_, q⟩
  by_cases hj : j < i
  · rw [if_pos hj, if_pos hj]; exact ⟨_, rfl⟩
  · rw [if_neg hj, if_neg hj]; exact ⟨_, rfl⟩
end
end L2

namespace L2
open PySem PySem.Spec PyProof.Rows

/-! ### an instance, its attributes a map -/
structure ObjM (h : Heap) (x dx C : Addr) (mA : Str → Option Value) : Prop where
  obj : h.get? x = some (PySem.W.instObj C dx)
  ns : h.Ns1 dx mA
  ne : dx ≠ x

theorem lookIn_ns {h : Heap} {dx : Addr} {mA : Str → Option Value} (n : h.Ns1 dx mA) : ∃ od, h.get? dx = some od ∧ ∀ name, PySem.W.lookIn name od = some (mA name) := by
  obtain ⟨o, es, ep, ho, hd, hk, _, hm⟩ := n
  refine ⟨o, ho, fun name => ?_⟩
  have e := hm name
  unfold nsFind findBy at e
  rw [← Array.find?_toList] at e
  unfold PySem.W.lookIn
  rw [hd]
  dsimp only
  split
  · rename_i y q
    rw [q] at e
    exact congrArg some e
  · rename_i q
    rw [q] at e
    have a : es.toList.any (·.refKey) = false := by
      rw [List.any_eq_false]
      intro y hy
      obtain ⟨z, t, hkey⟩ := hk y (Array.mem_toList_iff.mp hy)
      simp [DictEntry.refKey, hkey]
    have a' : ¬ es.toList.any (·.refKey) = true := by rw [a]; exact Bool.false_ne_true
    rw [if_neg a']
    exact congrArg some e

theorem ObjM.look {h : Heap} {x dx C : Addr} {mA : Str → Option Value} (I : ObjM h x dx C mA) : ∃ od, PySem.W.InstAt h x (PySem.W.instObj C dx) C (some od) ∧ ∀ name, PySem.W.lookIn name od = some (mA name) :=
  let ⟨od, ho, hl⟩ := lookIn_ns I.ns
  ⟨od, ⟨I.obj, rfl, rfl, ho⟩, hl⟩

section
variable {prog : Program} {w : World} {A : Around} {E : Value → Shared → Prop} {s : Shared} {K : PySem.W.Frag} {x dx C f : Addr} {mA : Str → Option Value} {name : Str} {v : Value}

end

/-! ### the attributes as a list of pairs -/
theorem RelO.some_of {v : V} {o : Option Value} (r : RelO (some v) o) : ∃ u, o = some u ∧ RelV v u := by
  cases o with
  | none => exact (show False from r).elim
  | some u => exact ⟨u, rfl, r⟩
section
variable {P : Program} {w : World} {H H' : Hp} {h h' : Heap} {a C dx : Addr} {fs fs' : List (Str × V)}
theorem ins_get (hok : HOk P w H h) (e : H a = some (.ins C dx fs)) : ∃ mA, ObjM h a dx C mA ∧ (∀ f, RelO (fs.lookup f) (mA f)) ∧ PySem.Within mA (fs.map (·.1)) ∧ fs.length ≤ 1000 ∧ H dx = some (.own a) := by
  obtain ⟨d, z, ne, ob, mA, n, r, q⟩ := (show ObjOk P w H h a (.ins C dx fs) from hok a _ e)
  exact ⟨mA, ⟨ob, n, ne⟩, r, q, z, d⟩
end

/-! ### what of the text a class must have -/
structure Cls (K : PySem.W.Frag) (C : Addr) : Prop where
  pg : PySem.W.plainGet K C Str.empty = true
  hd : PySem.W.hasDictIn K C = true
  po : PySem.W.plainOver K C = true
  sa : PySem.W.findIn K (.ref C) "__setattr__" = some (some (.builtin "object.__setattr__"))
theorem Cls.get {K : PySem.W.Frag} {C : Addr} (c : Cls K C) (f : Str) : PySem.W.plainGet K C f = true := c.pg
/-- a constant of the class -/
structure Con (K : PySem.W.Frag) (C : Addr) (f : Str) (v : V) (u : Value) : Prop where
  at_ : PySem.W.findIn K (.ref C) f = some (some u)
  rel : RelV v u
  get : PySem.W.specialIn K u "__get__" = some none
  cp : PySem.W.copiedNames.contains f = false
/-- a method: a plain def of the class or of one above it -/
structure Meth (K : PySem.W.Frag) (C : Addr) (m : Str) (f : Addr) : Prop where
  at_ : PySem.W.findIn K (.ref C) m = some (some (.ref f))
  fn : PySem.W.isFn K (.ref f) = true
  kp : PySem.W.keepIn K (.ref f) = true

section
variable {X : Cx} {pins : List (Addr × Obj)} {σ : St} {H : Hp} {s : Shared} {a C dx : Addr} {fs : List (Str × V)} {f : Str} {v : V} {A : Around} {E : Value → Shared → Prop}

/-- a new instance, tracked, without attributes -/
theorem Inv.made (I : Inv X pins σ H s) : Inv X pins σ (upd (upd H s.heap.objs.size (.own (s.heap.objs.size + 1))) (s.heap.objs.size + 1) (.ins C s.heap.objs.size []))
    { s with heap := (s.heap.push PySem.W.emptyDict).push (PySem.W.instObj C s.heap.objs.size) } := by
  have e1 : (s.heap.push PySem.W.emptyDict).get? s.heap.objs.size = some PySem.W.emptyDict := Heap.get?_push_size s.heap rfl
  have e2 : ((s.heap.push PySem.W.emptyDict).push (PySem.W.instObj C s.heap.objs.size)).get? (s.heap.objs.size + 1) = some (PySem.W.instObj C s.heap.objs.size) := by
    have := Heap.get?_push_size (s.heap.push PySem.W.emptyDict) (o := PySem.W.instObj C s.heap.objs.size) rfl
    rwa [Heap.size_push] at this
  have e3 : (s.heap.push PySem.W.emptyDict).Ns s.heap.objs.size (fun _ => none) := ⟨PySem.W.emptyDict, #[], _, e1, rfl, (fun e he => absurd he (by simp)), fun _ => rfl⟩
  have I1 := I.laid (a := s.heap.objs.size) (o := .own (s.heap.objs.size + 1)) (h' := s.heap.push PySem.W.emptyDict) (t' := s.toks) (fun b u q => Heap.get?_push_of_some _ q) (Nat.le_refl _) ⟨_, e1⟩
  refine I1.laid (a := s.heap.objs.size + 1) (o := .ins C s.heap.objs.size []) (t' := s.toks) (fun b u q => Heap.get?_push_of_some _ q) (Nat.le_of_eq (Heap.size_push _ _)) ?_
  have ne : s.heap.objs.size ≠ s.heap.objs.size + 1 := Nat.ne_of_lt (Nat.lt_succ_self _)
  refine ⟨by rw [upd_ne ne, upd_same], Nat.zero_le _, ne, e2, fun _ => none, (Heap.Ns1.of_empty e3).at fun o q => Heap.get?_push_of_some _ q, fun _ => True.intro, fun y hy => absurd rfl hy⟩

end

/-! ### readings and rules -/
section
variable {X : Cx} {o e value : Expr} {f : Str} {pos pos' tpos : Pos} {ta tv : TE}
end

/-! ### isinstance -/
section
variable {X : Cx} {pins : List (Addr × Obj)} {σ : St} {H : Hp} {s : Shared} {A : Around} {E : Value → Shared → Prop} {Q : Value → Shared → Prop} {c : Value} {b : Bool}
/-- the type of a value, as the fragment's deciders take it; for an instance its class -/
inductive TyOf (K : PySem.W.Frag) (H : Hp) : V → Value → Prop where
  | non : TyOf K H .non (.type "NoneType")
  | bl (x : Bool) : TyOf K H (.bl x) (.type "bool")
  | int (i : Int) : TyOf K H (.int i) (.type "int")
  | str (x : Str) : TyOf K H (.str x) (.type "str")
  | flt (x : UInt64) : TyOf K H (.flt x) (.type "float")
  | lst {a : Addr} {xs : List V} (e : H a = some (.lst xs)) : TyOf K H (.ref a) (.type "list")
  | frz {a : Addr} {o : Obj} {xs : List V} (e : H a = some (.frz o (.lst xs))) : TyOf K H (.ref a) (.type "list")
  | tup {a : Addr} {xs : List V} (e : H a = some (.tup xs)) : TyOf K H (.ref a) (.type "tuple")
  | dK {a : Addr} {kvs : List (Key × V)} (e : H a = some (.dK kvs)) : TyOf K H (.ref a) (.type "dict")
  | dT {a : Addr} {kvs : List (List Key × V)} (e : H a = some (.dT kvs)) : TyOf K H (.ref a) (.type "dict")
  | ins {a C dx : Addr} {fs : List (Str × V)} (e : H a = some (.ins C dx fs)) (cl : Cls K C) (ha : PySem.W.findIn K (.ref C) "__class__" = some (some (.builtin "object.__class__")))
      (hn : PySem.W.specialIn K (.builtin "object.__class__") "__get__" = some (some (.builtin "getset_descriptor.__get__"))) (htk : PySem.W.takesIn K (.builtin "object.__class__") = some true)
      (hm : PySem.W.mroIn K C (.type "object") = some true) : TyOf K H (.ref a) (.ref C)
/-- isinstance(x, c) for one class c, a built-in or an own one: kitOne's answer -/
theorem isinst_ok {x : V} {u t : Value} (I : Inv X pins σ H s) (rx : RelV x u) (ty : TyOf X.K H x t) (e : PySem.W.kitOne X.K t c = some b) (h : ∀ tk, Q (.bool b) { s with toks := tk }) :
    wpAny (model X.prog X.w) A (call (.builtin "isinstance") [u, c]) Q E s := by
  cases ty with
  | non => cases (show u = Value.none from rx); exact PySem.W.kia_one PySem.W.kitx_none I.kIn True.intro e (fun z => nomatch z) h
  | bl y => cases (show u = Value.bool y from rx); exact PySem.W.kia_one PySem.W.kitx_bool I.kIn True.intro e (fun z => nomatch z) h
  | int i => obtain ⟨t, q⟩ := (show ∃ t, u = Value.int i t from rx); cases q; exact PySem.W.kia_one PySem.W.kitx_int I.kIn True.intro e (fun z => nomatch z) h
  | str y => obtain ⟨t, q⟩ := (show ∃ t, u = Value.str y t from rx); cases q; exact PySem.W.kia_one PySem.W.kitx_str I.kIn True.intro e (fun z => nomatch z) h
  | flt y => obtain ⟨t, q⟩ := (show ∃ t, u = Value.float y t from rx); cases q; exact PySem.W.kia_one PySem.W.kitx_float I.kIn True.intro e (fun z => nomatch z) h
  | @lst a xs ea =>
    cases (show u = Value.ref a from rx)
    obtain ⟨_, _, n, _, h1⟩ := (show ObjOk X.prog X.w H s.heap a (.lst xs) from I.hok a _ ea)
    exact PySem.W.kia_one PySem.W.kitx_list I.kIn ⟨_, h1, rfl⟩ e (fun z => nomatch z) h
  | @frz a ob xs ea =>
    cases (show u = Value.ref a from rx)
    obtain ⟨_, _, _, n, _, h1⟩ := (show ObjOk X.prog X.w H s.heap a (.frz ob (.lst xs)) from I.hok a _ ea)
    exact PySem.W.kia_one PySem.W.kitx_list I.kIn ⟨_, h1, rfl⟩ e (fun z => nomatch z) h
  | @tup a xs ea =>
    cases (show u = Value.ref a from rx)
    obtain ⟨_, _, _, p⟩ := (show ObjOk X.prog X.w H s.heap a (.tup xs) from I.hok a _ ea)
    obtain ⟨o, h1, h2, _⟩ := p
    exact PySem.W.kia_one PySem.W.kitx_tuple I.kIn ⟨o, h1, h2⟩ e (fun z => nomatch z) h
  | @dK a kvs ea =>
    cases (show u = Value.ref a from rx)
    obtain ⟨_, _, vs, _, p⟩ := (show ObjOk X.prog X.w H s.heap a (.dK kvs) from I.hok a _ ea)
    obtain ⟨o, es, ep, h1, h2, _⟩ := p
    exact PySem.W.kia_one PySem.W.kitx_dict I.kIn ⟨o, h1, h2.1⟩ e (fun z => nomatch z) h
  | @dT a kvs ea =>
    cases (show u = Value.ref a from rx)
    obtain ⟨_, _, xs, _, o, es, ep, h1, h2, _⟩ := (show ObjOk X.prog X.w H s.heap a (.dT kvs) from I.hok a _ ea)
    exact PySem.W.kia_one PySem.W.kitx_dict I.kIn ⟨o, h1, h2.1⟩ e (fun z => nomatch z) h
  | @ins a C dx fs ea cl ha hn htk hm =>
    cases (show u = Value.ref a from rx)
    obtain ⟨mA, O, _⟩ := ins_get I.hok ea
    obtain ⟨od, J, _⟩ := O.look
    exact PySem.W.kia_one (PySem.W.kitx_own (cl.get _) cl.hd ha hn htk hm) I.kIn J e (fun z => nomatch z) h
end
end L2

namespace L2
open PySem PySem.Spec PyProof.Rows

/-! ### room -/
structure Room (k : Nat) (A : Around) : Prop where
  hd : A.handled = none
  dp : A.depth + 3 * k + 5 < recursionLimit
  un : A.units + 16 * k + 200 < cLine
theorem Room.mono {j k : Nat} {A : Around} (r : Room k A) (h : j ≤ k) : Room j A := ⟨r.hd, by have := r.dp; omega, by have := r.un; omega⟩
theorem Room.deeper {k : Nat} {A : Around} (r : Room (k + 1) A) (env : Env) : Room k (A.deeper env) :=
  ⟨r.hd, by have := r.dp; show A.depth + 1 + 3 * k + 5 < _; omega, by have := r.un; show A.units + 3 + 16 * k + 200 < _; omega⟩
theorem Room.in1 {k : Nat} {A : Around} (r : Room (k + 1) A) : Room k A.in1 :=
  ⟨r.hd, by have := r.dp; show A.depth + 3 * k + 5 < _; omega, by have := r.un; show A.units + 1 + 16 * k + 200 < _; omega⟩
theorem Room.depth {k : Nat} {A : Around} (r : Room k A) : A.depth < recursionLimit := by have := r.dp; omega
theorem Room.units {k : Nat} {A : Around} (r : Room k A) : A.units + 64 < cLine := by have := r.un; omega
theorem Room.units0 {k : Nat} {A : Around} (r : Room k A) : A.units < cLine := by have := r.un; omega

/-! ### argument lists and displays -/
def tNil : TA := fun _ H Q => Q [] H
def tCons (ta : TE) (tr : TA) : TA := fun σ H Q => ta σ H fun x H1 => tr σ H1 fun xs H2 => Q (x :: xs) H2
section
variable {X : Cx} {e : Expr} {es : List Expr} {te : TE} {t : TA} {pos : Pos}
theorem pa_nil : PA X [] tNil := fun _ _ _ _ H Q I h => Calls.spliced_nil ⟨[], H, I, .nil, h⟩
theorem pa_cons (ha : PE X e te) (hr : PA X es t) (hs : starEach (e :: es) X.env = (false, eval e X.env) :: starEach es X.env := by rfl) : PA X (e :: es) (tCons te t) := by
  intro pos pins s σ H Q I h
  rw [hs]
  show wpAny _ _ (spliced ((false, eval e X.env) :: backTo pos (starEach es X.env))) _ _ s
  refine Calls.spliced_cons (thn (ha pins s σ H _ I h) fun u s1 ⟨x, H1, I1, r1, q1⟩ => ?_)
  exact thn (hr pos pins s1 σ H1 _ I1 q1) fun us s2 ⟨xs, H2, I2, r2, q2⟩ => ⟨x :: xs, H2, I2, .cons r1 r2, q2⟩

/-- a tuple, a list of written items -/
def tTup (t : TA) : TE := fun σ H Q => t σ H fun xs H1 => xs.length ≤ sizeLine ∧ ∀ p, H1 p = none → Q (.ref p) (upd H1 p (.tup xs))
def tLst (t : TA) : TE := fun σ H Q => t σ H fun xs H1 => xs.length ≤ sizeLine ∧ ∀ p, H1 p = none → Q (.ref p) (upd H1 p (.lst xs))
theorem pe_tup {x1} (h : PA X es t) : PE X (.Tuple es x1 pos) (tTup t) := by
  intro pins s σ H Q I hq
  refine wpAny_Tuple_spliced (thn (h pos pins s σ H _ I hq) fun us s1 ⟨xs, H1, I1, r, z, q⟩ => ⟨by rw [← r.length]; exact z, ?_⟩)
  have hf : H1 s1.heap.objs.size = none := I1.hok.fresh (Nat.le_refl _)
  refine ⟨.ref s1.heap.objs.size, upd H1 s1.heap.objs.size (.tup xs), I1.laid (t' := s1.toks) (fun b u e => Heap.get?_push_of_some _ e) (Nat.le_refl _) ?_, rfl, q _ hf⟩
  exact ⟨z, us, r, ⟨_, Heap.get?_push_size _ rfl, rfl, _, rfl⟩⟩
theorem pe_lst (h : PA X es t) : PE X (.List es pos) (tLst t) := by
  intro pins s σ H Q I hq
  refine wpAny_List_spliced (thn (h pos pins s σ H _ I hq) fun us s1 ⟨xs, H1, I1, r, z, q⟩ => ⟨by rw [← r.length]; exact z, ?_⟩)
  have hf : H1 s1.heap.objs.size = none := I1.hok.fresh (Nat.le_refl _)
  refine ⟨.ref s1.heap.objs.size, upd H1 s1.heap.objs.size (.lst xs), I1.laid (t' := s1.toks) (fun b u e => Heap.get?_push_of_some _ e) (Nat.le_refl _) ?_, rfl, q _ hf⟩
  exact ⟨z, us, 0, r, Heap.get?_push_size _ rfl⟩
end

/-! ### what a def promises -/
/-- a def's promise: the bound arguments in the parameters' order, the heap, the wanted end, the wanted exception -/
abbrev Sp := List V → Hp → VK → XK → Prop
/-- how an exception lies behind a call (file 08 gives it): the callers' frames, abstract heap and state ahead of the call, the wish, the exception, the state -/
abbrev CXT := List Env → Hp → Shared → XK → Value → Shared → Prop

/-- the state at a call -/
structure Env0 (P : Program) (w : World) (K : PySem.W.Frag) (mg : Str → Option Value) (base : Heap) (A : Around) (outer : List Env) (s : Shared) (H : Hp) : Prop where
  frames : A.frames = some outer
  mod : Mod K mg base
  bs : ∀ b o, base.get? b = some o → s.heap.get? b = some o ∧ H b = none
  bsz : base.objs.size ≤ s.heap.objs.size
  funs : s.heap.FunFrames base outer
  frf : ∀ b ∈ frs outer, H b = none
  hok : HOk P w H s.heap
  bare : AllBare s.gens
/-- a call's end -/
def CE (outer : List Env) (P : Program) (w : World) (H : Hp) (s : Shared) (Q : VK) (u : Value) (s' : Shared) : Prop :=
  ∃ v H', s'.os = s.os ∧ AllBare s'.gens ∧ Un (frs outer) [] H H' s.heap s'.heap ∧ HOk P w H' s'.heap ∧ RelV v u ∧ Q v H'
def CR (CX : CXT) (outer : List Env) (P : Program) (w : World) (H : Hp) (s : Shared) (Q : VK) (E : XK) (r : Result) (s' : Shared) : Prop :=
  match r with
  | .ok (.ret u) => CE outer P w H s Q u s'
  | .ok _ => False
  | .error e => CX outer H s E e s'
structure FnOk (P : Program) (w : World) (K : PySem.W.Frag) (mg : Str → Option Value) (base : Heap) (CX : CXT) (k : Nat) (f : Addr) (fd : FuncData) (ps : List Str) (sp : Sp) : Prop where
  len : ∀ vs H Q E, sp vs H Q E → vs.length = ps.length
  run : ∀ (A : Around) (outer : List Env) (s : Shared) (H : Hp) (args : Args) (us : List Value) (vs : List V) (Q : VK) (E : XK), Room k A → Env0 P w K mg base A outer s H → BindsTo s fd args (ps.zip us) → Vals vs us → sp vs H Q E →
    codeAny (model P w) A (.call (.ref f) args) (CR CX outer P w H s Q E) s
theorem FnOk.mono {P : Program} {w : World} {K : PySem.W.Frag} {mg : Str → Option Value} {base : Heap} {CX : CXT} {j k : Nat} {f : Addr} {fd : FuncData} {ps : List Str} {sp : Sp} (F : FnOk P w K mg base CX j f fd ps sp) (h : j ≤ k) :
    FnOk P w K mg base CX k f fd ps sp := ⟨F.len, fun A outer s H args us vs Q E hr => F.run A outer s H args us vs Q E (hr.mono h)⟩
theorem Env0.in1 {P : Program} {w : World} {K : PySem.W.Frag} {mg : Str → Option Value} {base : Heap} {A : Around} {outer : List Env} {s : Shared} {H : Hp} (e : Env0 P w K mg base A outer s H) :
    Env0 P w K mg base A.in1 outer s H := ⟨e.frames, e.mod, e.bs, e.bsz, e.funs, e.frf, e.hok, e.bare⟩

section
variable {X : Cx} {pins : List (Addr × Obj)} {σ : St} {H : Hp} {s s' : Shared}
/-- from a body: what a callee wants -/
theorem Inv.env0 (I : Inv X pins σ H s) : Env0 X.prog X.w X.K X.mg X.base X.A X.stack s H :=
  ⟨I.ok.frames, I.ok.mod, I.bs, Nat.le_trans I.ok.bsz I.sz, I.stack, I.stkFree, I.hok, I.bare⟩
/-- behind a call -/
theorem Inv.after {Q : VK} {u : Value} (I : Inv X pins σ H s) (h : CE X.stack X.prog X.w H s Q u s') : EP X pins σ Q u s' := by
  obtain ⟨v, H', os, bare, un, hok, r, q⟩ := h
  obtain ⟨hh, g, d, t, os'⟩ := s'
  obtain rfl : os' = s.os := os
  exact ⟨v, H', I.call (h' := hh) (g' := g) (d' := d) (t' := t) (ch := []) un hok bare (fun b z => absurd z (by simp)), r, q⟩
end

/-! ### calls -/
/-- f(..): the written arguments, then the defaults dvs; E: what is wanted of an exception -/
def tCall (sp : Sp) (dvs : List V) (E : XK) (t : TA) : TE := fun σ H Q => t σ H fun vs H1 => sp (vs ++ dvs) H1 Q E
/-- how the parameters are bound: us the positional arguments, kw the keywords' values by name, ds the defaults that fill up -/
def Binds (K : PySem.W.Frag) (fd : FuncData) (ps : List Str) (ds : List Value) : Prop :=
  ∀ (s : Shared) (us : List Value), K.In s.heap → (us ++ ds).length = ps.length → BindsTo s fd ⟨us, []⟩ (ps.zip (us ++ ds))
/-- every parameter is given -/
theorem Binds.all {K : PySem.W.Frag} {fd : FuncData} {ps : List Str} (h : ∀ us : List Value, us.length = ps.length → bindArgs fd ⟨us, []⟩ = pure (ps.zip us)) : Binds K fd ps [] := fun s us _ hl => by
  rw [List.append_nil] at hl ⊢
  exact .of_eq (h us hl)

/-- an exception of a callee reaches what this body wants of exceptions -/
def Passes (CX : CXT) (X : Cx) (E : XK) : Prop := ∀ (pins : List (Addr × Obj)) (σ : St) (H : Hp) (s : Shared) (e : Value) (s' : Shared), Inv X pins σ H s → CX X.stack H s E e s' → X.xe e s'

section
variable {X : Cx} {CX : CXT} {k : Nat} {f C : Addr} {fd : FuncData} {ps : List Str} {sp : Sp} {dvs : List V} {ds : List Value} {E : XK} {x m : Str} {p pos apos : Pos} {e o : Expr} {es : List Expr} {ta : TE} {t : TA}

/-- the callee runs -/
theorem run_fn {pins : List (Addr × Obj)} {σ : St} {H : Hp} {s : Shared} {Q : VK} {us : List Value} {vs : List V} (F : FnOk X.prog X.w X.K X.mg X.base CX k f fd ps sp) (hr : Room k X.A) (hb : Binds X.K fd ps ds) (hd : Vals dvs ds) (hx : Passes CX X E)
    (I : Inv X pins σ H s) (r : Vals vs us) (h : sp (vs ++ dvs) H Q E) : wpAny (model X.prog X.w) X.A (call (.ref f) us) (EP X pins σ Q) X.xe s := by
  have r2 : Vals (vs ++ dvs) (us ++ ds) := r.append hd
  have hl : (us ++ ds).length = ps.length := by rw [← r2.length]; exact F.len _ _ _ _ h
  refine wpAny_call (codeAny_mono (F.run X.A X.stack s H ⟨us, []⟩ (us ++ ds) (vs ++ dvs) Q E hr I.env0 (hb s us I.kIn hl) r2 h) fun r s' hq => ?_)
  cases r with
  | error e => exact hx pins σ H s e s' I hq
  | ok fl =>
    cases fl with
    | ret u => exact I.after hq
    | next => exact False.elim hq
    | brk => exact False.elim hq
    | cont => exact False.elim hq

theorem pe_call (F : FnOk X.prog X.w X.K X.mg X.base CX k f fd ps sp) (hr : Room k X.A) (hg : Gl X x) (hm : X.mg x = some (.ref f)) (hk : PySem.W.keepIn X.K (.ref f) = true) (hb : Binds X.K fd ps ds) (hd : Vals dvs ds) (hx : Passes CX X E)
    (ha : PA X (e :: es) t) (hdb : (x == ("__debug__" : Str)) = false := by decide) (he : starEach (e :: es) X.env = (false, eval e X.env) :: starEach es X.env := by rfl) (hpl : (backTo pos (starEach es X.env)).any (·.1) = false := by rfl) :
    PE X (.Call (.Name x p) (e :: es) [] pos) (tCall sp dvs E t) := by
  intro pins s σ H Q I h
  refine wpAny_Call_Name_kw (ld_glob I hg hm ?_ hdb)
  refine PySem.W.callWith_K (h₀ := X.base) I.ok.mod.kin hk (thn (ha pos pins s σ H _ I h) fun us s1 ⟨vs, H1, I1, r, q⟩ => ⟨I1.kIn, ?_⟩) he hpl
  exact run_fn F hr hb hd hx I1 r q
/-- what a class must have to be made -/
structure Mk (K : PySem.W.Frag) (C f : Addr) : Prop where
  makes : PySem.W.makesIn K C = true
  init : PySem.W.findIn K (.ref C) "__init__" = some (some (.ref f))
  fn : PySem.W.isFn K (.ref f) = true
  kp : PySem.W.keepIn K (.ref C) = true

end

/-! ### keywords -/
section
variable {X : Cx} {CX : CXT} {k : Nat} {f C : Addr} {fd : FuncData} {ps ks : List Str} {sp : Sp} {E : XK} {x m : Str} {p pos apos kpos : Pos} {e o : Expr} {es : List Expr} {kws : List Keyword} {te ta : TE} {t tk : TA} {nm : Option Str}
/-- how a call with keywords binds: g puts the positional values us and the keywords' values ws (names ks) in the parameters' order, defaults among them -/
structure KBinds (K : PySem.W.Frag) (fd : FuncData) (ps ks : List Str) (g : List Value → List Value → List Value) (gV : List V → List V → List V) : Prop where
  to : ∀ (s : Shared) (us ws : List Value), K.In s.heap → (g us ws).length = ps.length → BindsTo s fd ⟨us, ks.zip ws⟩ (ps.zip (g us ws))
  rel : ∀ {vs : List V} {us : List Value} {zs : List V} {ws : List Value}, Vals vs us → Vals zs ws → Vals (gV vs zs) (g us ws)
variable {g : List Value → List Value → List Value} {gV : List V → List V → List V}
end

/-! ### a def's body keeps its promise -/
/-- names: the parameters first -/
structure FnScope (N P : List Str) (sc : Scope) : Prop where
  kind : sc.kind = .function
  co : sc.isCoroutine = false
  gen : sc.isGenerator = false
  nd : N.Nodup
  pre : N.take P.length = P
  par : ∀ x ∈ P, sc.names.lookup x = some .local ∨ sc.names.lookup x = some .cell
  nofree : ∀ y ∈ sc.names, y.2 ≠ .free

theorem bindL_out {kindOf : Str → Option NameKind} {x : Str} : ∀ {binds : List (Str × Value)} {m : Str → Option Value}, (∀ v, (x, v) ∉ binds) → bindL kindOf binds m x = m x
  | [], _, _ => rfl
  | (n, v) :: r, m, h => by
    unfold bindL
    rw [bindL_out fun w hw => h w (List.mem_cons_of_mem _ hw)]
    split
    · have : x ≠ n := by rintro rfl; exact h v List.mem_cons_self
      simp [this]
    · rfl
theorem bindC_out {kindOf : Str → Option NameKind} {x : Str} : ∀ {binds : List (Str × Value)} {m : Str → Option Value}, (∀ v, (x, v) ∉ binds) → bindC kindOf binds m x = m x
  | [], _, _ => rfl
  | (n, v) :: r, m, h => by
    unfold bindC
    rw [bindC_out fun w hw => h w (List.mem_cons_of_mem _ hw)]
    split
    · rfl
    · have : x ≠ n := by rintro rfl; exact h v List.mem_cons_self
      simp [this]
theorem bindL_get {kindOf : Str → Option NameKind} {x : Str} {v : Value} : ∀ {P : List Str} {vs : List Value} {i : Nat} {m : Str → Option Value}, P.Nodup → P[i]? = some x → vs[i]? = some v → kindOf x = some .local →
    bindL kindOf (P.zip vs) m x = some v
  | [], _, _, _, _, h, _, _ => by simp at h
  | _ :: _, [], _, _, _, _, h, _ => by simp at h
  | p :: P, w :: vs, 0, m, nd, h1, h2, hk => by
    simp at h1 h2; subst h1; subst h2
    show bindL kindOf ((p, w) :: P.zip vs) m p = _
    unfold bindL
    rw [bindL_out fun v hv => (List.nodup_cons.mp nd).1 (List.of_mem_zip hv).1, if_pos hk]
    simp
  | p :: P, w :: vs, i + 1, m, nd, h1, h2, hk => by
    show bindL kindOf ((p, w) :: P.zip vs) m x = _
    unfold bindL
    exact bindL_get (i := i) (List.nodup_cons.mp nd).2 (by simpa using h1) (by simpa using h2) hk
theorem bindC_get {kindOf : Str → Option NameKind} {x : Str} {v : Value} : ∀ {P : List Str} {vs : List Value} {i : Nat} {m : Str → Option Value}, P.Nodup → P[i]? = some x → vs[i]? = some v → kindOf x ≠ some .local →
    bindC kindOf (P.zip vs) m x = some v
  | [], _, _, _, _, h, _, _ => by simp at h
  | _ :: _, [], _, _, _, _, h, _ => by simp at h
  | p :: P, w :: vs, 0, m, nd, h1, h2, hk => by
    simp at h1 h2; subst h1; subst h2
    show bindC kindOf ((p, w) :: P.zip vs) m p = _
    unfold bindC
    rw [bindC_out fun v hv => (List.nodup_cons.mp nd).1 (List.of_mem_zip hv).1, if_neg hk]
    simp
  | p :: P, w :: vs, i + 1, m, nd, h1, h2, hk => by
    show bindC kindOf ((p, w) :: P.zip vs) m x = _
    unfold bindC
    exact bindC_get (i := i) (List.nodup_cons.mp nd).2 (by simpa using h1) (by simpa using h2) hk

/-- the names' values at the entry -/
def start (N : List Str) (vs : List V) : St := vs.map some ++ List.replicate (N.length - vs.length) none

/-- the context of a def's body, at its entry; an exception leaves the frame, then lies as CX says -/
def cxOf (CX : CXT) (P : Program) (w : World) (K : PySem.W.Frag) (mg : Str → Option Value) (base : Heap) (N : List Str) (qual : Str) (scope : Scope) (f : Addr) (cd : Value) (A : Around) (outer : List Env) (s : Shared) (H : Hp) (E : XK) : Cx where
  prog := P
  w := w
  K := K
  mg := mg
  base := base
  A := A.deeper (envOfC qual scope s.heap.objs.size f cd)
  N := N
  s₀ := s
  H₀ := H
  env := envOfC qual scope s.heap.objs.size f cd
  outer := outer
  stack := envOfC qual scope s.heap.objs.size f cd :: outer
  ex := []
  calm := true
  fn := fun _ => true
  pn := []
  xe := fun e s' => wpAny (model P w) (A.deeper (envOfC qual scope s.heap.objs.size f cd)) (leaving (envOfC qual scope s.heap.objs.size f cd) e) (fun _ s'' => CX outer H s E e s'') (fun e' s'' => CX outer H s E e' s'') s'

theorem cell_has {sc : Scope} {n : Nat} {x : Str} (h : sc.names.lookup x = some .cell) : ∃ c, (cellsFrom n sc.names []).lookup x = some c := by
  have q := PySem.W.cellsFrom_some sc.names n [] (.inl h)
  exact Option.isSome_iff_exists.mp q

theorem inv_start {CX : CXT} {P : Program} {w : World} {K : PySem.W.Frag} {mg : Str → Option Value} {base : Heap} {N ps : List Str} {qual : Str} {scope : Scope} {f : Addr} {cd : Value} {A : Around} {outer : List Env} {s s1 : Shared} {H : Hp} {E : XK} {us : List Value} {vs : List V}
    (S : FnScope N ps scope) (hd : A.handled = none) (e0 : Env0 P w K mg base A outer s H) (hl : vs.length = ps.length) (r : Vals vs us)
    (x : InCallC s s.heap.objs.size (bindL (envOfC qual scope s.heap.objs.size f cd).kindOf (ps.zip us) fun _ => none) (cellsFrom (s.heap.objs.size + 1) scope.names []) (bindC (envOfC qual scope s.heap.objs.size f cd).kindOf (ps.zip us) fun _ => none) s1) :
    Inv (cxOf CX P w K mg base N qual scope f cd A outer s H E) [] (start N vs) H s1 := by
  have hpl : ps.length ≤ N.length := by have := congrArg List.length S.pre; rw [List.length_take] at this; omega
  obtain ⟨h1, tk, rfl, hk⟩ := x.done
  have noA : ∀ b : Addr, b ∉ (cxOf CX P w K mg base N qual scope f cd A outer s H E).ex := fun b z => absurd (show b ∈ ([] : List Addr) from z) (by simp)
  refine ⟨⟨e0.mod, S.kind, rfl, rfl, Nat.le_refl _, fun y z c h1 h2 => ?_, fun y hy => ?_, fun y c _ h => ?_, fun _ => hd, Around.frames_deeper e0.frames, .inr ⟨rfl, rfl⟩, fun b z => absurd z (noA b), e0.bs, e0.bsz, fun b _ _ => noA b, fun b z => absurd z (noA b), e0.funs, e0.frf⟩,
    rfl, e0.bare, Un.kept hk, ⟨_, x.toInCall.ns, fun i y v h1 h2 h3 => ?_⟩, fun y c h => ⟨_, x.cell y c h⟩, e0.hok.fresh (Nat.le_refl _), fun y c h => ?_, fun p hp => absurd (show p ∈ ([] : List (Addr × Obj)) from hp) (by simp), e0.hok.kept hk, ?_⟩
  · exact name_of_addr x.apart (PySem.mem_of_lookup h1) (PySem.mem_of_lookup h2)
  · have hy : scope.names.lookup y = some .cell ∨ scope.names.lookup y = some .free := hy
    rcases hy with hy | hy
    · exact cell_has hy
    · exact absurd rfl (S.nofree _ (PySem.mem_of_lookup hy))
  · exact Nat.le_of_lt (x.above y c (PySem.mem_of_lookup h))
  · have hi : i < vs.length := by
      unfold start at h2
      by_cases hi : i < vs.length
      · exact hi
      · rw [List.getElem?_append_right (by simpa using hi)] at h2
        rw [List.getElem?_replicate] at h2
        split at h2 <;> cases h2
    have ha : vs[i]? = some v := by
      unfold start at h2
      rw [List.getElem?_append_left (by simpa using hi), List.getElem?_map] at h2
      cases e : vs[i]? with
      | none => rw [e] at h2; cases h2
      | some a => rw [e] at h2; cases h2; rfl
    obtain ⟨u, hu, rv⟩ := r.get ha
    have hp : ps[i]? = some y := by
      rw [← S.pre, List.getElem?_take_of_lt (by omega)]; exact h1
    have ndP : ps.Nodup := by rw [← S.pre]; exact S.nd.sublist (List.take_sublist _ _)
    refine ⟨u, rv, ?_⟩
    rcases S.par y (List.mem_of_getElem? hp) with k | k
    · exact .inl ⟨k, bindL_get ndP hp hu k⟩
    · obtain ⟨c, e⟩ := cell_has (n := s.heap.objs.size + 1) k
      refine .inr ⟨.inl k, c, e, ?_⟩
      have q := x.cell y c e
      rw [bindC_get ndP hp hu (by show scope.names.lookup y ≠ _; rw [k]; decide)] at q
      exact q
  · exact e0.hok.fresh (Nat.le_of_lt (x.above y c (PySem.mem_of_lookup h)))
  · unfold start
    show _ = N.length
    rw [List.length_append, List.length_map, List.length_replicate]
    omega

/-- THE RULE: a def (or a method) of the text, by its body. The body's reading t is chosen for each entry; it is run at the parameters' values -/
theorem fn_of {CX : CXT} {P : Program} {w : World} {K : PySem.W.Frag} {mg : Str → Option Value} {base : Heap} {k : Nat} {f : Addr} {name qual : Str} {params : Arguments} {body : List Stmt} {scope : Scope} {dV kV doc pm cdv ct oc : Value} {an od : Option Addr}
    {osl : Array (Option Value)} {N ps : List Str} {sp : Sp} (lk : K.lookup f = some ⟨oc, od, .func (PySem.W.fnOf name qual params body scope dV kV doc pm an cdv ct), osl⟩) (hcd : PySem.W.codeIn K cdv qual = true) (S : FnScope N ps scope)
    (len : ∀ vs H Q E, sp vs H Q E → vs.length = ps.length)
    (hbody : ∀ (A : Around) (outer : List Env) (s : Shared) (H : Hp) (vs : List V) (Q : VK) (E : XK), Room k (A.deeper (envOfC qual scope s.heap.objs.size f cdv)) → sp vs H Q E →
      ∃ t, PSs (cxOf CX P w K mg base N qual scope f cdv A outer s H E) body t ∧ t { nx := fun _ H' => Q .non H', rt := Q } (start N vs) H) :
    FnOk P w K mg base CX (k + 1) f (PySem.W.fnOf name qual params body scope dV kV doc pm an cdv ct) ps sp := by
  refine ⟨len, fun A outer s H args us vs Q E hr e0 hb r hsp => ?_⟩
  have hl := len _ _ _ _ hsp
  have KX : K.In s.heap := e0.mod.kin.keeps fun b o e => (e0.bs b o e).1
  have lim : s.heap.NoLimit := e0.mod.nolimit.keeps fun b o e => (e0.bs b o e).1
  have hkind : ∀ y ∈ ps.zip us, scope.names.lookup y.1 = some .local ∨ (scope.names.lookup y.1 = some .cell ∧ ((cellsFrom (s.heap.objs.size + 1) scope.names []).lookup y.1).isSome = true) := fun ⟨n, v⟩ hy => by
    rcases S.par n (List.of_mem_zip hy).1 with q | q
    · exact .inl q
    · exact .inr ⟨q, PySem.W.cellsFrom_some _ _ _ (.inl q)⟩
  refine codeAny_call_function hr.depth (KX _ _ lk) rfl S.co S.gen rfl (PySem.W.codeRec_of KX hcd) (hb _ _ _ _ ?_)
  refine wpAny_newFunctionEnv_cells S.kind hkind fun env he s1 x => ?_
  subst he
  refine ⟨lim.keeps x.toInCall.keep, codeAny_func ?_⟩
  obtain ⟨t, ht, hq⟩ := hbody A outer s H vs Q E (hr.deeper _) hsp
  have I : Inv (cxOf CX P w K mg base N qual scope f cdv A outer s H E) [] (start N vs) H s1 := inv_start S hr.hd e0 hl r x
  refine wpAny_mono (ht [] s1 (start N vs) H _ I hq) (fun fl s' hs => ?_) fun e s' hs => hs
  have fin : ∀ {σ' : St} {H' : Hp} {v : V} {u : Value}, Inv (cxOf CX P w K mg base N qual scope f cdv A outer s H E) [] σ' H' s' → RelV v u → Q v H' → CE outer P w H s Q u s' :=
    fun {σ' H' v u} J rv q => ⟨v, H', J.os, J.bare, J.base, J.hok, rv, q⟩
  cases fl with
  | ret u =>
    obtain ⟨v, σ', H', J, rv, q⟩ := hs
    exact fin J rv q
  | next =>
    obtain ⟨σ', H', J, q⟩ := hs
    exact fin (v := V.non) (u := Value.none) J rfl q
  | brk =>
    obtain ⟨_, _, _, q⟩ := hs
    exact False.elim q
  | cont =>
    obtain ⟨_, _, _, q⟩ := hs
    exact False.elim q
end L2

namespace L2
open PySem PySem.Spec PyProof.Rows
section
variable {X : Cx} {x : Str} {p pos : Pos} {e : Expr} {es : List Expr} {t : TA} {id T : String} {r : List V → Hp → VK → Prop}

def tCB (r : List V → Hp → VK → Prop) (t : TA) : TE := fun σ H Q => t σ H fun vs H1 => r vs H1 Q
/-- f(e, ..), f a built-in function -/
theorem pe_callB (hc : CallR X (.builtin id) r) (hg : Gl X x) (hm : X.mg x = none) (hv : bootBuiltins x = some (.builtin id)) (ha : PA X (e :: es) t) (hn : x ≠ "__name__" := by decide) (hdb : (x == ("__debug__" : Str)) = false := by decide)
    (he : starEach (e :: es) X.env = (false, eval e X.env) :: starEach es X.env := by rfl) (hpl : (backTo pos (starEach es X.env)).any (·.1) = false := by rfl) : PE X (.Call (.Name x p) (e :: es) [] pos) (tCB r t) := by
  intro pins s σ H Q I h
  refine wpAny_Call_Name_kw (ld_blt I hg hm hv ?_ hn hdb)
  exact PyProof.Rows.callWith_builtin1 (thn (ha pos pins s σ H _ I h) fun us s1 ⟨vs, H1, I1, r1, q1⟩ => hc pins s1 σ H1 vs us Q I1 r1 q1) he hpl
/-- T(e, ..), T a built-in type -/
theorem pe_callTy (hc : CallR X (.type T) r) (hg : Gl X x) (hm : X.mg x = none) (hv : bootBuiltins x = some (.type T)) (ha : PA X (e :: es) t) (hn : x ≠ "__name__" := by decide) (hdb : (x == ("__debug__" : Str)) = false := by decide)
    (he : starEach (e :: es) X.env = (false, eval e X.env) :: starEach es X.env := by rfl) (hpl : (backTo pos (starEach es X.env)).any (·.1) = false := by rfl) : PE X (.Call (.Name x p) (e :: es) [] pos) (tCB r t) := by
  intro pins s σ H Q I h
  refine wpAny_Call_Name_kw (ld_blt I hg hm hv ?_ hn hdb)
  exact PyProof.Rows.callWith_type1 (thn (ha pos pins s σ H _ I h) fun us s1 ⟨vs, H1, I1, r1, q1⟩ => hc pins s1 σ H1 vs us Q I1 r1 q1) he hpl
end
end L2

namespace HT
open PySem PyProof.Rows

section
open PySem.SeqAt
open PySem.AutoSeq1 (wpAny_loadPart')
open PySem.MeetsSeq PySem.MeetsSeq2 PySem.MeetsSeq3

end

section
variable {prog : Program} {w : World} {A : Around} {E : Value → Shared → Prop} {s : Shared}

/-! ### t[a:b], not the whole -/
end
end HT

namespace L2
open PySem PySem.Spec PyProof.Rows

/-! ### the parts of a slice -/
abbrev TO := St → Hp → (Option Int → Hp → Prop) → Prop
/-- a slice's part (left out, or an int) -/
def PO (X : Cx) (e : Option Expr) (t : TO) : Prop :=
  ∀ (pins : List (Addr × Obj)) (s : Shared) (σ : St) (H : Hp) (Q : Option Int → Hp → Prop), Inv X pins σ H s → t σ H Q →
    wpAny (model X.prog X.w) X.A (evalPart e X.env) (fun u s' => ∃ o H', Inv X pins σ H' s' ∧ IsPart u o ∧ Q o H') X.xe s
def tPart (t : TE) : TO := fun σ H Q => t σ H fun x H1 => ∃ i, x = .int i ∧ Q (some i) H1

section
variable {X : Cx} {e : Expr} {te : TE} {lo hi : Option Expr} {tl th : TO} {pos p2 : Pos}

theorem po_some (h : PE X e te) : PO X (some e) (tPart te) := by
  intro pins s σ H Q I hw
  rw [evalPart_some]
  refine thn (h pins s σ H _ I hw) fun u s1 ⟨x, H1, I1, r1, q1⟩ => ?_
  obtain ⟨i, rfl, q⟩ := q1
  obtain ⟨t, rfl⟩ := r1
  exact ⟨some i, H1, I1, .int i t, q⟩

/-- what a slice of a value is, by values: the slice object stands at sl -/
def SlR (X : Cx) (r : V → Option Int → Option Int → Hp → VK → Prop) : Prop :=
  ∀ (pins : List (Addr × Obj)) (s : Shared) (σ : St) (H : Hp) (x : V) (v vl vu : Value) (lo hi : Option Int) (sl : Addr) (Q : VK), Inv X pins σ H s → RelV x v → s.heap.IsSliceOf sl vl vu .none → IsPart vl lo → IsPart vu hi → r x lo hi H Q →
    ∃ T id, typeLookup (.type T) "__getitem__" = pure (some (.builtin id)) ∧ s.TypeIs v T ∧ wpAny (model X.prog X.w) X.A (getItem v (.ref sl)) (EP X pins σ Q) X.xe s
theorem SlR.or {r r' : V → Option Int → Option Int → Hp → VK → Prop} (h : SlR X r) (h' : SlR X r') : SlR X (fun x lo hi H Q => r x lo hi H Q ∨ r' x lo hi H Q) := by
  intro pins s σ H x v vl vu lo hi sl Q I rx hs pl pu q
  rcases q with q | q
  · exact h pins s σ H x v vl vu lo hi sl Q I rx hs pl pu q
  · exact h' pins s σ H x v vl vu lo hi sl Q I rx hs pl pu q
/-! ### t < u, t + u -/
end
end L2

namespace L2
open PySem PySem.Spec PyProof.Rows

/-! ### places -/
/-- the place that an index of any sign means -/
def ixN (n : Nat) (i : Int) : Option Nat := if 0 ≤ i then (if i < n then some i.toNat else none) else if -(n : Int) ≤ i then some (i + n).toNat else none
def atI {α : Type} (xs : List α) (i : Int) : Option α := (ixN xs.length i).bind fun j => xs[j]?
theorem ixN_seq {n : Nat} {i : Int} {j : Nat} (h : ixN n i = some j) : seqIndex? i n = some j ∧ j < n ∧ -(n : Int) ≤ i ∧ i < n := by
  unfold ixN at h
  by_cases h0 : 0 ≤ i
  · rw [if_pos h0] at h
    by_cases h1 : i < n
    · rw [if_pos h1] at h
      have e : i.toNat = j := Option.some.inj h
      exact ⟨by rw [seqIndex_of h0 h1, e], by omega, by omega, h1⟩
    · rw [if_neg h1] at h; cases h
  · rw [if_neg h0] at h
    by_cases h1 : -(n : Int) ≤ i
    · rw [if_pos h1] at h
      have e : (i + n).toNat = j := Option.some.inj h
      exact ⟨by rw [seqIndex_neg (by omega) h1, e], by omega, h1, by omega⟩
    · rw [if_neg h1] at h; cases h
theorem atI_get {α : Type} {xs : List α} {i : Int} {v : α} (h : atI xs i = some v) : ∃ j, seqIndex? i xs.length = some j ∧ xs[j]? = some v ∧ j < xs.length ∧ -(xs.length : Int) ≤ i ∧ i < xs.length := by
  unfold atI at h
  cases e : ixN xs.length i with
  | none => rw [e] at h; cases h
  | some j =>
    rw [e] at h
    obtain ⟨h1, h2, h3, h4⟩ := ixN_seq e
    exact ⟨j, h1, h, h2, h3, h4⟩
theorem atI_nat {α : Type} {xs : List α} {j : Nat} {v : α} (h : xs[j]? = some v) : atI xs (j : Int) = some v := by
  have hj : j < xs.length := (List.getElem?_eq_some_iff.mp h).1
  have e : ixN xs.length (j : Int) = some j := by
    unfold ixN
    rw [if_pos (by omega), if_pos (by omega)]; simp
  unfold atI; rw [e]; exact h
/-! ### what may be subscripted -/
/-- what stands as an index of a plain subscript -/
def PlainIx (b : Expr) : Prop := ∀ o i, subscripted b false o i = operate [o, i] (getItem o i)
/-- a subscript by values -/
def IxR (X : Cx) (r : R2) : Prop :=
  ∀ (value slice : Expr) (pins : List (Addr × Obj)) (s : Shared) (σ : St) (H : Hp) (x y : V) (v u : Value) (Q : VK), Inv X pins σ H s → RelV x v → RelV y u → r x y H Q →
    subscripted slice false v u = operate [v, u] (getItem v u) → wpAny (model X.prog X.w) X.A (subscriptTail value slice v u) (EP X pins σ Q) X.xe s
/-- a call of a builtin's method by values: the receiver, the arguments -/
def MtR (X : Cx) (id : String) (r : V → List V → Hp → VK → Prop) : Prop :=
  ∀ (pins : List (Addr × Obj)) (s : Shared) (σ : St) (H : Hp) (x : V) (xs : List V) (v : Value) (us : List Value) (Q : VK), Inv X pins σ H s → RelV x v → Vals xs us → r x xs H Q →
    wpAny (model X.prog X.w) X.A (call (.builtin id) (v :: us)) (EP X pins σ Q) X.xe s
section
variable {X : Cx} {a b : Expr} {ta tb : TE} {pos : Pos}
theorem IxR.or {r r' : R2} (h : IxR X r) (h' : IxR X r') : IxR X (fun x y H Q => r x y H Q ∨ r' x y H Q) := by
  intro value slice pins s σ H x y v u Q I rx ry q hs
  rcases q with q | q
  · exact h value slice pins s σ H x y v u Q I rx ry q hs
  · exact h' value slice pins s σ H x y v u Q I rx ry q hs
theorem MtR.or {id : String} {r r' : V → List V → Hp → VK → Prop} (h : MtR X id r) (h' : MtR X id r') : MtR X id (fun x xs H Q => r x xs H Q ∨ r' x xs H Q) := by
  intro pins s σ H x xs v us Q I rx rs q
  rcases q with q | q
  · exact h pins s σ H x xs v us Q I rx rs q
  · exact h' pins s σ H x xs v us Q I rx rs q
/-- a[b] -/
theorem pe_ix {r : R2} (hr : IxR X r) (ha : PE X a ta) (hb : PE X b tb) (hs : PlainIx b) : PE X (.Subscript a b pos) (tOp r ta tb) := by
  intro pins s σ H Q I h
  exact Subscript_ (binT ha hb I h fun v u s2 x y H2 I2 rx ry q => hr a b pins s2 σ H2 x y v u Q I2 rx ry q (hs _ _))

def rIxL (K : PySem.W.Frag) : R2 := fun x y H Q => ∃ p xs i v, x = .ref p ∧ y = .int i ∧ SqL K H p xs ∧ atI xs i = some v ∧ Q v H
def rIxT (K : PySem.W.Frag) : R2 := fun x y H Q => ∃ p xs i v, x = .ref p ∧ y = .int i ∧ SqT K H p xs ∧ atI xs i = some v ∧ Q v H
theorem ix_list : IxR X (rIxL X.K) := by
  intro value slice pins s σ H x y v u Q I rx ry h hs
  obtain ⟨p, xs, i, z, rfl, rfl, hq, he, q⟩ := h
  cases rx
  obtain ⟨t, rfl⟩ := ry
  obtain ⟨its, r, pl, hz⟩ := I.list hq
  obtain ⟨j, h1, h2, h3, h4, h5⟩ := atI_get he
  obtain ⟨w, ew, rw'⟩ := r.get h2
  have hl := r.length
  have hn := line63
  have fin : EP X pins σ Q w s := ⟨z, H, I, rw', q⟩
  by_cases h0 : 0 ≤ i
  · have hj : i.toNat = j := by
      rw [seqIndex_of h0 h5] at h1
      exact Option.some.inj h1
    exact item_listR pl.isList h0 (by omega) (by rw [hj]; simpa using ew) fin hs
  · have hj : (i + (its.toArray.size : Int)).toNat = j := by
      rw [seqIndex_neg (by omega) h4] at h1
      rw [List.size_toArray, ← hl]
      exact Option.some.inj h1
    exact subscriptTail_builtinR (x := w) pl.isList.typeIs slot_list_getitem.lookup
      (wpAny_getItem_list_neg (Q := fun r s' => r = w ∧ EP X pins σ Q r s') pl.isList (by omega) (by rw [List.size_toArray] <;> omega) (by omega) (by rw [hj]; simpa using ew) ⟨rfl, fin⟩) hs
theorem ix_tup : IxR X (rIxT X.K) := by
  intro value slice pins s σ H x y v u Q I rx ry h hs
  obtain ⟨p, xs, i, z, rfl, rfl, hq, he, q⟩ := h
  cases rx
  obtain ⟨t, rfl⟩ := ry
  obtain ⟨its, r, pl, hz⟩ := I.tuple hq
  obtain ⟨j, h1, h2, h3, h4, h5⟩ := atI_get he
  obtain ⟨w, ew, rw'⟩ := r.get h2
  have hl := r.length
  have hn := line63
  have fin : EP X pins σ Q w s := ⟨z, H, I, rw', q⟩
  exact subscriptTail_builtinR (x := w) pl.typeIs slot_tuple_getitem.lookup
    (getItem_tuple (j := j) (Q := fun r s' => r = w ∧ EP X pins σ Q r s') pl (by omega) (by omega) (by rw [List.size_toArray, ← hl]; exact h1) (by simpa using ew) ⟨rfl, fin⟩) hs
/-! ### xs[i] = v, any sign -/
theorem Inv.lst {pins : List (Addr × Obj)} {σ : St} {H : Hp} {s : Shared} {p : Addr} {xs : List V} (I : Inv X pins σ H s) (h : H p = some (.lst xs)) :
    ∃ (its : List Value) (n : Nat), Vals xs its ∧ s.heap.get? p = some { cls := .type "list", data := .seq its.toArray n } ∧ xs.length ≤ sizeLine := by
  obtain ⟨z, its, n, r, e⟩ := I.hok p _ h
  exact ⟨its, n, r, e, z⟩
/-! ### slices -/
/-! ### in, not in: flat items -/
def flatV : V → Bool
  | .non => true
  | .bl _ => true
  | .int _ => true
  | .str _ => true
  | _ => false
/-- == of flat values -/
def eqV : V → V → Bool
  | .non, .non => true
  | .bl a, .bl b => a == b
  | .bl a, .int b => (if a then 1 else 0) == b
  | .int a, .bl b => a == (if b then 1 else 0)
  | .int a, .int b => a == b
  | .str a, .str b => a == b
  | _, _ => false
theorem eqAt_V {A : Around} {s : Shared} {y x : V} {u v : Value} (ry : RelV y u) (rx : RelV x v) (fy : flatV y = true) (fx : flatV x = true) : SeqAt.EqAt A s u v (eqV y x) := by
  cases y with
  | non =>
    cases ry
    cases x with
    | non => cases rx; exact SeqAt.EqAt.same _
    | bl b => cases rx; exact SeqAt.EqAt.none_bool b
    | int b => obtain ⟨t, rfl⟩ := rx; exact SeqAt.EqAt.none_int b t
    | str b => obtain ⟨t, rfl⟩ := rx; exact SeqAt.EqAt.none_str b t
    | _ => exact absurd (show false = true from fx) Bool.false_ne_true
  | bl a =>
    cases ry
    cases x with
    | non => cases rx; exact SeqAt.EqAt.bool_none a
    | bl b => cases rx; exact SeqAt.EqAt.bool_bool a b
    | int b => obtain ⟨t, rfl⟩ := rx; exact SeqAt.EqAt.bool_int a b t
    | str b => obtain ⟨t, rfl⟩ := rx; exact SeqAt.EqAt.bool_str a b t
    | _ => exact absurd (show false = true from fx) Bool.false_ne_true
  | int a =>
    obtain ⟨t', rfl⟩ := ry
    cases x with
    | non => cases rx; exact SeqAt.EqAt.int_none a t'
    | bl b => cases rx; exact SeqAt.EqAt.int_bool a t' b
    | int b => obtain ⟨t, rfl⟩ := rx; exact SeqAt.EqAt.int_int a t' b t
    | str b => obtain ⟨t, rfl⟩ := rx; exact SeqAt.EqAt.int_str a t' b t
    | _ => exact absurd (show false = true from fx) Bool.false_ne_true
  | str a =>
    obtain ⟨t', rfl⟩ := ry
    cases x with
    | non => cases rx; exact SeqAt.EqAt.str_none a t'
    | bl b => cases rx; exact SeqAt.EqAt.str_bool a t' b
    | int b => obtain ⟨t, rfl⟩ := rx; exact SeqAt.EqAt.str_int a t' b t
    | str b => obtain ⟨t, rfl⟩ := rx; exact SeqAt.EqAt.str_str a t' b t
    | _ => exact absurd (show false = true from fx) Bool.false_ne_true
  | _ => exact absurd (show false = true from fy) Bool.false_ne_true
/-- the items' answers, read off the values (a value's own answer does not lean on its token) -/
def eqU (x : V) (u : Value) : Bool := match u with
  | .none => eqV .non x
  | .bool b => eqV (.bl b) x
  | .int i _ => eqV (.int i) x
  | .str z _ => eqV (.str z) x
  | _ => false
theorem eqU_of {x y : V} {u : Value} (r : RelV y u) (f : flatV y = true) : eqU x u = eqV y x := by
  cases y with
  | non => cases r; rfl
  | bl b => cases r; rfl
  | int i => obtain ⟨t, rfl⟩ := r; rfl
  | str z => obtain ⟨t, rfl⟩ := r; rfl
  | _ => exact absurd (show false = true from f) Bool.false_ne_true
theorem any_eqU {x : V} : ∀ {xs : List V} {us : List Value}, Vals xs us → xs.all flatV = true → us.any (eqU x) = xs.any fun y => eqV y x
  | _, _, .nil, _ => rfl
  | y :: xs, u :: us, .cons r t, f => by
    rw [List.all_cons, Bool.and_eq_true] at f
    rw [List.any_cons, List.any_cons, eqU_of r f.1, any_eqU t f.2]
theorem mem_eqAt {A : Around} {s : Shared} {x : V} {v : Value} (rx : RelV x v) (fx : flatV x = true) : ∀ {xs : List V} {us : List Value}, Vals xs us → xs.all flatV = true → ∀ u ∈ us, SeqAt.EqAt A s u v (eqU x u)
  | _, _, .nil, _ => fun u hu => by cases hu
  | y :: xs, u :: us, .cons r t, f => fun u' hu => by
    rw [List.all_cons, Bool.and_eq_true] at f
    rcases List.mem_cons.mp hu with rfl | hu
    · rw [eqU_of r f.1]; exact eqAt_V r rx f.1 fx
    · exact mem_eqAt rx fx t f.2 u' hu
def inV (x : V) (xs : List V) : Bool := xs.any fun y => eqV y x
/-- x in a list or tuple of flat items -/
def rIn (K : PySem.W.Frag) (neg : Bool) : R2 := fun x y H Q => ∃ p xs, y = .ref p ∧ (SqL K H p xs ∨ SqT K H p xs) ∧ flatV x = true ∧ xs.all flatV = true ∧ Q (.bl (if neg then !inV x xs else inV x xs)) H
theorem op_in_seq : OpR X (compareOp .In) (rIn X.K false) := by
  intro pins s σ H x y v u Q I rx ry h
  obtain ⟨p, xs, rfl, hq, fx, fs, q⟩ := h
  cases ry
  rcases hq with hq | hq
  · obtain ⟨its, r, pl, hz⟩ := I.list hq
    refine SeqAt.in_listAt (eqU x) pl.isList (fun w hw => mem_eqAt rx fx r fs w (by simpa using hw)) ⟨.bl _, H, I, rfl, ?_⟩
    rw [show its.toArray.any (eqU x) = its.any (eqU x) by simp, any_eqU r fs]
    exact q
  · obtain ⟨its, r, pl, hz⟩ := I.tuple hq
    refine SeqAt.in_tupleAt (eqU x) pl (fun w hw => mem_eqAt rx fx r fs w (by simpa using hw)) ⟨.bl _, H, I, rfl, ?_⟩
    rw [show its.toArray.any (eqU x) = its.any (eqU x) by simp, any_eqU r fs]
    exact q
/-! ### len, list(x), tuple(x) of any list or tuple that is read -/
theorem call_len_seq : CallR X (.builtin "len") (fun xs H Q => ∃ p ys, xs = [.ref p] ∧ (SqL X.K H p ys ∨ SqT X.K H p ys) ∧ Q (.int ys.length) H) := by
  intro pins s σ H xs us Q I r h
  obtain ⟨p, ys, rfl, hq, q⟩ := h
  obtain ⟨u, rfl, rx⟩ := vals1 r
  cases rx
  have hn := line63
  rcases hq with hq | hq
  · obtain ⟨its, r', pl, hz⟩ := I.list hq
    have hlen := r'.length
    exact Calls.call_len_list pl.isList (by simp only [List.size_toArray] <;> omega) ⟨.int ys.length, H, I.tok _, ⟨s.toks + 1, by rw [List.size_toArray, hlen]⟩, q⟩
  · obtain ⟨its, r', pl, hz⟩ := I.tuple hq
    have hlen := r'.length
    exact len_tuple pl (by simp only [List.size_toArray] <;> omega) ⟨.int ys.length, H, I.tok _, ⟨s.toks + 1, by rw [List.size_toArray, hlen]⟩, q⟩
theorem call_len_str : CallR X (.builtin "len") (fun xs H Q => ∃ z, xs = [.str z] ∧ z.length ≤ sizeLine ∧ Q (.int z.length) H) := by
  intro pins s σ H xs us Q I r h
  obtain ⟨z, rfl, hz, q⟩ := h
  obtain ⟨u, rfl, t, rfl⟩ := vals1 r
  have hn := line63
  exact len_str (by omega) ⟨.int z.length, H, I.tok _, ⟨_, rfl⟩, q⟩
theorem CallR.or {f : Value} {r r' : List V → Hp → VK → Prop} (h : CallR X f r) (h' : CallR X f r') : CallR X f (fun xs H Q => r xs H Q ∨ r' xs H Q) := by
  intro pins s σ H xs us Q I rs q
  rcases q with q | q
  · exact h pins s σ H xs us Q I rs q
  · exact h' pins s σ H xs us Q I rs q
theorem call_list_of : CallR X (.type "list") (fun xs H Q => ∃ p ys, xs = [.ref p] ∧ (SqL X.K H p ys ∨ SqT X.K H p ys) ∧ ∀ l, H l = none → Q (.ref l) (upd H l (.lst ys))) := by
  intro pins s σ H xs us Q I r h
  obtain ⟨p, ys, rfl, hq, q⟩ := h
  obtain ⟨u, rfl, rx⟩ := vals1 r
  cases rx
  have fin : ∀ (its : List Value), Vals ys its → ys.length ≤ sizeLine → ∀ (h' : Heap) (c' : Nat), (∀ b o', s.heap.get? b = some o' → h'.get? b = some o') →
      h'.get? s.heap.objs.size = some { cls := .type "list", dict := none, data := .seq its.toArray c', slots := #[] } → EP X pins σ Q (.ref s.heap.objs.size) { s with heap := h' } := fun its r' hz h' c' kp e =>
    ⟨.ref s.heap.objs.size, _, I.laid (t' := s.toks) kp (Nat.le_refl _) (show ObjOk X.prog X.w _ h' _ (.lst ys) from ⟨hz, its, c', r', e⟩), rfl, q _ (I.hok.fresh (Nat.le_refl _))⟩
  rcases hq with hq | hq
  · obtain ⟨its, r', pl, hz⟩ := I.list hq
    have hlen := r'.length
    obtain ⟨o, ho, hc, n, hd⟩ := pl.isList
    exact call_list_seq p (.inl rfl) ho hc hd (fun h' c' kp e => fin its r' hz h' c' kp e) (by simp only [List.size_toArray] <;> omega)
  · obtain ⟨its, r', pl, hz⟩ := I.tuple hq
    have hlen := r'.length
    obtain ⟨o, ho, hc, n, hd⟩ := pl
    exact call_list_seq p (.inr rfl) ho hc hd (fun h' c' kp e => fin its r' hz h' c' kp e) (by simp only [List.size_toArray] <;> omega)
/-! ### the call of a builtin's method: o.m(..) -/
/-- the value is of that builtin type -/
def tyV (K : PySem.W.Frag) (T : String) (x : V) (H : Hp) : Prop := match x with
  | .str _ => T = "str"
  | .int _ => T = "int"
  | .ref p => (T = "list" ∧ ∃ xs, SqL K H p xs) ∨ (T = "tuple" ∧ ∃ o, K.lookup p = some o ∧ o.cls = .type "tuple" ∧ o.dict = none) ∨
      (T = "dict" ∧ ((∃ kvs, H p = some (.dK kvs)) ∨ ∃ kvs, H p = some (.dT kvs))) ∨ (T = "set" ∧ ∃ S n, H p = some (.set S n))
  | _ => False
theorem tyV_is {pins : List (Addr × Obj)} {σ : St} {H : Hp} {s : Shared} {T : String} {x : V} {v : Value} (I : Inv X pins σ H s) (r : RelV x v) (ty : tyV X.K T x H) :
    s.TypeIs v T ∧ ∀ a, v = .ref a → ∃ ob, s.heap.get? a = some ob ∧ ob.dict = none := by
  cases x with
  | str z =>
    obtain ⟨t, rfl⟩ := r
    cases (show T = "str" from ty)
    exact ⟨typeIs_str s z t, fun _ e => nomatch e⟩
  | int i =>
    obtain ⟨t, rfl⟩ := r
    cases (show T = "int" from ty)
    exact ⟨typeIs_int s i t, fun _ e => nomatch e⟩
  | ref p =>
    cases r
    rcases ty with ⟨rfl, xs, hq⟩ | ⟨rfl, o, hk, hc, hd⟩ | ⟨rfl, hk⟩ | ⟨rfl, S, n, hk⟩
    · obtain ⟨its, _, pl, _⟩ := I.list hq
      refine ⟨pl.isList.typeIs, fun a e => ?_⟩
      cases e
      obtain ⟨o, n, e, c, hd, _⟩ := pl
      exact ⟨o, e, hd⟩
    · refine ⟨⟨o, I.kIn p o hk, hc⟩, fun a e => ?_⟩
      cases e
      exact ⟨o, I.kIn _ o hk, hd⟩
    · have z : ∃ o, s.heap.get? p = some o ∧ o.ExactDict := by
        rcases hk with ⟨kvs, hk⟩ | ⟨kvs, hk⟩
        · obtain ⟨_, _, _, _, o, _, _, e, ex, _⟩ := I.hok p _ hk
          exact ⟨o, e, ex⟩
        · obtain ⟨_, _, _, _, o, _, _, e, ex, _⟩ := I.hok p _ hk
          exact ⟨o, e, ex⟩
      obtain ⟨o, e, ex⟩ := z
      refine ⟨⟨o, e, ex.1⟩, fun a e2 => ?_⟩
      cases e2
      exact ⟨o, e, ex.2.1⟩
    · obtain ⟨o, _, _, _, e, ex, _⟩ := I.hok p _ hk
      refine ⟨⟨o, e, ex.1⟩, fun a e2 => ?_⟩
      cases e2
      exact ⟨o, e, ex.2.1⟩
  | _ => exact False.elim ty
def tBM0 (K : PySem.W.Frag) (T : String) (r : V → List V → Hp → VK → Prop) (to : TE) : TE := fun σ H Q => to σ H fun x H1 => tyV K T x H1 ∧ r x [] H1 Q
def tBM (K : PySem.W.Frag) (T : String) (r : V → List V → Hp → VK → Prop) (to : TE) (t : TA) : TE := fun σ H Q => to σ H fun x H1 => tyV K T x H1 ∧ t σ H1 fun xs H2 => r x xs H2 Q
variable {o e : Expr} {es : List Expr} {to : TE} {t : TA} {name : Str} {apos cpos : Pos} {T id : String} {r : V → List V → Hp → VK → Prop}
theorem pe_bm0 (pa : PlainAttrs T) (slot : Slot T name id) (hty : typeOf (.builtin id) = pure (.type "method_descriptor")) (hm : MtR X id r) (ho : PE X o to)
    (hbase : attributeBase o name X.env (eval o X.env) = eval o X.env := by rfl) (hline : (apos.endLine == cpos.line) = true := by rfl) : PE X (.Call (.Attribute o name apos) [] [] cpos) (tBM0 X.K T r to) := by
  intro pins s σ H Q I h
  refine wpAny_Call_method0_late hbase hline (thn (ho pins s σ H _ I h) fun v s1 ⟨x, H1, I1, r1, ty, q1⟩ => ?_)
  obtain ⟨h1, h2⟩ := tyV_is I1 r1 ty
  exact ⟨T, id, pa, slot, hty, h1, h2, Calls.callWith_builtin rfl (PySem.evalArgs_none (hm pins s1 σ H1 x [] v [] Q I1 r1 .nil q1))⟩
theorem pe_bm (pa : PlainAttrs T) (slot : Slot T name id) (hty : typeOf (.builtin id) = pure (.type "method_descriptor")) (hm : MtR X id r) (ho : PE X o to) (ha : PA X (e :: es) t)
    (hbase : attributeBase o name X.env (eval o X.env) = eval o X.env := by rfl)
    (hfew : ((backTo cpos (starEach (e :: es) X.env)).all (fun x => !x.1) && (backToKw cpos (keywordEach [] X.env)).all (fun x => x.1.isSome)
      && decide ((e :: es).length + ([] : List Keyword).length + (if ([] : List Keyword).isEmpty then 0 else 1) < 30)) = true := by rfl)
    (hline : (apos.endLine == cpos.line) = true := by rfl) (hs : starEach (e :: es) X.env = (false, eval e X.env) :: starEach es X.env := by rfl) (hplain : (backTo cpos (starEach es X.env)).any (·.1) = false := by rfl) :
    PE X (.Call (.Attribute o name apos) (e :: es) [] cpos) (tBM X.K T r to t) := by
  intro pins s σ H Q I h
  refine wpAny_Call_method_late hbase hfew hline rfl (thn (ho pins s σ H _ I h) fun v s1 ⟨x, H1, I1, r1, ty, q1⟩ => ?_)
  obtain ⟨h1, h2⟩ := tyV_is I1 r1 ty
  refine ⟨T, id, pa, slot, hty, h1, h2, ?_⟩
  have hA := ha cpos pins s1 σ H1 _ I1 q1
  rw [hs] at hA ⊢
  refine Calls.callWith_builtin (by show (false || (backTo cpos (starEach es X.env)).any (·.1)) = false; rw [hplain] <;> rfl) (Calls.evalArgs_plain ?_)
  exact thn hA fun us s2 ⟨vs, H2, I2, r2, q2⟩ => hm pins s2 σ H2 x vs v us Q I2 r1 r2 q2
/- xs.append(e), list.index on a module's tuple .. are MtR facts of 06m -/
end
end L2

namespace L2
open PySem PySem.Spec PyProof.Rows

def MtM (X : Cx) (id : String) (r : V → List V → Hp → VK → Prop) : Prop :=
  ∀ (pins : List (Addr × Obj)) (s : Shared) (σ : St) (H : Hp) (x : V) (xs : List V) (v : Value) (us : List Value) (Q : VK), Inv X pins σ H s → RelV x v → Vals xs us → r x xs H Q →
    wpAny (model X.prog X.w) X.A (call (.builtin id) (v :: us)) (EP X pins σ Q) X.xe s

/-! ### lists of values -/
theorem Vals.one : ∀ {x : V} {us : List Value}, Vals [x] us → ∃ u, us = [u] ∧ RelV x u
  | _, _, .cons r .nil => ⟨_, rfl, r⟩
theorem Vals.two : ∀ {x y : V} {us : List Value}, Vals [x, y] us → ∃ u v, us = [u, v] ∧ RelV x u ∧ RelV y v
  | _, _, _, .cons r (.cons q .nil) => ⟨_, _, rfl, r, q⟩
theorem Vals.zero : ∀ {us : List Value}, Vals [] us → us = []
  | _, .nil => rfl
theorem Vals.dropLast {xs : List V} {us : List Value} (h : Vals xs us) : Vals xs.dropLast us.dropLast := by
  induction h with
  | nil => exact .nil
  | cons r t ih =>
    cases t with
    | nil => exact .nil
    | cons q t' => exact .cons r ih
theorem Vals.eraseIdx : ∀ {xs : List V} {us : List Value} (i : Nat), Vals xs us → Vals (xs.eraseIdx i) (us.eraseIdx i)
  | _, _, _, .nil => .nil
  | _, _, 0, .cons _ t => t
  | _, _, i + 1, .cons r t => .cons r (Vals.eraseIdx i t)
theorem Vals.reverse {xs : List V} {us : List Value} (h : Vals xs us) : Vals xs.reverse us.reverse := by
  induction h with
  | nil => exact .nil
  | cons r t ih => rw [List.reverse_cons, List.reverse_cons]; exact Vals.append ih (.cons r .nil)
theorem Vals.rep {xs : List V} {us : List Value} (h : Vals xs us) : ∀ k : Nat, Vals (List.replicate k xs).flatten (List.replicate k us).flatten
  | 0 => .nil
  | k + 1 => by
    rw [List.replicate_succ, List.replicate_succ, List.flatten_cons, List.flatten_cons]
    exact Vals.append h (Vals.rep h k)
theorem erase_last {α : Type} (l : List α) : l.eraseIdx (l.length - 1) = l.dropLast := by
  induction l with
  | nil => rfl
  | cons a r ih =>
    cases r with
    | nil => rfl
    | cons b r =>
      have e : (a :: b :: r).length - 1 = ((b :: r).length - 1) + 1 := by
        have h1 : (a :: b :: r).length = r.length + 2 := rfl
        have h2 : (b :: r).length = r.length + 1 := rfl
        omega
      rw [e, List.eraseIdx_cons_succ, ih]
      all_goals rfl
section
variable {X : Cx} {pins : List (Addr × Obj)} {σ : St} {H : Hp} {s : Shared} {l b : Addr} {xs ys zs : List V}

/-! ### the two steps: a tracked list is rewritten, a new list is laid -/
theorem Inv.lset {its its' : List Value} {n : Nat} {f : Array Value → Array Value} {t' : Nat} (I : Inv X pins σ H s) (hH : H l = some (.lst xs))
    (e : s.heap.get? l = some { cls := .type "list", data := .seq its.toArray n }) (hf : f its.toArray = its'.toArray) (hv : Vals ys its') (hz : ys.length ≤ sizeLine) :
    Inv X pins σ (upd H l (.lst ys)) { s with heap := s.heap.update l (Obj.mapSeq f), toks := t' } := by
  have q := PySem.IsL.update e f
  rw [hf] at q
  refine I.write (x := l) (e := l) (by rw [hH]; exact trivial) (.inl rfl) (fun b' u hb hu => (Heap.get?_update_other s.heap (Obj.mapSeq f) (Ne.symm hb)).trans hu) ⟨_, q⟩ ?_
  exact ⟨hz, its', _, hv, q⟩
theorem Inv.lnew {its : List Value} {t' : Nat} (I : Inv X pins σ H s) (hv : Vals ys its) (hz : ys.length ≤ sizeLine) :
    Inv X pins σ (upd H s.heap.objs.size (.lst ys)) { s with heap := s.heap.push { cls := .type "list", data := .seq its.toArray }, toks := t' } :=
  I.laid (fun _ _ q => Heap.get?_push_of_some _ q) (Nat.le_refl _) ⟨hz, its, 0, hv, Heap.get?_push_size _ rfl⟩
theorem Inv.fresh (I : Inv X pins σ H s) : H s.heap.objs.size = none := I.hok.fresh (Nat.le_refl _)
theorem Inv.lstM (I : Inv X pins σ H s) (hH : H l = some (.lst xs)) : xs.length ≤ sizeLine ∧ ∃ (its : List Value) (n : Nat), Vals xs its ∧ xs.length = its.length ∧ s.heap.get? l = some { cls := .type "list", data := .seq its.toArray n } := by
  obtain ⟨z, its, n, r, e⟩ := I.hok l _ hH
  exact ⟨z, its, n, r, r.length, e⟩

theorem notLongL {n : Nat} (h : n ≤ sizeLine) : Builtin.List.listTooLong n = false := by
  unfold Builtin.List.listTooLong
  exact decide_eq_false (by omega)
end

section
variable {X : Cx}

/-! ### methods -/
def rAppend : V → List V → Hp → VK → Prop := fun x vs H Q => ∃ l xs y, x = .ref l ∧ vs = [y] ∧ H l = some (.lst xs) ∧ xs.length < sizeLine ∧ Q .non (upd H l (.lst (xs ++ [y])))
theorem mt_append : MtM X "list.append" rAppend := by
  intro pins s σ H x vs v us Q I rx rv h
  obtain ⟨l, xs, y, rfl, rfl, hH, hz, q⟩ := h
  cases rx
  obtain ⟨u, rfl, ru⟩ := rv.one
  obtain ⟨z, its, n, r, hl, e⟩ := I.lstM hH
  refine call_meets F.slot_list_append ⟨_, e, rfl⟩ F.entry_list_append (F.args_list_append_2 _ _) (PySem.list_append l its.toArray n u (by rw [List.size_toArray]; omega)) ⟨e, ?_⟩
  refine ⟨.non, _, I.lset (its' := its ++ [u]) hH e (by simp) (r.append (.cons ru .nil)) ?_, rfl, q⟩
  rw [List.length_append, List.length_singleton]
  omega

def rExtend : V → List V → Hp → VK → Prop := fun x vs H Q => ∃ l b xs zs, x = .ref l ∧ vs = [.ref b] ∧ H l = some (.lst xs) ∧ H b = some (.lst zs) ∧ xs.length + zs.length ≤ sizeLine ∧ Q .non (upd H l (.lst (xs ++ zs)))
theorem mt_extend : MtM X "list.extend" rExtend := by
  intro pins s σ H x vs v us Q I rx rv h
  obtain ⟨l, b, xs, zs, rfl, rfl, hH, hB, hz, q⟩ := h
  cases rx
  obtain ⟨u, rfl, ru⟩ := rv.one
  cases ru
  obtain ⟨z, its, n, r, hl, e⟩ := I.lstM hH
  obtain ⟨z2, its2, n2, r2, hl2, e2⟩ := I.lstM hB
  have hsz : its.toArray.size + its2.toArray.size ≤ sizeLine := by rw [List.size_toArray, List.size_toArray]; omega
  have hlong : ¬ (!its.toArray.isEmpty && Builtin.List.listTooLong (its.toArray.size + its2.toArray.size)) = true := by
    rw [notLongL hsz, Bool.and_false]
    exact Bool.false_ne_true
  refine call_meets F.slot_list_extend ⟨_, e, rfl⟩ F.entry_list_extend (F.args_list_extend_2 _ _)
    (AutoSeq1.list_extend_list_list_0 l its.toArray n b its2.toArray n2 hlong (by rw [List.size_toArray]; omega) (by omega)) ⟨e, e2, ?_⟩
  refine ⟨.non, _, I.lset (its' := its ++ its2) hH e (by simp) (r.append r2) ?_, rfl, q⟩
  rw [List.length_append]
  omega

def rPop : V → List V → Hp → VK → Prop := fun x vs H Q => ∃ l xs y, x = .ref l ∧ vs = [] ∧ H l = some (.lst xs) ∧ xs[xs.length - 1]? = some y ∧ Q y (upd H l (.lst xs.dropLast))
theorem mt_pop : MtM X "list.pop" rPop := by
  intro pins s σ H x vs v us Q I rx rv h
  obtain ⟨l, xs, y, rfl, rfl, hH, hy, q⟩ := h
  cases rx
  have hus := rv.zero
  subst hus
  obtain ⟨z, its, n, r, hl, e⟩ := I.lstM hH
  obtain ⟨u, hu, ru⟩ := r.get hy
  have hy' : its.toArray[its.toArray.size - 1]? = some u := by
    show its.toArray[its.length - 1]? = some u
    rw [← Array.getElem?_toList, ← hl]
    exact hu
  refine call_meets F.slot_list_pop ⟨_, e, rfl⟩ F.entry_list_pop (F.args_list_pop_1 _) (MeetsSeq.list_pop_last l its.toArray n u hy' (by rw [List.size_toArray]; omega)) ⟨e, ?_⟩
  refine ⟨y, _, I.lset (its' := its.dropLast) hH e ?_ r.dropLast ?_, ru, q⟩
  · show its.toArray.eraseIdxIfInBounds (its.toArray.size - 1) = its.dropLast.toArray
    rw [List.size_toArray, List.eraseIdxIfInBounds_toArray, erase_last]
  · rw [List.length_dropLast]
    omega

/-! ### list + list, list += list, list * int -/
def rCat : R2 := fun x y H Q => ∃ l b xs zs, x = .ref l ∧ y = .ref b ∧ H l = some (.lst xs) ∧ H b = some (.lst zs) ∧ xs.length + zs.length ≤ sizeLine ∧ ∀ p, H p = none → Q (.ref p) (upd H p (.lst (xs ++ zs)))
theorem op_cat : OpR X (binaryOp .Add) rCat := by
  intro pins s σ H x y v u Q I rx ry h
  obtain ⟨l, b, xs, zs, rfl, rfl, hH, hB, hz, q⟩ := h
  cases rx
  cases ry
  obtain ⟨z, its, n, r, hl, e⟩ := I.lstM hH
  obtain ⟨z2, its2, n2, r2, hl2, e2⟩ := I.lstM hB
  refine PySem.P.add_list e e2 ?_ (by rw [List.size_toArray, List.size_toArray]; omega)
  have ea : its.toArray ++ its2.toArray = (its ++ its2).toArray := by simp
  rw [ea]
  exact ⟨.ref _, _, I.lnew (t' := s.toks) (r.append r2) (by rw [List.length_append]; omega), rfl, q _ I.fresh⟩
/-! ### del xs[i] -/
end

/-! ### xs[a:b] = ys -/
section
variable {prog : Program} {w : World} {A : Around} {E : Value → Shared → Prop} {s : Shared}
end

section
variable {X : Cx}
end
end L2

namespace Att
open PySem PySem.W PySem.Calls PyProof.Rows

/-! ### the script -/
theorem ints_of_wellAll {P : Params} {h : Heap} : ∀ (ns : List Int) (vs : List Value), WellAll P h vs (ns.map WData.int) → IntsAre vs ns := by
  intro ns
  induction ns with
  | nil =>
    intro vs w
    rw [List.map_nil] at w
    cases w
    exact .nil
  | cons n ns ih =>
    intro vs w
    rw [List.map_cons] at w
    cases w with
    | cons a b =>
      cases a
      exact .cons _ _ (ih _ b)

theorem script_of {l : OpenLaw} {n : Nat} (hn : l.most = some n) {P : Params} {h : Heap} {args : List WData} {vals : List Value}
    (hpre : l.row.toRowW.claim.pre args = true) (hwl : WellAll P h vals args) :
    ∃ a vs ns, vals = [Value.ref a] ∧ args = [WData.list (ns.map WData.int)] ∧ h.get? a = some { cls := .type "list", data := .seq vs.toArray } ∧ IntsAre vs ns ∧ ns.length ≤ n := by
  have hsh : WShape.hasAll [] args [.list .int] = true := (pre_splitW hpre).1
  have hc : l.pre.holds [] { args := args } = true := (pre_splitW hpre).2
  obtain ⟨d, r, rfl, h1, h2⟩ := hasAllW_cons hsh
  obtain rfl := hasAllW_nil h2
  obtain ⟨xs, rfl, h3⟩ := hasW_list h1
  obtain ⟨ns, rfl⟩ := items_int h3
  have hlen : ns.length ≤ n := by
    unfold OpenLaw.pre at hc
    have h4 : (WTm.not (.lt (.lit (.int (n : Int))) (.len (.arg 0)))).holds [] { args := [.list (ns.map .int)] } = true := by
      have h4 := (holds_andW hc).1
      rw [hn] at h4
      exact h4
    have h5 := condW_of h4 (w_not (w_lt w_lit (w_len_list (w_arg rfl))))
    rw [List.length_map] at h5
    refine Nat.le_of_not_lt fun q => ?_
    have q' : (n : Int) < ((ns.length : Nat) : Int) := by omega
    first
      | (rw [decide_eq_true q'] at h5; exact absurd h5 (by decide))
      | (simp at h5; omega)
  cases hwl with
  | cons w1 w2 =>
    cases w2
    cases w1 with
    | list ho hall => exact ⟨_, _, ns, rfl, rfl, ho, ints_of_wellAll ns _ hall, hlen⟩

theorem post_true (l : OpenLaw) (args : List WData) : l.row.toRowW.claim.post args (.bool true) args = true :=
  postW_of (r := l.row.toRowW) (X := (true == true))
    (show WShape.has [] (.bool true) .bool = true by first | rfl | decide | simp [WShape.has, WShape.arms, WShape.armsAll])
    (show (WTm.eq .res (.lit (.bool true))).value [] { args := args, res := some (.bool true), after := args } = some (.bool (true == true)) from w_eq_bool (w_res rfl) w_lit) rfl

/-! ### the attachment: holds_open's last premise (the goal 'hc' behind k_head) from a wpAny of the law's body -/
/-- the same from a codeAny of the CALL (for a layer whose function contracts speak of calls) -/
theorem attach_call {l : OpenLaw} {n : Nat} {q : Program} {loose : List Str} {XP : (Str → Option Value) → Heap → Prop} {YP : World → Heap → Prop} {d : DefRec}
    (hn : l.most = some n) (hdf : d.params.defaults = [])
    (call : ∀ (w : World) (s₀ s₁ : Shared) (mg mb : Str → Option Value) (fa : Addr) (o : Obj) (pm cd doc : Value) (a : Addr) (vs : List Value) (ns : List Int),
      Ground q loose [] XP w s₀ mg mb s₁.heap → YP w s₁.heap →
      s₁.heap.get? fa = some o → o.data = .func (docDef d.name d.params d.body d.scope pm cd doc) → s₁.heap.CodeRec cd d.name → mg d.name = some (.ref fa) →
      s₁.heap.get? a = some { cls := .type "list", data := .seq vs.toArray } → IntsAre vs ns → ns.length ≤ n → s₁.gens = #[] →
      codeAny (model l.prog w) callerA (.call (.ref fa) ⟨[.ref a], []⟩) (fun r s' => r = .ok (.ret (.bool true)) ∧ OldK s₁.heap s'.heap ∧ s'.os = s₁.os ∧ AllBare s'.gens) s₁) :
    WalkO q loose XP YP l.row.toRowW d [] (fun f vs => PySem.call f vs) := by
  intro w s₀ s₁ mg mb G Y fa o pm cd doc dV kV ho hd hcd hD hmg hg args vals as hpre hlay hrd hwl hlo
  obtain rfl : dV = .none := Dflts.none hD hdf
  obtain rfl : kV = .none := Dflts.noKw hD
  obtain ⟨a, vs, ns, rfl, rfl, hobj, hints, hlen⟩ := script_of hn hpre hwl
  refine enter_call (codeAny_mono (call w s₀ s₁ mg mb fa o pm cd doc a vs ns G Y ho (fd_plain hd) hcd hmg hobj hints hlen hg) fun r s' hq => ?_)
  obtain ⟨rfl, h2, h3, h4⟩ := hq
  exact ⟨.inl ⟨.bool true, .bool true, [], rfl, fun _ => rfl, .bool true, post_true l _, fun _ => ⟨List.Pairwise.nil, fun _ hm => (nomatch hm)⟩⟩, h2, h3, h4⟩

/-! ### rules over ANY heap (no ledger) from facts about the written part K: the library's own take a ledger (News) for what they write -/
section
variable {prog : Program} {w : World} {A : Around} {E : Value → Shared → Prop} {s : Shared} {K : Frag}

/-! the whole heap as the ledger: makes every rule that writes through a ledger a rule over any heap -/
def ledger (h : Heap) (L d : Addr) : List (Addr × Obj) := (List.range h.objs.size).filterMap fun a => if a = L ∨ a = d then none else (h.get? a).map fun o => (a, o)
end
end Att

namespace L2
open PySem PySem.Spec PyProof.Rows

theorem vals_ints : ∀ {vs : List Value} {ns : List Int}, IntsAre vs ns → Vals (ns.map V.int) vs
  | _, _, .nil => .nil
  | _, _, .cons n t h => .cons ⟨t, rfl⟩ (vals_ints h)

/-- nothing is tracked but the script, known to the object (or it is an object of the module) -/
def Only (H : Hp) : Prop := ∀ b, H b = none ∨ ∃ o xs, H b = some (.frz o (.lst xs))

/-- THE HEAD: the law's promise, at the heap behind the top. F, the promise of the law's def, may use that base is part of the heap (so K.In base, base.Ns mainGlobals mg stand in Mod) -/
theorem law_call {P : Program} {w : World} {K : PySem.W.Frag} {mg mb : Str → Option Value} {CX : CXT} {k : Nat} {fa a : Addr} {fd : FuncData} {x : Str} {sp : Sp} {s₁ : Shared} {vs : List Value} {ns : List Int}
    (KX : K.In s₁.heap) (hns : s₁.heap.Ns mainGlobals mg) (hb : s₁.heap.Ns builtinsNs mb) (hbb : ∀ x : Str, x ≠ "__name__" → mb x = bootBuiltins x) (hlim : s₁.heap.NoLimit) (hg : s₁.gens = #[])
    (ha : s₁.heap.get? a = some { cls := .type "list", data := .seq vs.toArray }) (hi : IntsAre vs ns) (hl : ns.length ≤ sizeLine) (hr : Room k callerA)
    (F : ∀ base : Heap, K.In base → base.Ns mainGlobals mg → FnOk P w K mg base CX k fa fd [x] sp) (hbind : ∀ (s : Shared) (u : Value), BindsTo s fd ⟨[u], []⟩ [(x, u)])
    (hsp : ∀ H : Hp, Only H → SqL K H a (ns.map V.int) → sp [.ref a] H (fun v _ => v = .bl true) fun _ _ _ => False)
    (hCX : ∀ H e s', CX [] H s₁ (fun _ _ _ => False) e s' → False) :
    codeAny (model P w) callerA (.call (.ref fa) ⟨[.ref a], []⟩) (fun r s' => r = .ok (.ret (.bool true)) ∧ OldK s₁.heap s'.heap ∧ s'.os = s₁.os ∧ AllBare s'.gens) s₁ := by
  have rv := vals_ints hi
  have lenV := hi.length
  -- from an abstract heap in which nothing but the script may be tracked
  have core : ∀ H : Hp, Only H → SqL K H a (ns.map V.int) → HOk P w H s₁.heap → (∀ b, H b ≠ none → b = a) → (H a ≠ none → K.lookup a = none) →
      codeAny (model P w) callerA (.call (.ref fa) ⟨[.ref a], []⟩) (fun r s' => r = .ok (.ret (.bool true)) ∧ OldK s₁.heap s'.heap ∧ s'.os = s₁.os ∧ AllBare s'.gens) s₁ := by
    intro H hO hS hok hA hK
    have base_of : ∀ {b : Addr} {o : Obj}, s₁.heap.get? b = some o → H b = none → (hidT s₁.heap H).get? b = some o := fun e n => hidT_get e n
    have noA : ∀ {b : Addr} {o : Obj} {es : Array DictEntry} {ep : Nat}, s₁.heap.get? b = some o → o.data = .dict es ep → H b = none := fun {b o es ep} e d => by
      cases q : H b with
      | none => rfl
      | some u =>
        have e' : b = a := hA b (by rw [q]; simp)
        subst e'
        rw [ha] at e; cases e
        have d' : Data.seq vs.toArray _ = Data.dict es ep := d
        cases d'
    have nsK : ∀ {b : Addr} {m : Str → Option Value}, s₁.heap.Ns b m → (hidT s₁.heap H).Ns b m := fun {b m} ⟨o, es, ep, e, d, r⟩ => ⟨o, es, ep, base_of e (noA e d), d, r⟩
    have hKb : K.In (hidT s₁.heap H) := fun b o e => base_of (KX b o e) (by
      cases q : H b with
      | none => rfl
      | some u =>
        have e' : b = a := hA b (by rw [q]; simp)
        subst e'
        rw [hK (by rw [q]; simp)] at e; cases e)
    have hM : Mod K mg (hidT s₁.heap H) := ⟨hKb, nsK hns, ⟨mb, nsK hb, hbb⟩, let ⟨mc, h1, h2⟩ := hlim; ⟨mc, nsK h1, h2⟩⟩
    have e0 : Env0 P w K mg (hidT s₁.heap H) callerA [] s₁ H := ⟨rfl, hM, fun b o e => of_hidT e, Nat.le_of_eq (hidT_size _ _), trivial, fun b hb => absurd (show b ∈ ([] : List Addr) from hb) (by simp), hok, .of_eq hg⟩
    refine codeAny_mono ((F _ hKb (nsK hns)).run callerA [] s₁ H ⟨[.ref a], []⟩ [.ref a] [.ref a] _ _ hr e0 (hbind s₁ (.ref a)) (.cons rfl .nil) (hsp H hO hS)) fun r s' h => ?_
    cases r with
    | error e => exact (hCX H e s' h).elim
    | ok fl =>
      cases fl with
      | next => exact False.elim h
      | brk => exact False.elim h
      | cont => exact False.elim h
      | ret u =>
        obtain ⟨v, H', os, bare, un, hok', r', q⟩ := h
        have q' : v = .bl true := q
        subst q'
        obtain rfl : u = Value.bool true := r'
        refine ⟨rfl, OldK.of_keep fun b o e => ?_, os, bare⟩
        cases q : H b with
        | none => exact un.keep b o e q (by intro z; exact absurd (show b ∈ ([] : List Addr) from z) (by simp)) (by simp)
        | some u =>
          rcases hO b with z | ⟨ob, xs, z⟩
          · rw [q] at z; cases z
          · have z2 := un.frzs b ob _ z
            obtain ⟨e1, _⟩ := hok b _ z
            obtain ⟨e2, _⟩ := hok' b _ z2
            rw [e] at e1; cases e1
            exact e2
  cases hk : K.lookup a with
  | some o =>
    -- the script is one of the module's own objects
    have e := KX a o hk
    rw [ha] at e
    cases e
    refine core (fun _ => none) (fun _ => .inl rfl) (.inr ⟨_, vs.toArray, _, hk, rfl, rfl, rfl, by rw [List.size_toArray, lenV]; exact hl, by simpa using rv⟩) (fun b u z => by have z' : (none : Option HO) = some u := z; cases z') (fun b z => absurd rfl z) fun z => absurd rfl z
  | none =>
    refine core (fun b => if b = a then some (.frz { cls := .type "list", data := .seq vs.toArray } (.lst (ns.map V.int))) else none) (fun b => ?_) (.inl (.inr ⟨{ cls := .type "list", data := .seq vs.toArray }, if_pos rfl⟩)) (fun b u z => ?_) (fun b z => ?_) fun _ => hk
    · by_cases hb : b = a
      · exact .inr ⟨_, _, if_pos hb⟩
      · exact .inl (if_neg hb)
    · by_cases hb : b = a
      · have z' := (if_pos hb).symm.trans z
        cases z'
        subst hb
        exact ⟨ha, by rw [List.length_map]; exact hl, vs, _, rv, ha⟩
      · have z' := (if_neg hb).symm.trans z
        cases z'
    · by_cases hb : b = a
      · exact hb
      · exact absurd (if_neg hb) z
end L2

namespace L2
open PySem PySem.Spec PyProof.Rows

/-- the goal that k_head leaves (case hc), from the law's promise. F gives the function object fd (K's own) once, then the promise over every base -/
theorem walk_of {l : PySem.W.OpenLaw} {n k : Nat} {q : Program} {loose : List Str} {XP : (Str → Option Value) → Heap → Prop} {YP : World → Heap → Prop} {d : DefRec} {K : Params → PySem.W.Frag} {CX : World → CXT} {sp : World → Sp} {x : Str}
    (hn : l.most = some n) (hn2 : n ≤ sizeLine) (hdf : d.params.defaults = []) (hr : Room k callerA)
    (hY : ∀ (w : World) (h : Heap), YP w h → (K w.params).In h)
    (F : ∀ (w : World) (mg : Str → Option Value) (fa : Addr) (h : Heap), (K w.params).In h → h.Ns mainGlobals mg → mg d.name = some (.ref fa) →
      ∃ fd : FuncData, (∀ (s : Shared) (u : Value), BindsTo s fd ⟨[u], []⟩ [(x, u)]) ∧
        ∀ base : Heap, (K w.params).In base → base.Ns mainGlobals mg → FnOk l.prog w (K w.params) mg base (CX w) k fa fd [x] (sp w))
    (hsp : ∀ (w : World) (H : Hp) (a : Addr) (ns : List Int), ns.length ≤ n → Only H → SqL (K w.params) H a (ns.map V.int) → sp w [.ref a] H (fun v _ => v = .bl true) fun _ _ _ => False)
    (hCX : ∀ (w : World) (H : Hp) (s : Shared) (e : Value) (s' : Shared), CX w [] H s (fun _ _ _ => False) e s' → False) :
    PySem.W.WalkO q loose XP YP l.row.toRowW d [] (fun f vs => PySem.call f vs) := by
  refine Att.attach_call hn hdf fun w s₀ s₁ mg mb fa o pm cd doc a vs ns G Y ho hd hcd hmg hobj hints hlen hg => ?_
  have KX := hY w _ Y
  obtain ⟨fd, hb, hF⟩ := F w mg fa _ KX G.T.g hmg
  exact law_call KX G.T.g G.T.b G.T.builtins G.T.nolimit hg hobj hints (Nat.le_trans hlen hn2) hr hF hb (fun H hO hS => hsp w H a ns hlen hO hS) fun H e s' => hCX w H s₁ e s'
end L2

/- THE LAST THEOREM (shape; LID, My.* are yours):
   My.Adr: a structure of the addresses that your layer names (classes, functions); My.Txt K t: a structure (Prop) of the equations over K;
   My.txt_mk : {K} {implicit addresses ..} (e1 : nsIn K mainGlobals "law" = some (some (.ref f))) (e2 : K.lookup f = some ⟨oc, od, .func (fnOf "law" "law" params body scope dV kV doc pm an cdv ct), sl⟩) (e3 : codeIn K cdv "law" = true) .. : ∃ t, My.Txt K t

(the tactic k_is has no namespace: write k_is) -/

/-! SHORT WORDS over the layer: a def of the text, its body, what a loop and a test want. -/
namespace L2
open PySem PySem.Spec PyProof.Rows

/-! ### the text by places -/
def defArgs (s : Stmt) : Arguments := match s with
  | .FunctionDef _ a _ _ _ _ _ _ _ _ => a
  | _ => { posonlyargs := [], args := [], vararg := none, kwonlyargs := [], kw_defaults := [], kwarg := none, defaults := [] }
def defBody (s : Stmt) : List Stmt := match s with
  | .FunctionDef _ _ b _ _ _ _ _ _ _ => b
  | _ => []
def defScope (s : Stmt) : Scope := match s with
  | .FunctionDef _ _ _ _ _ _ sc _ _ _ => sc
  | _ => { kind := .function, names := [], isGenerator := false, isCoroutine := false }

/-! ### no exception leaves a def -/
abbrev CX0 : CXT := fun _ _ _ _ _ _ => False
abbrev E0 : XK := fun _ _ _ => False
theorem pass0 {X : Cx} : Passes CX0 X E0 := fun _ _ _ _ _ _ _ h => h.elim

/-! ### a def (or method) of the text as it stands behind the top -/
structure Fun (K : PySem.W.Frag) (x qual : Str) (st : Stmt) (f : Addr) (fd : FuncData) : Prop where
  ex : ∃ (oc : Value) (od : Option Addr) (kV doc pm : Value) (an : Option Addr) (cdv ct : Value) (osl : Array (Option Value)),
    fd = PySem.W.fnOf x qual (defArgs st) (defBody st) (defScope st) .none kV doc pm an cdv ct ∧ K.lookup f = some ⟨oc, od, .func fd, osl⟩ ∧ PySem.W.codeIn K cdv qual = true
  kp : PySem.W.keepIn K (.ref f) = true
section
variable {P : Program} {w : World} {K : PySem.W.Frag} {mg : Str → Option Value} {base : Heap}
/-- THE RULE for a def: its body as a term of rules, and the reading of that term -/
theorem Fun.ok {x qual : Str} {st : Stmt} {f : Addr} {fd : FuncData} {N ps : List Str} {k : Nat} {sp : Sp} (F : Fun K x qual st f fd) (S : FnScope N ps (defScope st)) (len : ∀ vs H Q E, sp vs H Q E → vs.length = ps.length)
    (hbody : ∀ (cdv : Value) (A : Around) (outer : List Env) (s : Shared) (H : Hp) (vs : List V) (Q : VK) (E : XK), Room k (A.deeper (envOfC qual (defScope st) s.heap.objs.size f cdv)) → sp vs H Q E →
      ∃ t, PSs (cxOf CX0 P w K mg base N qual (defScope st) f cdv A outer s H E).nox (defBody st) t ∧ t { nx := fun _ H' => Q .non H', rt := Q } (start N vs) H) : FnOk P w K mg base CX0 (k + 1) f fd ps sp := by
  obtain ⟨oc, od, kV, doc, pm, an, cdv, ct, osl, rfl, lk, hcd⟩ := F.ex
  refine fn_of lk hcd S len fun A outer s H vs Q E hr hsp => ?_
  obtain ⟨t, h, q⟩ := hbody cdv A outer s H vs Q E hr hsp
  exact ⟨t, h.nox, q⟩
/-- how its arguments bind (no defaults): h is «fun _ _ _ _ _ _ us hl => match us, hl with | [_, _], _ => rfl», one _ a parameter -/
theorem Fun.binds {x qual : Str} {st : Stmt} {f : Addr} {fd : FuncData} {ps : List Str} (F : Fun K x qual st f fd)
    (h : ∀ (kV doc pm : Value) (an : Option Addr) (cdv ct : Value) (us : List Value), us.length = ps.length → bindArgs (PySem.W.fnOf x qual (defArgs st) (defBody st) (defScope st) .none kV doc pm an cdv ct) ⟨us, []⟩ = pure (ps.zip us)) : Binds K fd ps [] := by
  obtain ⟨oc, od, kV, doc, pm, an, cdv, ct, osl, rfl, lk, hcd⟩ := F.ex
  exact .all (h kV doc pm an cdv ct)
theorem fun_mk {x qual : Str} {st : Stmt} {f : Addr} {oc : Value} {od an : Option Addr} {osl : Array (Option Value)} {kV doc pm cdv ct : Value} (l : K.lookup f = some ⟨oc, od, .func (PySem.W.fnOf x qual (defArgs st) (defBody st) (defScope st) .none kV doc pm an cdv ct), osl⟩)
    (c : PySem.W.codeIn K cdv qual = true) (k : PySem.W.keepIn K (.ref f) = true) : Fun K x qual st f (PySem.W.fnOf x qual (defArgs st) (defBody st) (defScope st) .none kV doc pm an cdv ct) := ⟨⟨oc, od, kV, doc, pm, an, cdv, ct, osl, rfl, l, c⟩, k⟩
end
theorem hu_of {A : Around} {k : Nat} (hr : Room k A) : A.units + 1 < cLine := Nat.lt_of_le_of_lt (Nat.add_le_add_left (by decide : 1 ≤ 64) _) hr.units
theorem small1000 {n : Nat} (h : n ≤ 1000) : n < sizeLine := Nat.lt_of_le_of_lt h (by decide)

/-! ### expressions in short: the name that stands in the i-th slot -/
section
variable {X : Cx}
theorem pv (i : Nat) {x : Str} {pos : Pos} (hN : X.N[i]? = some x := by rfl) (hv : Vis X.env.scope x := by first | exact Or.inl rfl | exact Or.inr (Or.inl rfl) | exact Or.inr (Or.inr rfl)) (hd : (x == ("__debug__" : Str)) = false := by decide)
    (hcd : (x == ("__classdict__" : Str)) = false := by decide) : PE X (.Name x pos) (tVar i) := pe_var hN hv hd hcd
end

/-! ### tests -/
theorem iteF {A B : Prop} (h : B) : if false = true then A else B := by
  rw [if_neg Bool.false_ne_true]
  exact h
theorem iteT {A B : Prop} (h : A) : if true = true then A else B := by
  rw [if_pos rfl]
  exact h
theorem ite2 {c A B : Prop} [Decidable c] (h1 : c → A) (h2 : ¬ c → B) : if c then A else B := by
  by_cases h : c
  · rw [if_pos h]
    exact h1 h
  · rw [if_neg h]
    exact h2 h
theorem iteNS {c A B : Prop} [Decidable c] (hc : c) (h : B) : if (!decide c) = true then A else B := by
  rw [decide_eq_true hc]
  exact iteF h

/-! ### heaps -/
/-- all that was tracked is as it was -/
def Same (H H' : Hp) : Prop := ∀ b o, H b = some o → H' b = some o
theorem Same.refl (H : Hp) : Same H H := fun _ _ h => h
theorem Same.trans {H H1 H2 : Hp} (a : Same H H1) (b : Same H1 H2) : Same H H2 := fun c o h => b c o (a c o h)
theorem Same.free {H H' : Hp} (e : Same H H') {l : Addr} (h : H' l = Option.none) : H l = Option.none := by
  cases q : H l with
  | none => rfl
  | some o =>
    rw [e l o q] at h
    cases h
theorem Same.seq {K : PySem.W.Frag} {H H' : Hp} {a : Addr} {xs : List V} (e : Same H H') (h : SqL K H a xs) : SqL K H' a xs := by
  rcases h with (h | ⟨o, h⟩) | h
  · exact .inl (.inl (e _ _ h))
  · exact .inl (.inr ⟨o, e _ _ h⟩)
  · exact .inr h

end L2
namespace L2
open PySem PySem.Spec PyProof.Rows
section
variable {κ : Type} [DecidableEq κ]
def valV (kvs : List (κ × V)) (k : κ) : Option V := (kvs.find? fun kv => decide (kv.1 = k)).map (·.2)
/-- in its place, or at the end -/
def putK (kvs : List (κ × V)) (k : κ) (v : V) : List (κ × V) :=
  if (kvs.any fun kv => decide (kv.1 = k)) = true then kvs.map (fun kv => if kv.1 = k then (kv.1, v) else kv) else kvs ++ [(k, v)]
def dropK (kvs : List (κ × V)) (k : κ) : List (κ × V) := kvs.filter fun kv => decide (kv.1 ≠ k)
theorem valV_nil {k : κ} : valV ([] : List (κ × V)) k = none := rfl
theorem valV_pos {p : κ × V} {r : List (κ × V)} {k : κ} (e : p.1 = k) : valV (p :: r) k = some p.2 := by simp [valV, List.find?_cons, e]
theorem valV_neg {p : κ × V} {r : List (κ × V)} {k : κ} (e : ¬ p.1 = k) : valV (p :: r) k = valV r k := by simp [valV, List.find?_cons, e]
theorem valV_any (k : κ) : ∀ kvs : List (κ × V), (kvs.any fun kv => decide (kv.1 = k)) = (valV kvs k).isSome
  | [] => rfl
  | p :: r => by
    rw [List.any_cons]
    by_cases e : p.1 = k
    · simp only [valV_pos e, decide_eq_true e, Bool.true_or, Option.isSome_some]
    · rw [valV_neg e, decide_eq_false e, Bool.false_or]; exact valV_any k r
theorem valV_map (k j : κ) (y : V) : ∀ kvs : List (κ × V), valV (kvs.map fun kv => if kv.1 = k then (kv.1, y) else kv) j = (valV kvs j).map fun x => if j = k then y else x
  | [] => rfl
  | p :: r => by
    have ih := valV_map k j y r
    rw [List.map_cons]
    by_cases h : p.1 = k
    · rw [if_pos h]
      by_cases e : p.1 = j
      · rw [valV_pos (p := (p.1, y)) e, valV_pos e, Option.map_some, if_pos (e.symm.trans h)]
      · rw [valV_neg (p := (p.1, y)) e, valV_neg e, ih]
    · rw [if_neg h]
      by_cases e : p.1 = j
      · rw [valV_pos (p := p) e, valV_pos e, Option.map_some, if_neg (fun z => h (e.trans z))]
      · rw [valV_neg (p := p) e, valV_neg e, ih]
theorem valV_snoc (k j : κ) (y : V) : ∀ kvs : List (κ × V), valV kvs k = none → valV (kvs ++ [(k, y)]) j = if j = k then some y else valV kvs j
  | [], _ => by
    by_cases e : k = j
    · rw [if_pos e.symm]; exact valV_pos (p := (k, y)) e
    · rw [if_neg (fun z => e z.symm)]; exact valV_neg (p := (k, y)) e
  | p :: r, hn => by
    rw [List.cons_append]
    have hk : ¬ p.1 = k := fun z => by rw [valV_pos z] at hn; cases hn
    rw [valV_neg hk] at hn
    have ih := valV_snoc k j y r hn
    by_cases e : p.1 = j
    · rw [valV_pos e, valV_pos e, if_neg (fun z => hk (e.trans z))]
    · rw [valV_neg e, valV_neg e, ih]
theorem valV_put (kvs : List (κ × V)) (k j : κ) (y : V) : valV (putK kvs k y) j = if j = k then some y else valV kvs j := by
  unfold putK
  by_cases a : (kvs.any fun kv => decide (kv.1 = k)) = true
  · rw [if_pos a, valV_map]
    rw [valV_any] at a
    by_cases e : j = k
    · obtain ⟨x, hx⟩ := Option.isSome_iff_exists.mp a
      rw [if_pos e, e, hx, Option.map_some, if_pos rfl]
    · rw [if_neg e]
      cases valV kvs j with
      | none => rfl
      | some x => rw [Option.map_some, if_neg e]
  · rw [if_neg a]
    refine valV_snoc k j y kvs ?_
    rw [valV_any] at a
    cases q : valV kvs k with
    | none => rfl
    | some x => rw [q] at a; exact (a rfl).elim
theorem length_putK (kvs : List (κ × V)) (k : κ) (v : V) : (putK kvs k v).length ≤ kvs.length + 1 := by
  unfold putK
  split
  · rw [List.length_map]; omega
  · rw [List.length_append, List.length_cons, List.length_nil]; omega
theorem RelO.isSome_eq {o : Option V} {u : Option Value} (r : RelO o u) : o.isSome = u.isSome := by
  cases o with
  | none => cases u with
    | none => rfl
    | some _ => exact (show False from r).elim
  | some _ => cases u with
    | none => exact (show False from r).elim
    | some _ => rfl
theorem RelO.getD {o : Option V} {u : Option Value} {d : V} {d' : Value} (r : RelO o u) (rd : RelV d d') : RelV (o.getD d) (u.getD d') := by
  cases o with
  | none => cases u with
    | none => exact rd
    | some _ => exact (show False from r).elim
  | some _ => cases u with
    | none => exact (show False from r).elim
    | some _ => exact r
/-- raw tables of the same keys -/
theorem KV.val {kvs : List (κ × V)} {vs : List (κ × Value)} (r : KV kvs vs) (k : κ) : RelO (valV kvs k) (valueAt vs k) := by
  unfold KV at r
  induction r with
  | nil => exact True.intro
  | @cons p q ps qs h t ih =>
    obtain ⟨h1, h2⟩ := h
    by_cases e : p.1 = k
    · have e' : q.1 = k := h1.symm.trans e
      have b : valueAt (q :: qs) k = some q.2 := by simp [valueAt, List.find?_cons, e']
      rw [valV_pos e, b]; exact h2
    · have e' : ¬ q.1 = k := fun z => e (h1.trans z)
      have b : valueAt (q :: qs) k = valueAt qs k := by simp [valueAt, List.find?_cons, e']
      rw [valV_neg e, b]; exact ih
theorem KV.any {kvs : List (κ × V)} {vs : List (κ × Value)} (r : KV kvs vs) (k : κ) : (kvs.any fun kv => decide (kv.1 = k)) = vs.any fun kv => decide (kv.1 = k) := by
  unfold KV at r
  induction r with
  | nil => rfl
  | cons h t ih => rw [List.any_cons, List.any_cons, ih, h.1]
theorem KV.repl {kvs : List (κ × V)} {vs : List (κ × Value)} (r : KV kvs vs) (k : κ) {y : V} {u : Value} (ry : RelV y u) :
    KV (kvs.map fun kv => if kv.1 = k then (kv.1, y) else kv) (vs.map fun kv => if kv.1 = k then (kv.1, u) else kv) := by
  unfold KV at r ⊢
  induction r with
  | nil => exact .nil
  | @cons p q ps qs h t ih =>
    rw [List.map_cons, List.map_cons]
    refine .cons ?_ ih
    obtain ⟨h1, h2⟩ := h
    by_cases e : p.1 = k
    · rw [if_pos e, if_pos (h1.symm.trans e)]; exact ⟨h1, ry⟩
    · rw [if_neg e, if_neg (fun z => e (h1.trans z))]; exact ⟨h1, h2⟩
theorem KV.put {kvs : List (κ × V)} {vs : List (κ × Value)} (r : KV kvs vs) (k : κ) {y : V} {u : Value} (ry : RelV y u) : KV (putK kvs k y) (stored vs k u) := by
  unfold putK stored
  rw [r.any k]
  by_cases e : (vs.any fun kv => decide (kv.1 = k)) = true
  · rw [if_pos e, if_pos e]; exact r.repl k ry
  · rw [if_neg e, if_neg e]; exact Paired.snoc r ⟨rfl, ry⟩
theorem KV.drop {kvs : List (κ × V)} {vs : List (κ × Value)} (r : KV kvs vs) (k : κ) : KV (dropK kvs k) (without vs k) := by
  unfold KV at r ⊢
  unfold dropK without
  induction r with
  | nil => exact .nil
  | @cons p q ps qs h t ih =>
    obtain ⟨h1, h2⟩ := h
    rw [List.filter_cons, List.filter_cons]
    by_cases e : p.1 = k
    · have a : ¬ decide (p.1 ≠ k) = true := by simp [e]
      have b : ¬ decide (q.1 ≠ k) = true := by simp [h1.symm.trans e]
      rw [if_neg a, if_neg b]; exact ih
    · have e' : ¬ q.1 = k := fun z => e (h1.trans z)
      have a : decide (p.1 ≠ k) = true := by simp [e]
      have b : decide (q.1 ≠ k) = true := by simp [e']
      rw [if_pos a, if_pos b]; exact .cons ⟨h1, h2⟩ ih
theorem KV.keys {kvs : List (κ × V)} {vs : List (κ × Value)} (r : KV kvs vs) : kvs.map (·.1) = vs.map (·.1) := by
  unfold KV at r
  induction r with
  | nil => rfl
  | cons h t ih => rw [List.map_cons, List.map_cons, ih, h.1]
theorem KV.length {kvs : List (κ × V)} {vs : List (κ × Value)} (r : KV kvs vs) : kvs.length = vs.length := Paired.length r
end
theorem kV_is {P : Program} {w : World} {k : Key} {u : Value} (r : RelV (kV k) u) : (mixKind P w).is k u = true := by
  cases k with
  | inl i => obtain ⟨t, e⟩ := (show ∃ t, u = Value.int i t from r); subst e; exact mixKind_int P w i t
  | inr x => obtain ⟨t, e⟩ := (show ∃ t, u = Value.str x t from r); subst e; exact mixKind_str P w x t
theorem items_are {P : Program} {w : World} : ∀ {ks : List Key} {us : List Value}, Vals (ks.map kV) us → ItemsAre (mixKind P w) ks us
  | [], _, r => by rw [List.map_nil] at r; cases r; exact .nil
  | k :: ks, _, r => by
    rw [List.map_cons] at r
    cases r with
    | cons h t => exact .cons (kV_is h) (items_are t)
/-- raw entries of a dict with tuple keys -/
abbrev KT (H : Hp) : List (List Key × V) → List (List Key × Addr × Value) → Prop := Paired fun p q => p.1 = q.1 ∧ H q.2.1 = some (.tup (p.1.map kV)) ∧ RelV p.2 q.2.2
theorem KT.val {H : Hp} {kvs : List (List Key × V)} {xs : List (List Key × Addr × Value)} (r : KT H kvs xs) (k : List Key) : RelO (valV kvs k) ((atKey xs k).map (·.2)) := by
  induction r with
  | nil => exact True.intro
  | @cons p q ps qs h t ih =>
    obtain ⟨h1, _, h2⟩ := h
    by_cases e : p.1 = k
    · have e' : q.1 = k := h1.symm.trans e
      have b : atKey (q :: qs) k = some q.2 := by simp [atKey, List.find?_cons, e']
      rw [valV_pos e, b]; exact h2
    · have e' : ¬ q.1 = k := fun z => e (h1.trans z)
      have b : atKey (q :: qs) k = atKey qs k := by simp [atKey, List.find?_cons, e']
      rw [valV_neg e, b]; exact ih
theorem KT.repl {H : Hp} {kvs : List (List Key × V)} {xs : List (List Key × Addr × Value)} (r : KT H kvs xs) (k : List Key) {y : V} {u : Value} (ry : RelV y u) :
    KT H (kvs.map fun kv => if kv.1 = k then (kv.1, y) else kv) (xs.map (putAt k u)) := by
  induction r with
  | nil => exact .nil
  | @cons p q ps qs h t ih =>
    rw [List.map_cons, List.map_cons]
    refine .cons ?_ ih
    obtain ⟨h1, h2, h3⟩ := h
    unfold putAt
    by_cases e : p.1 = k
    · rw [if_pos e, if_pos (h1.symm.trans e)]; exact ⟨h1, h2, ry⟩
    · rw [if_neg e, if_neg (fun z => e (h1.trans z))]; exact ⟨h1, h2, h3⟩
theorem KT.put {H : Hp} {kvs : List (List Key × V)} {xs : List (List Key × Addr × Value)} (r : KT H kvs xs) (k : List Key) {b : Addr} {y : V} {u : Value} (hb : H b = some (.tup (k.map kV))) (ry : RelV y u) :
    KT H (putK kvs k y) (storedH xs k b u) := by
  have e : (kvs.any fun kv => decide (kv.1 = k)) = (atKey xs k).isSome := by
    rw [valV_any, (r.val k).isSome_eq, Option.isSome_map]
  unfold putK storedH
  rw [e]
  by_cases q : (atKey xs k).isSome = true
  · rw [if_pos q, if_pos q]; exact r.repl k ry
  · rw [if_neg q, if_neg q]; exact Paired.snoc r ⟨rfl, hb, ry⟩
theorem KT.keeps {H H' : Hp} {kvs : List (List Key × V)} {xs : List (List Key × Addr × Value)} (r : KT H kvs xs) (ht : ∀ b ys, H b = some (.tup ys) → H' b = some (.tup ys)) : KT H' kvs xs :=
  Paired.mapP r fun _ _ z => ⟨z.1, ht _ _ z.2.1, z.2.2⟩
section
variable {P : Program} {w : World} {H : Hp} {h : Heap} {a : Addr}
theorem rd_of {u : HO} (ok : HOk P w H h) (e : Rd H a u) : ObjOk P w H h a u := e.ok ok
theorem dk_rd {kvs : List (Key × V)} (ok : HOk P w H h) (e : Rd H a (.dK kvs)) : kvs.length ≤ sizeLine ∧ (a == sysModules) = false ∧ ∃ vs, KV kvs vs ∧ h.DictOf (mixKind P w) a vs :=
  show ObjOk P w H h a (.dK kvs) from rd_of ok e
theorem dk_of {kvs : List (Key × V)} (ok : HOk P w H h) (e : H a = some (.dK kvs)) : kvs.length ≤ sizeLine ∧ (a == sysModules) = false ∧ ∃ vs, KV kvs vs ∧ h.DictOf (mixKind P w) a vs := dk_rd ok (.inl e)
/-- a tracked tuple of ints and texts is a key -/
theorem key_of {ks : List Key} (ok : HOk P w H h) (e : H a = some (.tup (ks.map kV))) : (tupleKind (mixKind P w)).is h ks a := by
  obtain ⟨_, its, r, o, h1, h2, n, h3⟩ := (show ObjOk P w H h a (.tup (ks.map kV)) from ok a _ e)
  exact ⟨o, its.toArray, n, h1, h2, h3, by simpa using items_are r⟩
theorem dt_rd {kvs : List (List Key × V)} (ok : HOk P w H h) (e : Rd H a (.dT kvs)) : kvs.length ≤ sizeLine ∧ (a == sysModules) = false ∧
    ∃ xs, KT H kvs xs ∧ h.DictOfH (tupleKind (mixKind P w)) a xs := by
  obtain ⟨z, y, xs, r, o, es, ep, h1, h2, h3, h4, h5⟩ := (show ObjOk P w H h a (.dT kvs) from rd_of ok e)
  refine ⟨z, y, xs, r, o, es, ep, h1, h2, h3, h4, fun x hx => ?_, h5⟩
  have all : ∀ {l : List (List Key × V)} {m : List (List Key × Addr × Value)}, KT H l m → ∀ x ∈ m, (tupleKind (mixKind P w)).is h x.1 x.2.1 := by
    intro l m q
    induction q with
    | nil => intro x hx; exact nomatch hx
    | @cons p q ps qs hq t ih =>
      intro x hx
      rcases List.mem_cons.mp hx with e | hx
      · subst e
        exact key_of ok (by rw [← hq.1]; exact hq.2.1)
      · exact ih x hx
  exact all r x hx
theorem dt_of {kvs : List (List Key × V)} (ok : HOk P w H h) (e : H a = some (.dT kvs)) : kvs.length ≤ sizeLine ∧ (a == sysModules) = false ∧
    ∃ xs, KT H kvs xs ∧ h.DictOfH (tupleKind (mixKind P w)) a xs := dt_rd ok (.inl e)
end
/-- what the dict at a holds at the key y -/
def DGet (H : Hp) (a : Addr) (y : V) (r : Option V) : Prop :=
  (∃ kvs k, Rd H a (.dK kvs) ∧ y = kV k ∧ r = valV kvs k) ∨ ∃ kvs k b, Rd H a (.dT kvs) ∧ y = .ref b ∧ H b = some (.tup (k.map kV)) ∧ r = valV kvs k
/-- the heap behind a[y] = v -/
def DPut (H : Hp) (a : Addr) (y v : V) (H' : Hp) : Prop :=
  (∃ kvs k, H a = some (.dK kvs) ∧ y = kV k ∧ kvs.length < sizeLine ∧ H' = upd H a (.dK (putK kvs k v))) ∨
  ∃ kvs k b, H a = some (.dT kvs) ∧ y = .ref b ∧ H b = some (.tup (k.map kV)) ∧ kvs.length < sizeLine ∧ H' = upd H a (.dT (putK kvs k v))
theorem DGet.k {H : Hp} {a : Addr} {kvs : List (Key × V)} {k : Key} (e : H a = some (.dK kvs)) : DGet H a (kV k) (valV kvs k) := .inl ⟨kvs, k, .inl e, rfl, rfl⟩
theorem DGet.t {H : Hp} {a b : Addr} {kvs : List (List Key × V)} {k : List Key} (e : H a = some (.dT kvs)) (eb : H b = some (.tup (k.map kV))) : DGet H a (.ref b) (valV kvs k) := .inr ⟨kvs, k, b, .inl e, rfl, eb, rfl⟩
theorem DPut.k {H : Hp} {a : Addr} {kvs : List (Key × V)} {k : Key} {v : V} (e : H a = some (.dK kvs)) (hl : kvs.length < sizeLine) : DPut H a (kV k) v (upd H a (.dK (putK kvs k v))) := .inl ⟨kvs, k, e, rfl, hl, rfl⟩
theorem DPut.t {H : Hp} {a b : Addr} {kvs : List (List Key × V)} {k : List Key} {v : V} (e : H a = some (.dT kvs)) (eb : H b = some (.tup (k.map kV))) (hl : kvs.length < sizeLine) :
    DPut H a (.ref b) v (upd H a (.dT (putK kvs k v))) := .inr ⟨kvs, k, b, e, rfl, eb, hl, rfl⟩
section
variable {X : Cx} {pins : List (Addr × Obj)} {σ : St} {H : Hp} {s : Shared} {a : Addr} {y v : V} {u r : Value} {o : Option V} {A : Around} {E : Value → Shared → Prop}
theorem Inv.big (I : Inv X pins σ H s) : sysModules < s.heap.objs.size := by
  have h : mainGlobals < s.heap.objs.size := (I.mod.glob.keeps I.bk).lt
  exact Nat.lt_trans (by decide) h
/-- d[y], there -/
theorem d_getItem {Q : Value → Shared → Prop} (hu : A.units + 1 < cLine) (I : Inv X pins σ H s) (g : DGet H a y (some v)) (ry : RelV y u) (h : ∀ w' s', Inv X pins σ H s' → RelV v w' → Q w' s') :
    wpAny (model X.prog X.w) A (getItem (.ref a) u) Q E s := by
  rcases g with ⟨kvs, k, e, ey, l⟩ | ⟨kvs, k, b, e, ey, eb, l⟩
  · subst ey
    obtain ⟨z, hd, vs, rel, dd⟩ := dk_rd I.hok e
    obtain ⟨w', hw, rw'⟩ := RelO.some_of (v := v) (o := valueAt vs k) (by rw [l]; exact rel.val k)
    exact wpAny_getItem_of (kV_is ry) dd.mapOf hw (h w' _ (I.tok _) rw')
  · subst ey
    cases (show u = Value.ref b from ry)
    obtain ⟨z, hd, xs, rel, dd⟩ := dt_rd I.hok e
    obtain ⟨w', hw, rw'⟩ := RelO.some_of (v := v) (o := (atKey xs k).map (·.2)) (by rw [l]; exact rel.val k)
    obtain ⟨p, hp, hp2⟩ := Option.map_eq_some_iff.mp hw
    refine wpAny_getItem_heap (tupleKind_room_in1 hu) (key_of I.hok eb) dd hp ?_
    rw [hp2]
    exact h w' _ (I.tok _) rw'
/-- y in d -/
theorem d_in {Q : Value → Shared → Prop} (hu : A.units + 1 < cLine) (I : Inv X pins σ H s) (g : DGet H a y o) (ry : RelV y u) (h : ∀ s', Inv X pins σ H s' → Q (.bool o.isSome) s') :
    wpAny (model X.prog X.w) A (compareOp .In u (.ref a)) Q E s := by
  rcases g with ⟨kvs, k, e, ey, l⟩ | ⟨kvs, k, b, e, ey, eb, l⟩
  · subst ey
    obtain ⟨z, hd, vs, rel, dd⟩ := dk_rd I.hok e
    refine wpAny_in_of (kV_is ry) hd dd.mapOf ?_
    rw [← (rel.val k).isSome_eq, ← l]
    exact h _ (I.tok _)
  · subst ey
    cases (show u = Value.ref b from ry)
    obtain ⟨z, hd, xs, rel, dd⟩ := dt_rd I.hok e
    refine wpAny_in_heap (tupleKind_room_in1 hu) (key_of I.hok eb) hd dd ?_
    have q := (rel.val k).isSome_eq
    rw [Option.isSome_map] at q
    rw [← q, ← l]
    exact h _ (I.tok _)
theorem d_notIn {Q : Value → Shared → Prop} (hu : A.units + 1 < cLine) (I : Inv X pins σ H s) (g : DGet H a y o) (ry : RelV y u) (h : ∀ s', Inv X pins σ H s' → Q (.bool (!o.isSome)) s') :
    wpAny (model X.prog X.w) A (compareOp .NotIn u (.ref a)) Q E s := by
  rcases g with ⟨kvs, k, e, ey, l⟩ | ⟨kvs, k, b, e, ey, eb, l⟩
  · subst ey
    obtain ⟨z, hd, vs, rel, dd⟩ := dk_rd I.hok e
    refine wpAny_notIn_of (kV_is ry) hd dd.mapOf ?_
    rw [← (rel.val k).isSome_eq, ← l]
    exact h _ (I.tok _)
  · subst ey
    cases (show u = Value.ref b from ry)
    obtain ⟨z, hd, xs, rel, dd⟩ := dt_rd I.hok e
    refine wpAny_notIn_heap (tupleKind_room_in1 hu) (key_of I.hok eb) hd dd ?_
    have q := (rel.val k).isSome_eq
    rw [Option.isSome_map] at q
    rw [← q, ← l]
    exact h _ (I.tok _)
/-- a dict's object is replaced -/
theorem d_write {h' : Heap} {t' : Nat} {ob : HO} (I : Inv X pins σ H s) (mu : Mut (H a)) (hs : Heap.SameBut a s.heap h') (he : ∃ q, h'.get? a = some q) (new : ObjOk X.prog X.w (upd H a ob) h' a ob) :
    Inv X pins σ (upd H a ob) { s with heap := h', toks := t' } :=
  I.write (x := a) (e := a) mu (.inl rfl) (fun b q hb z => (hs.2 b hb).trans z) he new
theorem dk_new {P : Program} {w : World} {H' : Hp} {h' : Heap} {kvs : List (Key × V)} {vs : List (Key × Value)} (z : kvs.length ≤ sizeLine) (hd : (a == sysModules) = false) (rel : KV kvs vs) (dd : h'.DictOf (mixKind P w) a vs) :
    ObjOk P w H' h' a (.dK kvs) := ⟨z, hd, vs, rel, dd⟩
/-- d[y] = v -/
theorem d_setItem {H' : Hp} {Q : Unit → Shared → Prop} (hu : A.units + 1 < cLine) (I : Inv X pins σ H s) (g : DPut H a y v H') (ry : RelV y u) (rv : RelV v r) (h : ∀ s', Inv X pins σ H' s' → Q () s') :
    wpAny (model X.prog X.w) A (setItem (.ref a) u r) Q E s := by
  rcases g with ⟨kvs, k, e, ey, l, eH⟩ | ⟨kvs, k, b, e, ey, eb, l, eH⟩
  · subst ey eH
    obtain ⟨z, hd, vs, rel, dd⟩ := dk_of I.hok e
    have hz : vs.length ≤ sizeLine := by rw [← rel.length]; exact z
    have hl : (putK kvs k v).length ≤ sizeLine := by have := length_putK kvs k v; omega
    refine wpAny_setItem_pairs (hsz := hz) (kV_is ry) dd fun h' dd' hs => h _ ?_
    have he : ∃ q, h'.get? a = some q := let ⟨q, _, _, hq, _⟩ := dd'; ⟨q, hq⟩
    exact d_write I (by rw [e]; exact True.intro) hs he (dk_new hl hd (rel.put k rv) dd')
  · subst ey eH
    cases (show u = Value.ref b from ry)
    obtain ⟨z, hd, xs, rel, dd⟩ := dt_of I.hok e
    have hz : xs.length ≤ sizeLine := by rw [← Paired.length rel]; exact z
    have hl : (putK kvs k v).length ≤ sizeLine := by have := length_putK kvs k v; omega
    refine wpAny_setItem_heap (hsz := hz) (tupleKind_room_in1 hu) (key_of I.hok eb) dd fun h' dd' hs => h _ ?_
    obtain ⟨q, es, ep, hq, h2, h3, h4, _, h5⟩ := dd'
    refine d_write I (by rw [e]; exact True.intro) hs ⟨q, hq⟩ ⟨hl, hd, _, (rel.put k eb rv).keeps fun c ys ec => ?_, q, es, ep, hq, h2, h3, h4, h5⟩
    rw [upd_ne (ne_of ec e (fun z => nomatch z))]
    exact ec
end
section
variable {X : Cx} {pins : List (Addr × Obj)} {σ : St} {H : Hp} {s : Shared} {a : Addr} {kvs : List (Key × V)} {k : Key} {u : Value} {A : Around} {E : Value → Shared → Prop}
/-- len(d) -/
theorem d_len {Q : Value → Shared → Prop} (I : Inv X pins σ H s) (e : Rd H a (.dK kvs)) (h : ∀ t s', Inv X pins σ H s' → Q (.int kvs.length t) s') : wpAny (model X.prog X.w) A (call (.builtin "len") [.ref a]) Q E s := by
  obtain ⟨z, hd, vs, rel, dd⟩ := dk_rd I.hok e
  refine call_len_dict hd dd (by rw [← rel.length]; rw [sizeLine_eq] at z; omega) ?_
  rw [← rel.length]
  exact h _ _ (I.tok _)
end
/-- the element of a subscription, not a slice -/
def NoSl (i : Expr) : Prop := ∀ ov iv, subscripted i false ov iv = operate [ov, iv] (getItem ov iv)
theorem subD_of {prog : Program} {w : World} {A : Around} {E : Value → Shared → Prop} {s : Shared} {env : Env} {value slice : Expr} {pos : Pos} {T id : String} {Q : Value → Shared → Prop}
    (hl : typeLookup (.type T) "__getitem__" = pure (some (.builtin id))) (hs : NoSl slice)
    (h : wpAny (model prog w) A (eval value env) (fun o s₁ => wpAny (model prog w) A (eval slice env) (fun i s₂ => s₂.TypeIs o T ∧ wpAny (model prog w) A (getItem o i) Q E s₂) E s₁) E s) :
    wpAny (model prog w) A (eval (.Subscript value slice pos) env) Q E s := by
  refine Subscript_ (wpAny_mono h (fun o s₁ h₁ => wpAny_mono h₁ (fun i s₂ h₂ => ?_) fun _ _ x => x) fun _ _ x => x)
  obtain ⟨hT, h₂⟩ := h₂
  unfold subscriptTail
  refine wpAny_bind ?_
  rw [getitemInPython_of_ne hT.not_modules]
  refine wpAny_bind (wpAny_specialOf hT hl ?_)
  have fin : wpAny (model prog w) A (subscripted slice false o i) (fun r s₃ => wpAny (model prog w) A (letTemporaryGo value o r >>= fun _ => pure r) Q E s₃) E s₂ := by
    rw [hs o i]
    exact wpAny_operating (wpAny_mono h₂ (fun r s₃ h₃ => wpAny_bind (wpAny_letTemporaryGo (wpAny_pure h₃))) fun _ _ x => x)
  first
    | exact wpAny_pure (wpAny_bind fin)
    | exact wpAny_bind (wpAny_pure (wpAny_bind fin))
    | exact wpAny_bind fin
theorem dict_typeIs {X : Cx} {pins : List (Addr × Obj)} {σ : St} {H : Hp} {s : Shared} {a : Addr} {y : V} {o : Option V} (I : Inv X pins σ H s) (g : DGet H a y o) : s.TypeIs (.ref a) "dict" := by
  rcases g with ⟨kvs, k, e, _, _⟩ | ⟨kvs, k, b, e, _, _, _⟩
  · obtain ⟨_, _, vs, _, dd⟩ := dk_rd I.hok e
    exact dd.typeIs
  · obtain ⟨_, _, xs, _, dd⟩ := dt_rd I.hok e
    exact dd.typeIs
/-- d[y] -/
def tDGet (td ty : TE) : TE := fun σ H Q => td σ H fun x H1 => ty σ H1 fun y H2 => ∃ a v, x = .ref a ∧ DGet H2 a y (some v) ∧ Q v H2
/-- y in d, y not in d -/
def tDIn (ty td : TE) : TE := fun σ H Q => ty σ H fun y H1 => td σ H1 fun x H2 => ∃ a o, x = .ref a ∧ DGet H2 a y o ∧ Q (.bl o.isSome) H2
def tDNotIn (ty td : TE) : TE := fun σ H Q => ty σ H fun y H1 => td σ H1 fun x H2 => ∃ a o, x = .ref a ∧ DGet H2 a y o ∧ Q (.bl (!o.isSome)) H2
/-- d[y] = v -/
def sDPut (td ty tv : TE) : TS := fun D σ H => tv σ H fun v H1 => td σ H1 fun x H2 => ty σ H2 fun y H3 => ∃ a H4, x = .ref a ∧ DPut H3 a y v H4 ∧ D.nx σ H4
section
variable {X : Cx} {o i e value : Expr} {pos pos' tpos : Pos} {td ty tv : TE}
theorem pe_dget (hu : X.A.units + 1 < cLine) (ho : PE X o td) (hi : PE X i ty) (hs : NoSl i) : PE X (.Subscript o i pos) (tDGet td ty) := by
  intro pins s σ H Q I h
  refine subD_of PySem.F.slot_dict_getitem.lookup hs (thn (ho pins s σ H _ I h) fun u s1 ⟨x, H1, I1, rx, q1⟩ => thn (hi pins s1 σ H1 _ I1 q1) fun iv s2 ⟨y, H2, I2, ry, a, v, ex, g, q2⟩ => ?_)
  subst ex
  obtain rfl : u = Value.ref a := rx
  exact ⟨dict_typeIs I2 g, d_getItem hu I2 g ry fun w' s3 I3 rw' => ⟨v, H2, I3, rw', q2⟩⟩
theorem pc_din (hu : X.A.units + 1 < cLine) (hi : PE X i ty) (ho : PE X o td) : PC X .In i o (tDIn ty td) := by
  intro pins s σ H Q I h
  refine thn (hi pins s σ H _ I h) fun iv s1 ⟨y, H1, I1, ry, q1⟩ => thn (ho pins s1 σ H1 _ I1 q1) fun u s2 ⟨x, H2, I2, rx, a, ov, ex, g, q2⟩ => ?_
  subst ex
  obtain rfl : u = Value.ref a := rx
  exact d_in hu I2 g ry fun s3 I3 => ⟨.bl ov.isSome, H2, I3, rfl, q2⟩
theorem pc_dnotin (hu : X.A.units + 1 < cLine) (hi : PE X i ty) (ho : PE X o td) : PC X .NotIn i o (tDNotIn ty td) := by
  intro pins s σ H Q I h
  refine thn (hi pins s σ H _ I h) fun iv s1 ⟨y, H1, I1, ry, q1⟩ => thn (ho pins s1 σ H1 _ I1 q1) fun u s2 ⟨x, H2, I2, rx, a, ov, ex, g, q2⟩ => ?_
  subst ex
  obtain rfl : u = Value.ref a := rx
  exact d_notIn hu I2 g ry fun s3 I3 => ⟨.bl (!ov.isSome), H2, I3, rfl, q2⟩
theorem ps_dput (hu : X.A.units + 1 < cLine) (ho : PE X o td) (hi : PE X i ty) (hv : PE X value tv) (hs : swapsWith value (some (.Subscript o i pos')) pos.line X.env = pure false) :
    PS X (.Assign [.Subscript o i pos'] value pos) (sDPut td ty tv) := by
  intro pins s σ H D I h
  refine wpAny_Assign_Subscript (thn (hv pins s σ H _ I h) fun r s1 ⟨v, H1, I1, rv, q1⟩ => thn (ho pins s1 σ H1 _ I1 q1) fun u s2 ⟨x, H2, I2, rx, q2⟩ => thn (hi pins s2 σ H2 _ I2 q2) fun iv s3 ⟨y, H3, I3, ry, a, H4, ex, g, q3⟩ => ?_) hs
  subst ex
  obtain rfl : u = Value.ref a := rx
  exact d_setItem hu I3 g ry rv fun s4 I4 => ⟨σ, H4, I4, q3⟩
end
theorem dk_empty {P : Program} {w : World} {H : Hp} (h : Heap) (hb : sysModules < h.objs.size) : ObjOk P w H (h.push { cls := .type "dict", data := .dict #[] }) h.objs.size (.dK []) :=
  ⟨Nat.zero_le _, beq_eq_false_iff_ne.mpr (Ne.symm (Nat.ne_of_lt hb)), [], .nil, Heap.DictOf.new h⟩
/-- {}, to be a dict of the kind that is wanted -/
def tDNewK : TE := fun _ H Q => ∀ p, H p = none → Q (.ref p) (upd H p (.dK []))
section
variable {X : Cx} {pos : Pos}
theorem pe_dnewK : PE X (.Dict [] [] pos) tDNewK := fun pins s σ H Q I h =>
  wpAny_Dict_empty ⟨.ref s.heap.objs.size, _, I.laid (a := s.heap.objs.size) (o := .dK []) (t' := s.toks) (fun _ _ q => Heap.get?_push_of_some _ q) (Nat.le_refl _) (dk_empty s.heap I.big), rfl, h _ (I.hok.fresh (Nat.le_refl _))⟩
end
/-- the pairs of a display, from the left -/
def tPairs : List (TE × TE) → St → Hp → (List (V × V) → Hp → Prop) → Prop
  | [], _, H, Q => Q [] H
  | (tk, tv) :: r, σ, H, Q => tk σ H fun x H1 => tv σ H1 fun y H2 => tPairs r σ H2 fun ps H3 => Q ((x, y) :: ps) H3
abbrev VV : List (V × V) → List (Value × Value) → Prop := Paired fun p q => RelV p.1 q.1 ∧ RelV p.2 q.2
def PPs (X : Cx) (pos : Pos) (keys : List (Option Expr)) (values : List Expr) (trs : List (TE × TE)) : Prop :=
  ∀ (pins : List (Addr × Obj)) (s : Shared) (σ : St) (H : Hp) (Q : List (V × V) → Hp → Prop), Inv X pins σ H s → tPairs trs σ H Q →
    wpAny (model X.prog X.w) X.A (evalPairs (pairTrees keys values X.env pos)) (fun vs s' => ∃ ps H', Inv X pins σ H' s' ∧ VV ps vs ∧ Q ps H') X.xe s
theorem pps_nil {X : Cx} {pos : Pos} : PPs X pos [] [] [] := fun pins s σ H Q I h => pairTrees_nil_walk ⟨[], H, I, .nil, h⟩
theorem pps_cons {X : Cx} {pos : Pos} {k v : Expr} {ks : List (Option Expr)} {vs : List Expr} {tk tv : TE} {trs : List (TE × TE)} (hk : PE X k tk) (hv : PE X v tv) (hr : PPs X pos ks vs trs) :
    PPs X pos (some k :: ks) (v :: vs) ((tk, tv) :: trs) := fun pins s σ H Q I h =>
  pairTrees_cons_walk (thn (hk pins s σ H _ I h) fun u s1 ⟨x, H1, I1, rx, q1⟩ => thn (hv pins s1 σ H1 _ I1 q1) fun w2 s2 ⟨y, H2, I2, ry, q2⟩ =>
    thn (hr pins s2 σ H2 _ I2 q2) fun ws s3 ⟨ps, H3, I3, rel, q3⟩ => ⟨(x, y) :: ps, H3, I3, .cons ⟨rx, ry⟩ rel, q3⟩)
def mergeK (kvs more : List (Key × V)) : List (Key × V) := more.foldl (fun acc kv => putK acc kv.1 kv.2) kvs
theorem KV.merge : ∀ {more : List (Key × V)} {rs : List (Key × Value)} {kvs : List (Key × V)} {vs : List (Key × Value)}, KV more rs → KV kvs vs → KV (mergeK kvs more) (merged vs rs) := by
  intro more rs kvs vs r
  unfold KV at r
  induction r generalizing kvs vs with
  | nil => intro q; exact q
  | @cons p q ps qs h t ih =>
    intro r0
    have e : KV (putK kvs p.1 p.2) (stored vs q.1 q.2) := by
      have := r0.put p.1 h.2
      rw [← h.1]; exact this
    exact ih e
theorem length_mergeK : ∀ (more kvs : List (Key × V)), (mergeK kvs more).length ≤ kvs.length + more.length
  | [], kvs => by show kvs.length ≤ kvs.length + 0; omega
  | p :: r, kvs => by
    have h1 := length_mergeK r (putK kvs p.1 p.2)
    have h2 := length_putK kvs p.1 p.2
    show (mergeK (putK kvs p.1 p.2) r).length ≤ _
    rw [List.length_cons]; omega
theorem carries_of {P : Program} {w : World} : ∀ {kvs : List (Key × V)} {ws : List (Value × Value)}, VV (kvs.map fun kv => (kV kv.1, kv.2)) ws → ∃ rs, Carries (mixKind P w) ws rs ∧ KV kvs rs
  | [], _, r => by rw [List.map_nil] at r; cases r; exact ⟨[], True.intro, .nil⟩
  | p :: kvs, _, r => by
    rw [List.map_cons] at r
    cases r with
    | @cons a b as bs h t =>
      obtain ⟨rs, c, q⟩ := carries_of (P := P) (w := w) t
      obtain ⟨b1, b2⟩ := b
      exact ⟨(p.1, b2) :: rs, ⟨kV_is h.1, rfl, c⟩, .cons ⟨rfl, h.2⟩ q⟩
/-- {k: v, ..} with keys ints and texts; the new dict stands empty while the pairs are made -/
def tDisp (trs : List (TE × TE)) : TE := fun σ H Q => ∀ p, H p = none → tPairs trs σ (upd H p (.dK [])) fun ps H2 => H2 p = some (.dK []) ∧ ∃ kvs : List (Key × V), ps = kvs.map (fun kv => (kV kv.1, kv.2)) ∧ kvs.length ≤ 15 ∧ Q (.ref p) (upd H2 p (.dK (mergeK [] kvs)))
theorem pe_disp {X : Cx} {pos : Pos} {keys : List (Option Expr)} {values : List Expr} {trs : List (TE × TE)} (h : PPs X pos keys values trs) (hall : keys.all (·.isSome) = true) (hl : keys.length = values.length) (h0 : keys ≠ [])
    (h15 : keys.length ≤ 15) : PE X (.Dict keys values pos) (tDisp trs) := by
  intro pins s σ H Q I q
  have hn := I.hok.fresh (Nat.le_refl s.heap.objs.size)
  have I1 := I.laid (a := s.heap.objs.size) (o := .dK []) (h' := s.heap.push { cls := .type "dict", data := .dict #[] }) (t' := s.toks) (fun _ _ q => Heap.get?_push_of_some _ q) (Nat.le_refl _) (dk_empty s.heap I.big)
  refine wpAny_Dict_walk (knd := mixKind X.prog X.w) hall hl h0 h15 (thn (h pins _ σ _ _ I1 (q _ hn)) fun ws s2 ⟨ps, H2, I2, rel, e, kvs, ep, lk, q2⟩ => ?_)
  subst ep
  obtain ⟨rs, c, rk⟩ := carries_of (P := X.prog) (w := X.w) rel
  obtain ⟨z, hd, vs0, r0, dd⟩ := dk_of I2.hok e
  cases r0
  refine ⟨rs, c, dd, fun h' dd' hs => ⟨.ref s.heap.objs.size, _, ?_, rfl, q2⟩⟩
  have hz : (mergeK [] kvs).length ≤ sizeLine := by
    have h1 := length_mergeK kvs []
    rw [List.length_nil] at h1
    rw [sizeLine_eq]; omega
  have he : ∃ q, h'.get? s.heap.objs.size = some q := let ⟨q, _, _, hq, _⟩ := dd'; ⟨q, hq⟩
  exact d_write I2 (by rw [e]; exact True.intro) hs he (dk_new hz hd (rk.merge .nil) dd')
/-- a method call o.m(e) of a built-in, with one argument: what must be seen of the text -/
structure M1 (X : Cx) (o : Expr) (m : Str) (apos : Pos) (e : Expr) (cpos : Pos) : Prop where
  base : attributeBase o m X.env (eval o X.env) = eval o X.env
  few : ((backTo cpos (starEach [e] X.env)).all (fun x => !x.1) && (backToKw cpos (keywordEach [] X.env)).all (fun x => x.1.isSome)
    && decide (([e] : List Expr).length + ([] : List Keyword).length + (if ([] : List Keyword).isEmpty then 0 else 1) < 30)) = true
  line : (apos.endLine == cpos.line) = true
  trees : backTo cpos (starEach [e] X.env) = [(false, eval e X.env)]
structure M2 (X : Cx) (o : Expr) (m : Str) (apos : Pos) (e f : Expr) (cpos : Pos) : Prop where
  base : attributeBase o m X.env (eval o X.env) = eval o X.env
  few : ((backTo cpos (starEach [e, f] X.env)).all (fun x => !x.1) && (backToKw cpos (keywordEach [] X.env)).all (fun x => x.1.isSome)
    && decide (([e, f] : List Expr).length + ([] : List Keyword).length + (if ([] : List Keyword).isEmpty then 0 else 1) < 30)) = true
  line : (apos.endLine == cpos.line) = true
  trees : backTo cpos (starEach [e, f] X.env) = [(false, eval e X.env), (false, eval f X.env)]
section
variable {X : Cx} {pins : List (Addr × Obj)} {σ : St} {H : Hp} {s : Shared} {a : Addr} {y d : V} {u r : Value} {o : Option V} {A : Around} {E : Value → Shared → Prop}
end
section
variable {X : Cx} {o e f : Expr} {apos cpos : Pos} {td ty tx : TE}
end
section
variable {X : Cx} {pins : List (Addr × Obj)} {σ : St} {H : Hp} {s : Shared} {a : Addr} {kvs : List (Key × V)} {A : Around} {E : Value → Shared → Prop}
end
section
variable {X : Cx} {pins : List (Addr × Obj)} {σ : St} {H : Hp} {s : Shared} {a : Addr} {y : V} {u : Value} {A : Around} {E : Value → Shared → Prop}
end
end L2
namespace Att
open PySem PySem.W PySem.Calls PyProof.Rows
section
variable {prog : Program} {w : World} {A : Around} {E : Value → Shared → Prop} {s : Shared} {K : Frag}
end
end Att
namespace L2
open PySem PySem.Spec PyProof.Rows
end L2
namespace L2
open PySem PySem.Spec PyProof.Rows
end L2
namespace L2
open PySem PySem.Spec PyProof.Rows
section
variable {P : Program} {w : World} {K : PySem.W.Frag} {mg : Str → Option Value} {base : Heap}
end
section
variable {X : Cx}
end
section
variable {κ : Type} [DecidableEq κ]
end
end L2
namespace Mt
theorem fmod_eq (a b : Int) : a.fmod b = a - b * a.fdiv b := by
  have := Int.fmod_add_mul_fdiv a b
  omega
theorem gcd_step (a b : Int) : Int.gcd b (a.fmod b) = Int.gcd a b := by
  apply Nat.dvd_antisymm
  · refine Int.dvd_gcd ?_ (Int.gcd_dvd_left b (a.fmod b))
    have h1 : ((Int.gcd b (a.fmod b) : Nat) : Int) ∣ b := Int.gcd_dvd_left ..
    have h2 : ((Int.gcd b (a.fmod b) : Nat) : Int) ∣ a.fmod b := Int.gcd_dvd_right ..
    have h3 := Int.dvd_add h2 (Int.dvd_trans h1 (Int.dvd_mul_right b (a.fdiv b)))
    have e : a.fmod b + b * a.fdiv b = a := Int.fmod_add_mul_fdiv a b
    rwa [e] at h3
  · refine Int.dvd_gcd (Int.gcd_dvd_right ..) ?_
    rw [fmod_eq]
    exact Int.dvd_sub (Int.gcd_dvd_left ..) (Int.dvd_trans (Int.gcd_dvd_right ..) (Int.dvd_mul_right ..))
theorem fmod_lt (a b : Int) (h : b ≠ 0) : (a.fmod b).natAbs < b.natAbs := by
  rcases Int.lt_or_gt_of_ne h with h | h
  · have h1 := Int.fmod_lt_of_pos (-a) (show 0 < -b by omega)
    have h2 := Int.fmod_nonneg_of_pos (-a) (show 0 < -b by omega)
    rw [Int.neg_fmod_neg] at h1 h2
    omega
  · have h1 := Int.fmod_lt_of_pos a h
    have h2 := Int.fmod_nonneg_of_pos a h
    omega
/-- the sign that the divisor bears -/
def sg (t b : Int) : Int := if b < 0 then -((Int.gcd t b : Nat) : Int) else ((Int.gcd t b : Nat) : Int)
def lowP (t b : Int) : Int := t.fdiv (sg t b)
def lowQ (t b : Int) : Int := b.fdiv (sg t b)
theorem gcd_pos {t b : Int} (h : b ≠ 0) : 0 < Int.gcd t b := by
  rcases Nat.eq_zero_or_pos (Int.gcd t b) with z | z
  · rw [Int.gcd_eq_zero_iff] at z
    exact absurd z.2 h
  · exact z
theorem sg_ne {t b : Int} (h : b ≠ 0) : sg t b ≠ 0 := by
  have := gcd_pos (t := t) h
  unfold sg; split <;> omega
theorem sg_dvd_l (t b : Int) : sg t b ∣ t := by
  unfold sg; split
  · exact Int.neg_dvd.mpr (Int.gcd_dvd_left ..)
  · exact Int.gcd_dvd_left ..
theorem sg_dvd_r (t b : Int) : sg t b ∣ b := by
  unfold sg; split
  · exact Int.neg_dvd.mpr (Int.gcd_dvd_right ..)
  · exact Int.gcd_dvd_right ..
theorem sg_abs (t b : Int) : (sg t b).natAbs = Int.gcd t b := by
  unfold sg; split <;> omega
theorem low_t (t b : Int) : lowP t b * sg t b = t := Int.fdiv_mul_cancel (sg_dvd_l t b)
theorem low_b (t b : Int) : lowQ t b * sg t b = b := Int.fdiv_mul_cancel (sg_dvd_r t b)
theorem low_pos {t b : Int} (h : b ≠ 0) : 0 < lowQ t b := by
  have e := low_b t b
  have g := gcd_pos (t := t) h
  by_cases hb : b < 0
  · have s : sg t b = -((Int.gcd t b : Nat) : Int) := by unfold sg; rw [if_pos hb]
    rw [s] at e
    rcases Int.lt_trichotomy (lowQ t b) 0 with z | z | z
    · have := Int.mul_pos_of_neg_of_neg z (show -((Int.gcd t b : Nat) : Int) < 0 by omega)
      omega
    · rw [z] at e; omega
    · exact z
  · have s : sg t b = ((Int.gcd t b : Nat) : Int) := by unfold sg; rw [if_neg hb]
    rw [s] at e
    rcases Int.lt_trichotomy (lowQ t b) 0 with z | z | z
    · have := Int.mul_neg_of_neg_of_pos z (show 0 < ((Int.gcd t b : Nat) : Int) by omega)
      omega
    · rw [z] at e; omega
    · exact z
theorem low_gcd {t b : Int} (h : b ≠ 0) : Int.gcd (lowP t b) (lowQ t b) = 1 := by
  have e := Int.gcd_mul_right (lowP t b) (sg t b) (lowQ t b)
  rw [low_t, low_b, sg_abs] at e
  have g := gcd_pos (t := t) h
  have e' : 1 * Int.gcd t b = (lowP t b).gcd (lowQ t b) * Int.gcd t b := by omega
  exact (Nat.eq_of_mul_eq_mul_right g e').symm
theorem low_cross (t b : Int) : lowP t b * b = t * lowQ t b := by
  have e1 := low_t t b
  have e2 := low_b t b
  calc lowP t b * b = lowP t b * (lowQ t b * sg t b) := by rw [e2]
    _ = (lowP t b * sg t b) * lowQ t b := by rw [Int.mul_comm (lowQ t b), Int.mul_assoc]
    _ = t * lowQ t b := by rw [e1]
theorem low_absP {t b : Int} (h : b ≠ 0) : (lowP t b).natAbs ≤ t.natAbs := by
  have e := congrArg Int.natAbs (low_t t b)
  rw [Int.natAbs_mul, sg_abs] at e
  have g := gcd_pos (t := t) h
  rw [← e]
  exact Nat.le_mul_of_pos_right _ g
theorem low_absQ {t b : Int} (h : b ≠ 0) : (lowQ t b).natAbs ≤ b.natAbs := by
  have e := congrArg Int.natAbs (low_b t b)
  rw [Int.natAbs_mul, sg_abs] at e
  have g := gcd_pos (t := t) h
  have := Nat.le_mul_of_pos_right (lowQ t b).natAbs g
  omega
end Mt
namespace Mt
/-- two pairs in lowest terms that stand for one number are one -/
theorem low_one {p q p' q' : Int} (hq : 0 < q) (hq' : 0 < q') (g : Int.gcd p q = 1) (g' : Int.gcd p' q' = 1) (c : p * q' = p' * q) : p = p' ∧ q = q' := by
  have d1 : q ∣ q' := by
    have h : q ∣ p * q' := by rw [c]; exact Int.dvd_mul_left ..
    have n : q.natAbs ∣ p.natAbs * q'.natAbs := by
      have := Int.natAbs_dvd_natAbs.mpr h
      rwa [Int.natAbs_mul] at this
    have co : Nat.Coprime q.natAbs p.natAbs := by
      show Nat.gcd q.natAbs p.natAbs = 1
      rw [Nat.gcd_comm]; exact g
    exact Int.natAbs_dvd_natAbs.mp (Nat.Coprime.dvd_of_dvd_mul_left co n)
  have d2 : q' ∣ q := by
    have h : q' ∣ p' * q := by rw [← c]; exact Int.dvd_mul_left ..
    have n : q'.natAbs ∣ p'.natAbs * q.natAbs := by
      have := Int.natAbs_dvd_natAbs.mpr h
      rwa [Int.natAbs_mul] at this
    have co : Nat.Coprime q'.natAbs p'.natAbs := by
      show Nat.gcd q'.natAbs p'.natAbs = 1
      rw [Nat.gcd_comm]; exact g'
    exact Int.natAbs_dvd_natAbs.mp (Nat.Coprime.dvd_of_dvd_mul_left co n)
  have e : q = q' := by
    have h1 := Int.le_of_dvd hq' d1
    have h2 := Int.le_of_dvd hq d2
    omega
  subst e
  exact ⟨Int.eq_of_mul_eq_mul_right (by omega) c, rfl⟩
theorem low_eq {t b p q : Int} (h : b ≠ 0) (hq : 0 < q) (g : Int.gcd p q = 1) (c : p * b = t * q) : lowP t b = p ∧ lowQ t b = q := by
  have e := low_cross t b
  have k : lowP t b * q = p * lowQ t b := by
    have : (lowP t b * q) * b = (p * lowQ t b) * b := by
      calc (lowP t b * q) * b = (lowP t b * b) * q := by rw [Int.mul_assoc, Int.mul_comm q b, ← Int.mul_assoc]
        _ = (t * lowQ t b) * q := by rw [e]
        _ = (t * q) * lowQ t b := by rw [Int.mul_assoc, Int.mul_comm (lowQ t b) q, ← Int.mul_assoc]
        _ = (p * b) * lowQ t b := by rw [c]
        _ = (p * lowQ t b) * b := by rw [Int.mul_assoc, Int.mul_comm b, ← Int.mul_assoc]
    exact Int.eq_of_mul_eq_mul_right h this
  exact low_one (low_pos h) hq (low_gcd h) g k
theorem low_self {p q : Int} (hq : 0 < q) (g : Int.gcd p q = 1) : lowP p q = p ∧ lowQ p q = q := low_eq (by omega) hq g rfl
theorem fdiv_bounds {p q : Int} (hq : 0 < q) : p.fdiv q * q ≤ p ∧ p < (p.fdiv q + 1) * q := by
  have e := Int.fmod_add_mul_fdiv p q
  have h1 := Int.fmod_nonneg_of_pos p hq
  have h2 := Int.fmod_lt_of_pos p hq
  have c : q * p.fdiv q = p.fdiv q * q := Int.mul_comm ..
  have d : (p.fdiv q + 1) * q = p.fdiv q * q + q := by rw [Int.add_mul, Int.one_mul]
  omega
end Mt
namespace Mt
/-- one number by two pairs: one whole -/
theorem fdiv_cross {A B C D : Int} (hB : 0 < B) (hD : 0 < D) (h : A * D = C * B) : A.fdiv B = C.fdiv D := by
  obtain ⟨h1, h2⟩ := fdiv_bounds (p := A) hB
  obtain ⟨h3, h4⟩ := fdiv_bounds (p := C) hD
  generalize A.fdiv B = f at h1 h2 ⊢
  generalize C.fdiv D = g at h3 h4 ⊢
  have k1 : f * B * D ≤ A * D := Int.mul_le_mul_of_nonneg_right h1 (by omega)
  have k2 : C * B < (g + 1) * D * B := Int.mul_lt_mul_of_pos_right h4 hB
  have k3 : g * D * B ≤ C * B := Int.mul_le_mul_of_nonneg_right h3 (by omega)
  have k4 : A * D < (f + 1) * B * D := Int.mul_lt_mul_of_pos_right h2 hD
  have p := Int.mul_pos hB hD
  have e1 : f * (B * D) < (g + 1) * (B * D) := by grind
  have e2 : g * (B * D) < (f + 1) * (B * D) := by grind
  have := Int.lt_of_mul_lt_mul_right e1 (by omega)
  have := Int.lt_of_mul_lt_mul_right e2 (by omega)
  omega
def plP (p q r s k : Int) : Int := lowP (p * s + k * r * q) (q * s)
def plQ (p q r s k : Int) : Int := lowQ (p * s + k * r * q) (q * s)
theorem pl_pos {p q r s k : Int} (hq : 0 < q) (hs : 0 < s) : 0 < plQ p q r s k := low_pos (Int.ne_of_gt (Int.mul_pos hq hs))
theorem pl_cross (p q r s k : Int) : plP p q r s k * (q * s) = (p * s + k * r * q) * plQ p q r s k := low_cross _ _
theorem pl_absP {p q r s k : Int} (hq : 0 < q) (hs : 0 < s) : (plP p q r s k).natAbs ≤ (p * s + k * r * q).natAbs := low_absP (Int.ne_of_gt (Int.mul_pos hq hs))
theorem pl_absQ {p q r s k : Int} (hq : 0 < q) (hs : 0 < s) : (plQ p q r s k).natAbs ≤ (q * s).natAbs := low_absQ (Int.ne_of_gt (Int.mul_pos hq hs))
end Mt
namespace Mt
/-- the picture of N / D is one of m -/
def InR (N D m : Int) : Prop := 0 ≤ N ∧ N < m * D
theorem inR_iff {N D m : Int} (hD : 0 < D) : InR N D m ↔ (0 ≤ N.fdiv D ∧ N.fdiv D < m) := by
  obtain ⟨h1, h2⟩ := fdiv_bounds (p := N) hD
  generalize N.fdiv D = f at h1 h2 ⊢
  unfold InR
  constructor
  · rintro ⟨a, b⟩
    constructor
    · have : 0 * D < (f + 1) * D := by rw [Int.zero_mul]; omega
      have := Int.lt_of_mul_lt_mul_right this (by omega)
      omega
    · exact Int.lt_of_mul_lt_mul_right (a := D) (by omega) (by omega)
  · rintro ⟨a, b⟩
    constructor
    · have := Int.mul_nonneg a (by omega : 0 ≤ D)
      omega
    · have : (f + 1) * D ≤ m * D := Int.mul_le_mul_of_nonneg_right (by omega) (by omega)
      omega
theorem inR_cross {X Y E D m : Int} (hE : 0 < E) (hD : 0 < D) (h : X * D = Y * E) : InR X E m ↔ InR Y D m := by
  rw [inR_iff hE, inR_iff hD, fdiv_cross hE hD h]
def roomB (N R D m : Int) : Int :=
  if R = 0 then 1000000 else if ¬ (0 ≤ N.fdiv D ∧ N.fdiv D < m) then 0
  else if 1000000 < (if R < 0 then N.fdiv (-R) + 1 else -((N - m * D).fdiv R)) then 1000000 else (if R < 0 then N.fdiv (-R) + 1 else -((N - m * D).fdiv R))
/-- before the cut at a million -/
theorem room_neg {N R D m : Int} (hR : R < 0) (h : InR N D m) : 1 ≤ N.fdiv (-R) + 1 ∧ (∀ j, 0 ≤ j → j < N.fdiv (-R) + 1 → InR (N + j * R) D m) ∧ ¬ InR (N + (N.fdiv (-R) + 1) * R) D m := by
  obtain ⟨h1, h2⟩ := fdiv_bounds (p := N) (q := -R) (by omega)
  have f0 : 0 ≤ N.fdiv (-R) := Int.fdiv_nonneg h.1 (by omega)
  generalize N.fdiv (-R) = f at h1 h2 f0 ⊢
  refine ⟨by omega, fun j j0 j1 => ?_, ?_⟩
  · have k1 : j * (-R) ≤ f * (-R) := Int.mul_le_mul_of_nonneg_right (by omega) (by omega)
    have k2 : 0 ≤ j * (-R) := Int.mul_nonneg j0 (by omega)
    have e : j * R = -(j * (-R)) := by grind
    obtain ⟨a, b⟩ := h
    exact ⟨by omega, by omega⟩
  · intro z
    have e : (f + 1) * R = -((f + 1) * (-R)) := by grind
    have := z.1
    omega
theorem room_pos {N R D m : Int} (hR : 0 < R) (h : InR N D m) : 1 ≤ -((N - m * D).fdiv R) ∧ (∀ j, 0 ≤ j → j < -((N - m * D).fdiv R) → InR (N + j * R) D m) ∧ ¬ InR (N + -((N - m * D).fdiv R) * R) D m := by
  obtain ⟨h1, h2⟩ := fdiv_bounds (p := N - m * D) hR
  obtain ⟨a, b⟩ := h
  generalize (N - m * D).fdiv R = f at h1 h2 ⊢
  have f0 : f < 0 := by
    have : f * R < 0 * R := by rw [Int.zero_mul]; omega
    exact Int.lt_of_mul_lt_mul_right this (by omega)
  refine ⟨by omega, fun j j0 j1 => ?_, ?_⟩
  · have k1 : (j + f + 1) * R ≤ 0 * R := Int.mul_le_mul_of_nonneg_right (by omega) (by omega)
    have k2 : 0 ≤ j * R := Int.mul_nonneg j0 (by omega)
    have e : (j + f + 1) * R = j * R + (f + 1) * R := by grind
    rw [Int.zero_mul] at k1
    exact ⟨by omega, by omega⟩
  · intro z
    have := z.2
    have e : -f * R = -(f * R) := by grind
    omega
theorem room_ok {N R D m : Int} (hD : 0 < D) (h0 : R = 0 → InR N D m) : 0 ≤ roomB N R D m ∧ roomB N R D m ≤ 1000000 ∧ (∀ j, 0 ≤ j → j < roomB N R D m → InR (N + j * R) D m) ∧ (roomB N R D m < 1000000 → ¬ InR (N + roomB N R D m * R) D m) ∧ (R = 0 → roomB N R D m = 1000000) := by
  unfold roomB
  by_cases hR : R = 0
  · rw [if_pos hR]
    refine ⟨by decide, by decide, fun j _ _ => ?_, fun z => absurd z (by decide), fun _ => rfl⟩
    rw [hR, Int.mul_zero, Int.add_zero]
    exact h0 hR
  rw [if_neg hR]
  by_cases hi : InR N D m
  · rw [if_neg (by rw [Classical.not_not]; exact (inR_iff hD).mp hi)]
    have key : ∀ g : Int, 1 ≤ g → (∀ j, 0 ≤ j → j < g → InR (N + j * R) D m) → ¬ InR (N + g * R) D m →
        0 ≤ (if 1000000 < g then 1000000 else g) ∧ (if 1000000 < g then 1000000 else g) ≤ 1000000 ∧ (∀ j, 0 ≤ j → j < (if 1000000 < g then 1000000 else g) → InR (N + j * R) D m) ∧ ((if 1000000 < g then 1000000 else g) < 1000000 → ¬ InR (N + (if 1000000 < g then 1000000 else g) * R) D m) := by
      intro g g1 g2 g3
      by_cases hg : 1000000 < g
      · rw [if_pos hg]
        exact ⟨by decide, by decide, fun j a b => g2 j a (by omega), fun z => absurd z (by decide)⟩
      · rw [if_neg hg]
        exact ⟨by omega, by omega, g2, fun _ => g3⟩
    have fin : ∀ {A B C D' : Prop}, A ∧ B ∧ C ∧ D' → A ∧ B ∧ C ∧ D' ∧ (R = 0 → (if 1000000 < (if R < 0 then N.fdiv (-R) + 1 else -((N - m * D).fdiv R)) then (1000000 : Int) else (if R < 0 then N.fdiv (-R) + 1 else -((N - m * D).fdiv R))) = 1000000) := fun ⟨a, b, c, d⟩ => ⟨a, b, c, d, fun z => absurd z hR⟩
    refine fin ?_
    by_cases hn : R < 0
    · rw [if_pos hn]
      obtain ⟨a, b, c⟩ := room_neg hn hi
      exact key _ a b c
    · rw [if_neg hn]
      obtain ⟨a, b, c⟩ := room_pos (by omega : 0 < R) hi
      exact key _ a b c
  · rw [if_pos (by rw [← inR_iff hD]; exact hi)]
    refine ⟨by decide, by decide, fun j a b => absurd b (by omega), fun _ => ?_, fun z => absurd z hR⟩
    rw [Int.zero_mul, Int.add_zero]
    exact hi
end Mt
set_option maxHeartbeats 4000000
namespace L3
open PySem PySem.Spec PyProof.Rows L2

/-! ### numbers of any size that occur -/
def CMulB (i j : Int) : Prop := CMul i j ∨ (i.natAbs < 2 ^ 60000 ∧ j.natAbs < 2 ^ 60000)
theorem bits_of_small {i : Int} (h : i.natAbs < 2 ^ 60000) : Builtin.Int.intBits i ≤ 2 ^ 20 := by
  unfold Builtin.Int.intBits
  split
  · exact Nat.zero_le _
  · rename_i h0
    have hz : i.natAbs ≠ 0 := by
      intro z
      apply h0
      have : i = 0 := by omega
      rw [this]; rfl
    have := (Nat.log2_lt hz).mpr h
    have e : (2 : Nat) ^ 20 = 1048576 := by decide
    omega
theorem CMulB.ok {i j : Int} (h : CMulB i j) : IntMulOk i j := by
  rcases h with h | ⟨h1, h2⟩
  · exact h.ok
  · exact IntMulOk.of_bits (bits_of_small h1) (bits_of_small h2)
def CDivB (_ j : Int) : Prop := j ≠ 0 ∧ j.natAbs < 2 ^ 8000
theorem CDivB.ok {i j : Int} (h : CDivB i j) : Builtin.divisionGoesByPylong i j = false := by
  refine PyProof.noPylong_of_log2 ?_
  have hz : j.natAbs ≠ 0 := by have := h.1; omega
  have := (Nat.log2_lt hz).mpr h.2
  omega
section
variable {X : Cx}
theorem op_mulB : OpR X (binaryOp .Mult) (rI CMulB fun i j => .int (i * j)) := opI fun _ _ _ _ _ _ _ hc q => mul_int q hc.ok
theorem op_fdivB : OpR X (binaryOp .FloorDiv) (rI CDivB fun i j => .int (i.fdiv j)) := opI fun _ _ _ _ _ _ _ hc q => floordiv_int hc.1 q (.inl hc.ok)

/-! ### isinstance(x, T), T a built-in type or an own class -/
theorem call_isinst : CallR X (.builtin "isinstance") (fun xs H Q => ∃ x c t b, xs = [x, c] ∧ TyOf X.K H x t ∧
    (∃ n, c = .ty n ∧ PySem.W.kitOne X.K t (.type n) = some b ∨ ∃ a, c = .ref a ∧ PySem.W.kitOne X.K t (.ref a) = some b) ∧ Q (.bl b) H) := by
  intro pins s σ H xs us Q I r h
  obtain ⟨x, c, t, b, rfl, ty, hk, q⟩ := h
  obtain ⟨u, u', rfl, rx, rc⟩ := vals2 r
  obtain ⟨n, ⟨rfl, e⟩ | ⟨a, rfl, e⟩⟩ := hk
  · cases rc
    exact isinst_ok I rx ty e fun tk => ⟨.bl b, H, I.tok _, rfl, q⟩
  · cases rc
    exact isinst_ok I rx ty e fun tk => ⟨.bl b, H, I.tok _, rfl, q⟩

/-! ### is, is not, between truths -/
/-! ### t == u, t != u of tuples whose items are flat -/
def eqAll (xs ys : List V) : Bool := (List.range (min xs.length ys.length)).all (fun j => eqV (xs.getD j .non) (ys.getD j .non)) && xs.length == ys.length
theorem flat_items {A : Around} {s : Shared} {xs ys : List V} {us ws : List Value} (r1 : Vals xs us) (r2 : Vals ys ws) (f1 : xs.all flatV = true) (f2 : ys.all flatV = true) :
    ∀ j (h1 : j < us.toArray.size) (h2 : j < ws.toArray.size), SeqAt.EqAt A s us.toArray[j] ws.toArray[j] (eqV (xs.getD j .non) (ys.getD j .non)) := by
  intro j h1 h2
  have l1 := r1.length
  have l2 := r2.length
  rw [List.size_toArray] at h1 h2
  have g1 : xs[j]? = some xs[j] := List.getElem?_eq_getElem (by omega)
  have g2 : ys[j]? = some ys[j] := List.getElem?_eq_getElem (by omega)
  obtain ⟨u, e1, q1⟩ := r1.get g1
  obtain ⟨w, e2, q2⟩ := r2.get g2
  have d1 : xs.getD j .non = xs[j] := by rw [List.getD_eq_getElem?_getD, g1]; rfl
  have d2 : ys.getD j .non = ys[j] := by rw [List.getD_eq_getElem?_getD, g2]; rfl
  have c1 : us.toArray[j] = u := by
    have := (List.getElem?_eq_some_iff.mp e1).2
    simpa using this
  have c2 : ws.toArray[j] = w := by
    have := (List.getElem?_eq_some_iff.mp e2).2
    simpa using this
  rw [d1, d2, c1, c2]
  exact eqAt_V q1 q2 (List.all_eq_true.mp f1 _ (List.getElem_mem _)) (List.all_eq_true.mp f2 _ (List.getElem_mem _))
def rEqT (K : PySem.W.Frag) (neg : Bool) : R2 := fun x y H Q => ∃ p q xs ys, x = .ref p ∧ y = .ref q ∧ SqT K H p xs ∧ SqT K H q ys ∧ xs.all flatV = true ∧ ys.all flatV = true ∧ Q (.bl (if neg then !eqAll xs ys else eqAll xs ys)) H
theorem op_eqT (hu : X.A.units < cLine) : OpR X (compareOp .Eq) (rEqT X.K false) := by
  intro pins s σ H x y v u Q I rx ry h
  obtain ⟨p, q, xs, ys, rfl, rfl, h1, h2, f1, f2, k⟩ := h
  cases rx; cases ry
  obtain ⟨us, r1, t1, _⟩ := I.tuple h1
  obtain ⟨ws, r2, t2, _⟩ := I.tuple h2
  have l1 : us.toArray.size = xs.length := by rw [List.size_toArray]; exact r1.length.symm
  have l2 : ws.toArray.size = ys.length := by rw [List.size_toArray]; exact r2.length.symm
  refine SeqAt.eq_tupleAt t1 t2 hu (flat_items r1 r2 f1 f2) ?_
  rw [l1, l2]
  exact ⟨.bl (eqAll xs ys), H, I, rfl, k⟩
end
end L3
set_option maxHeartbeats 4000000
namespace L3
open PySem PySem.Spec PyProof.Rows L2

/-! ### [e for x in ..]: the block's own context, its reading, its rule -/
def cxComp (X : Cx) (scope : Scope) (cl : List (Str × Addr)) (C : Addr) (N : List Str) (s : Shared) (H : Hp) (fp : List Addr) : Cx :=
  { X with N := N, s₀ := s, H₀ := H, env := compEnvC scope cl C X.env, outer := X.stack, stack := X.stack, ex := fp, fn := fun _ => false, pn := [] }
/-- what the block sees of the outer slots -/
def capt (js : List Nat) (σ : L2.St) : L2.St := js.map fun j => (σ[j]?).join
/-- W: the turn, a measure, the items so far -/
def CompEnd (js : List Nat) (te : TE) (σ : L2.St) (Q : VK) (J : It) (H1 : Hp) : Prop := ∃ W : Nat → Nat → List V → Hp → Prop, (∃ m, W 0 m [] H1) ∧ ∀ i m acc H2, W i m acc H2 →
  acc.length < sizeLine ∧ ((J.stop i H2 ∧ ∀ D, H2 D = none → Q (.ref D) (upd H2 D (.lst acc))) ∨
    (J.go i H2 ∧ ∀ x H3, J.yld i H2 x H3 → te (some x :: capt js σ) H3 fun v H4 => ∃ m', m' < m ∧ W (i + 1) m' (acc ++ [v]) H4))
def tComp (js : List Nat) (wi : TI) (te : TE) : TE := fun σ H Q => wi σ H (CompEnd js te σ Q)

theorem comp_core {X : Cx} {elt iter : Expr} {x : Str} {px : Pos} {scope : Scope} {cl : List (Str × Addr)} {pos : Pos} {wi : TI} {te : TE} (ys : List Str) (js : List Nat)
    (hcm : X.calm = true) (hi : PI X (.Name x px) iter wi) (he : ∀ C s H fp, PE (cxComp X scope cl C (x :: ys) s H fp).nox elt te)
    (hclos : closureFor scope X.env = pure cl := by rfl)
    (hcl : cl.map (fun p => X.env.cells.lookup p.1) = cl.map (fun p => some p.2) := by rfl)
    (hcell : (scope.names.all fun p => p.2 != .cell) = true := by rfl) (hkind : scope.kind = .function := by rfl)
    (hnames : (scope.names.all fun p => p.2 != .local || scope.names.lookup p.1 == some .local) = true := by rfl)
    (hx : scope.names.lookup x = some .local := by rfl)
    (hhas : ((relabel scope X.env).names.all fun p => (p.2 != .cell && p.2 != .free) || (cl.lookup p.1).isSome) = true := by rfl)
    (hnd : (x :: ys).Nodup := by decide)
    (hjs : js.map (fun j => X.N[j]?) = ys.map some := by rfl)
    (hys : (ys.all fun y => ((relabel scope X.env).names.lookup y == some .cell || (relabel scope X.env).names.lookup y == some .free) && (X.env.scope.names.lookup y == some .cell || X.env.scope.names.lookup y == some .free)) = true := by rfl)
    (hs : ∀ x, foldedSetIterable iter X.env x = pure x := by intro _; rfl)
    {pins : List (Addr × Obj)} {s : Shared} {σ : L2.St} {H : Hp} (R : V → Hp → Prop) (use : Option (Value → Sem Unit)) (Q : Value → Shared → Prop) (I : Inv X pins σ H s) (h : tComp js wi te σ H R)
    (fin : ∀ (v : V) (u : Value) (H' : Hp) (s' : Shared) (C : Addr), Inv X pins σ H' s' → RelV v u → R v H' → (∃ m, s'.heap.Ns C m) → H' C = none → C ≠ X.env.locals → X.s₀.heap.objs.size ≤ C → (∀ y c, X.env.cells.lookup y = some c → c ≠ C) → (∀ p ∈ X.pn ++ pins, p.1 ≠ C) →
      compPost (model X.prog X.w) X.A X.xe use Q u C (.ok .next) s') :
    wpAny (model X.prog X.w) X.A (comprehension (.ListComp elt [⟨.Name x px, iter, [], 0⟩] scope pos) scope X.env (firstIterPos [⟨.Name x px, iter, [], 0⟩] pos) (newList []) false (eval iter X.env) use) Q X.xe s := by
  have hcell' : ∀ y ∈ scope.names, y.2 ≠ .cell := fun y hy => by
    have := List.all_eq_true.mp hcell y hy
    simpa using this
  have hnm : ∀ y ∈ scope.names, y.2 = .local → scope.names.lookup y.1 = some .local := fun y hy e => by
    have := List.all_eq_true.mp hnames y hy
    rw [e] at this
    simpa using this
  have clX : ∀ y c, cl.lookup y = some c → X.env.cells.lookup y = some c := fun y c e => by
    have hm := PySem.mem_of_lookup e
    obtain ⟨k, hk, e2⟩ := List.mem_iff_getElem.mp hm
    have := congrArg (fun l => l[k]?) hcl
    simp only [List.getElem?_map, List.getElem?_eq_getElem hk, Option.map_some, e2] at this
    exact Option.some.inj this
  have has : ∀ y, ((relabel scope X.env).names.lookup y = some .cell ∨ (relabel scope X.env).names.lookup y = some .free) → ∃ c, cl.lookup y = some c := fun y hy => by
    have key : ∀ k : NameKind, (k = .cell ∨ k = .free) → (relabel scope X.env).names.lookup y = some k → ∃ c, cl.lookup y = some c := fun k hk e => by
      have := List.all_eq_true.mp hhas _ (PySem.mem_of_lookup e)
      rcases hk with rfl | rfl <;> exact Option.isSome_iff_exists.mp (by simpa using this)
    rcases hy with e | e
    · exact key _ (.inl rfl) e
    · exact key _ (.inr rfl) e
  refine wpAny_comprehension_free (use := use) rfl hs hclos hkind hnm (thn (hi pins s σ H _ I h) fun v s1 h1 => thn h1 fun itv s2 h2 => ?_)
  obtain ⟨it, fp, tn, J, H2, e, I2, T, st2, f2, W, ⟨m0, w0⟩, turn⟩ := h2
  subst e
  refine wpAny_newObj_type (wpAny_newFunctionEnv hcell' (by intro y hy; simp at hy) (fun h₁ hns hsb => ?_) hkind)
  dsimp only at hns hsb ⊢
  generalize hG : s2.heap.push { cls := .type "list", dict := none, data := .seq ([] : List Value).toArray } = G at hns hsb ⊢
  have szG : G.objs.size = s2.heap.objs.size + 1 := by rw [← hG, Heap.size_push]
  have inG : ∀ b o, s2.heap.get? b = some o → G.get? b = some o := fun b o e => hG ▸ Heap.get?_push_of_some _ e
  have ltC : ∀ b o, s2.heap.get? b = some o → b ≠ G.objs.size := fun b o e => by rw [szG]; exact Nat.ne_of_lt (Nat.lt_succ_of_lt (Heap.lt_size e))
  have ltD : ∀ b o, s2.heap.get? b = some o → b ≠ s2.heap.objs.size := fun b o e => Nat.ne_of_lt (Heap.lt_size e)
  have DC : s2.heap.objs.size ≠ G.objs.size := by rw [szG]; omega
  have old : ∀ b o, s2.heap.get? b = some o → h₁.get? b = some o := fun b o e => hsb.extBut b o (ltC b o e) (Heap.get?_push_of_some _ (inG b o e))
  have hacc : h₁.PlainList s2.heap.objs.size #[] := ⟨_, hsb.extBut _ _ DC (Heap.get?_push_of_some _ (hG ▸ Heap.get?_push_size _ rfl))⟩
  have fpO : ∀ b ∈ fp, ∃ o, s2.heap.get? b = some o := fun b hb => let ⟨o, e, _⟩ := T.obj 0 _ st2 b hb; ⟨o, e⟩
  have stkO : ∀ b ∈ frs X.stack, ∃ o, s2.heap.get? b = some o := fun b hb => by
    obtain ⟨_, o, ho, _⟩ := I2.stack.mem hb
    exact ⟨o, ho⟩
  have freshH : ∀ a, s2.heap.objs.size ≤ a → H2 a = none := fun a ha => I2.hok.fresh ha
  have stkFp : ∀ b ∈ fp, b ∉ frs X.stack := fun b hb z => by
    rcases List.mem_cons.mp (I2.stkSub b z) with q | q
    · exact (f2 b hb).2.1 q
    · exact (f2 b hb).2.2.1 q
  have okX : (cxComp X scope cl G.objs.size (x :: ys) s2 H2 fp).Ok := {
    mod := I2.ok.mod
    kind := hkind
    glob := I2.ok.glob
    blt := I2.ok.blt
    above := by show s2.heap.objs.size ≤ G.objs.size; rw [szG]; omega
    inj := fun y z c e1 e2 => I2.ok.inj y z c (clX y c e1) (clX z c e2)
    has := fun y hy => has y hy
    cab := fun y c e _ => absurd (show false = true from e) Bool.false_ne_true
    hd := I2.ok.hd
    frames := I2.ok.frames
    stk := .inl rfl
    exf := fun b hb => by
      obtain ⟨o, e⟩ := fpO b hb
      exact ⟨ltC b o e, fun y c e1 => (f2 b hb).2.2.2.2.1 y c (clX y c e1)⟩
    bs := I2.bs
    bsz := Nat.le_trans I2.ok.bsz I2.sz
    noex := fun b o e hb => by
      rcases (f2 b hb).2.2.2.1 with q | q
      · exact I2.ok.noex b o e q
      · exact Nat.lt_irrefl _ (Nat.lt_of_lt_of_le (Nat.lt_of_lt_of_le (Heap.lt_size e) I2.ok.bsz) q)
    exfs := stkFp
    funs := I2.stack
    frf := I2.stkFree }
  have lenY : js.length = ys.length := by have := congrArg List.length hjs; simpa using this
  have I0 : Inv (cxComp X scope cl G.objs.size (x :: ys) s2 H2 fp) [] (none :: capt js σ) H2 { s2 with heap := h₁, toks := s2.toks + ([] : List (Str × Value)).length } := by
    refine ⟨okX, rfl, I2.bare, Un.kept old, ⟨_, hns, fun k y v e1 e2 e3 => ?_⟩, fun y c e => ?_, freshH _ (by show s2.heap.objs.size ≤ G.objs.size; rw [szG]; omega), fun y c e => I2.freeC y c (clX y c e), fun p hp => absurd (show p ∈ ([] : List (Addr × Obj)) from hp) (by simp), I2.hok.kept old, ?_⟩
    · cases k with
      | zero => cases e2
      | succ k =>
        have e1' : ys[k]? = some y := e1
        have e2' : (capt js σ)[k]? = some (some v) := e2
        unfold capt at e2'
        rw [List.getElem?_map] at e2'
        cases ej : js[k]? with
        | none => rw [ej] at e2'; cases e2'
        | some j =>
          rw [ej] at e2'
          have e4 : (σ[j]?).join = some v := Option.some.inj e2'
          have e5 : σ[j]? = some (some v) := by
            cases q : σ[j]? with
            | none => rw [q] at e4; cases e4
            | some o => rw [q] at e4; exact congrArg some e4
          have e6 : X.N[j]? = some y := by
            have := congrArg (fun l => l[k]?) hjs
            simp only [List.getElem?_map, ej, e1', Option.map_some] at this
            exact Option.some.inj this
          have hy := List.all_eq_true.mp hys y (List.mem_of_getElem? e1')
          simp only [Bool.and_eq_true, Bool.or_eq_true, beq_iff_eq] at hy
          obtain ⟨ky, ko⟩ := hy
          obtain ⟨m, hn, hl⟩ := I2.loc
          obtain ⟨u, r, lk⟩ := hl j y v e6 e5 (.inr ko)
          refine ⟨u, r, .inr ⟨ky, ?_⟩⟩
          rcases lk with ⟨kl, _⟩ | ⟨_, c, ec, hc⟩
          · have kl' : X.env.scope.names.lookup y = some .local := kl
            rw [kl'] at ko
            rcases ko with z | z <;> cases z
          · obtain ⟨c', ec'⟩ := has y ky
            have := clX y c' ec'
            rw [ec] at this
            cases this
            obtain ⟨o, ho, hd⟩ := hc
            exact ⟨c, ec', o, old c o ho, hd⟩
    · obtain ⟨v, o, ho, hd⟩ := I2.cell y c (clX y c e)
      exact ⟨v, o, old c o ho, hd⟩
    · show (none :: capt js σ).length = (x :: ys).length
      simp [capt, lenY]
  -- one pass through the loop
  have loop : ∀ s3 : Shared, s3 = { s2 with heap := h₁, toks := s2.toks + ([] : List (Str × Value)).length } →
      codeAny (model X.prog X.w) X.A (.compLoop (.ListComp elt [⟨.Name x px, iter, [], 0⟩] scope pos) 0 (.ref it) (.ref s2.heap.objs.size) (compEnvC scope cl G.objs.size X.env))
        (compPost (model X.prog X.w) X.A X.xe use Q (.ref s2.heap.objs.size) G.objs.size) s3 := by
    rintro s3 rfl
    have stat : ∀ {H' : Hp} (o : Obj), (∀ b ∈ fp, H' b = none) → ∀ b ∈ fp, FpOk (cxComp X scope cl G.objs.size (x :: ys) s2 H2 fp) [(s2.heap.objs.size, o)] H' b := fun {H'} o hn b hb => by
      obtain ⟨ob, eb⟩ := fpO b hb
      refine ⟨hn b hb, ltC b ob eb, stkFp b hb, .inl hb, fun y c e1 => (f2 b hb).2.2.2.2.1 y c (clX y c e1), fun p hp => ?_⟩
      have hp' : p = (s2.heap.objs.size, o) := by
        have : p ∈ [(s2.heap.objs.size, o)] := hp
        simpa using this
      rw [hp']
      exact Ne.symm (ltD b ob eb)
    refine codeAny_compLoop_list (fun n s' => ∃ i acc its H3, Inv (cxComp X scope cl G.objs.size (x :: ys) s2 H2 fp) [] (none :: capt js σ) H3 s' ∧ tn i s'.heap ∧ (∀ b ∈ fp, H3 b = none) ∧ s'.heap.PlainList s2.heap.objs.size its.toArray ∧ Vals acc its ∧ H3 s2.heap.objs.size = none ∧ W i n acc H3)
      ?_ m0 ⟨0, [], [], H2, I0, T.keep _ _ _ st2 fun b _ o e => old b o e, fun b hb => (f2 b hb).1, hacc, .nil, freshH _ (Nat.le_refl _), w0⟩
    rintro n s3 ⟨i, acc, its, H3, I3, st3, fr3, ⟨nn, pl3⟩, va3, hD3, w3⟩
    obtain ⟨hlen, cs⟩ := turn i n acc H3 w3
    have hal : acc.length = its.length := va3.length
    have nD : s2.heap.objs.size ∉ frs X.stack := fun z => by
      obtain ⟨o, e⟩ := stkO _ z
      exact ltD _ o e rfl
    have I3p : Inv (cxComp X scope cl G.objs.size (x :: ys) s2 H2 fp) [(s2.heap.objs.size, { cls := .type "list", data := .seq its.toArray nn })] (none :: capt js σ) H3 s3 := I3.pins_of fun p hp => by
      have e : p = (s2.heap.objs.size, { cls := .type "list", data := .seq its.toArray nn }) := by simpa using hp
      subst e
      exact ⟨pl3, hD3, DC, nD, fun v z => nomatch z⟩
    rcases cs with ⟨stop, q⟩ | ⟨go, step⟩
    · refine thn (T.done (cxComp X scope cl G.objs.size (x :: ys) s2 H2 fp) rfl rfl rfl hcm i _ s3 _ H3 _ I3p (stat _ fr3) st3 stop) fun r s4 hr => ?_
      obtain ⟨hr, I4⟩ := hr
      subst hr
      have pl4 := (I4.pin (s2.heap.objs.size, { cls := .type "list", data := .seq its.toArray nn }) (by simp)).1
      obtain ⟨m, hn, _⟩ := I4.loc
      have B := I4.base
      have un' : Un (frs X.stack) fp H2 (upd H3 s2.heap.objs.size (.lst acc)) s2.heap s4.heap := by
        refine ⟨fun b o e n hb hx => B.keep b o e n hb hx, fun b o e n hb hx => B.slot b o e n hb hx, fun b o e n hx => ?_, fun b o e hx => B.there b o e hx, fun b xs e => ?_, fun b o u e => ?_, fun b ps e => ?_⟩
        · rw [upd_ne (ltD b o e)]
          exact B.free b o e n hx
        · have z := B.tups b xs e
          rw [upd_ne (ne_of_none z hD3)]
          exact z
        · have z := B.frzs b o u e
          rw [upd_ne (ne_of_none z hD3)]
          exact z
        · obtain ⟨more, z⟩ := B.tbls b ps e
          exact ⟨more, by rw [upd_ne (ne_of_none z hD3)]; exact z⟩
      have freeC4 : H3 G.objs.size = none := I4.free
      have hok' : HOk X.prog X.w (upd H3 s2.heap.objs.size (.lst acc)) s4.heap := fun b u e => by
        by_cases hb : b = s2.heap.objs.size
        · subst hb
          rw [upd_same] at e
          cases e
          exact ⟨Nat.le_of_lt hlen, its, nn, va3, pl4⟩
        · rw [upd_ne hb] at e
          exact (I4.hok b u e).stay (fun c v hc z => z) (fun c z => by rw [upd_ne (ne_of_none z hD3)]; exact z) fun c xs z => by rw [upd_ne (ne_of_none z hD3)]; exact z
      have hch : ∀ b ∈ fp, (b ∈ X.ex ∨ X.s₀.heap.objs.size ≤ b) ∧ b ≠ X.env.locals ∧ (∀ y c, X.env.cells.lookup y = some c → c ≠ b) ∧ ∀ p ∈ X.pn ++ pins, p.1 ≠ b := fun b hb => by
        obtain ⟨_, z1, _, z3, z4, z5⟩ := f2 b hb
        exact ⟨z3, z1, z4, z5⟩
      have I5 := I2.call' (s' := s4) (ch := fp) I4.os un' hok' I4.bare hch
      refine fin (.ref s2.heap.objs.size) _ _ s4 G.objs.size I5 rfl (q _ hD3) ⟨m, hn⟩ ?_ ?_ ?_ (fun y c e => ?_) fun p hp => ?_
      · rw [upd_ne (Ne.symm DC)]; exact freeC4
      · rw [szG]; exact Nat.ne_of_gt (Nat.lt_succ_of_lt I2.lt)
      · rw [szG]; exact Nat.le_succ_of_le I2.sz
      · obtain ⟨v, o, ho, _⟩ := I2.cell y c e
        exact ltC c o ho
      · exact ltC p.1 p.2 (I2.pin p hp).1
    · refine thn (T.item (cxComp X scope cl G.objs.size (x :: ys) s2 H2 fp) rfl rfl rfl hcm i _ s3 _ H3 _ I3p (stat _ fr3) st3 go) fun r s4 hr => ?_
      obtain ⟨u, hr, h4⟩ := hr
      subst hr
      show wpAny (model X.prog X.w) X.A (letOwnedTupleGo (.Name x px) (.ref it) u >>= fun _ => assign (.Name x px) (compEnvC scope cl G.objs.size X.env) u) _ _ s4
      refine wpAny_bind (thn h4 fun _ s5 h5 => ?_)
      obtain ⟨v, H5, I5, r5, y5, st5, fr5⟩ := h5
      have I5' := I5.pinned (stat _ fr5) (T.obj _ _ st5)
      refine wpAny_assign_Name (store_ok (i := 0) I5' hnd rfl (.inl (lookup_relabel_local hx)) r5 (fun s6 I6 => ?_) (.inr (lookup_relabel_local hx)))
      have I6' : Inv (cxComp X scope cl G.objs.size (x :: ys) s2 H2 fp).nox _ _ H5 s6 := I6.wish _
      refine wpAny_mono (he G.objs.size s2 H2 fp _ s6 _ H5 _ I6' (step v H5 y5)) (fun y s7 h7 => ?_) fun _ _ z => z.elim
      obtain ⟨v7, H7, I7, r7, m', hm', w7⟩ := h7
      have I7 := I7.unwish
      have pinD := I7.pin (s2.heap.objs.size, { cls := .type "list", data := .seq its.toArray nn }) (by simp)
      refine wpAny_list_append_plain (items := its.toArray) ⟨nn, pinD.1⟩ (fun h' hp' hsb' => ?_) (by rw [List.size_toArray, ← hal]; exact Nat.le_of_lt hlen)
      have e8 : its.toArray.push y = (its ++ [y]).toArray := by simp
      rw [e8] at hp'
      have pf : ∀ b ∈ fp, ∀ o, s5.heap.get? b = some o → s7.heap.get? b = some o ∧ H7 b = none := fun b hb o e => by
        have z := I7.pin (b, o) (List.mem_append_right _ (List.mem_append_right _ (mem_pinsAt hb e)))
        exact ⟨z.1, z.2.1⟩
      have I8 : Inv (cxComp X scope cl G.objs.size (x :: ys) s2 H2 fp) [] (none :: capt js σ) H7 { s7 with heap := h' } := by
        have I7u : Inv (cxComp X scope cl G.objs.size (x :: ys) s2 H2 fp) [] (none :: capt js σ) H7 s7 := (I7.pins_of (pins' := []) fun p hp => absurd hp (by simp)).weak (by simp) fun k v e => by
          cases k with
          | zero => cases e
          | succ k => exact e
        refine I7u.turned (t' := s7.toks) (it := s2.heap.objs.size) (fun b o hb e => hsb'.extBut b o hb e) pinD.2.1 DC (.inr (Nat.le_refl _)) (fun y c e => ?_) fun p hp => absurd (show p ∈ ([] : List (Addr × Obj)) from hp) (by simp)
        obtain ⟨v, o, ho, _⟩ := I2.cell y c (clX y c e)
        exact ltD c o ho
      refine ⟨m', hm', i + 1, acc ++ [v7], its ++ [y], H7, I8, ?_, fun b hb => ?_, hp', va3.append (.cons r7 .nil), pinD.2.1, w7⟩
      · refine T.keep _ _ _ st5 fun b hb o e => hsb'.extBut b o ?_ (pf b hb o e).1
        obtain ⟨ob, eb⟩ := fpO b hb
        exact ltD b ob eb
      · obtain ⟨o, e, _⟩ := T.obj _ _ st5 b hb
        exact (pf b hb o e).2
  exact codeAny_compStart_list (loop _ rfl) (T.self _ 0 _ _ _ (T.keep _ _ _ st2 fun b _ o e => old b o e) (loop _ rfl))


/-- the block's own frame may still turn -/
theorem inv_turn {X : Cx} {pins : List (Addr × Obj)} {σ : L2.St} {H : Hp} {s : Shared} {C : Addr} {h' : Heap} (I : Inv X pins σ H s) (hsb : Heap.SameBut C s.heap h') (h0 : H C = none) (h1 : C ≠ X.env.locals) (h2 : X.s₀.heap.objs.size ≤ C)
    (h3 : ∀ y c, X.env.cells.lookup y = some c → c ≠ C) (h4 : ∀ p ∈ X.pn ++ pins, p.1 ≠ C) : Inv X pins σ H { s with heap := h' } :=
  I.turned (t' := s.toks) (it := C) (fun b o hb e => hsb.extBut b o hb e) h0 h1 (.inr h2) h3 h4
theorem pe_comp {X : Cx} {elt iter : Expr} {x : Str} {px : Pos} {scope : Scope} {cl : List (Str × Addr)} {pos : Pos} {wi : TI} {te : TE} (ys : List Str) (js : List Nat)
    (hcm : X.calm = true) (hi : PI X (.Name x px) iter wi) (he : ∀ C s H fp, PE (cxComp X scope cl C (x :: ys) s H fp).nox elt te)
    (hclos : closureFor scope X.env = pure cl := by rfl)
    (hcl : cl.map (fun p => X.env.cells.lookup p.1) = cl.map (fun p => some p.2) := by rfl)
    (hcell : (scope.names.all fun p => p.2 != .cell) = true := by rfl) (hkind : scope.kind = .function := by rfl)
    (hnames : (scope.names.all fun p => p.2 != .local || scope.names.lookup p.1 == some .local) = true := by rfl)
    (hx : scope.names.lookup x = some .local := by rfl)
    (hhas : ((relabel scope X.env).names.all fun p => (p.2 != .cell && p.2 != .free) || (cl.lookup p.1).isSome) = true := by rfl)
    (hnd : (x :: ys).Nodup := by decide)
    (hjs : js.map (fun j => X.N[j]?) = ys.map some := by rfl)
    (hys : (ys.all fun y => ((relabel scope X.env).names.lookup y == some .cell || (relabel scope X.env).names.lookup y == some .free) && (X.env.scope.names.lookup y == some .cell || X.env.scope.names.lookup y == some .free)) = true := by rfl)
    (hs : ∀ x, foldedSetIterable iter X.env x = pure x := by intro _; rfl) : PE X (.ListComp elt [⟨.Name x px, iter, [], 0⟩] scope pos) (tComp js wi te) := by
  intro pins s σ H Q I h
  rw [eval_ListComp]
  refine comp_core ys js hcm hi he hclos hcl hcell hkind hnames hx hhas hnd hjs hys hs Q none (EP X pins σ Q) I h fun v u H' s' C I' r q hm h0 h1 h2 h3 h4 => ?_
  obtain ⟨m, hm⟩ := hm
  exact ⟨m, hm, fun h' hsb => ⟨v, H', inv_turn I' hsb h0 h1 h2 h3 h4, r, q⟩⟩
/-! ### the forms one uses -/
/-- the next turn of n, behind the i-th -/
def Nxt (n i : Nat) (P : Prop) : Prop := ∃ m', m' < n - i ∧ m' = n - (i + 1) ∧ i + 1 ≤ n ∧ P
theorem Nxt.mk {n i : Nat} {P : Prop} (h : i < n) (p : P) : Nxt n i P := ⟨n - (i + 1), by omega, rfl, h, p⟩
theorem comp_list {K : PySem.W.Frag} {a : Addr} {xs : List V} {js : List Nat} {te : TE} {σ : L2.St} {H : Hp} {Q : VK} (Pv : Nat → List V → Hp → Prop) (h0 : Pv 0 [] H) (hl : ∀ i acc H, i ≤ xs.length → Pv i acc H → SqL K H a xs ∧ acc.length < sizeLine)
    (hs : ∀ i x acc H, i < xs.length → xs[i]? = some x → Pv i acc H → te (some x :: capt js σ) H fun v H' => Nxt xs.length i (Pv (i + 1) (acc ++ [v]) H')) (hd : ∀ acc H, Pv xs.length acc H → ∀ D, H D = none → Q (.ref D) (upd H D (.lst acc))) : CompEnd js te σ Q (Itl K a) H := by
  refine ⟨fun i m acc H => m = xs.length - i ∧ i ≤ xs.length ∧ Pv i acc H, ⟨xs.length, by simp, Nat.zero_le _, h0⟩, ?_⟩
  rintro i m acc H2 ⟨rfl, hi, p⟩
  obtain ⟨q, hz⟩ := hl i acc H2 hi p
  refine ⟨hz, ?_⟩
  by_cases hlt : i < xs.length
  · refine .inr ⟨⟨xs, xs[i], q, by simp [hlt]⟩, fun x H3 y => ?_⟩
    obtain ⟨e, y⟩ := y
    subst e
    exact hs i x acc _ hlt (y xs q) p
  · have e : i = xs.length := by omega
    subst e
    exact .inl ⟨⟨xs, q, Nat.le_refl _⟩, hd acc H2 p⟩
end L3
set_option maxHeartbeats 4000000
namespace L3
open PySem PySem.Spec PyProof.Rows L2

/-! ### a def of the text, and a call of it -/
structure Def (K : PySem.W.Frag) (mg : Str → Option Value) (x : Str) (st : Stmt) (ps : List Str) (f : Addr) (fd : FuncData) : Prop where
  F : Fun K x x st f fd
  b : Binds K fd ps []
  m : mg x = some (.ref f)
section
variable {X : Cx}
theorem pe_def {k j : Nat} {x : Str} {st : Stmt} {ps : List Str} {f : Addr} {fd : FuncData} {sp : Sp} {e : Expr} {es : List Expr} {t : TA} {p pos : Pos} (D : Def X.K X.mg x st ps f fd) (F : FnOk X.prog X.w X.K X.mg X.base CX0 j f fd ps sp) (hr : Room k X.A) (hg : Gl X x) (ha : PA X (e :: es) t) (hj : j ≤ k := by decide)
    (hdb : (x == ("__debug__" : Str)) = false := by decide) (he : starEach (e :: es) X.env = (false, eval e X.env) :: starEach es X.env := by rfl) (hpl : (backTo pos (starEach es X.env)).any (·.1) = false := by rfl) :
    PE X (.Call (.Name x p) (e :: es) [] pos) (tCall sp [] E0 t) := pe_call F (hr.mono hj) hg D.m D.F.kp D.b .nil pass0 ha hdb he hpl
theorem pe_ty {x : Str} {n : String} {pos : Pos} (hg : Gl X x) (hm : X.mg x = none) (hv : bootBuiltins x = some (.type n)) (hn : x ≠ "__name__" := by decide) (hd : (x == ("__debug__" : Str)) = false := by decide) : PE X (.Name x pos) (tC (.ty n)) :=
  pe_bltn hg hm hv rfl hn hd
end
/-! ### rules whose reading names K alone (in a comprehension's block) -/
theorem ixK_tup {X : Cx} {K : PySem.W.Frag} (h : X.K = K) : IxR X (rIxT K) := h ▸ ix_tup
/-! ### a cut behind a statement: R is what is true there -/
def tJoin (t : TS) : TS := fun D σ H => ∃ R : L2.St → Hp → Prop, t { D with nx := R } σ H ∧ ∀ σ' H', R σ' H' → D.nx σ' H'
theorem ps_join {X : Cx} {st : Stmt} {t : TS} (h : PS X st t) : PS X st (tJoin t) := by
  rintro pins s σ H D I ⟨R, ht, hR⟩
  refine thn (h pins s σ H { D with nx := R } I ht) fun f s' q => ?_
  cases f with
  | next => obtain ⟨σ', H', I', r⟩ := q; exact ⟨σ', H', I', hR _ _ r⟩
  | brk => exact q
  | cont => exact q
  | ret u => exact q
theorem same_new {H : Hp} {p : Addr} (h : H p = none) (o : HO) : Same H (upd H p o) := fun b u q => by rw [upd_ne (ne_of_none q h)]; exact q
theorem Same.tup {K : PySem.W.Frag} {H H' : Hp} {a : Addr} {xs : List V} (e : Same H H') (h : SqT K H a xs) : SqT K H' a xs := by
  rcases h with (h | ⟨o, h⟩) | h
  · exact .inl (.inl (e _ _ h))
  · exact .inl (.inr ⟨o, e _ _ h⟩)
  · exact .inr h
end L3
set_option maxHeartbeats 4000000
namespace L3
open PySem PySem.Spec PyProof.Rows L2
section
variable {X : Cx}
/-! ### a text's slice -/
/-! ### == of tuples whose items are flat, or tuples of flat items -/
def DE1 (K : PySem.W.Frag) (H : Hp) (x y : V) (b : Bool) : Prop := (flatV x = true ∧ flatV y = true ∧ b = eqV x y) ∨
  ∃ p q xs ys, x = .ref p ∧ y = .ref q ∧ SqT K H p xs ∧ SqT K H q ys ∧ xs.all flatV = true ∧ ys.all flatV = true ∧ b = eqAll xs ys ∧ (p = q → b = true)
theorem DE1.at {pins : List (Addr × Obj)} {σ : L2.St} {H : Hp} {s : Shared} {A : Around} {x y : V} {u v : Value} {b : Bool} (I : Inv X pins σ H s) (hu : A.units < cLine) (rx : RelV x u) (ry : RelV y v) (h : DE1 X.K H x y b) : SeqAt.EqAt A s u v b := by
  rcases h with ⟨f1, f2, rfl⟩ | ⟨p, q, xs, ys, rfl, rfl, h1, h2, f1, f2, rfl, hb⟩
  · exact eqAt_V rx ry f1 f2
  · cases rx; cases ry
    by_cases e : p = q
    · subst e
      rw [hb rfl]
      exact SeqAt.EqAt.same _
    · obtain ⟨us, r1, t1, _⟩ := I.tuple h1
      obtain ⟨ws, r2, t2, _⟩ := I.tuple h2
      have l1 : us.toArray.size = xs.length := by rw [List.size_toArray]; exact r1.length.symm
      have l2 : ws.toArray.size = ys.length := by rw [List.size_toArray]; exact r2.length.symm
      have := SeqAt.EqAt.of_refs e (SeqAt.RcAt.tuples t1 t2 hu (flat_items (A := A.in1) (s := s) r1 r2 f1 f2))
      rw [l1, l2] at this
      exact this
end
end L3
set_option maxHeartbeats 4000000
namespace L3
open PySem PySem.Spec PyProof.Rows L2

/-! ### an exception's record; T is its first entry -/
def ExcRec (h : Heap) (e : Addr) (C : Value) (hd : Option Addr) : Prop :=
  ∃ (vs : Array Value) (sl : Array (Option Value)), h.get? e = some { cls := C, dict := none, data := .fields vs, slots := sl } ∧
    match hd with
    | none => vs[1]? = some .none
    | some T => vs[1]? = some (.ref T) ∧ T ≠ e ∧ ∃ oT ts, h.get? T = some oT ∧ oT.data = .fields ts ∧ ts[3]? = some .none
/-- what a note changes -/
structure Noted (fs : List Addr) (e : Addr) (hd : Option Addr) (C : Value) (h h' : Heap) : Prop where
  keep : ∀ b o, h.get? b = some o → b ∉ fs → b ≠ e → some b ≠ hd → h'.get? b = some o
  slot : ∀ b o, h.get? b = some o → b ∈ fs → b ≠ e → some b ≠ hd → ∃ sl, h'.get? b = some { o with slots := sl }
  ent : ∃ T, (h.get? T = none ∨ hd = some T) ∧ ExcRec h' e C (some T)
theorem Noted.before {fs : List Addr} {e T : Addr} {C : Value} {h h1 h' : Heap} (x : Noted fs e none C h1 h') (k : ∀ b, b ≠ T → h1.get? b = h.get? b) (t : ∃ o, h1.get? T = some o) : Noted fs e (some T) C h h' := by
  refine ⟨fun b o q hf he ht => x.keep b o ?_ hf he (by simp), fun b o q hf he ht => x.slot b o ?_ hf he (by simp), ?_⟩
  · rw [k b (fun z => ht (by rw [z]))]; exact q
  · rw [k b (fun z => ht (by rw [z]))]; exact q
  · obtain ⟨T', n | n, r⟩ := x.ent
    · refine ⟨T', .inl ?_, r⟩
      rw [← k T' (fun z => ?_)]; exact n
      obtain ⟨o, q⟩ := t
      rw [z, q] at n; cases n
    · cases n
section
variable {M : Model} {A : Around} {E : Value → Shared → Prop} {s : Shared}
/-- the entry for this frame is made and laid to the exception, and the flight's mark goes -/
theorem new_entry {base : Heap} {env : Env} {outer : List Env} {L e : Addr} {C head : Value} {vs : Array Value} {sl : Array (Option Value)} {had : Bool} {Q : Unit → Shared → Prop}
    (fr : A.frames = some (env :: outer)) (ff : s.heap.FunFrames base (env :: outer)) (ef : env.frame = some L) (re : s.heap.get? e = some { cls := C, dict := none, data := .fields vs, slots := sl }) (v1 : 1 < vs.size)
    (k : ∀ h', Noted (frs (env :: outer)) e none C s.heap h' → Q () { s with heap := h' }) :
    wpAny M A (do let a ← frameOf env; let pl ← entryPlaceOf L had; let b ← EntryCells.newEntry head a .none (rawInt L) .none pl; setField (.ref e) 1 b) (fun _ s' => wpAny M A (setFlight (.ref e) none) Q E s') E s := by
  have efs : e ∉ frs (env :: outer) := fun z => by
    obtain ⟨_, o, q, nf⟩ := ff.mem z
    rw [re] at q; cases q
    exact nf vs rfl
  refine wpAny_bind (wpAny_frameOf_fun fr ff ef fun g so => ?_)
  refine wpAny_bind (wpAny_entryPlaceOf fun pl ip => ?_)
  unfold EntryCells.newEntry newFields
  refine wpAny_bind (wpAny_newObj_type ?_ (ip.sizeOk5 _ _ _ _ _))
  generalize hN : ({ cls := .type "traceback", dict := none, data := .fields ([head, .ref L, .none, rawInt L, .none] ++ (if pl.isEmpty then List.replicate 6 Value.none else pl)).toArray } : Obj) = N
  have Nd : N.data = .fields ([head, .ref L, .none, rawInt L, .none] ++ (if pl.isEmpty then List.replicate 6 Value.none else pl)).toArray := by rw [← hN]
  have q1 : g.get? e = some { cls := C, dict := none, data := .fields vs, slots := sl } := (so.2.1 e efs).trans re
  have q2 := Heap.get?_push_of_some (h := g) N q1
  have ne : g.objs.size ≠ e := Nat.ne_of_gt (Heap.lt_size q1)
  refine wpAny_setField q2 rfl v1 ?_
  have q3 := Heap.get?_update_self (Obj.mapFields (·.setIfInBounds 1 (Value.ref g.objs.size))) q2 rfl
  have nf : N.isFreed = false := Obj.isFreed_of_fields Nd
  have t3 : ((g.push N).update e (Obj.mapFields (·.setIfInBounds 1 (Value.ref g.objs.size)))).get? g.objs.size = some N :=
    (Heap.get?_update_other (g.push N) _ (Ne.symm ne)).trans (Heap.get?_push_size g nf)
  unfold setFlight
  refine wpAny_bind (wpAny_field q3 (vs := vs.setIfInBounds 1 (.ref g.objs.size)) rfl (x := .ref g.objs.size) (by simp [v1]) ?_)
  rw [if_pos (by simp)]
  refine wpAny_setField t3 Nd (by simp only [List.size_toArray, List.length_append, List.length_cons, List.length_nil] <;> omega) (k _ ?_)
  have t4 := Heap.get?_update_self (Obj.mapFields (·.setIfInBounds 3 ((none : Option Addr).elim Value.none fun f => rawInt f))) t3 (Obj.isFreed_of_fields (Obj.data_mapFields Nd _))
  have oth : ∀ b o, b ≠ e → g.get? b = some o → (((g.push N).update e (Obj.mapFields (·.setIfInBounds 1 (Value.ref g.objs.size)))).update g.objs.size (Obj.mapFields (·.setIfInBounds 3 ((none : Option Addr).elim Value.none fun f => rawInt f)))).get? b = some o := fun b o hb q => by
    rw [Heap.get?_update_other _ _ (Nat.ne_of_gt (Heap.lt_size q)), Heap.get?_update_other _ _ (Ne.symm hb)]
    exact Heap.get?_push_of_some _ q
  refine ⟨fun b o q hf he _ => oth b o he ((so.2.1 b hf).trans q), fun b o q hf he _ => ?_, g.objs.size, .inl ?_, vs.setIfInBounds 1 (.ref g.objs.size), sl, ?_, by simp [v1], ne, _, _, t4, Obj.data_mapFields Nd _, ?_⟩
  · obtain ⟨sl', q'⟩ := so.2.2 b o q
    exact ⟨sl', oth b _ he q'⟩
  · rw [so.1]
    exact Heap.get?_none_of_le (Nat.le_refl _)
  · rw [Heap.get?_update_other _ _ ne]
    exact q3
  · first
      | (simp; done)
      | (rcases ip with rfl | ⟨_, _, _, _, _, _, _, rfl⟩ <;> simp)
theorem note_ok {base : Heap} {env : Env} {outer : List Env} {L e : Addr} {C : Value} {hd : Option Addr} {Q : Unit → Shared → Prop}
    (fr : A.frames = some (env :: outer)) (ff : s.heap.FunFrames base (env :: outer)) (ef : env.frame = some L) (re : ExcRec s.heap e C hd)
    (k : ∀ h', Noted (frs (env :: outer)) e hd C s.heap h' → Q () { s with heap := h' }) : wpAny M A (noteFrame (.ref e) env) (fun _ s' => wpAny M A (setFlight (.ref e) none) Q E s') E s := by
  obtain ⟨vs, sl, q, r⟩ := re
  unfold noteFrame
  simp only [ef]
  cases hd with
  | none =>
    refine wpAny_bind (wpAny_field q rfl r ?_)
    rw [if_neg (by decide)]
    exact new_entry fr ff ef q (Array.getElem?_eq_some_iff.mp r).1 k
  | some T =>
    obtain ⟨r1, nT, oT, ts, qT, dT, r3⟩ := r
    refine wpAny_bind (wpAny_field q rfl r1 ?_)
    rw [if_pos (by simp)]
    refine wpAny_bind (wpAny_field qT dT r3 ?_)
    rw [if_neg (by simp [rawInt])]
    refine wpAny_bind (wpAny_setField qT dT (Array.getElem?_eq_some_iff.mp r3).1 ?_)
    have oth : ∀ b, b ≠ T → (s.heap.update T (Obj.mapFields (·.setIfInBounds 3 Value.none))).get? b = s.heap.get? b := fun b z => Heap.get?_update_other _ _ (Ne.symm z)
    have qT' := Heap.get?_update_self (Obj.mapFields (·.setIfInBounds 3 Value.none)) qT (Obj.isFreed_of_fields (Obj.data_mapFields dT _))
    have nf : ∀ b o, s.heap.get? b = some o → (∀ vs, o.data ≠ .fields vs) → b ≠ T := fun b o z n w => by
      rw [w, qT] at z; cases z
      exact n ts dT
    refine new_entry (s := { s with heap := s.heap.update T (Obj.mapFields (·.setIfInBounds 3 Value.none)) }) fr (ff.of_keeps fun b o z n => ⟨o, (oth b (nf b o z n)).trans z, rfl⟩) ef ((oth e (Ne.symm nT)).trans q) (Array.getElem?_eq_some_iff.mp r1).1 fun h' x => ?_
    exact k h' (x.before oth ⟨_, qT'⟩)
/-- the flight's mark goes once more -/
theorem flight_ok {e T : Addr} {C : Value} {Q : Unit → Shared → Prop} (re : ExcRec s.heap e C (some T))
    (k : ∀ h', (∀ fs, Noted fs e (some T) C s.heap h') → Q () { s with heap := h' }) : wpAny M A (setFlight (.ref e) none) Q E s := by
  obtain ⟨vs, sl, q, r1, nT, oT, ts, qT, dT, r3⟩ := re
  unfold setFlight
  refine wpAny_bind (wpAny_field q rfl r1 ?_)
  rw [if_pos (by simp)]
  have oth : ∀ b, b ≠ T → (s.heap.update T (Obj.mapFields (·.setIfInBounds 3 ((none : Option Addr).elim Value.none fun f => rawInt f)))).get? b = s.heap.get? b := fun b z => Heap.get?_update_other _ _ (Ne.symm z)
  refine wpAny_setField qT dT (Array.getElem?_eq_some_iff.mp r3).1 (k _ fun fs => ⟨fun b o q _ _ z => ?_, fun b o q _ _ z => ⟨o.slots, ?_⟩, T, .inr rfl, ?_⟩)
  · rw [oth b fun w => z (by rw [w])]; exact q
  · rw [oth b fun w => z (by rw [w])]; exact q
  · refine ⟨vs, sl, (Heap.get?_update_other _ _ nT).trans q, r1, nT, _, _, Heap.get?_update_self _ qT (Obj.isFreed_of_fields (Obj.data_mapFields dT _)), Obj.data_mapFields dT _, ?_⟩
    have h3 := (Array.getElem?_eq_some_iff.mp r3).1
    simp [h3]
end
end L3
set_option maxHeartbeats 4000000
namespace L3
open PySem PySem.Spec PyProof.Rows L2

theorem obj_at {P : Program} {w : World} {H : Hp} {h : Heap} {a : Addr} {o : HO} (x : ObjOk P w H h a o) : ∃ ob, h.get? a = some ob := by
  cases o with
  | lst xs => obtain ⟨_, _, _, _, e⟩ := x; exact ⟨_, e⟩
  | tup xs => obtain ⟨_, _, _, ob, e, _⟩ := x; exact ⟨ob, e⟩
  | dK kvs => obtain ⟨_, _, _, _, o, _, _, e, _⟩ := x; exact ⟨_, e⟩
  | dT kvs => obtain ⟨_, _, _, _, o, _, _, e, _⟩ := x; exact ⟨_, e⟩
  | set S n => obtain ⟨o, _, _, _, e, _⟩ := x; exact ⟨_, e⟩
  | ins C dx fs => obtain ⟨_, _, _, e, _⟩ := x; exact ⟨_, e⟩
  | own y => exact x
  | xd fs => obtain ⟨_, ⟨_, _, _, e, _⟩, _⟩ := x; exact ⟨_, e⟩
  | rng lo hi => obtain ⟨_, _, _, e⟩ := x; exact ⟨_, e⟩
  | frz ob u => obtain ⟨e, _⟩ := x; exact ⟨_, e⟩
  | tbl ps => exact ⟨_, x⟩
  | met f y => exact ⟨_, x⟩
  | ext φ => exact x.2.1
/-- an exception: new since h₀, not tracked, none of what is pinned -/
def NewAt (h₀ : Heap) (H : Hp) (ps : List (Addr × Obj)) (e : Addr) : Prop := h₀.get? e = none ∧ H e = none ∧ ∀ p ∈ ps, p.1 ≠ e
def ExcAt (h₀ : Heap) (H : Hp) (ps : List (Addr × Obj)) (h : Heap) (e : Addr) (C : Value) : Prop :=
  NewAt h₀ H ps e ∧ ∃ hd, ExcRec h e C hd ∧ ∀ T, hd = some T → NewAt h₀ H ps T
/-- how it lies behind a call -/
def CXR (P : Program) (w : World) : CXT := fun outer H s E e s' => ∃ ea C H', e = .ref ea ∧ s'.os = s.os ∧ AllBare s'.gens ∧ Un (frs outer) [] H H' s.heap s'.heap ∧ HOk P w H' s'.heap ∧ ExcAt s.heap H' [] s'.heap ea C ∧ E C none H'
/-- how it lies within a def's body -/
def XE (X : Cx) (Ex : Value → Hp → Prop) : Value → Shared → Prop := fun e s' => ∃ ea C σ H', e = .ref ea ∧ Inv X [] σ H' s' ∧ ExcAt X.s₀.heap H' X.pn s'.heap ea C ∧ Ex C H'
section
variable {X : Cx} {σ : L2.St} {H : Hp} {s : Shared}
/-- behind a note -/
theorem noted_inv {e : Addr} {hd : Option Addr} {C : Value} {h' : Heap} (I : Inv X [] σ H s) (hex : X.ex = []) (re : ExcRec s.heap e C hd) (n1 : NewAt X.s₀.heap H X.pn e) (n3 : ∀ T, hd = some T → NewAt X.s₀.heap H X.pn T)
    (N : Noted (frs X.stack) e hd C s.heap h') : Inv X [] σ H { s with heap := h' } ∧ ExcAt X.s₀.heap H X.pn h' e C := by
  have B := I.base
  rw [hex] at B
  have ne : ∀ b o, X.s₀.heap.get? b = some o → b ≠ e ∧ some b ≠ hd ∧ b ≠ X.env.locals := fun b o q => by
    refine ⟨fun z => ?_, fun z => ?_, Nat.ne_of_lt (Nat.lt_of_lt_of_le (Heap.lt_size q) I.ok.above)⟩
    · rw [z, n1.1] at q; cases q
    · rw [(n3 b z.symm).1] at q; cases q
  have nin : ∀ b, b ∉ ([] : List Addr) := fun b z => nomatch z
  have nfl : ∀ b o, s.heap.get? b = some o → (∀ vs, o.data ≠ .fields vs) → b ≠ e ∧ some b ≠ hd := fun b o q nf => by
    obtain ⟨vs, sl, qe, r⟩ := re
    refine ⟨fun z => ?_, fun z => ?_⟩
    · rw [z, qe] at q; cases q
      exact nf vs rfl
    · subst z
      obtain ⟨_, _, oT, ts, qT, dT, _⟩ := r
      rw [qT] at q; cases q
      exact nf ts dT
  have up : ∀ b o, s.heap.get? b = some o → b ≠ e → some b ≠ hd → ∃ sl, h'.get? b = some { o with slots := sl } := fun b o q z1 z2 => by
    by_cases hs : b ∈ frs X.stack
    · exact N.slot b o q hs z1 z2
    · exact ⟨o.slots, N.keep b o q hs z1 z2⟩
  have un : Un X.fs [] X.H₀ H X.s₀.heap h' := by
    refine ⟨fun b o q n hb hx => ?_, fun b o q n hb hx => ?_, fun b o q n hx => B.free b o q n hx, fun b o q hx => ?_, B.tups, B.frzs, B.tbls⟩
    · obtain ⟨z1, z2, z3⟩ := ne b o q
      refine N.keep b o (B.keep b o q n hb hx) (fun z => ?_) z1 z2
      rcases List.mem_cons.mp (I.stkSub b z) with w | w
      · exact z3 w
      · exact hb w
    · obtain ⟨z1, z2, z3⟩ := ne b o q
      obtain ⟨sl, q1⟩ := B.slot b o q n hb hx
      obtain ⟨sl', q2⟩ := up b _ q1 z1 z2
      exact ⟨sl', q2⟩
    · obtain ⟨z1, z2, z3⟩ := ne b o q
      obtain ⟨o', q1⟩ := B.there b o q hx
      obtain ⟨sl', q2⟩ := up b _ q1 z1 z2
      exact ⟨_, q2⟩
  have hok : HOk X.prog X.w H h' := fun a u q => by
    have key : ∀ c, H c = none → ¬ (c = a ∨ H c = some (.own a)) := fun c z w => by
      rcases w with w | w
      · rw [w, q] at z; cases z
      · rw [z] at w; cases w
    exact (I.hok a u q).stay (fun c v hc z => N.keep c v z (fun w => key c (I.stkFree c w) hc) (fun w => key c (by rw [w]; exact n1.2.1) hc) fun w => key c (n3 c w.symm).2.1 hc) (fun _ z => z) fun _ _ z => z
  have cellK : ∀ c v, s.heap.IsCell c v → h'.IsCell c v := fun c v ⟨o, q, d⟩ => by
    obtain ⟨z1, z2⟩ := nfl c o q fun vs w => by rw [d] at w; cases w
    obtain ⟨sl, q'⟩ := up c o q z1 z2
    exact ⟨_, q', d⟩
  have I' : Inv X [] σ H { s with heap := h' } := by
    refine ⟨I.ok, I.os, I.bare, by rw [hex]; exact un, ?_, fun y c e => ?_, I.free, I.freeC, fun p hp => ?_, hok, I.len⟩
    · obtain ⟨m, ⟨o, es, ep, ho, hd', r⟩, hl⟩ := I.loc
      obtain ⟨z1, z2⟩ := nfl _ o ho fun vs w => by rw [hd'] at w; cases w
      obtain ⟨sl, q'⟩ := up _ o ho z1 z2
      refine ⟨m, ⟨_, es, ep, q', hd', r⟩, fun i x v e1 e2 e3 => ?_⟩
      obtain ⟨u, r, l⟩ := hl i x v e1 e2 e3
      refine ⟨u, r, ?_⟩
      rcases l with l | ⟨k, c, ec, z⟩
      · exact .inl l
      · exact .inr ⟨k, c, ec, cellK c _ z⟩
    · obtain ⟨v, z⟩ := I.cell y c e
      exact ⟨v, cellK c v z⟩
    · obtain ⟨q, n, nl, nf, d⟩ := I.pin p hp
      have hp' : p ∈ X.pn := by simpa using hp
      refine ⟨N.keep p.1 p.2 q (fun z => ?_) (n1.2.2 p hp') fun z => (n3 p.1 z.symm).2.2 p hp' rfl, n, nl, nf, d⟩
      rcases List.mem_cons.mp (I.stkSub p.1 z) with w | w
      · exact nl w
      · exact nf w
  refine ⟨I', n1, ?_⟩
  obtain ⟨T, nT, r⟩ := N.ent
  refine ⟨some T, r, fun T' e' => ?_⟩
  cases e'
  rcases nT with nT | nT
  rotate_left
  · exact n3 T nT
  refine ⟨?_, ?_, fun p hp z => ?_⟩
  · cases q : X.s₀.heap.get? T with
    | none => rfl
    | some o =>
      obtain ⟨o', z⟩ := B.there T o q (nin T)
      rw [nT] at z; cases z
  · cases q : H T with
    | none => rfl
    | some u =>
      obtain ⟨o', z⟩ := obj_at (I.hok T u q)
      rw [nT] at z; cases z
  · have q := (I.pin p (List.mem_append_left _ hp)).1
    rw [z, nT] at q; cases q
end
/-- what is wanted of an exception may be weakened -/
theorem of_wish {X : Cx} {E : Value → Shared → Prop} {st : List Stmt} {t : TS} (h : PSs (X.wish E) st t) (hE : ∀ e s', E e s' → X.xe e s') : PSs X st t := fun pins s σ H D I hw =>
  wpAny_mono (h pins s σ H D (I.wish E) hw) (fun _ _ q => q.unwish) hE
section
variable {P : Program} {w : World} {K : PySem.W.Frag} {mg : Str → Option Value} {base : Heap}
/-- THE RULE for a def that may raise -/
theorem okX {x qual : Str} {st : Stmt} {f : Addr} {fd : FuncData} {N ps : List Str} {k : Nat} {sp : Sp} (F : Fun K x qual st f fd) (S : FnScope N ps (defScope st)) (len : ∀ vs H Q E, sp vs H Q E → vs.length = ps.length)
    (hbody : ∀ (cdv : Value) (A : Around) (outer : List Env) (s : Shared) (H : Hp) (vs : List V) (Q : VK) (E : XK), Room k (A.deeper (envOfC qual (defScope st) s.heap.objs.size f cdv)) → sp vs H Q E →
      ∃ t, PSs ((cxOf (CXR P w) P w K mg base N qual (defScope st) f cdv A outer s H E).wish (XE (cxOf (CXR P w) P w K mg base N qual (defScope st) f cdv A outer s H E) fun C H' => E C none H')) (defBody st) t ∧
        t { nx := fun _ H' => Q .non H', rt := Q } (start N vs) H) : FnOk P w K mg base (CXR P w) (k + 1) f fd ps sp := by
  obtain ⟨oc, od, kV, doc, pm, an, cdv, ct, osl, rfl, lk, hcd⟩ := F.ex
  refine fn_of lk hcd S len fun A outer s H vs Q E hr hsp => ?_
  obtain ⟨t, h, q⟩ := hbody cdv A outer s H vs Q E hr hsp
  refine ⟨t, of_wish h ?_, q⟩
  rintro e s' ⟨ea, C, σ, H', rfl, I, ⟨n1, hd, r, n3⟩, z⟩
  show wpAny _ _ (leaving _ _) _ _ _
  unfold leaving
  refine wpAny_bind (note_ok I.ok.frames I.stack rfl r fun h' N' => ?_)
  obtain ⟨I', x'⟩ := noted_inv I rfl r n1 n3 N'
  exact ⟨ea, C, H', rfl, I.os, I.bare, I'.base, I'.hok, x', z⟩
end
/-! ### raise C('..') of an own class whose base is ValueError -/
end L3
set_option maxHeartbeats 4000000
namespace L3
open PySem PySem.Spec PyProof.Rows L2

/-! ### the context with pins that every state bears; the context of an except suite -/
def pnX (X : Cx) (l : List (Addr × Obj)) : Cx := { X with pn := l }
def hdX (X : Cx) (ea : Addr) : Cx := { X with A := X.A.mark (some (.ref ea)), calm := false }
section
variable {X : Cx} {pins : List (Addr × Obj)} {σ : L2.St} {H : Hp} {s : Shared}
theorem inv_pn (I : Inv X pins σ H s) : Inv (pnX X (X.pn ++ pins)) [] σ H s := by
  obtain ⟨a1, a2, a3, a4, a5, a6, a7, a8, a9, a10, a11, a12, a13, a14, a15, a16, a17, a18⟩ := I.ok
  exact ⟨⟨a1, a2, a3, a4, a5, a6, a7, a8, a9, a10, a11, a12, a13, a14, a15, a16, a17, a18⟩, I.os, I.bare, I.base, I.loc, I.cell, I.free, I.freeC, fun p hp => I.pin p (by have z : p ∈ (X.pn ++ pins) ++ [] := hp; simpa using z), I.hok, I.len⟩
theorem of_pn (I : Inv (pnX X (X.pn ++ pins)) [] σ H s) : Inv X pins σ H s := by
  obtain ⟨a1, a2, a3, a4, a5, a6, a7, a8, a9, a10, a11, a12, a13, a14, a15, a16, a17, a18⟩ := I.ok
  exact ⟨⟨a1, a2, a3, a4, a5, a6, a7, a8, a9, a10, a11, a12, a13, a14, a15, a16, a17, a18⟩, I.os, I.bare, I.base, I.loc, I.cell, I.free, I.freeC, fun p hp => I.pin p (by show p ∈ (X.pn ++ pins) ++ []; simpa using hp), I.hok, I.len⟩
theorem inv_hd {ea : Addr} (I : Inv X pins σ H s) : Inv (hdX X ea) pins σ H s := by
  obtain ⟨a1, a2, a3, a4, a5, a6, a7, a8, a9, a10, a11, a12, a13, a14, a15, a16, a17, a18⟩ := I.ok
  exact ⟨⟨a1, a2, a3, a4, a5, a6, a7, a8, fun h => absurd (show false = true from h) Bool.false_ne_true, a10, a11, a12, a13, a14, a15, a16, a17, a18⟩, I.os, I.bare, I.base, I.loc, I.cell, I.free, I.freeC, I.pin, I.hok, I.len⟩
theorem of_hd {ea : Addr} (I : Inv (hdX X ea) pins σ H s) (hd : X.calm = true → X.A.handled = none) : Inv X pins σ H s := by
  obtain ⟨a1, a2, a3, a4, a5, a6, a7, a8, a9, a10, a11, a12, a13, a14, a15, a16, a17, a18⟩ := I.ok
  exact ⟨⟨a1, a2, a3, a4, a5, a6, a7, a8, hd, a10, a11, a12, a13, a14, a15, a16, a17, a18⟩, I.os, I.bare, I.base, I.loc, I.cell, I.free, I.freeC, I.pin, I.hok, I.len⟩
/-- an exception that is held: what is known of its object -/
def ExcIs (e : Addr) (C : Value) : HO := .ext fun h => ∃ (vs : Array Value) (sl : Array (Option Value)), h.get? e = some { cls := C, dict := none, data := .fields vs, slots := sl }
theorem inv_adopt {a : Addr} {C : Value} {hd : Option Addr} (I : Inv X [] σ H s) (_ : X.ex = []) (n : NewAt X.s₀.heap H X.pn a) (r : ExcRec s.heap a C hd) : Inv X [] σ (upd H a (ExcIs a C)) s := by
  obtain ⟨vs, sl, q, _⟩ := r
  have B := I.base
  have ne : ∀ b o, X.s₀.heap.get? b = some o → b ≠ a := fun b o w z => by rw [z, n.1] at w; cases w
  refine ⟨I.ok, I.os, I.bare, ⟨B.keep, B.slot, fun b o w z hx => ?_, B.there, fun b xs w => ?_, fun b o u w => ?_, fun b ps w => ?_⟩, I.loc, I.cell, ?_, fun y c e => ?_, fun p hp => ?_, fun b u w => ?_, I.len⟩
  · rw [upd_ne (ne b o w)]; exact B.free b o w z hx
  · have z := B.tups b xs w
    rw [upd_ne (ne_of_none z n.2.1)]; exact z
  · have z := B.frzs b o u w
    rw [upd_ne (ne_of_none z n.2.1)]; exact z
  · obtain ⟨more, z⟩ := B.tbls b ps w
    exact ⟨more, by rw [upd_ne (ne_of_none z n.2.1)]; exact z⟩
  · obtain ⟨m, ⟨o, es, ep, ho, hd', _⟩, _⟩ := I.loc
    rw [upd_ne (fun z => by rw [z, q] at ho; cases ho; cases hd')]
    exact I.free
  · obtain ⟨v, o, ho, hd'⟩ := I.cell y c e
    rw [upd_ne (fun z => by rw [z, q] at ho; cases ho; cases hd')]
    exact I.freeC y c e
  · obtain ⟨w1, w2, w3⟩ := I.pin p hp
    have hp' : p ∈ X.pn := by simpa using hp
    rw [upd_ne (n.2.2 p hp')]
    exact ⟨w1, w2, w3⟩
  · by_cases hb : b = a
    · subst hb
      rw [upd_same] at w
      cases w
      refine ⟨⟨vs, sl, q⟩, ⟨_, q⟩, fun h1 h2 z k => ?_⟩
      obtain ⟨vs', sl', z⟩ := z
      exact ⟨vs', sl', k _ z⟩
    · rw [upd_ne hb] at w
      exact (I.hok b u w).stay (fun _ _ _ z => z) (fun c z => by rw [upd_ne (ne_of_none z n.2.1)]; exact z) fun c xs z => by rw [upd_ne (ne_of_none z n.2.1)]; exact z
/-- the name that a clause bound goes -/
theorem unbind_ok {M : Model} {A : Around} {E : Value → Shared → Prop} {i : Nat} {n : Str} {pos : Pos} {Q : Unit → Shared → Prop} (I : Inv X pins σ H s) (hN : X.N.Nodup) (hi : X.N[i]? = some n) (hl : X.env.scope.names.lookup n = some .local)
    (h : ∀ s', Inv X pins (σ.set i none) H s' → Q () s') : wpAny M A (do bindName X.env n .none; unbindBehindTheSuite X.env n pos) Q E s := by
  refine wpAny_bind (wpAny_bindName (store_ok (v := .non) I hN hi (.inl hl) rfl (fun s1 I1 => ?_) (.inr hl)))
  unfold unbindBehindTheSuite
  refine wpAny_onRaise ?_
  have hcls : (X.env.scope.kind == .class || (X.env.scope.kind == .module && X.env.locals != X.env.globals)) = false := by rw [I1.ok.kind]; rfl
  have hiσ : i < σ.length := by rw [I.len]; exact (List.getElem?_eq_some_iff.mp hi).1
  obtain ⟨m, hn, hlk⟩ := I1.loc
  obtain ⟨u, r, lk⟩ := hlk i n .non hi (by rw [List.getElem?_set_self hiσ]) (.inl hl)
  have hm : m n = some u := by
    rcases lk with ⟨_, z⟩ | ⟨z, _⟩
    · exact z
    · have hl' : X.env.kindOf n = some .local := hl
      rw [hl'] at z
      rcases z with z | z <;> cases z
  obtain ⟨oL, es, ep, hoL, hdL, _⟩ := id hn
  refine wpAny_unbindName_local hl hn hm hcls fun h' u' hn' hs => h _ ?_
  have B := I1.base
  have neL : ∀ b o, X.s₀.heap.get? b = some o → b ≠ X.env.locals := fun b o e => Nat.ne_of_lt (Nat.lt_of_lt_of_le (Heap.lt_size e) I1.ok.above)
  refine ⟨I1.ok, I1.os, I1.bare, ⟨fun b o e n hb hx => (hs.2 b (neL b o e)).trans (B.keep b o e n hb hx), fun b o e n hb hx => ?_, B.free, fun b o e hx => ?_, B.tups, B.frzs, B.tbls⟩, ⟨_, hn', fun j y v e1 e2 e3 => ?_⟩, fun y c e => ?_, I1.free, I1.freeC, fun p hp => ?_, fun b ob e => ?_, ?_⟩
  · obtain ⟨sl, z⟩ := B.slot b o e n hb hx
    exact ⟨sl, (hs.2 b (neL b o e)).trans z⟩
  · obtain ⟨o', z⟩ := B.there b o e hx
    exact ⟨o', (hs.2 b (neL b o e)).trans z⟩
  · have hj : j ≠ i := fun z => by
      subst z
      rw [List.getElem?_set_self hiσ] at e2
      cases e2
    rw [List.getElem?_set_ne (Ne.symm hj)] at e2
    obtain ⟨u2, r2, l2⟩ := hlk j y v e1 (by rw [List.getElem?_set_ne (Ne.symm hj)]; exact e2) e3
    refine ⟨u2, r2, ?_⟩
    rcases l2 with ⟨k, z⟩ | ⟨k, c, ec, z⟩
    · refine .inl ⟨k, ?_⟩
      have : y ≠ n := fun w => hj (nodup_ix hN e1 (w ▸ hi))
      simp [this, z]
    · exact .inr ⟨k, c, ec, z.sameBut hs (I1.cne y c ec)⟩
  · obtain ⟨w', z⟩ := I1.cell y c e
    exact ⟨w', z.sameBut hs (I1.cne y c e)⟩
  · obtain ⟨e, n, ne, nf, d⟩ := I1.pin p hp
    exact ⟨(hs.2 p.1 ne).trans e, n, ne, nf, d⟩
  · refine (I1.hok b ob e).stay (fun c w' hc q => (hs.2 c fun z => ?_).trans q) (fun _ q => q) fun _ _ q => q
    have fr := I1.free
    rcases hc with hc | hc
    · rw [← hc, z, fr] at e; cases e
    · rw [z, fr] at hc; cases hc
  · have := I1.len
    simpa using this
end

/-! ### try: .. except C as n: .. ; try: .. except C: .. -/
def hEnds (D : Ends) (i : Option Nat) : Ends :=
  let f : (L2.St → Hp → Prop) → L2.St → Hp → Prop := fun q σ H => match i with | some i => q (σ.set i none) H | none => q σ H
  { nx := f D.nx, rt := D.rt, bk := f D.bk, ct := f D.ct }
def hSlot (i : Option Nat) (ea : Addr) (σ : L2.St) : L2.St := match i with | some i => σ.set i (some (.ref ea)) | none => σ
def tTry (K : PySem.W.Frag) (Ex : Value → Hp → Prop) (C : Addr) (i : Option Nat) (tb ts : TS) : TS := fun D σ H => tb D σ H ∧ ∀ (ea : Addr) (B : Value) (σ' : L2.St) (H' : Hp), Ex B H' → H' ea = none → σ'.length = σ.length →
  PySem.W.exmOne K B (.ref C) = some true ∧ ts (hEnds D i) (hSlot i ea σ') (upd H' ea (ExcIs ea B))
/-- the names of a clause: none, or one in slot i -/
inductive ClName (X : Cx) : Option Str → Option Nat → Prop where
  | none : ClName X none none
  | some {n : Str} {i : Nat} (hi : X.N[i]? = some n) (hl : X.env.scope.names.lookup n = some .local) : ClName X (some n) (some i)
theorem ps_try {X : Cx} {body : List Stmt} {b₀ : Stmt} {suite : List Stmt} {x : Str} {C : Addr} {nm : Option Str} {i : Option Nat} {np hpos pos : Pos} {tb ts : TS} (Ex : Value → Hp → Prop)
    (hcl : ClName X nm i) (hN : X.N.Nodup) (hg : Gl X x) (hm : X.mg x = some (.ref C))
    (hb : ∀ l, PSs ((pnX X l).wish (XE (pnX X l) Ex)) body tb) (hs : ∀ l ea, PSs (hdX (pnX X l) ea).nox (b₀ :: suite) ts)
    (hstk : X.stack = X.env :: X.outer := by rfl) (hfr : X.env.frame = some X.env.locals := by rfl) (hex : X.ex = [] := by rfl) (hdb : (x == ("__debug__" : Str)) = false := by decide) :
    PS X (.Try body [.ExceptHandler (some (.Name x np)) nm (b₀ :: suite) hpos] [] [] pos) (tTry X.K Ex C i tb ts) := by
  rintro pins s σ H D I ⟨h1, h2⟩
  have I0 := inv_pn I
  refine wpAny_Try_except (wpAny_mono (hb (X.pn ++ pins) [] s σ H D (I0.wish _) h1) (fun f s1 q => ?_) fun e s1 q => ?_)
  · have q := q.unwish
    cases f with
    | next =>
      obtain ⟨σ', H', J, z⟩ := q
      exact wpAny_execs_nil ⟨σ', H', of_pn J, z⟩
    | brk =>
      obtain ⟨σ', H', J, z⟩ := q
      exact ⟨σ', H', of_pn J, z⟩
    | cont =>
      obtain ⟨σ', H', J, z⟩ := q
      exact ⟨σ', H', of_pn J, z⟩
    | ret u =>
      obtain ⟨v, σ', H', J, r, z⟩ := q
      exact ⟨v, σ', H', of_pn J, r, z⟩
  · obtain ⟨ea, B, σ', H', rfl, I1, ⟨n1, hd, r, n3⟩, ex⟩ := q
    have hlen : σ'.length = σ.length := I1.len.trans I.len.symm
    obtain ⟨hx, ht⟩ := h2 ea B σ' H' ex n1.2.1 hlen
    have fr : X.A.frames = some (X.env :: X.outer) := by rw [← hstk]; exact I.ok.frames
    have ff : s1.heap.FunFrames X.base (X.env :: X.outer) := by
      have z := I1.stack
      rw [show (pnX X (X.pn ++ pins)).stack = X.env :: X.outer from hstk] at z
      exact z
    refine note_ok fr ff hfr r fun h' N' => ?_
    have N' : Noted (frs X.stack) ea hd B s1.heap h' := by rw [hstk]; exact N'
    obtain ⟨I2, n1, hd2, r2, n3⟩ := noted_inv I1 hex r n1 n3 N'
    -- the clause's class, does it match
    refine wpAny_handleBy_cons (codeAny_handlers_test (ld_glob (X := hdX (pnX X (X.pn ++ pins)) ea) (inv_hd I2) hg hm ?_ hdb)) (by intro z; cases z)
    have LT : PySem.W.Looks (model X.prog X.w) h' (typeOf (.ref ea)) B := by
      obtain ⟨vs, sl, qe, _⟩ := r2
      exact (PySem.W.Looks.ld qe).andThen .now
    refine (PySem.W.exm_one (M := model X.prog X.w) I2.kIn LT hx).here ?_
    show codeAny _ _ _ _ _
    obtain ⟨T, rfl, r3⟩ : ∃ T, hd2 = some T ∧ ExcRec h' ea B (some T) := by
      obtain ⟨T, _, _⟩ := N'.ent
      cases hd2 with
      | some T => exact ⟨T, rfl, r2⟩
      | none =>
        obtain ⟨T, _, rT⟩ := N'.ent
        obtain ⟨vs, sl, q1, q2⟩ := r2
        obtain ⟨vs', sl', q1', q2', _⟩ := rT
        rw [q1] at q1'
        cases q1'
        rw [q2] at q2'
        cases q2'
    -- the suite
    have run : ∀ (s4 : Shared) (σ4 : L2.St) (Q : Flow → Shared → Prop) (E : Value → Shared → Prop), Inv (hdX (pnX X (X.pn ++ pins)) ea) [] σ4 (upd H' ea (ExcIs ea B)) s4 → ts (hEnds D i) σ4 (upd H' ea (ExcIs ea B)) →
        (∀ f s5, SP (hdX (pnX X (X.pn ++ pins)) ea) [] (hEnds D i) f s5 → Q f s5) → wpAny (model X.prog X.w) (X.A.mark (some (.ref ea))) (execs (b₀ :: suite) X.env) Q E s4 := fun s4 σ4 Q E I4 z k =>
      wpAny_mono (hs (X.pn ++ pins) ea [] s4 σ4 _ _ (I4.wish _) z) (fun f s5 q => k f s5 q.unwish) fun _ _ z => z.elim
    have hdn : (pnX X (X.pn ++ pins)).calm = true → (pnX X (X.pn ++ pins)).A.handled = none := I2.ok.hd
    cases hcl with
    | none =>
      refine codeAny_handlers_suite (flight_ok r3 fun h3 N3 => ?_)
      obtain ⟨I3, n1, hd3, r4, n3⟩ := noted_inv I2 hex r3 n1 n3 (N3 _)
      refine run _ _ _ _ (inv_hd (inv_adopt I3 hex n1 r4)) ht fun f s5 q => ?_
      cases f with
      | next => obtain ⟨σ5, H5, J, z⟩ := q; exact ⟨σ5, H5, of_pn (of_hd J hdn), z⟩
      | brk => obtain ⟨σ5, H5, J, z⟩ := q; exact ⟨σ5, H5, of_pn (of_hd J hdn), z⟩
      | cont => obtain ⟨σ5, H5, J, z⟩ := q; exact ⟨σ5, H5, of_pn (of_hd J hdn), z⟩
      | ret u => obtain ⟨v, σ5, H5, J, rv, z⟩ := q; exact ⟨v, σ5, H5, of_pn (of_hd J hdn), rv, z⟩
    | some hi hl =>
      refine codeAny_handlers_suite_as (flight_ok r3 fun h3 N3 => ?_)
      obtain ⟨I3, n1, hd3, r4, n3⟩ := noted_inv I2 hex r3 n1 n3 (N3 _)
      refine store_ok (X := hdX (pnX X (X.pn ++ pins)) ea) (v := .ref ea) (inv_hd (inv_adopt I3 hex n1 r4)) hN hi (.inl hl) rfl (fun s4 I4 => ?_) (.inr hl)
      refine run _ _ _ _ I4 ht fun f s5 q => ?_
      cases f with
      | next => obtain ⟨σ5, H5, J, z⟩ := q; exact unbind_ok (X := pnX X (X.pn ++ pins)) (of_hd J hdn) hN hi hl fun s6 J6 => ⟨_, H5, of_pn J6, z⟩
      | brk => obtain ⟨σ5, H5, J, z⟩ := q; exact unbind_ok (X := pnX X (X.pn ++ pins)) (of_hd J hdn) hN hi hl fun s6 J6 => ⟨_, H5, of_pn J6, z⟩
      | cont => obtain ⟨σ5, H5, J, z⟩ := q; exact unbind_ok (X := pnX X (X.pn ++ pins)) (of_hd J hdn) hN hi hl fun s6 J6 => ⟨_, H5, of_pn J6, z⟩
      | ret u => obtain ⟨v, σ5, H5, J, rv, z⟩ := q; exact unbind_ok (X := pnX X (X.pn ++ pins)) (of_hd J hdn) hN hi hl fun s6 J6 => ⟨v, _, H5, of_pn J6, rv, z⟩
end L3
set_option maxHeartbeats 4000000
set_option maxRecDepth 100000
namespace L3
open PySem PySem.Spec PySem.Calls PyProof.Rows PySem.W
section
variable {prog : Program} {w : World} {A : Around} {E : Value → Shared → Prop} {K : Frag} {h : Heap} {g : Array GenState} {d : Drawn} {t : Nat} {os : OsState} {a D : Addr} {ox : Obj}
/-- what isinstance asks of an own class whose instances are exceptions -/
structure ExcK (K : Frag) (D : Addr) : Prop where
  ga : findIn K (.ref D) "__getattribute__" = some (some (.builtin "BaseException.__getattribute__"))
  gt : findIn K (.ref D) "__getattr__" = some none
  ca : findIn K (.ref D) "__class__" = some (some (.builtin "object.__class__"))
  sg : specialIn K (.builtin "object.__class__") "__get__" = some (some (.builtin "getset_descriptor.__get__"))
  tk : takesIn K (.builtin "object.__class__") = some true
  mo : mroIn K D (.type "object") = some true
  mb : mroIn K D (.type "BaseException") = some true
end
end L3
namespace L3
open PySem PySem.Spec PyProof.Rows L2
end L3
set_option maxHeartbeats 4000000
namespace L3
open PySem PySem.Spec PyProof.Rows L2
section
variable {X : Cx}
/-! ### all, any of a list of truths -/
theorem truth_of {bs : List Bool} {its : List Value} {P : Program} {w : World} {A : Around} (r : Vals (bs.map V.bl) its) : TruthOf P w A (fun i v => its.toArray[i]? = some v) (fun i => (bs[i]?).getD false) := by
  intro i v s Q E hv hq
  have hv' : its[i]? = some v := by simpa using hv
  have hl := r.length
  have hi : i < bs.length := by
    have := (List.getElem?_eq_some_iff.mp hv').1
    rw [List.length_map] at hl
    omega
  obtain ⟨u, e1, q1⟩ := r.get (i := i) (x := .bl bs[i]) (by rw [List.getElem?_map, List.getElem?_eq_getElem hi]; rfl)
  rw [hv'] at e1
  cases e1
  cases q1
  have e : (bs[i]?).getD false = bs[i] := by rw [List.getElem?_eq_getElem hi]; rfl
  have hq' : Q ((bs[i]?).getD false) s := hq
  rw [e] at hq'
  exact wpAny_truthy_bool hq'
theorem range_all (bs : List Bool) : (List.range bs.length).all (fun i => (bs[i]?).getD false) = bs.all id := by
  rw [Bool.eq_iff_iff, List.all_eq_true, List.all_eq_true]
  constructor
  · intro h x hx
    obtain ⟨i, hi, e⟩ := List.mem_iff_getElem.mp hx
    have := h i (by simpa using hi)
    rw [List.getElem?_eq_getElem hi, e] at this
    exact this
  · intro h i hi
    have hi : i < bs.length := by simpa using hi
    rw [List.getElem?_eq_getElem hi]
    exact h _ (List.getElem_mem hi)
theorem call_allB (hc : X.calm = true) : CallR X (.builtin "all") (fun xs H Q => ∃ (p : Addr) (bs : List Bool), xs = [.ref p] ∧ SqL X.K H p (bs.map V.bl) ∧ Q (.bl (bs.all id)) H) := by
  intro pins s σ H xs us Q I r h
  obtain ⟨p, bs, rfl, hq, q⟩ := h
  obtain ⟨u, rfl, rx⟩ := vals1 r
  cases rx
  obtain ⟨its, rv, pl, hz⟩ := I.list hq
  have hp : p ≠ s.heap.objs.size := by
    obtain ⟨o, n, e, _⟩ := pl
    exact Nat.ne_of_lt (Heap.lt_size e)
  have hh : X.A.in1.handled = none := I.ok.hd hc
  have hl : its.toArray.size = bs.length := by rw [List.size_toArray, ← rv.length, List.length_map]
  refine call_all_walk (wpAny_pyIter_list pl.isList ?_)
  refine ⟨s.heap.objs.size, _, _, _, _, _, _, rfl, Walks.list hh _ p hp its.toArray, ⟨⟨_, Heap.get?_push_size _ rfl, rfl, rfl⟩, pl.isList.at fun o e => Heap.get?_push_of_some _ e⟩, truth_of rv, fun h' tk hk => ?_⟩
  rw [hl, range_all]
  refine ⟨.bl _, H, I.kept fun b o e => hk b o (fun z => ?_) (Heap.get?_push_of_some _ e), rfl, q⟩
  have z' : b = s.heap.objs.size := by simpa using z
  exact absurd (Heap.lt_size e) (by rw [z']; exact Nat.lt_irrefl _)
/-! ### a text in a text -/
theorem op_inS : OpR X (compareOp .In) (fun x y H Q => ∃ (a b : Str), x = .str a ∧ y = .str b ∧ Q (.bl (!(Builtin.Str.occurrences b a 0 b.length 1).isEmpty)) H) := by
  intro pins s σ H x y v u Q I rx ry h
  obtain ⟨a, b, rfl, rfl, q⟩ := h
  obtain ⟨t, rfl⟩ := rx
  obtain ⟨t', rfl⟩ := ry
  exact P.in_str ⟨.bl _, H, I, rfl, q⟩
/-! ### the signs of a text, one by one -/
def Its (z : Str) : It := ⟨fun i _ => i < z.cps.size, fun i H x H' => H' = H ∧ ∃ c, z.cps[i]? = some c ∧ x = .str ⟨#[c]⟩, fun i _ => z.cps.size ≤ i⟩
theorem turn_sign {P : Program} {w : World} {K : PySem.W.Frag} {tg : Expr} (it : Addr) (z : Str) (t : Tok) (ty : String) (hty : ty = "str_ascii_iterator" ∨ ty = "str_iterator") :
    Turn P w K tg (Its z) [it] it (fun i h => h.IsStrIter it ty z t i ∧ i ≤ z.cps.size) where
  mem := by simp
  obj := fun i h st b hb => by
    have e : b = it := by simpa using hb
    subst e
    obtain ⟨⟨o, e, c, d⟩, _⟩ := st
    exact ⟨o, e, fun v z => by rw [d] at z; cases z⟩
  keep := fun i h h' st k => ⟨let ⟨o, ho, r⟩ := st.1; ⟨o, k it (by simp) o ho, r⟩, st.2⟩
  item := by
    intro X hP hw hK hc i pins s σ H E I hf st hg
    subst hP hw hK
    have hi : i < z.cps.size := hg
    have hx : z.cps[i]? = some z.cps[i] := by simp [hi]
    obtain ⟨f0, f1, f2, f3, f4, f5⟩ := hf it (by simp)
    have fin : ∀ h', h'.IsStrIter it ty z t (i + 1) → Heap.SameBut it s.heap h' → ∃ u, some (Value.str ⟨#[z.cps[i]]⟩ s.toks) = some u ∧ wpAny (model X.prog X.w) X.A (letOwnedTupleGo tg (.ref it) u) (fun _ s2 => ∃ x H', Inv X pins σ H' s2 ∧ RelV x u ∧ (Its z).yld i H x H' ∧ (s2.heap.IsStrIter it ty z t (i + 1) ∧ i + 1 ≤ z.cps.size) ∧ ∀ b ∈ [it], H' b = none) E { s with heap := h', toks := s.toks + 1 } := fun h' st' sb => by
      have I1 : Inv X pins σ H { s with heap := h', toks := s.toks + 1 } := I.turned (t' := s.toks + 1) (fun b o hb e => (sb.2 b hb).trans e) f0 f1 f3 f4 f5
      obtain ⟨o, e, c, d⟩ := id st'
      refine ⟨_, rfl, go_of (s := { s with heap := h', toks := s.toks + 1 }) e c d (by rcases hty with rfl | rfl <;> decide) ⟨.str ⟨#[z.cps[i]]⟩, H, I1, ⟨_, rfl⟩, ⟨rfl, _, hx, rfl⟩, ⟨st', hi⟩, fun b hb => (hf b hb).1⟩⟩
    rcases hty with rfl | rfl
    · exact wpAny_pyNext_ascii_item st.1 hx fin
    · exact wpAny_pyNext_wide_item st.1 hx fin
  done := by
    intro X hP hw hK hc i pins s σ H E I hf st hg
    subst hP hw hK
    have hi : z.cps.size ≤ i := hg
    have hx : z.cps[i]? = none := by simp [hi]
    obtain ⟨f0, f1, f2, f3, f4, f5⟩ := hf it (by simp)
    rcases hty with rfl | rfl
    · exact wpAny_pyNext_ascii_end (I.ok.hd hc) st.1 hx fun h' eb => ⟨rfl, I.turned (t' := s.toks) (fun b o hb e => eb b o hb e) f0 f1 f3 f4 f5⟩
    · exact wpAny_pyNext_wide_end (I.ok.hd hc) st.1 hx fun h' eb => ⟨rfl, I.turned (t' := s.toks) (fun b o hb e => eb b o hb e) f0 f1 f3 f4 f5⟩
  self := fun _ _ _ _ _ st h => by
    rcases hty with rfl | rfl
    · exact wpAny_pyIter_striter_ascii st.1 h
    · exact wpAny_pyIter_striter_wide st.1 h
def iStr (tl : TE) : TI := fun σ H R => tl σ H fun x H1 => ∃ z, x = .str z ∧ R (Its z) H1
theorem pi_str {tg l : Expr} {tl : TE} (hl : PE X l tl) : PI X tg l (iStr tl) := by
  intro pins s σ H R I h
  refine thn (hl pins s σ H _ I h) fun v s1 ⟨x, H1, I1, r1, q1⟩ => ?_
  obtain ⟨z, e, q⟩ := q1
  subst e
  obtain ⟨t, rfl⟩ := r1
  have key : ∀ ty : String, (ty = "str_ascii_iterator" ∨ ty = "str_iterator") → PIE X pins σ tg R (.ref s1.heap.objs.size) { s1 with heap := s1.heap.push { cls := .type ty, data := .fields #[.str z t, .int 0 0] } } := fun ty hty => by
    refine ⟨s1.heap.objs.size, [s1.heap.objs.size], _, _, H1, rfl, I1.kept (t' := s1.toks) fun b o e => Heap.get?_push_of_some _ e, turn_sign _ z t ty hty, ⟨⟨_, Heap.get?_push_size _ rfl, rfl, rfl⟩, Nat.zero_le _⟩, fun b hb => ?_, q⟩
    have e : b = s1.heap.objs.size := by simpa using hb
    subst e
    exact I1.fpOk (Nat.le_refl _) (I1.hok.fresh (Nat.le_refl _))
  cases ha : z.cps.all (· < 128)
  · exact wpAny_pyIter_wide ha (key _ (.inr rfl))
  · exact wpAny_pyIter_ascii ha (key _ (.inl rfl))
theorem comp_str {z : Str} {js : List Nat} {te : TE} {σ : L2.St} {H : Hp} {Q : VK} (Pv : Nat → List V → Hp → Prop) (h0 : Pv 0 [] H) (hl : ∀ i acc H, i ≤ z.cps.size → Pv i acc H → acc.length < sizeLine)
    (hs : ∀ i c acc H, i < z.cps.size → z.cps[i]? = some c → Pv i acc H → te (some (.str ⟨#[c]⟩) :: capt js σ) H fun v H' => Nxt z.cps.size i (Pv (i + 1) (acc ++ [v]) H')) (hd : ∀ acc H, Pv z.cps.size acc H → ∀ D, H D = none → Q (.ref D) (upd H D (.lst acc))) : CompEnd js te σ Q (Its z) H := by
  refine ⟨fun i m acc H => m = z.cps.size - i ∧ i ≤ z.cps.size ∧ Pv i acc H, ⟨z.cps.size, by simp, Nat.zero_le _, h0⟩, ?_⟩
  rintro i m acc H2 ⟨rfl, hi, p⟩
  refine ⟨hl i acc H2 hi p, ?_⟩
  by_cases hlt : i < z.cps.size
  · refine .inr ⟨hlt, fun x H3 y => ?_⟩
    obtain ⟨e, c, hc, rfl⟩ := y
    subst e
    exact hs i c acc _ hlt hc p
  · have e : i = z.cps.size := by omega
    subst e
    exact .inl ⟨Nat.le_refl _, hd acc H2 p⟩
end
/-! ### rules by K alone -/
end L3
namespace L3
open PySem PySem.Spec PyProof.Rows L2
end L3
set_option maxHeartbeats 4000000
namespace L3
open PySem PySem.Spec PyProof.Rows L2
section
variable {X : Cx}
/-! ### dict(d) -/
/-! ### d != e, d == e of dicts of the same pairs -/
end
/-! ### slices of texts by their codes -/
end L3
set_option maxHeartbeats 4000000
namespace L3
open PySem PySem.Spec PyProof.Rows L2

/-! ### values as trees: what stands at a value, to any depth -/
inductive D where
  | leaf (v : V)
  | tup (xs : List D)
  | lst (xs : List D)
mutual
def Rep (K : PySem.W.Frag) (H : Hp) : D → V → Prop
  | .leaf v, x => x = v ∧ flatV v = true
  | .tup ds, x => ∃ p xs, x = .ref p ∧ SqT K H p xs ∧ Reps K H ds xs
  | .lst ds, x => ∃ p xs, x = .ref p ∧ SqL K H p xs ∧ Reps K H ds xs
def Reps (K : PySem.W.Frag) (H : Hp) : List D → List V → Prop
  | [], [] => True
  | d :: ds, x :: xs => Rep K H d x ∧ Reps K H ds xs
  | _, _ => False
end
mutual
def eqD : D → D → Bool
  | .leaf v, .leaf w => eqV v w
  | .tup xs, .tup ys => eqDs xs ys
  | .lst xs, .lst ys => eqDs xs ys
  | _, _ => false
def eqDs : List D → List D → Bool
  | [], [] => true
  | x :: xs, y :: ys => eqD x y && eqDs xs ys
  | _, _ => false
end
mutual
def dep : D → Nat
  | .leaf _ => 0
  | .tup xs => deps xs + 1
  | .lst xs => deps xs + 1
def deps : List D → Nat
  | [] => 0
  | x :: xs => max (dep x) (deps xs)
end
theorem Reps.length {K : PySem.W.Frag} {H : Hp} : ∀ {ds : List D} {xs : List V}, Reps K H ds xs → ds.length = xs.length
  | [], [], _ => rfl
  | _ :: _, _ :: _, h => by
    unfold Reps at h
    rw [List.length_cons, List.length_cons, h.2.length]
  | [], _ :: _, h => by unfold Reps at h; exact h.elim
  | _ :: _, [], h => by unfold Reps at h; exact h.elim
theorem eqV_self {v : V} (h : flatV v = true) : eqV v v = true := by
  cases v <;> simp_all [flatV, eqV]
theorem eqDs_len : ∀ {xs ys : List D}, eqDs xs ys = true → xs.length = ys.length
  | [], [], _ => rfl
  | x :: xs, y :: ys, h => by
    unfold eqDs at h
    rw [Bool.and_eq_true] at h
    rw [List.length_cons, List.length_cons, eqDs_len h.2]
  | [], _ :: _, h => by simp [eqDs] at h
  | _ :: _, [], h => by simp [eqDs] at h
/-- item by item -/
def itE (xs ys : List D) (j : Nat) : Bool := match xs[j]?, ys[j]? with
  | some a, some b => eqD a b
  | _, _ => false
theorem all_it : ∀ (xs ys : List D), ((List.range (min xs.length ys.length)).all (itE xs ys) && xs.length == ys.length) = eqDs xs ys
  | [], [] => by simp [eqDs]
  | [], y :: ys => by simp [eqDs]
  | x :: xs, [] => by simp [eqDs]
  | x :: xs, y :: ys => by
    have ih := all_it xs ys
    have e : min (x :: xs).length (y :: ys).length = min xs.length ys.length + 1 := by simp only [List.length_cons]; omega
    rw [e, List.range_succ_eq_map, List.all_cons, List.all_map]
    have e2 : (itE (x :: xs) (y :: ys)) ∘ Nat.succ = itE xs ys := by
      funext j
      simp [itE]
    have e3 : itE (x :: xs) (y :: ys) 0 = eqD x y := by simp [itE]
    have e4 : ((x :: xs).length == (y :: ys).length) = (xs.length == ys.length) := by
      rw [Bool.eq_iff_iff]; simp
    rw [e2, e3, e4, Bool.and_assoc, ih]
    conv => rhs; unfold eqDs
theorem all_it' {xs ys : List D} (h : xs.length = ys.length) : (List.range xs.length).all (itE xs ys) = eqDs xs ys := by
  have := all_it xs ys
  rw [← h, Nat.min_self] at this
  simpa using this
section
variable {X : Cx} {pins : List (Addr × Obj)} {σ : L2.St} {H : Hp} {s : Shared}
mutual
theorem rep_refl (I : Inv X pins σ H s) : ∀ (d e : D) {x : V}, Rep X.K H d x → Rep X.K H e x → eqD d e = true
  | .leaf v, .leaf w, x, h1, h2 => by
    unfold Rep at h1 h2
    obtain ⟨rfl, f⟩ := h1
    obtain ⟨rfl, _⟩ := h2
    unfold eqD
    exact eqV_self f
  | .leaf v, .tup ds, x, h1, h2 => by
    unfold Rep at h1 h2
    obtain ⟨rfl, f⟩ := h1
    obtain ⟨p, xs, rfl, _⟩ := h2
    cases f
  | .leaf v, .lst ds, x, h1, h2 => by
    unfold Rep at h1 h2
    obtain ⟨rfl, f⟩ := h1
    obtain ⟨p, xs, rfl, _⟩ := h2
    cases f
  | .tup ds, .leaf w, x, h1, h2 => by
    unfold Rep at h1 h2
    obtain ⟨rfl, f⟩ := h2
    obtain ⟨p, xs, rfl, _⟩ := h1
    cases f
  | .lst ds, .leaf w, x, h1, h2 => by
    unfold Rep at h1 h2
    obtain ⟨rfl, f⟩ := h2
    obtain ⟨p, xs, rfl, _⟩ := h1
    cases f
  | .tup ds, .tup es, x, h1, h2 => by
    unfold Rep at h1 h2
    obtain ⟨p, xs, rfl, t1, r1⟩ := h1
    obtain ⟨q, ys, e, t2, r2⟩ := h2
    cases e
    rw [I.tuple_inj t1 t2] at r1
    unfold eqD
    exact reps_refl I ds es r1 r2
  | .lst ds, .lst es, x, h1, h2 => by
    unfold Rep at h1 h2
    obtain ⟨p, xs, rfl, t1, r1⟩ := h1
    obtain ⟨q, ys, e, t2, r2⟩ := h2
    cases e
    rw [I.list_inj t1 t2] at r1
    unfold eqD
    exact reps_refl I ds es r1 r2
  | .tup ds, .lst es, x, h1, h2 => by
    unfold Rep at h1 h2
    obtain ⟨p, xs, rfl, t1, r1⟩ := h1
    obtain ⟨q, ys, e, t2, r2⟩ := h2
    cases e
    obtain ⟨_, _, i1, _⟩ := I.tuple t1
    obtain ⟨_, _, i2, _⟩ := I.list t2
    exact (SeqAt.ne_of_list_tuple i2.isList i1 rfl).elim
  | .lst ds, .tup es, x, h1, h2 => by
    unfold Rep at h1 h2
    obtain ⟨p, xs, rfl, t1, r1⟩ := h1
    obtain ⟨q, ys, e, t2, r2⟩ := h2
    cases e
    obtain ⟨_, _, i1, _⟩ := I.list t1
    obtain ⟨_, _, i2, _⟩ := I.tuple t2
    exact (SeqAt.ne_of_list_tuple i1.isList i2 rfl).elim
theorem reps_refl (I : Inv X pins σ H s) : ∀ (ds es : List D) {xs : List V}, Reps X.K H ds xs → Reps X.K H es xs → eqDs ds es = true
  | [], [], _, _, _ => by simp [eqDs]
  | d :: ds, e :: es, [], h1, _ => by unfold Reps at h1; exact h1.elim
  | d :: ds, e :: es, x :: xs, h1, h2 => by
    unfold Reps at h1 h2
    unfold eqDs
    rw [rep_refl I d e h1.1 h2.1, reps_refl I ds es h1.2 h2.2]
    rfl
  | [], e :: es, [], _, h2 => by unfold Reps at h2; exact h2.elim
  | [], e :: es, _ :: _, h1, _ => by unfold Reps at h1; exact h1.elim
  | d :: ds, [], [], h1, _ => by unfold Reps at h1; exact h1.elim
  | d :: ds, [], _ :: _, _, h2 => by unfold Reps at h2; exact h2.elim
end
/-! ### == and != of trees -/
theorem leaf_ref {A : Around} {x : V} {u : Value} {p : Addr} {its : Array Value} (f : flatV x = true) (r : RelV x u) (hu : A.units < cLine) (h : s.heap.IsTuple p its ∨ s.heap.IsList p its) : SeqAt.EqAt A s u (.ref p) false ∧ SeqAt.EqAt A s (.ref p) u false := by
  cases x with
  | non => cases r; rcases h with h | h <;> exact ⟨by first | exact SeqAt.EqAt.none_tuple h hu | exact SeqAt.EqAt.none_list h hu, by first | exact SeqAt.EqAt.tuple_none h hu | exact SeqAt.EqAt.list_none h hu⟩
  | bl b => cases r; rcases h with h | h <;> exact ⟨by first | exact SeqAt.EqAt.bool_tuple _ h hu | exact SeqAt.EqAt.bool_list _ h hu, by first | exact SeqAt.EqAt.tuple_bool _ h hu | exact SeqAt.EqAt.list_bool _ h hu⟩
  | int i => obtain ⟨t, rfl⟩ := r; rcases h with h | h <;> exact ⟨by first | exact SeqAt.EqAt.int_tuple _ _ h hu | exact SeqAt.EqAt.int_list _ _ h hu, by first | exact SeqAt.EqAt.tuple_int _ _ h hu | exact SeqAt.EqAt.list_int _ _ h hu⟩
  | str i => obtain ⟨t, rfl⟩ := r; rcases h with h | h <;> exact ⟨by first | exact SeqAt.EqAt.str_tuple _ _ h hu | exact SeqAt.EqAt.str_list _ _ h hu, by first | exact SeqAt.EqAt.tuple_str _ _ h hu | exact SeqAt.EqAt.list_str _ _ h hu⟩
  | _ => cases f
theorem Reps.get {K : PySem.W.Frag} {H : Hp} : ∀ {ds : List D} {xs : List V}, Reps K H ds xs → ∀ (j : Nat) (d : D), ds[j]? = some d → ∃ x, xs[j]? = some x ∧ Rep K H d x
  | [], [], _, j, d, e => by simp at e
  | a :: ds, x :: xs, h, 0, d, e => by
    unfold Reps at h
    have : a = d := by simpa using e
    subst this
    exact ⟨x, rfl, h.1⟩
  | a :: ds, x :: xs, h, j + 1, d, e => by
    unfold Reps at h
    exact h.2.get j d (by simpa using e)
  | [], _ :: _, h, _, _, _ => by unfold Reps at h; exact h.elim
  | _ :: _, [], h, _, _, _ => by unfold Reps at h; exact h.elim
theorem dep_get : ∀ {ds : List D} {j : Nat} {d : D}, ds[j]? = some d → dep d ≤ deps ds
  | a :: ds, 0, d, e => by
    have : a = d := by simpa using e
    subst this
    unfold deps
    exact Nat.le_max_left _ _
  | a :: ds, j + 1, d, e => by
    have := dep_get (ds := ds) (j := j) (d := d) (by simpa using e)
    unfold deps
    exact Nat.le_trans this (Nat.le_max_right _ _)
  | [], _, _, e => by simp at e
/-- item by item, given the rule for the items -/
theorem its_at {A : Around} {ds es : List D} {xs ys : List V} {us ws : List Value} (r1 : Reps X.K H ds xs) (r2 : Reps X.K H es ys) (v1 : Vals xs us) (v2 : Vals ys ws)
    (ih : ∀ d e x y u w, d ∈ ds → Rep X.K H d x → Rep X.K H e y → RelV x u → RelV y w → SeqAt.EqAt A s u w (eqD d e)) :
    ∀ j (h1 : j < us.toArray.size) (h2 : j < ws.toArray.size), SeqAt.EqAt A s us.toArray[j] ws.toArray[j] (itE ds es j) := by
  intro j h1 h2
  have l1 := v1.length
  have l2 := v2.length
  have m1 := r1.length
  have m2 := r2.length
  rw [List.size_toArray] at h1 h2
  have g1 : ds[j]? = some ds[j] := List.getElem?_eq_getElem (by omega)
  have g2 : es[j]? = some es[j] := List.getElem?_eq_getElem (by omega)
  obtain ⟨x, ex, rx⟩ := r1.get j _ g1
  obtain ⟨y, ey, ry⟩ := r2.get j _ g2
  obtain ⟨u, eu, qu⟩ := v1.get ex
  obtain ⟨w, ew, qw⟩ := v2.get ey
  have c1 : us.toArray[j] = u := by
    have := (List.getElem?_eq_some_iff.mp eu).2
    simpa using this
  have c2 : ws.toArray[j] = w := by
    have := (List.getElem?_eq_some_iff.mp ew).2
    simpa using this
  have e : itE ds es j = eqD ds[j] es[j] := by unfold itE; rw [g1, g2]
  rw [c1, c2, e]
  exact ih _ _ _ _ _ _ (List.getElem_mem _) rx ry qu qw
theorem rep_eq (I : Inv X pins σ H s) : ∀ (n : Nat) (A : Around) (d e : D) (x y : V) (u w : Value), dep d ≤ n → A.units + n < cLine → Rep X.K H d x → Rep X.K H e y → RelV x u → RelV y w → SeqAt.EqAt A s u w (eqD d e) := by
  intro n
  induction n with
  | zero =>
    intro A d e x y u w hd hu r1 r2 q1 q2
    cases d with
    | leaf v =>
      unfold Rep at r1
      obtain ⟨rfl, f1⟩ := r1
      cases e with
      | leaf v' =>
        unfold Rep at r2
        obtain ⟨rfl, f2⟩ := r2
        unfold eqD
        exact eqAt_V q1 q2 f1 f2
      | tup es =>
        unfold Rep at r2
        obtain ⟨p, ys, rfl, t, _⟩ := r2
        cases q2
        obtain ⟨_, _, i, _⟩ := I.tuple t
        unfold eqD
        exact (leaf_ref f1 q1 hu (.inl i)).1
      | lst es =>
        unfold Rep at r2
        obtain ⟨p, ys, rfl, t, _⟩ := r2
        cases q2
        obtain ⟨_, _, i, _⟩ := I.list t
        unfold eqD
        exact (leaf_ref f1 q1 hu (.inr i.isList)).1
    | tup ds => unfold dep at hd; omega
    | lst ds => unfold dep at hd; omega
  | succ n ih =>
    intro A d e x y u w hd hu r1 r2 q1 q2
    have hu0 : A.units < cLine := by omega
    have hu1 : A.in1.units + n < cLine := by show A.units + 1 + n < cLine; omega
    cases d with
    | leaf v =>
      unfold Rep at r1
      obtain ⟨rfl, f1⟩ := r1
      cases e with
      | leaf v' =>
        unfold Rep at r2
        obtain ⟨rfl, f2⟩ := r2
        unfold eqD
        exact eqAt_V q1 q2 f1 f2
      | tup es =>
        unfold Rep at r2
        obtain ⟨p, ys, rfl, t, _⟩ := r2
        cases q2
        obtain ⟨_, _, i, _⟩ := I.tuple t
        unfold eqD
        exact (leaf_ref f1 q1 hu0 (.inl i)).1
      | lst es =>
        unfold Rep at r2
        obtain ⟨p, ys, rfl, t, _⟩ := r2
        cases q2
        obtain ⟨_, _, i, _⟩ := I.list t
        unfold eqD
        exact (leaf_ref f1 q1 hu0 (.inr i.isList)).1
    | tup ds =>
      have r1' := r1
      unfold Rep at r1
      obtain ⟨p, xs, rfl, t1, s1⟩ := r1
      cases q1
      obtain ⟨us, v1, i1, _⟩ := I.tuple t1
      cases e with
      | leaf v' =>
        unfold Rep at r2
        obtain ⟨rfl, f2⟩ := r2
        unfold eqD
        exact (leaf_ref f2 q2 hu0 (.inl i1)).2
      | lst es =>
        unfold Rep at r2
        obtain ⟨q, ys, rfl, t2, _⟩ := r2
        cases q2
        obtain ⟨_, _, i2, _⟩ := I.list t2
        unfold eqD
        exact SeqAt.EqAt.tuple_list i1 i2.isList hu0
      | tup es =>
        have r2' := r2
        unfold Rep at r2
        obtain ⟨q, ys, rfl, t2, s2⟩ := r2
        cases q2
        by_cases pq : p = q
        · subst pq
          rw [rep_refl I _ _ r1' r2']
          exact SeqAt.EqAt.same _
        obtain ⟨ws, v2, i2, _⟩ := I.tuple t2
        have hdd : deps ds ≤ n := by unfold dep at hd; omega
        have := SeqAt.EqAt.of_refs pq (SeqAt.RcAt.tuples i1 i2 hu0 (its_at s1 s2 v1 v2 fun d e x y u w hm ra rb qa qb => by
          obtain ⟨j, hj, ej⟩ := List.mem_iff_getElem.mp hm
          have hde : dep d ≤ deps ds := dep_get (j := j) (by rw [List.getElem?_eq_getElem hj, ej])
          exact ih A.in1 d e x y u w (by omega) hu1 ra rb qa qb))
        rw [List.size_toArray, List.size_toArray, ← v1.length, ← v2.length, ← s1.length, ← s2.length, all_it] at this
        unfold eqD
        exact this
    | lst ds =>
      have r1' := r1
      unfold Rep at r1
      obtain ⟨p, xs, rfl, t1, s1⟩ := r1
      cases q1
      obtain ⟨us, v1, i1, _⟩ := I.list t1
      cases e with
      | leaf v' =>
        unfold Rep at r2
        obtain ⟨rfl, f2⟩ := r2
        unfold eqD
        exact (leaf_ref f2 q2 hu0 (.inr i1.isList)).2
      | tup es =>
        unfold Rep at r2
        obtain ⟨q, ys, rfl, t2, _⟩ := r2
        cases q2
        obtain ⟨_, _, i2, _⟩ := I.tuple t2
        unfold eqD
        exact SeqAt.EqAt.list_tuple i1.isList i2 hu0
      | lst es =>
        have r2' := r2
        unfold Rep at r2
        obtain ⟨q, ys, rfl, t2, s2⟩ := r2
        cases q2
        by_cases pq : p = q
        · subst pq
          rw [rep_refl I _ _ r1' r2']
          exact SeqAt.EqAt.same _
        obtain ⟨ws, v2, i2, _⟩ := I.list t2
        have hdd : deps ds ≤ n := by unfold dep at hd; omega
        unfold eqD
        by_cases hl : ds.length = es.length
        · have hsz : us.toArray.size = ws.toArray.size := by rw [List.size_toArray, List.size_toArray, ← v1.length, ← v2.length, ← s1.length, ← s2.length]; exact hl
          have := SeqAt.EqAt.of_refs pq (SeqAt.RcAt.lists i1.isList i2.isList hsz hu0 (its_at s1 s2 v1 v2 fun d e x y u w hm ra rb qa qb => by
            obtain ⟨j, hj, ej⟩ := List.mem_iff_getElem.mp hm
            have hde : dep d ≤ deps ds := dep_get (j := j) (by rw [List.getElem?_eq_getElem hj, ej])
            exact ih A.in1 d e x y u w (by omega) hu1 ra rb qa qb))
          rw [List.size_toArray, ← v1.length, ← s1.length, all_it' hl] at this
          exact this
        · have hsz : (us.toArray.size != ws.toArray.size) = true := by
            rw [List.size_toArray, List.size_toArray, ← v1.length, ← v2.length, ← s1.length, ← s2.length]
            simpa using hl
          have e : eqDs ds es = false := by
            rw [Bool.eq_false_iff]
            intro z
            exact hl (eqDs_len z)
          rw [e]
          exact SeqAt.EqAt.of_refs pq (SeqAt.RcAt.lists_lengths i1.isList i2.isList hsz hu0)
/-- one kind of container -/
def kin : D → D → Bool
  | .tup _, .tup _ => true
  | .lst _, .lst _ => true
  | _, _ => false
def rEqR (K : PySem.W.Frag) (neg : Bool) : R2 := fun x y H Q => ∃ d e : D, Rep K H d x ∧ Rep K H e y ∧ kin d e = true ∧ dep d ≤ 60 ∧ Q (.bl (if neg then !eqD d e else eqD d e)) H
theorem items_deep {A : Around} (I : Inv X pins σ H s) (hu : A.units + 64 < cLine) {ds es : List D} {xs ys : List V} {us ws : List Value} (hd : deps ds ≤ 60) (s1 : Reps X.K H ds xs) (s2 : Reps X.K H es ys) (v1 : Vals xs us) (v2 : Vals ys ws) :
    ∀ j (h1 : j < us.toArray.size) (h2 : j < ws.toArray.size), SeqAt.EqAt A.in1 s us.toArray[j] ws.toArray[j] (itE ds es j) :=
  its_at s1 s2 v1 v2 fun d e x y u w hm ra rb qa qb => by
    obtain ⟨j, hj, ej⟩ := List.mem_iff_getElem.mp hm
    have hde : dep d ≤ deps ds := dep_get (j := j) (by rw [List.getElem?_eq_getElem hj, ej])
    exact rep_eq I 60 A.in1 d e x y u w (by omega) (by show A.units + 1 + 60 < cLine; omega) ra rb qa qb
theorem op_eqR (hu : X.A.units + 64 < cLine) : OpR X (compareOp .Eq) (rEqR X.K false) := by
  intro pins s σ H x y v u Q I rx ry h
  obtain ⟨d, e, r1, r2, hk, hd, q⟩ := h
  have hu0 : X.A.units < cLine := by omega
  cases d with
  | leaf a => cases e <;> cases hk
  | tup ds =>
    cases e with
    | leaf b => cases hk
    | lst es => cases hk
    | tup es =>
      unfold Rep at r1 r2
      obtain ⟨p, xs, rfl, t1, s1⟩ := r1
      obtain ⟨p', ys, rfl, t2, s2⟩ := r2
      cases rx; cases ry
      obtain ⟨us, v1, i1, _⟩ := I.tuple t1
      obtain ⟨ws, v2, i2, _⟩ := I.tuple t2
      refine SeqAt.eq_tupleAt i1 i2 hu0 (items_deep I hu (by unfold dep at hd; omega) s1 s2 v1 v2) ?_
      rw [List.size_toArray, List.size_toArray, ← v1.length, ← v2.length, ← s1.length, ← s2.length, all_it]
      refine ⟨.bl _, H, I, rfl, ?_⟩
      unfold eqD at q
      exact q
  | lst ds =>
    cases e with
    | leaf b => cases hk
    | tup es => cases hk
    | lst es =>
      unfold Rep at r1 r2
      obtain ⟨p, xs, rfl, t1, s1⟩ := r1
      obtain ⟨p', ys, rfl, t2, s2⟩ := r2
      cases rx; cases ry
      obtain ⟨us, v1, i1, _⟩ := I.list t1
      obtain ⟨ws, v2, i2, _⟩ := I.list t2
      unfold eqD at q
      by_cases hl : ds.length = es.length
      · have hsz : us.toArray.size = ws.toArray.size := by rw [List.size_toArray, List.size_toArray, ← v1.length, ← v2.length, ← s1.length, ← s2.length]; exact hl
        refine SeqAt.eq_listAt i1.isList i2.isList hsz hu0 (items_deep I hu (by unfold dep at hd; omega) s1 s2 v1 v2) ?_
        rw [List.size_toArray, ← v1.length, ← s1.length, all_it' hl]
        exact ⟨.bl _, H, I, rfl, q⟩
      · have hsz : (us.toArray.size != ws.toArray.size) = true := by
          rw [List.size_toArray, List.size_toArray, ← v1.length, ← v2.length, ← s1.length, ← s2.length]
          simpa using hl
        have e : eqDs ds es = false := by
          rw [Bool.eq_false_iff]
          intro z
          exact hl (eqDs_len z)
        rw [e] at q
        exact SeqAt.eq_list_lengthsAt i1.isList i2.isList hsz hu0 ⟨.bl _, H, I, rfl, q⟩
theorem op_neR (hu : X.A.units + 64 < cLine) : OpR X (compareOp .NotEq) (rEqR X.K true) := by
  intro pins s σ H x y v u Q I rx ry h
  obtain ⟨d, e, r1, r2, hk, hd, q⟩ := h
  have hu0 : X.A.units < cLine := by omega
  cases d with
  | leaf a => cases e <;> cases hk
  | tup ds =>
    cases e with
    | leaf b => cases hk
    | lst es => cases hk
    | tup es =>
      unfold Rep at r1 r2
      obtain ⟨p, xs, rfl, t1, s1⟩ := r1
      obtain ⟨p', ys, rfl, t2, s2⟩ := r2
      cases rx; cases ry
      obtain ⟨us, v1, i1, _⟩ := I.tuple t1
      obtain ⟨ws, v2, i2, _⟩ := I.tuple t2
      refine SeqAt.RcNeAt.tuples i1 i2 hu0 (items_deep I hu (by unfold dep at hd; omega) s1 s2 v1 v2) _ _ _ _ ?_
      rw [List.size_toArray, List.size_toArray, ← v1.length, ← v2.length, ← s1.length, ← s2.length, all_it]
      refine ⟨.bl _, H, I, rfl, ?_⟩
      unfold eqD at q
      exact q
  | lst ds =>
    cases e with
    | leaf b => cases hk
    | tup es => cases hk
    | lst es =>
      unfold Rep at r1 r2
      obtain ⟨p, xs, rfl, t1, s1⟩ := r1
      obtain ⟨p', ys, rfl, t2, s2⟩ := r2
      cases rx; cases ry
      obtain ⟨us, v1, i1, _⟩ := I.list t1
      obtain ⟨ws, v2, i2, _⟩ := I.list t2
      unfold eqD at q
      by_cases hl : ds.length = es.length
      · have hsz : us.toArray.size = ws.toArray.size := by rw [List.size_toArray, List.size_toArray, ← v1.length, ← v2.length, ← s1.length, ← s2.length]; exact hl
        refine SeqAt.RcNeAt.lists i1.isList i2.isList hsz hu0 (items_deep I hu (by unfold dep at hd; omega) s1 s2 v1 v2) _ _ _ _ ?_
        rw [List.size_toArray, ← v1.length, ← s1.length, all_it' hl]
        exact ⟨.bl _, H, I, rfl, q⟩
      · have hsz : (us.toArray.size != ws.toArray.size) = true := by
          rw [List.size_toArray, List.size_toArray, ← v1.length, ← v2.length, ← s1.length, ← s2.length]
          simpa using hl
        have e : eqDs ds es = false := by
          rw [Bool.eq_false_iff]
          intro z
          exact hl (eqDs_len z)
        rw [e] at q
        exact SeqAt.RcNeAt.lists_lengths i1.isList i2.isList hsz hu0 _ _ _ _ ⟨.bl _, H, I, rfl, q⟩
end
/-! ### how trees stay, and when they are one -/
mutual
theorem Rep.same {K : PySem.W.Frag} {H H' : Hp} (e : Same H H') : ∀ (d : D) {x : V}, Rep K H d x → Rep K H' d x
  | .leaf v, x, h => by unfold Rep at h ⊢; exact h
  | .tup ds, x, h => by
    unfold Rep at h ⊢
    obtain ⟨p, xs, h1, h2, h3⟩ := h
    exact ⟨p, xs, h1, L3.Same.tup e h2, Reps.same e ds h3⟩
  | .lst ds, x, h => by
    unfold Rep at h ⊢
    obtain ⟨p, xs, h1, h2, h3⟩ := h
    exact ⟨p, xs, h1, e.seq h2, Reps.same e ds h3⟩
theorem Reps.same {K : PySem.W.Frag} {H H' : Hp} (e : Same H H') : ∀ (ds : List D) {xs : List V}, Reps K H ds xs → Reps K H' ds xs
  | [], [], h => by unfold Reps; trivial
  | d :: ds, x :: xs, h => by
    unfold Reps at h ⊢
    exact ⟨Rep.same e d h.1, Reps.same e ds h.2⟩
  | [], _ :: _, h => by unfold Reps at h; exact h.elim
  | _ :: _, [], h => by unfold Reps at h; exact h.elim
end
end L3
set_option maxHeartbeats 4000000
namespace L3
open PySem PySem.Spec PyProof.Rows L2
/-! ### [e for x in .. if c] -/
def CompEndF (js : List Nat) (tc : TT) (te : TE) (σ : L2.St) (Q : VK) (J : It) (H1 : Hp) : Prop := ∃ W : Nat → Nat → List V → Hp → Prop, (∃ m, W 0 m [] H1) ∧ ∀ i m acc H2, W i m acc H2 →
  acc.length < sizeLine ∧ ((J.stop i H2 ∧ ∀ D, H2 D = none → Q (.ref D) (upd H2 D (.lst acc))) ∨
    (J.go i H2 ∧ ∀ x H3, J.yld i H2 x H3 → tc (some x :: capt js σ) H3 fun ok H4 => if ok = true then te (some x :: capt js σ) H4 fun v H5 => ∃ m', m' < m ∧ W (i + 1) m' (acc ++ [v]) H5 else ∃ m', m' < m ∧ W (i + 1) m' acc H4))
def tCompF (js : List Nat) (wi : TI) (tc : TT) (te : TE) : TE := fun σ H Q => wi σ H (CompEndF js tc te σ Q)
theorem comp_coreF {X : Cx} {elt iter cnd : Expr} {x : Str} {px : Pos} {scope : Scope} {cl : List (Str × Addr)} {pos : Pos} {wi : TI} {tc : TT} {te : TE} (ys : List Str) (js : List Nat)
    (hcm : X.calm = true) (hi : PI X (.Name x px) iter wi) (hc : ∀ C s H fp, PT (cxComp X scope cl C (x :: ys) s H fp).nox cnd tc) (he : ∀ C s H fp, PE (cxComp X scope cl C (x :: ys) s H fp).nox elt te)
    (hclos : closureFor scope X.env = pure cl := by rfl)
    (hcl : cl.map (fun p => X.env.cells.lookup p.1) = cl.map (fun p => some p.2) := by rfl)
    (hcell : (scope.names.all fun p => p.2 != .cell) = true := by rfl) (hkind : scope.kind = .function := by rfl)
    (hnames : (scope.names.all fun p => p.2 != .local || scope.names.lookup p.1 == some .local) = true := by rfl)
    (hx : scope.names.lookup x = some .local := by rfl)
    (hhas : ((relabel scope X.env).names.all fun p => (p.2 != .cell && p.2 != .free) || (cl.lookup p.1).isSome) = true := by rfl)
    (hnd : (x :: ys).Nodup := by decide)
    (hjs : js.map (fun j => X.N[j]?) = ys.map some := by rfl)
    (hys : (ys.all fun y => ((relabel scope X.env).names.lookup y == some .cell || (relabel scope X.env).names.lookup y == some .free) && (X.env.scope.names.lookup y == some .cell || X.env.scope.names.lookup y == some .free)) = true := by rfl)
    (hs : ∀ x, foldedSetIterable iter X.env x = pure x := by intro _; rfl)
    {pins : List (Addr × Obj)} {s : Shared} {σ : L2.St} {H : Hp} (R : V → Hp → Prop) (use : Option (Value → Sem Unit)) (Q : Value → Shared → Prop) (I : Inv X pins σ H s) (h : tCompF js wi tc te σ H R)
    (fin : ∀ (v : V) (u : Value) (H' : Hp) (s' : Shared) (C : Addr), Inv X pins σ H' s' → RelV v u → R v H' → (∃ m, s'.heap.Ns C m) → H' C = none → C ≠ X.env.locals → X.s₀.heap.objs.size ≤ C → (∀ y c, X.env.cells.lookup y = some c → c ≠ C) → (∀ p ∈ X.pn ++ pins, p.1 ≠ C) →
      compPost (model X.prog X.w) X.A X.xe use Q u C (.ok .next) s') :
    wpAny (model X.prog X.w) X.A (comprehension (.ListComp elt [⟨.Name x px, iter, [cnd], 0⟩] scope pos) scope X.env (firstIterPos [⟨.Name x px, iter, [cnd], 0⟩] pos) (newList []) false (eval iter X.env) use) Q X.xe s := by
  have hcell' : ∀ y ∈ scope.names, y.2 ≠ .cell := fun y hy => by
    have := List.all_eq_true.mp hcell y hy
    simpa using this
  have hnm : ∀ y ∈ scope.names, y.2 = .local → scope.names.lookup y.1 = some .local := fun y hy e => by
    have := List.all_eq_true.mp hnames y hy
    rw [e] at this
    simpa using this
  have clX : ∀ y c, cl.lookup y = some c → X.env.cells.lookup y = some c := fun y c e => by
    have hm := PySem.mem_of_lookup e
    obtain ⟨k, hk, e2⟩ := List.mem_iff_getElem.mp hm
    have := congrArg (fun l => l[k]?) hcl
    simp only [List.getElem?_map, List.getElem?_eq_getElem hk, Option.map_some, e2] at this
    exact Option.some.inj this
  have has : ∀ y, ((relabel scope X.env).names.lookup y = some .cell ∨ (relabel scope X.env).names.lookup y = some .free) → ∃ c, cl.lookup y = some c := fun y hy => by
    have key : ∀ k : NameKind, (k = .cell ∨ k = .free) → (relabel scope X.env).names.lookup y = some k → ∃ c, cl.lookup y = some c := fun k hk e => by
      have := List.all_eq_true.mp hhas _ (PySem.mem_of_lookup e)
      rcases hk with rfl | rfl <;> exact Option.isSome_iff_exists.mp (by simpa using this)
    rcases hy with e | e
    · exact key _ (.inl rfl) e
    · exact key _ (.inr rfl) e
  refine wpAny_comprehension_free (use := use) rfl hs hclos hkind hnm (thn (hi pins s σ H _ I h) fun v s1 h1 => thn h1 fun itv s2 h2 => ?_)
  obtain ⟨it, fp, tn, J, H2, e, I2, T, st2, f2, W, ⟨m0, w0⟩, turn⟩ := h2
  subst e
  refine wpAny_newObj_type (wpAny_newFunctionEnv hcell' (by intro y hy; simp at hy) (fun h₁ hns hsb => ?_) hkind)
  dsimp only at hns hsb ⊢
  generalize hG : s2.heap.push { cls := .type "list", dict := none, data := .seq ([] : List Value).toArray } = G at hns hsb ⊢
  have szG : G.objs.size = s2.heap.objs.size + 1 := by rw [← hG, Heap.size_push]
  have inG : ∀ b o, s2.heap.get? b = some o → G.get? b = some o := fun b o e => hG ▸ Heap.get?_push_of_some _ e
  have ltC : ∀ b o, s2.heap.get? b = some o → b ≠ G.objs.size := fun b o e => by rw [szG]; exact Nat.ne_of_lt (Nat.lt_succ_of_lt (Heap.lt_size e))
  have ltD : ∀ b o, s2.heap.get? b = some o → b ≠ s2.heap.objs.size := fun b o e => Nat.ne_of_lt (Heap.lt_size e)
  have DC : s2.heap.objs.size ≠ G.objs.size := by rw [szG]; omega
  have old : ∀ b o, s2.heap.get? b = some o → h₁.get? b = some o := fun b o e => hsb.extBut b o (ltC b o e) (Heap.get?_push_of_some _ (inG b o e))
  have hacc : h₁.PlainList s2.heap.objs.size #[] := ⟨_, hsb.extBut _ _ DC (Heap.get?_push_of_some _ (hG ▸ Heap.get?_push_size _ rfl))⟩
  have fpO : ∀ b ∈ fp, ∃ o, s2.heap.get? b = some o := fun b hb => let ⟨o, e, _⟩ := T.obj 0 _ st2 b hb; ⟨o, e⟩
  have stkO : ∀ b ∈ frs X.stack, ∃ o, s2.heap.get? b = some o := fun b hb => by
    obtain ⟨_, o, ho, _⟩ := I2.stack.mem hb
    exact ⟨o, ho⟩
  have freshH : ∀ a, s2.heap.objs.size ≤ a → H2 a = none := fun a ha => I2.hok.fresh ha
  have stkFp : ∀ b ∈ fp, b ∉ frs X.stack := fun b hb z => by
    rcases List.mem_cons.mp (I2.stkSub b z) with q | q
    · exact (f2 b hb).2.1 q
    · exact (f2 b hb).2.2.1 q
  have okX : (cxComp X scope cl G.objs.size (x :: ys) s2 H2 fp).Ok := {
    mod := I2.ok.mod
    kind := hkind
    glob := I2.ok.glob
    blt := I2.ok.blt
    above := by show s2.heap.objs.size ≤ G.objs.size; rw [szG]; omega
    inj := fun y z c e1 e2 => I2.ok.inj y z c (clX y c e1) (clX z c e2)
    has := fun y hy => has y hy
    cab := fun y c e _ => absurd (show false = true from e) Bool.false_ne_true
    hd := I2.ok.hd
    frames := I2.ok.frames
    stk := .inl rfl
    exf := fun b hb => by
      obtain ⟨o, e⟩ := fpO b hb
      exact ⟨ltC b o e, fun y c e1 => (f2 b hb).2.2.2.2.1 y c (clX y c e1)⟩
    bs := I2.bs
    bsz := Nat.le_trans I2.ok.bsz I2.sz
    noex := fun b o e hb => by
      rcases (f2 b hb).2.2.2.1 with q | q
      · exact I2.ok.noex b o e q
      · exact Nat.lt_irrefl _ (Nat.lt_of_lt_of_le (Nat.lt_of_lt_of_le (Heap.lt_size e) I2.ok.bsz) q)
    exfs := stkFp
    funs := I2.stack
    frf := I2.stkFree }
  have lenY : js.length = ys.length := by have := congrArg List.length hjs; simpa using this
  have I0 : Inv (cxComp X scope cl G.objs.size (x :: ys) s2 H2 fp) [] (none :: capt js σ) H2 { s2 with heap := h₁, toks := s2.toks + ([] : List (Str × Value)).length } := by
    refine ⟨okX, rfl, I2.bare, Un.kept old, ⟨_, hns, fun k y v e1 e2 e3 => ?_⟩, fun y c e => ?_, freshH _ (by show s2.heap.objs.size ≤ G.objs.size; rw [szG]; omega), fun y c e => I2.freeC y c (clX y c e), fun p hp => absurd (show p ∈ ([] : List (Addr × Obj)) from hp) (by simp), I2.hok.kept old, ?_⟩
    · cases k with
      | zero => cases e2
      | succ k =>
        have e1' : ys[k]? = some y := e1
        have e2' : (capt js σ)[k]? = some (some v) := e2
        unfold capt at e2'
        rw [List.getElem?_map] at e2'
        cases ej : js[k]? with
        | none => rw [ej] at e2'; cases e2'
        | some j =>
          rw [ej] at e2'
          have e4 : (σ[j]?).join = some v := Option.some.inj e2'
          have e5 : σ[j]? = some (some v) := by
            cases q : σ[j]? with
            | none => rw [q] at e4; cases e4
            | some o => rw [q] at e4; exact congrArg some e4
          have e6 : X.N[j]? = some y := by
            have := congrArg (fun l => l[k]?) hjs
            simp only [List.getElem?_map, ej, e1', Option.map_some] at this
            exact Option.some.inj this
          have hy := List.all_eq_true.mp hys y (List.mem_of_getElem? e1')
          simp only [Bool.and_eq_true, Bool.or_eq_true, beq_iff_eq] at hy
          obtain ⟨ky, ko⟩ := hy
          obtain ⟨m, hn, hl⟩ := I2.loc
          obtain ⟨u, r, lk⟩ := hl j y v e6 e5 (.inr ko)
          refine ⟨u, r, .inr ⟨ky, ?_⟩⟩
          rcases lk with ⟨kl, _⟩ | ⟨_, c, ec, hc⟩
          · have kl' : X.env.scope.names.lookup y = some .local := kl
            rw [kl'] at ko
            rcases ko with z | z <;> cases z
          · obtain ⟨c', ec'⟩ := has y ky
            have := clX y c' ec'
            rw [ec] at this
            cases this
            obtain ⟨o, ho, hd⟩ := hc
            exact ⟨c, ec', o, old c o ho, hd⟩
    · obtain ⟨v, o, ho, hd⟩ := I2.cell y c (clX y c e)
      exact ⟨v, o, old c o ho, hd⟩
    · show (none :: capt js σ).length = (x :: ys).length
      simp [capt, lenY]
  -- one pass through the loop
  have loop : ∀ s3 : Shared, s3 = { s2 with heap := h₁, toks := s2.toks + ([] : List (Str × Value)).length } →
      codeAny (model X.prog X.w) X.A (.compLoop (.ListComp elt [⟨.Name x px, iter, [cnd], 0⟩] scope pos) 0 (.ref it) (.ref s2.heap.objs.size) (compEnvC scope cl G.objs.size X.env))
        (compPost (model X.prog X.w) X.A X.xe use Q (.ref s2.heap.objs.size) G.objs.size) s3 := by
    rintro s3 rfl
    have stat : ∀ {H' : Hp} (o : Obj), (∀ b ∈ fp, H' b = none) → ∀ b ∈ fp, FpOk (cxComp X scope cl G.objs.size (x :: ys) s2 H2 fp) [(s2.heap.objs.size, o)] H' b := fun {H'} o hn b hb => by
      obtain ⟨ob, eb⟩ := fpO b hb
      refine ⟨hn b hb, ltC b ob eb, stkFp b hb, .inl hb, fun y c e1 => (f2 b hb).2.2.2.2.1 y c (clX y c e1), fun p hp => ?_⟩
      have hp' : p = (s2.heap.objs.size, o) := by
        have : p ∈ [(s2.heap.objs.size, o)] := hp
        simpa using this
      rw [hp']
      exact Ne.symm (ltD b ob eb)
    refine codeAny_compLoop_tests (fun n s' => ∃ i acc its H3, Inv (cxComp X scope cl G.objs.size (x :: ys) s2 H2 fp) [] (none :: capt js σ) H3 s' ∧ tn i s'.heap ∧ (∀ b ∈ fp, H3 b = none) ∧ s'.heap.PlainList s2.heap.objs.size its.toArray ∧ Vals acc its ∧ H3 s2.heap.objs.size = none ∧ W i n acc H3)
      ?_ m0 ⟨0, [], [], H2, I0, T.keep _ _ _ st2 fun b _ o e => old b o e, fun b hb => (f2 b hb).1, hacc, .nil, freshH _ (Nat.le_refl _), w0⟩
    rintro n s3 ⟨i, acc, its, H3, I3, st3, fr3, ⟨nn, pl3⟩, va3, hD3, w3⟩
    obtain ⟨hlen, cs⟩ := turn i n acc H3 w3
    have hal : acc.length = its.length := va3.length
    have nD : s2.heap.objs.size ∉ frs X.stack := fun z => by
      obtain ⟨o, e⟩ := stkO _ z
      exact ltD _ o e rfl
    have I3p : Inv (cxComp X scope cl G.objs.size (x :: ys) s2 H2 fp) [(s2.heap.objs.size, { cls := .type "list", data := .seq its.toArray nn })] (none :: capt js σ) H3 s3 := I3.pins_of fun p hp => by
      have e : p = (s2.heap.objs.size, { cls := .type "list", data := .seq its.toArray nn }) := by simpa using hp
      subst e
      exact ⟨pl3, hD3, DC, nD, fun v z => nomatch z⟩
    rcases cs with ⟨stop, q⟩ | ⟨go, step⟩
    · refine thn (T.done (cxComp X scope cl G.objs.size (x :: ys) s2 H2 fp) rfl rfl rfl hcm i _ s3 _ H3 _ I3p (stat _ fr3) st3 stop) fun r s4 hr => ?_
      obtain ⟨hr, I4⟩ := hr
      subst hr
      have pl4 := (I4.pin (s2.heap.objs.size, { cls := .type "list", data := .seq its.toArray nn }) (by simp)).1
      obtain ⟨m, hn, _⟩ := I4.loc
      have B := I4.base
      have un' : Un (frs X.stack) fp H2 (upd H3 s2.heap.objs.size (.lst acc)) s2.heap s4.heap := by
        refine ⟨fun b o e n hb hx => B.keep b o e n hb hx, fun b o e n hb hx => B.slot b o e n hb hx, fun b o e n hx => ?_, fun b o e hx => B.there b o e hx, fun b xs e => ?_, fun b o u e => ?_, fun b ps e => ?_⟩
        · rw [upd_ne (ltD b o e)]
          exact B.free b o e n hx
        · have z := B.tups b xs e
          rw [upd_ne (ne_of_none z hD3)]
          exact z
        · have z := B.frzs b o u e
          rw [upd_ne (ne_of_none z hD3)]
          exact z
        · obtain ⟨more, z⟩ := B.tbls b ps e
          exact ⟨more, by rw [upd_ne (ne_of_none z hD3)]; exact z⟩
      have freeC4 : H3 G.objs.size = none := I4.free
      have hok' : HOk X.prog X.w (upd H3 s2.heap.objs.size (.lst acc)) s4.heap := fun b u e => by
        by_cases hb : b = s2.heap.objs.size
        · subst hb
          rw [upd_same] at e
          cases e
          exact ⟨Nat.le_of_lt hlen, its, nn, va3, pl4⟩
        · rw [upd_ne hb] at e
          exact (I4.hok b u e).stay (fun c v hc z => z) (fun c z => by rw [upd_ne (ne_of_none z hD3)]; exact z) fun c xs z => by rw [upd_ne (ne_of_none z hD3)]; exact z
      have hch : ∀ b ∈ fp, (b ∈ X.ex ∨ X.s₀.heap.objs.size ≤ b) ∧ b ≠ X.env.locals ∧ (∀ y c, X.env.cells.lookup y = some c → c ≠ b) ∧ ∀ p ∈ X.pn ++ pins, p.1 ≠ b := fun b hb => by
        obtain ⟨_, z1, _, z3, z4, z5⟩ := f2 b hb
        exact ⟨z3, z1, z4, z5⟩
      have I5 := I2.call' (s' := s4) (ch := fp) I4.os un' hok' I4.bare hch
      refine fin (.ref s2.heap.objs.size) _ _ s4 G.objs.size I5 rfl (q _ hD3) ⟨m, hn⟩ ?_ ?_ ?_ (fun y c e => ?_) fun p hp => ?_
      · rw [upd_ne (Ne.symm DC)]; exact freeC4
      · rw [szG]; exact Nat.ne_of_gt (Nat.lt_succ_of_lt I2.lt)
      · rw [szG]; exact Nat.le_succ_of_le I2.sz
      · obtain ⟨v, o, ho, _⟩ := I2.cell y c e
        exact ltC c o ho
      · exact ltC p.1 p.2 (I2.pin p hp).1
    · refine thn (T.item (cxComp X scope cl G.objs.size (x :: ys) s2 H2 fp) rfl rfl rfl hcm i _ s3 _ H3 _ I3p (stat _ fr3) st3 go) fun r s4 hr => ?_
      obtain ⟨u, hr, h4⟩ := hr
      subst hr
      show wpAny (model X.prog X.w) X.A (letOwnedTupleGo (.Name x px) (.ref it) u >>= fun _ => assign (.Name x px) (compEnvC scope cl G.objs.size X.env) u) _ _ s4
      refine wpAny_bind (thn h4 fun _ s5 h5 => ?_)
      obtain ⟨v, H5, I5, r5, y5, st5, fr5⟩ := h5
      have I5' := I5.pinned (stat _ fr5) (T.obj _ _ st5)
      refine wpAny_assign_Name (store_ok (i := 0) I5' hnd rfl (.inl (lookup_relabel_local hx)) r5 (fun s6 I6 => ?_) (.inr (lookup_relabel_local hx)))
      have I6' : Inv (cxComp X scope cl G.objs.size (x :: ys) s2 H2 fp).nox _ _ H5 s6 := I6.wish _
      -- the list goes on, or the item is passed over
      have back : ∀ (H7 : Hp) (s7 : Shared) (σ7 : L2.St) (h' : Heap) (acc' : List V) (its' : List Value) (m' : Nat), Inv (cxComp X scope cl G.objs.size (x :: ys) s2 H2 fp) ([(s2.heap.objs.size, { cls := .type "list", data := .seq its.toArray nn })] ++ pinsAt fp s5.heap) (some v :: capt js σ) H7 s7 →
          Heap.SameBut s2.heap.objs.size s7.heap h' → h'.PlainList s2.heap.objs.size its'.toArray → Vals acc' its' → m' < n → W (i + 1) m' acc' H7 →
          ∃ m, m < n ∧ ∃ i acc its H3, Inv (cxComp X scope cl G.objs.size (x :: ys) s2 H2 fp) [] (none :: capt js σ) H3 { s7 with heap := h' } ∧ tn i h' ∧ (∀ b ∈ fp, H3 b = none) ∧ h'.PlainList s2.heap.objs.size its.toArray ∧ Vals acc its ∧ H3 s2.heap.objs.size = none ∧ W i m acc H3 := by
        intro H7 s7 _ h' acc' its' m' I7 hsb' hp' va' hm' w7
        have pinD := I7.pin (s2.heap.objs.size, { cls := .type "list", data := .seq its.toArray nn }) (by simp)
        have pf : ∀ b ∈ fp, ∀ o, s5.heap.get? b = some o → s7.heap.get? b = some o ∧ H7 b = none := fun b hb o e => by
          have z := I7.pin (b, o) (List.mem_append_right _ (List.mem_append_right _ (mem_pinsAt hb e)))
          exact ⟨z.1, z.2.1⟩
        have I8 : Inv (cxComp X scope cl G.objs.size (x :: ys) s2 H2 fp) [] (none :: capt js σ) H7 { s7 with heap := h' } := by
          have I7u : Inv (cxComp X scope cl G.objs.size (x :: ys) s2 H2 fp) [] (none :: capt js σ) H7 s7 := (I7.pins_of (pins' := []) fun p hp => absurd hp (by simp)).weak (by simp) fun k v e => by
            cases k with
            | zero => cases e
            | succ k => exact e
          refine I7u.turned (t' := s7.toks) (it := s2.heap.objs.size) (fun b o hb e => hsb'.extBut b o hb e) pinD.2.1 DC (.inr (Nat.le_refl _)) (fun y c e => ?_) fun p hp => absurd (show p ∈ ([] : List (Addr × Obj)) from hp) (by simp)
          obtain ⟨v, o, ho, _⟩ := I2.cell y c (clX y c e)
          exact ltD c o ho
        refine ⟨m', hm', i + 1, acc', its', H7, I8, ?_, fun b hb => ?_, hp', va', pinD.2.1, w7⟩
        · refine T.keep _ _ _ st5 fun b hb o e => hsb'.extBut b o ?_ (pf b hb o e).1
          obtain ⟨ob, eb⟩ := fpO b hb
          exact ltD b ob eb
        · obtain ⟨o, e, _⟩ := T.obj _ _ st5 b hb
          exact (pf b hb o e).2
      simp only [List.forIn_cons, List.forIn_nil, if_true]
      refine wpAny_bind (wpAny_bind (wpAny_mono (hc G.objs.size s2 H2 fp _ s6 _ H5 _ I6' (step v H5 y5)) (fun ok s6a h6 => ?_) fun _ _ z => z.elim))
      obtain ⟨H6, I6a, q6⟩ := h6
      refine wpAny_pure (wpAny_pure ?_)
      cases ok with
      | false =>
        rw [if_neg (by decide)] at q6 ⊢
        obtain ⟨m', hm', w7⟩ := q6
        have I7 := I6a.unwish
        have pinD := I7.pin (s2.heap.objs.size, { cls := .type "list", data := .seq its.toArray nn }) (by simp)
        exact back H6 s6a (none :: capt js σ) s6a.heap acc its m' I7 (Heap.SameBut.refl _ _) ⟨nn, pinD.1⟩ va3 hm' w7
      | true =>
        rw [if_pos rfl] at q6 ⊢
        refine wpAny_mono (he G.objs.size s2 H2 fp _ s6a _ H6 _ I6a q6) (fun y s7 h7 => ?_) fun _ _ z => z.elim
        obtain ⟨v7, H7, I7, r7, m', hm', w7⟩ := h7
        have I7 := I7.unwish
        have pinD := I7.pin (s2.heap.objs.size, { cls := .type "list", data := .seq its.toArray nn }) (by simp)
        refine wpAny_list_append_plain (items := its.toArray) ⟨nn, pinD.1⟩ (fun h' hp' hsb' => ?_) (by rw [List.size_toArray, ← hal]; exact Nat.le_of_lt hlen)
        have e8 : its.toArray.push y = (its ++ [y]).toArray := by simp
        rw [e8] at hp'
        exact back H7 s7 (none :: capt js σ) h' (acc ++ [v7]) (its ++ [y]) m' I7 hsb' hp' (va3.append (.cons r7 .nil)) hm' w7
  exact codeAny_compStart_list (loop _ rfl) (T.self _ 0 _ _ _ (T.keep _ _ _ st2 fun b _ o e => old b o e) (loop _ rfl))


theorem pe_compF {X : Cx} {elt iter cnd : Expr} {x : Str} {px : Pos} {scope : Scope} {cl : List (Str × Addr)} {pos : Pos} {wi : TI} {tc : TT} {te : TE} (ys : List Str) (js : List Nat)
    (hcm : X.calm = true) (hi : PI X (.Name x px) iter wi) (hc : ∀ C s H fp, PT (cxComp X scope cl C (x :: ys) s H fp).nox cnd tc) (he : ∀ C s H fp, PE (cxComp X scope cl C (x :: ys) s H fp).nox elt te)
    (hclos : closureFor scope X.env = pure cl := by rfl)
    (hcl : cl.map (fun p => X.env.cells.lookup p.1) = cl.map (fun p => some p.2) := by rfl)
    (hcell : (scope.names.all fun p => p.2 != .cell) = true := by rfl) (hkind : scope.kind = .function := by rfl)
    (hnames : (scope.names.all fun p => p.2 != .local || scope.names.lookup p.1 == some .local) = true := by rfl)
    (hx : scope.names.lookup x = some .local := by rfl)
    (hhas : ((relabel scope X.env).names.all fun p => (p.2 != .cell && p.2 != .free) || (cl.lookup p.1).isSome) = true := by rfl)
    (hnd : (x :: ys).Nodup := by decide)
    (hjs : js.map (fun j => X.N[j]?) = ys.map some := by rfl)
    (hys : (ys.all fun y => ((relabel scope X.env).names.lookup y == some .cell || (relabel scope X.env).names.lookup y == some .free) && (X.env.scope.names.lookup y == some .cell || X.env.scope.names.lookup y == some .free)) = true := by rfl)
    (hs : ∀ x, foldedSetIterable iter X.env x = pure x := by intro _; rfl) : PE X (.ListComp elt [⟨.Name x px, iter, [cnd], 0⟩] scope pos) (tCompF js wi tc te) := by
  intro pins s σ H Q I h
  rw [eval_ListComp]
  refine comp_coreF ys js hcm hi hc he hclos hcl hcell hkind hnames hx hhas hnd hjs hys hs Q none (EP X pins σ Q) I h fun v u H' s' C I' r q hm h0 h1 h2 h3 h4 => ?_
  obtain ⟨m, hm⟩ := hm
  exact ⟨m, hm, fun h' hsb => ⟨v, H', inv_turn I' hsb h0 h1 h2 h3 h4, r, q⟩⟩
/-- y = [e for x in ..] on one row, y a local name -/
theorem ps_setCF {X : Cx} {elt iter cnd : Expr} {x : Str} {px : Pos} {scope : Scope} {cl : List (Str × Addr)} {pos : Pos} {wi : TI} {tc : TT} {te : TE} (ys : List Str) (js : List Nat)
    {i : Nat} {y : Str} {py spos : Pos} (hN : X.N.Nodup) (hi' : X.N[i]? = some y) (hy : X.env.kindOf y = some .local) (hcm : X.calm = true) (hi : PI X (.Name x px) iter wi) (hc : ∀ C s H fp, PT (cxComp X scope cl C (x :: ys) s H fp).nox cnd tc) (he : ∀ C s H fp, PE (cxComp X scope cl C (x :: ys) s H fp).nox elt te)
    (hclos : closureFor scope X.env = pure cl := by rfl)
    (hcl : cl.map (fun p => X.env.cells.lookup p.1) = cl.map (fun p => some p.2) := by rfl)
    (hcell : (scope.names.all fun p => p.2 != .cell) = true := by rfl) (hkind : scope.kind = .function := by rfl)
    (hnames : (scope.names.all fun p => p.2 != .local || scope.names.lookup p.1 == some .local) = true := by rfl)
    (hx : scope.names.lookup x = some .local := by rfl)
    (hhas : ((relabel scope X.env).names.all fun p => (p.2 != .cell && p.2 != .free) || (cl.lookup p.1).isSome) = true := by rfl)
    (hnd : (x :: ys).Nodup := by decide)
    (hjs : js.map (fun j => X.N[j]?) = ys.map some := by rfl)
    (hys : (ys.all fun y => ((relabel scope X.env).names.lookup y == some .cell || (relabel scope X.env).names.lookup y == some .free) && (X.env.scope.names.lookup y == some .cell || X.env.scope.names.lookup y == some .free)) = true := by rfl)
    (hs : ∀ x, foldedSetIterable iter X.env x = pure x := by intro _; rfl) (hsw : swapsWith (.ListComp elt [⟨.Name x px, iter, [cnd], 0⟩] scope pos) (some (.Name y py)) spos.line X.env = pure true := by rfl) : PS X (.Assign [.Name y py] (.ListComp elt [⟨.Name x px, iter, [cnd], 0⟩] scope pos) spos) (tAsg (tCompF js wi tc te) (gName i)) := by
  intro pins s σ H D I h
  rw [exec_Assign_Name_used _ _ _ _ hsw]
  refine wpAny_bind (wpAny_standAt (wpAny_bind ?_))
  have key := comp_coreF ys js hcm hi hc he hclos hcl hcell hkind hnames hx hhas hnd hjs hys hs (pos := pos) (fun v H' => D.nx (σ.set i (some v)) H') (some (assign (.Name y py) X.env)) (fun _ s' => SP X pins D .next s') I h fun v u H' s' C I' r q hm h0 h1 h2 h3 h4 => ?_
  · exact wpAny_bind (thn key fun _ s' hq => wpAny_pure (wpAny_pure hq))
  · refine wpAny_assign_Name (store_ok2 I' hN hi' (.inl hy) r (fun s2 I2 ch => ?_) (.inr hy))
    obtain ⟨b, sb, hb⟩ := ch
    obtain ⟨m, hm⟩ := hm
    have nb : C ≠ b := by
      rcases hb with rfl | hb
      · exact h1
      · exact Ne.symm (h3 y b hb)
    exact ⟨m, hm.sameBut sb nb, fun h' hsb => ⟨_, H', inv_turn I2 hsb h0 h1 h2 h3 h4, q⟩⟩


/-! ### the form one uses: over a list -/
theorem comp_listF {K : PySem.W.Frag} {a : Addr} {xs : List V} {js : List Nat} {tc : TT} {te : TE} {σ : L2.St} {H : Hp} {Q : VK} (Pv : Nat → List V → Hp → Prop) (h0 : Pv 0 [] H) (hl : ∀ i acc H, i ≤ xs.length → Pv i acc H → SqL K H a xs ∧ acc.length < sizeLine)
    (hs : ∀ i x acc H, i < xs.length → xs[i]? = some x → Pv i acc H → tc (some x :: capt js σ) H fun ok H' => if ok = true then te (some x :: capt js σ) H' fun v H'' => Nxt xs.length i (Pv (i + 1) (acc ++ [v]) H'') else Nxt xs.length i (Pv (i + 1) acc H')) (hd : ∀ acc H, Pv xs.length acc H → ∀ D, H D = none → Q (.ref D) (upd H D (.lst acc))) : CompEndF js tc te σ Q (Itl K a) H := by
  refine ⟨fun i m acc H => m = xs.length - i ∧ i ≤ xs.length ∧ Pv i acc H, ⟨xs.length, by simp, Nat.zero_le _, h0⟩, ?_⟩
  rintro i m acc H2 ⟨rfl, hi, p⟩
  obtain ⟨q, hz⟩ := hl i acc H2 hi p
  refine ⟨hz, ?_⟩
  by_cases hlt : i < xs.length
  · refine .inr ⟨⟨xs, xs[i], q, by simp [hlt]⟩, fun x H3 y => ?_⟩
    obtain ⟨e, y⟩ := y
    subst e
    exact hs i x acc _ hlt (y xs q) p
  · have e : i = xs.length := by omega
    subst e
    exact .inl ⟨⟨xs, q, Nat.le_refl _⟩, hd acc H2 p⟩
end L3
set_option maxHeartbeats 4000000
namespace L3
open PySem PySem.Spec PyProof.Rows L2
/-! ### xs[::-1] of a list -/
theorem rev_range (n : Nat) : sliceRange (sliceBounds none none (some (-1)) n).1 (sliceBounds none none (some (-1)) n).2.1 (sliceBounds none none (some (-1)) n).2.2 = (List.range n).map fun k => n - 1 - k := by
  have e1 : (sliceBounds none none (some (-1)) n).1 = (n : Int) - 1 := by simp [sliceBounds]
  have e2 : (sliceBounds none none (some (-1)) n).2.1 = -1 := by simp [sliceBounds]
  have e3 : (sliceBounds none none (some (-1)) n).2.2 = -1 := by simp [sliceBounds]
  rw [e1, e2, e3]
  unfold sliceRange
  have h0 : ¬ ((-1 : Int) > 0) := by decide
  have hc : (if (-1 : Int) > 0 then (if (n : Int) - 1 < -1 then (-1 - ((n : Int) - 1) + -1 - 1) / -1 else 0) else (if (n : Int) - 1 > -1 then ((n : Int) - 1 - -1 - -1 - 1) / (- -1) else 0)).toNat = n := by
    rw [if_neg h0]
    by_cases hn : (n : Int) - 1 > -1
    · rw [if_pos hn]
      have e : (- -1 : Int) = 1 := by decide
      rw [e, Int.ediv_one]
      omega
    · rw [if_neg hn]
      omega
  simp only [] at hc ⊢
  rw [hc]
  refine List.map_congr_left fun k hk => ?_
  have := List.mem_range.mp hk
  omega
theorem pick_rev (its : List Value) : slicePick its.toArray none none (some (-1)) = its.reverse.toArray := by
  unfold slicePick
  rw [rev_range]
  congr 1
  rw [List.filterMap_map]
  apply List.ext_getElem?
  intro j
  have key : ∀ n, n ≤ its.length → (List.range n).filterMap ((fun x => its.toArray[x]?) ∘ fun k => its.toArray.size - 1 - k) = its.reverse.take n := by
    intro n
    induction n with
    | zero => intro _; simp
    | succ n ih =>
      intro hn
      rw [List.range_succ, List.filterMap_append, ih (by omega), List.take_add_one]
      have hi : its.length - 1 - n < its.length := by omega
      have e : its.reverse[n]? = some its[its.length - 1 - n] := by
        rw [List.getElem?_reverse (by omega), List.getElem?_eq_getElem hi]
      rw [e]
      simp [hi]
  rw [List.size_toArray] at key ⊢
  rw [key its.length (Nat.le_refl _), List.take_of_length_le (by simp)]
theorem Vals.rev {xs : List V} {us : List Value} (r : Vals xs us) : Vals xs.reverse us.reverse := by
  induction r with
  | nil => exact .nil
  | cons h t ih =>
    rw [List.reverse_cons, List.reverse_cons]
    exact ih.append (.cons h .nil)
def tRev (K : PySem.W.Frag) (te : TE) : TE := fun σ H Q => te σ H fun x H1 => ∃ a xs, x = .ref a ∧ SqL K H1 a xs ∧ ∀ p, H1 p = none → Q (.ref p) (upd H1 p (.lst xs.reverse))
theorem pe_rev {X : Cx} {e : Expr} {te : TE} {j : Nat} {pc pu p2 pos : Pos} (he : PE X e te) : PE X (.Subscript e (.Slice none none (some (.UnaryOp .USub (.Constant (.int 1) j pc) pu)) p2) pos) (tRev X.K te) := by
  intro pins s σ H Q I h
  refine Subscript_ (thn (he pins s σ H _ I h) fun v s1 ⟨x, H1, I1, r1, q1⟩ => ?_)
  obtain ⟨a, xs, rfl, hx, q⟩ := q1
  cases r1
  refine wpAny_Slice ?_
  rw [evalPart_none]
  refine wpAny_pure (wpAny_pure ?_)
  have po := (po_some (X := X) (pe_un (X := X) (pos := pu) un_neg (pe_int (X := X) (i := 1) (j := j) (pos := pc)))) pins s1 σ H1 (fun i H2 => i = some (-1) ∧ H2 = H1) I1 ⟨1, rfl, -1, rfl, rfl, rfl⟩
  refine thn po fun vs s3 h3 => ?_
  obtain ⟨st, H3, I3, ps, rfl, rfl⟩ := h3
  have I4 : Inv X pins σ H3 { s3 with heap := s3.heap.push { cls := .type "slice", data := .fields #[.none, .none, vs] } } := I3.kept (t' := s3.toks) fun b ob q => Heap.get?_push_of_some _ q
  obtain ⟨its, r, ht, hz⟩ := I4.list hx
  have hlen := r.length
  show wpAny (model X.prog X.w) X.A (subscriptTail e (.Slice none none (some (.UnaryOp .USub (.Constant (.int 1) j pc) pu)) p2) (.ref a) (.ref s3.heap.objs.size)) (EP X pins σ Q) X.xe { s3 with heap := s3.heap.push { cls := .type "slice", data := .fields #[.none, .none, vs] } }
  refine tail_any (ops := [.ref a, .ref s3.heap.objs.size]) ht.isList.typeIs slot_list_getitem.lookup ?_ (by with_unfolding_all rfl)
  refine wpAny_getItem_list_slice ht.isList (Heap.IsSliceOf.new ..) .none .none ps (by simp) ?_ (by rw [List.size_toArray] <;> omega)
  rw [pick_rev]
  refine ⟨.ref _, _, I4.laid (t' := s3.toks) (o := .lst xs.reverse) (fun b ob q => Heap.get?_push_of_some _ q) (Nat.le_refl _) ?_, rfl, q _ (I4.hok.fresh (Nat.le_refl _))⟩
  exact ⟨by rw [List.length_reverse]; exact hz, _, 0, L3.Vals.rev r, Heap.get?_push_size _ rfl⟩
end L3
set_option maxHeartbeats 4000000
namespace L3
open PySem PySem.Spec PyProof.Rows L2
/-! ### records of ours have turned -/
theorem turnedL {X : Cx} {pins : List (Addr × Obj)} {σ : L2.St} {H : Hp} {s : Shared} {h' : Heap} {t' : Nat} {ch : List Addr} (I : Inv X pins σ H s) (hf : ∀ b ∈ ch, FpOk X pins H b)
    (k : ∀ b o, b ∉ ch → s.heap.get? b = some o → h'.get? b = some o) : Inv X pins σ H { s with heap := h', toks := t' } := by
  have nit : ∀ b u, H b = some u → b ∉ ch := fun b u e z => by rw [(hf b z).1] at e; cases e
  refine I.step (g' := s.gens) (d' := s.drawn) (ch := ch) (fun b hb => ?_) (fun b o _ _ hc e _ => k b o hc e) (fun b o _ _ hc e _ => ⟨o.slots, k b o hc e⟩) (fun _ _ _ _ n => n)
    (fun b o hc e => ⟨o, k b o hc e⟩) (fun _ _ e => e) (fun _ _ _ e => e) (fun b ps e => ⟨#[], by rw [e]; simp⟩) (fun m hm => ?_) (fun b u e => ?_) I.bare
  · obtain ⟨_, f1, _, f3, f4, f5⟩ := hf b hb
    exact ⟨f3, f1, f4, f5⟩
  · obtain ⟨o, es, ep, ho, r⟩ := hm
    exact ⟨o, es, ep, k _ o (fun z => (hf _ z).2.1 rfl) ho, r⟩
  · refine (I.hok b u e).stay (fun c v hc q => k c v ?_ q) (fun _ q => q) fun _ _ q => q
    rcases hc with z | z
    · rw [z]; exact nit b u e
    · exact nit c _ z
/-- a new tuple has come, and records of ours have turned -/
theorem tupled {X : Cx} {pins : List (Addr × Obj)} {σ : L2.St} {H : Hp} {s : Shared} {h' : Heap} {t' : Nat} {ch : List Addr} {xs : List V} {us : Array Value} (I : Inv X pins σ H s) (hf : ∀ b ∈ ch, FpOk X pins H b) (hlt : ∀ b ∈ ch, b < s.heap.objs.size)
    (k : ∀ b o, b ∉ ch → s.heap.get? b = some o → h'.get? b = some o) (hT : h'.get? s.heap.objs.size = some { cls := .type "tuple", data := .seq us }) (r : Vals xs us.toList) (hz : xs.length ≤ sizeLine) :
    Inv X pins σ (upd H s.heap.objs.size (.tup xs)) { s with heap := h', toks := t' } ∧ ∀ b ∈ ch, upd H s.heap.objs.size (.tup xs) b = none := by
  have hn : ∀ b ∈ ch, upd H s.heap.objs.size (.tup xs) b = none := fun b hb => by
    rw [upd_ne (Nat.ne_of_lt (hlt b hb))]; exact (hf b hb).1
  have I1 : Inv X pins σ (upd H s.heap.objs.size (.tup xs)) { s with heap := s.heap.push { cls := .type "tuple", data := .seq us }, toks := t' } :=
    I.laid (t' := t') (fun b o e => Heap.get?_push_of_some _ e) (Nat.le_refl _) ⟨hz, us.toList, r, ⟨_, Heap.get?_push_size _ rfl, rfl, _, rfl⟩⟩
  have I2 := turnedL (h' := h') (t' := t') (ch := ch) I1 (fun b hb => ⟨hn b hb, (hf b hb).2⟩) (fun b o hb e => ?_)
  · exact ⟨I2, hn⟩
  rcases Heap.get?_push_cases e with ⟨e1, e2⟩ | e1
  · rw [e1, e2]; exact hT
  · exact k b o hb e1
/-! ### for i, x in enumerate(xs) -/
def Ite (K : PySem.W.Frag) (a : Addr) : It :=
  ⟨fun i H => ∃ xs x, SqL K H a xs ∧ xs[i]? = some x, fun i H x H' => ∃ p v, H p = none ∧ x = .ref p ∧ (∀ xs, SqL K H a xs → xs[i]? = some v) ∧ H' = upd H p (.tup [.int i, v]), fun i H => ∃ xs, SqL K H a xs ∧ xs.length ≤ i⟩
theorem turn_enum {P : Program} {w : World} {K : PySem.W.Frag} {elts : List Expr} {k1 : Nat} {pos : Pos} (a e it : Addr) (hne : e ≠ it) :
    Turn P w K (.Tuple elts k1 pos) (Ite K a) [e, it] e (fun i h => (∃ old, IsEnum h e it (i : Nat) old) ∧ h.IsListIter it a i) where
  mem := by simp
  obj := fun i h st b hb => by
    obtain ⟨⟨old, he⟩, o, ho, c, d⟩ := st
    rcases List.mem_cons.mp hb with rfl | hb
    · exact ⟨_, he, fun v z => by cases z⟩
    · have e : b = it := by simpa using hb
      subst e
      exact ⟨o, ho, fun v z => by rw [d] at z; cases z⟩
  keep := fun i h h' st k => by
    obtain ⟨⟨old, he⟩, hi⟩ := st
    exact ⟨⟨old, k e (by simp) _ he⟩, hi.at fun o q => k it (by simp) o q⟩
  item := by
    intro X hP hw hK hc i pins s σ H E I hf st hg
    subst hP hw hK
    obtain ⟨⟨old, he⟩, hit⟩ := st
    obtain ⟨xs, x, hq, hx⟩ := hg
    obtain ⟨its, rv, p, hz⟩ := I.list hq
    obtain ⟨u, hu, ru⟩ := rv.get hx
    refine wpAny_pyNext_enum_item he hit p.isList (x := u) (by simpa using hu) hne fun h' heo hit' hT hsz hk => ?_
    refine ⟨_, rfl, wpAny_letOwnedTupleGo_enum heo fun h'' he'' hs'' => ?_⟩
    have hel : e < s.heap.objs.size := Heap.lt_size he
    have hil : it < s.heap.objs.size := by obtain ⟨_, q, _⟩ := hit; exact Heap.lt_size q
    have T := tupled (h' := h'') (t' := s.toks + 1) (ch := [e, it]) (xs := [.int i, x]) (us := #[.int i s.toks, u]) I hf (fun b hb => by
        rcases List.mem_cons.mp hb with rfl | hb
        · exact hel
        · have z : b = it := by simpa using hb
          subst z; exact hil)
      (fun b o hb q => (hs''.2 b (fun z => hb (by simp [z]))).trans (hk b o (fun z => hb (by simp [z])) (fun z => hb (by simp [z])) q))
      ((hs''.2 _ (Nat.ne_of_gt hel)).trans hT) (.cons ⟨_, rfl⟩ (.cons ru .nil)) (by show 2 ≤ sizeLine; decide)
    refine ⟨.ref s.heap.objs.size, _, T.1, rfl, ⟨_, x, I.hok.fresh (Nat.le_refl _), rfl, fun ys hy => by rw [I.list_inj hy hq]; exact hx, rfl⟩, ⟨⟨u, by simpa using he''⟩, hit'.at fun o q => (hs''.2 it hne.symm).trans q⟩, T.2⟩
  done := by
    intro X hP hw hK hc i pins s σ H E I hf st hg
    subst hP hw hK
    obtain ⟨⟨old, he⟩, hit⟩ := st
    obtain ⟨xs, hq, hx⟩ := hg
    obtain ⟨its, rv, p, hz⟩ := I.list hq
    obtain ⟨f0, f1, f2, f3, f4, f5⟩ := hf it (by simp)
    have hl := rv.length
    exact wpAny_pyNext_enum_end (I.ok.hd hc) he hit p.isList (by simp; omega) fun h' eb => ⟨rfl, I.turned (t' := s.toks) (fun b o hb e => eb b o hb e) f0 f1 f3 f4 f5⟩
  self := fun _ _ _ _ _ st h => by
    obtain ⟨⟨old, he⟩, _⟩ := st
    exact wpAny_pyIter_enum he h
def iEnum (K : PySem.W.Frag) (t : TA) : TI := fun σ H R => t σ H fun vs H1 => ∃ a, vs = [.ref a] ∧ (∃ xs, SqL K H1 a xs) ∧ R (Ite K a) H1
theorem pi_enum {X : Cx} {l : Expr} {tl : TA} {elts : List Expr} {k1 : Nat} {tpos p pos : Pos} (hg : Gl X "enumerate") (hm : X.mg "enumerate" = none) (hl : PA X [l] tl) (hs : starEach [l] X.env = [(false, eval l X.env)] := by rfl) :
    PI X (.Tuple elts k1 tpos) (.Call (.Name "enumerate" p) [l] [] pos) (iEnum X.K tl) := by
  intro pins s σ H R I h
  refine Call_ (ld_blt I hg hm boot_enumerate (PyProof.Rows.callWith_type1 (thn (hl pos pins s σ H _ I h) fun us s1 ⟨vs, H1, I1, r1, q1⟩ => ?_) hs rfl))
  obtain ⟨a, e, ⟨xs, hq⟩, q⟩ := q1
  subst e
  cases r1 with
  | cons r rr =>
    cases rr
    cases r
    obtain ⟨its, rv, pl, hz⟩ := I1.list hq
    refine call_enumerate_list pl.isList fun h' he hit hsz hk => ?_
    refine wpAny_pyIter_enum he ?_
    refine ⟨s1.heap.objs.size + 1, [s1.heap.objs.size + 1, s1.heap.objs.size], _, _, H1, rfl, I1.kept (t' := s1.toks) fun b o e => hk b o e, turn_enum a _ _ (Nat.succ_ne_self _), ⟨⟨_, he⟩, hit⟩, fun b hb => ?_, q⟩
    rcases List.mem_cons.mp hb with rfl | hb
    · exact I1.fpOk (Nat.le_succ _) (I1.hok.fresh (Nat.le_succ _))
    · have e : b = s1.heap.objs.size := by simpa using hb
      subst e
      exact I1.fpOk (Nat.le_refl _) (I1.hok.fresh (Nat.le_refl _))
/-- over the items of a list, numbered, that the body leaves as it is -/
theorem for_enum {K : PySem.W.Frag} {a : Addr} {xs : List V} {g : TG} {tb : TS} {D : Ends} {σ : L2.St} {H : Hp} (Pv : Nat → L2.St → Hp → Prop) (h0 : Pv 0 σ H) (hl : ∀ i σ H, i ≤ xs.length → Pv i σ H → SqL K H a xs)
    (hs : ∀ i x σ H p, xs[i]? = some x → Pv i σ H → H p = none → g (.ref p) σ (upd H p (.tup [.int i, x])) fun σ2 H2 => tb { D with nx := Pv (i + 1), ct := Pv (i + 1), bk := D.nx } σ2 H2) (hd : ∀ σ H, Pv xs.length σ H → D.nx σ H) :
    ∃ W : Nat → Nat → L2.St → Hp → Prop, (∃ m, W 0 m σ H) ∧ ∀ i m σ H, W i m σ H →
      ((Ite K a).stop i H ∧ D.nx σ H) ∨ ((Ite K a).go i H ∧ ∃ N : L2.St → Hp → Prop, (∀ σ' H', N σ' H' → ∃ m', m' < m ∧ W (i + 1) m' σ' H') ∧ ∀ x H', (Ite K a).yld i H x H' → g x σ H' fun σ2 H2 => tb { D with nx := N, ct := N, bk := D.nx } σ2 H2) := by
  refine ⟨fun i m σ H => m = xs.length - i ∧ i ≤ xs.length ∧ Pv i σ H, ⟨xs.length, by simp, Nat.zero_le _, h0⟩, ?_⟩
  rintro i m σ H ⟨rfl, hi, p⟩
  have q := hl i σ H hi p
  by_cases hlt : i < xs.length
  · refine .inr ⟨⟨xs, xs[i], q, by simp [hlt]⟩, Pv (i + 1), fun σ' H' p' => ⟨xs.length - (i + 1), by omega, rfl, hlt, p'⟩, fun x H' y => ?_⟩
    obtain ⟨z, v, hz, rfl, y, rfl⟩ := y
    exact hs i v σ _ z (y xs q) p hz
  · have e : i = xs.length := by omega
    subst e
    exact .inl ⟨⟨xs, q, Nat.le_refl _⟩, hd σ H p⟩
/-! ### sum and max of a list of ints -/
theorem ints_of : ∀ {ns : List Int} {us : List Value}, Vals (ns.map V.int) us → ∃ xs : List (Int × Tok), us.toArray = intItems xs.toArray ∧ xs.map (·.1) = ns
  | [], us, r => by cases r; exact ⟨[], by simp [intItems], rfl⟩
  | n :: ns, us, r => by
    rw [List.map_cons] at r
    cases r with
    | cons h t =>
      obtain ⟨xs, e1, e2⟩ := ints_of t
      obtain ⟨tk, rfl⟩ := h
      refine ⟨(n, tk) :: xs, ?_, by rw [List.map_cons, e2]⟩
      have e3 := congrArg Array.toList e1
      simp only [intItems, List.map_toArray] at e3 ⊢
      rw [e3]
      rfl
theorem call_sumL {X : Cx} (hc : X.calm = true) : CallR X (.builtin "sum") (fun xs H Q => ∃ (p : Addr) (ns : List Int), xs = [.ref p] ∧ SqL X.K H p (ns.map V.int) ∧ Q (.int ns.sum) H) := by
  intro pins s σ H xs us Q I r h
  obtain ⟨p, ns, rfl, hq, q⟩ := h
  obtain ⟨u, rfl, rx⟩ := vals1 r
  cases rx
  obtain ⟨its, rv, pl, hz⟩ := I.list hq
  obtain ⟨ys, e1, e2⟩ := ints_of rv
  have pl' := pl.isList
  rw [e1] at pl'
  refine sum_intListG (I.ok.hd hc) pl' fun h' tk t' hk => ?_
  rw [preSum_eq, List.take_of_length_le (by simp)]
  have e3 : ys.toArray.toList.map (·.1) = ns := by simpa using e2
  rw [e3]
  exact ⟨.int ns.sum, H, I.kept fun b o e => hk b o e, ⟨_, rfl⟩, q⟩
/-! ### a cut behind a test; one of two rules -/
def tCut (t : TT) : TT := fun σ H Q => ∃ R : Bool → Hp → Prop, t σ H R ∧ ∀ b H', R b H' → Q b H'
theorem pt_cut {X : Cx} {e : Expr} {t : TT} (h : PT X e t) : PT X e (tCut t) := by
  rintro pins s σ H Q I ⟨R, ht, hR⟩
  exact thn (h pins s σ H R I ht) fun b s' ⟨H', I', r⟩ => ⟨H', I', hR b H' r⟩
end L3
set_option maxHeartbeats 4000000
namespace L3
open PySem PySem.Spec PyProof.Rows L2
/-! ### [e for x1, x2 in .. if c] -/
/-- one turn of such a comprehension, its target any -/
theorem comp_turnP {prog : Program} {w : World} {A : Around} {R : Result → Shared → Prop} {s0 : Shared} {el tg src : Expr} {cs : List Expr} {sco : Scope} {po : Pos} {itv lst : Value} {en : Env} (J : Nat → Shared → Prop)
    (step : ∀ k st, J k st → wpAny (model prog w) A (pyNext itv) (fun got s1 => match got with
      | none => R (.ok .next) s1
      | some u => wpAny (model prog w) A (letOwnedTupleGo tg itv u) (fun _ s1' => wpAny (model prog w) A (assign tg en u) (fun _ s2 =>
          wpAny (model prog w) A (forIn cs true fun c r => if r = true then do let ok ← isTrue c en (eval c en); pure (ForInStep.yield ok) else pure (ForInStep.yield r)) (fun good s3 =>
            if good = true then wpAny (model prog w) A (eval el en) (fun y s4 =>
              wpAny (model prog w) A (call (.builtin "list.append") [lst, y]) (fun _ s5 => ∃ j, j < k ∧ J j s5) (notedBy (model prog w) A en fun x z => R (.error x) z) s4) (notedBy (model prog w) A en fun x z => R (.error x) z) s3
            else ∃ j, j < k ∧ J j s3) (notedBy (model prog w) A en fun x z => R (.error x) z) s2) (notedBy (model prog w) A en fun x z => R (.error x) z) s1') (notedBy (model prog w) A en fun x z => R (.error x) z) s1) (notedBy (model prog w) A en fun x z => R (.error x) z) st)
    (k : Nat) (hJ : J k s0) : codeAny (model prog w) A (.compLoop (.ListComp el [⟨tg, src, cs, 0⟩] sco po) 0 itv lst en) R s0 := by
  refine codeAny_loop rfl J (fun k st hk => ?_) k hJ
  show wpAny _ A ((compTurn (.ListComp el [⟨tg, src, cs, 0⟩] sco po) 0 itv lst en).onRaise (fun x => do noteFrame x en; theTreesLotGoes x)) _ _ st
  refine wpAny_noted ?_
  rw [compTurn_list]
  refine wpAny_bind (wpAny_standAt (wpAny_bind (wpAny_mono (step k st hk) (fun got s1 g1 => ?_) fun _ _ q => q)))
  match got with
  | none => exact wpAny_pure g1
  | some u =>
    refine wpAny_bind (wpAny_mono g1 (fun _ s1' g2 => ?_) fun _ _ q => q)
    refine wpAny_bind (wpAny_mono g2 (fun _ s2 g3 => wpAny_bind (wpAny_mono g3 (fun good s3 g4 => ?_) fun _ _ q => q)) fun _ _ q => q)
    match good with
    | false => exact wpAny_pure ⟨rfl, g4⟩
    | true =>
      refine wpAny_bind (wpAny_bind (wpAny_mono g4 (fun y s4 g5 => ?_) fun _ _ q => q))
      exact wpAny_bind (wpAny_mono g5 (fun _ s5 g6 => wpAny_pure (wpAny_pure ⟨rfl, g6⟩)) fun _ _ q => q)
def CompEndP (K : PySem.W.Frag) (js : List Nat) (tc : TT) (te : TE) (σ : L2.St) (Q : VK) (J : It) (H1 : Hp) : Prop := ∃ W : Nat → Nat → List V → Hp → Prop, (∃ m, W 0 m [] H1) ∧ ∀ i m acc H2, W i m acc H2 →
  acc.length < sizeLine ∧ ((J.stop i H2 ∧ ∀ D, H2 D = none → Q (.ref D) (upd H2 D (.lst acc))) ∨
    (J.go i H2 ∧ ∀ x H3, J.yld i H2 x H3 → ∃ p va vb, x = .ref p ∧ SqT K H3 p [va, vb] ∧ tc (some va :: some vb :: capt js σ) H3 fun ok H4 => if ok = true then te (some va :: some vb :: capt js σ) H4 fun v H5 => ∃ m', m' < m ∧ W (i + 1) m' (acc ++ [v]) H5 else ∃ m', m' < m ∧ W (i + 1) m' acc H4))
def tCompP (K : PySem.W.Frag) (js : List Nat) (wi : TI) (tc : TT) (te : TE) : TE := fun σ H Q => wi σ H (CompEndP K js tc te σ Q)
theorem comp_coreP {X : Cx} {elt iter cnd : Expr} {x1 x2 : Str} {px1 px2 : Pos} {tk : Nat} {tpos : Pos} {scope : Scope} {cl : List (Str × Addr)} {pos : Pos} {wi : TI} {tc : TT} {te : TE} (ys : List Str) (js : List Nat)
    (hcm : X.calm = true) (hi : PI X (.Tuple [.Name x1 px1, .Name x2 px2] tk tpos) iter wi) (hc : ∀ C s H fp, PT (cxComp X scope cl C (x1 :: x2 :: ys) s H fp).nox cnd tc) (he : ∀ C s H fp, PE (cxComp X scope cl C (x1 :: x2 :: ys) s H fp).nox elt te)
    (hclos : closureFor scope X.env = pure cl := by rfl)
    (hcl : cl.map (fun p => X.env.cells.lookup p.1) = cl.map (fun p => some p.2) := by rfl)
    (hcell : (scope.names.all fun p => p.2 != .cell) = true := by rfl) (hkind : scope.kind = .function := by rfl)
    (hnames : (scope.names.all fun p => p.2 != .local || scope.names.lookup p.1 == some .local) = true := by rfl)
    (hx1 : scope.names.lookup x1 = some .local := by rfl) (hx2 : scope.names.lookup x2 = some .local := by rfl)
    (hhas : ((relabel scope X.env).names.all fun p => (p.2 != .cell && p.2 != .free) || (cl.lookup p.1).isSome) = true := by rfl)
    (hnd : (x1 :: x2 :: ys).Nodup := by decide)
    (hjs : js.map (fun j => X.N[j]?) = ys.map some := by rfl)
    (hys : (ys.all fun y => ((relabel scope X.env).names.lookup y == some .cell || (relabel scope X.env).names.lookup y == some .free) && (X.env.scope.names.lookup y == some .cell || X.env.scope.names.lookup y == some .free)) = true := by rfl)
    (hs : ∀ x, foldedSetIterable iter X.env x = pure x := by intro _; rfl)
    {pins : List (Addr × Obj)} {s : Shared} {σ : L2.St} {H : Hp} (R : V → Hp → Prop) (use : Option (Value → Sem Unit)) (Q : Value → Shared → Prop) (I : Inv X pins σ H s) (h : tCompP X.K js wi tc te σ H R)
    (fin : ∀ (v : V) (u : Value) (H' : Hp) (s' : Shared) (C : Addr), Inv X pins σ H' s' → RelV v u → R v H' → (∃ m, s'.heap.Ns C m) → H' C = none → C ≠ X.env.locals → X.s₀.heap.objs.size ≤ C → (∀ y c, X.env.cells.lookup y = some c → c ≠ C) → (∀ p ∈ X.pn ++ pins, p.1 ≠ C) →
      compPost (model X.prog X.w) X.A X.xe use Q u C (.ok .next) s') :
    wpAny (model X.prog X.w) X.A (comprehension (.ListComp elt [⟨.Tuple [.Name x1 px1, .Name x2 px2] tk tpos, iter, [cnd], 0⟩] scope pos) scope X.env (firstIterPos [⟨.Tuple [.Name x1 px1, .Name x2 px2] tk tpos, iter, [cnd], 0⟩] pos) (newList []) false (eval iter X.env) use) Q X.xe s := by
  have hcell' : ∀ y ∈ scope.names, y.2 ≠ .cell := fun y hy => by
    have := List.all_eq_true.mp hcell y hy
    simpa using this
  have hnm : ∀ y ∈ scope.names, y.2 = .local → scope.names.lookup y.1 = some .local := fun y hy e => by
    have := List.all_eq_true.mp hnames y hy
    rw [e] at this
    simpa using this
  have clX : ∀ y c, cl.lookup y = some c → X.env.cells.lookup y = some c := fun y c e => by
    have hm := PySem.mem_of_lookup e
    obtain ⟨k, hk, e2⟩ := List.mem_iff_getElem.mp hm
    have := congrArg (fun l => l[k]?) hcl
    simp only [List.getElem?_map, List.getElem?_eq_getElem hk, Option.map_some, e2] at this
    exact Option.some.inj this
  have has : ∀ y, ((relabel scope X.env).names.lookup y = some .cell ∨ (relabel scope X.env).names.lookup y = some .free) → ∃ c, cl.lookup y = some c := fun y hy => by
    have key : ∀ k : NameKind, (k = .cell ∨ k = .free) → (relabel scope X.env).names.lookup y = some k → ∃ c, cl.lookup y = some c := fun k hk e => by
      have := List.all_eq_true.mp hhas _ (PySem.mem_of_lookup e)
      rcases hk with rfl | rfl <;> exact Option.isSome_iff_exists.mp (by simpa using this)
    rcases hy with e | e
    · exact key _ (.inl rfl) e
    · exact key _ (.inr rfl) e
  refine wpAny_comprehension_free (use := use) rfl hs hclos hkind hnm (thn (hi pins s σ H _ I h) fun v s1 h1 => thn h1 fun itv s2 h2 => ?_)
  obtain ⟨it, fp, tn, J, H2, e, I2, T, st2, f2, W, ⟨m0, w0⟩, turn⟩ := h2
  subst e
  refine wpAny_newObj_type (wpAny_newFunctionEnv hcell' (by intro y hy; simp at hy) (fun h₁ hns hsb => ?_) hkind)
  dsimp only at hns hsb ⊢
  generalize hG : s2.heap.push { cls := .type "list", dict := none, data := .seq ([] : List Value).toArray } = G at hns hsb ⊢
  have szG : G.objs.size = s2.heap.objs.size + 1 := by rw [← hG, Heap.size_push]
  have inG : ∀ b o, s2.heap.get? b = some o → G.get? b = some o := fun b o e => hG ▸ Heap.get?_push_of_some _ e
  have ltC : ∀ b o, s2.heap.get? b = some o → b ≠ G.objs.size := fun b o e => by rw [szG]; exact Nat.ne_of_lt (Nat.lt_succ_of_lt (Heap.lt_size e))
  have ltD : ∀ b o, s2.heap.get? b = some o → b ≠ s2.heap.objs.size := fun b o e => Nat.ne_of_lt (Heap.lt_size e)
  have DC : s2.heap.objs.size ≠ G.objs.size := by rw [szG]; omega
  have old : ∀ b o, s2.heap.get? b = some o → h₁.get? b = some o := fun b o e => hsb.extBut b o (ltC b o e) (Heap.get?_push_of_some _ (inG b o e))
  have hacc : h₁.PlainList s2.heap.objs.size #[] := ⟨_, hsb.extBut _ _ DC (Heap.get?_push_of_some _ (hG ▸ Heap.get?_push_size _ rfl))⟩
  have fpO : ∀ b ∈ fp, ∃ o, s2.heap.get? b = some o := fun b hb => let ⟨o, e, _⟩ := T.obj 0 _ st2 b hb; ⟨o, e⟩
  have stkO : ∀ b ∈ frs X.stack, ∃ o, s2.heap.get? b = some o := fun b hb => by
    obtain ⟨_, o, ho, _⟩ := I2.stack.mem hb
    exact ⟨o, ho⟩
  have freshH : ∀ a, s2.heap.objs.size ≤ a → H2 a = none := fun a ha => I2.hok.fresh ha
  have stkFp : ∀ b ∈ fp, b ∉ frs X.stack := fun b hb z => by
    rcases List.mem_cons.mp (I2.stkSub b z) with q | q
    · exact (f2 b hb).2.1 q
    · exact (f2 b hb).2.2.1 q
  have okX : (cxComp X scope cl G.objs.size (x1 :: x2 :: ys) s2 H2 fp).Ok := {
    mod := I2.ok.mod
    kind := hkind
    glob := I2.ok.glob
    blt := I2.ok.blt
    above := by show s2.heap.objs.size ≤ G.objs.size; rw [szG]; omega
    inj := fun y z c e1 e2 => I2.ok.inj y z c (clX y c e1) (clX z c e2)
    has := fun y hy => has y hy
    cab := fun y c e _ => absurd (show false = true from e) Bool.false_ne_true
    hd := I2.ok.hd
    frames := I2.ok.frames
    stk := .inl rfl
    exf := fun b hb => by
      obtain ⟨o, e⟩ := fpO b hb
      exact ⟨ltC b o e, fun y c e1 => (f2 b hb).2.2.2.2.1 y c (clX y c e1)⟩
    bs := I2.bs
    bsz := Nat.le_trans I2.ok.bsz I2.sz
    noex := fun b o e hb => by
      rcases (f2 b hb).2.2.2.1 with q | q
      · exact I2.ok.noex b o e q
      · exact Nat.lt_irrefl _ (Nat.lt_of_lt_of_le (Nat.lt_of_lt_of_le (Heap.lt_size e) I2.ok.bsz) q)
    exfs := stkFp
    funs := I2.stack
    frf := I2.stkFree }
  have lenY : js.length = ys.length := by have := congrArg List.length hjs; simpa using this
  have I0 : Inv (cxComp X scope cl G.objs.size (x1 :: x2 :: ys) s2 H2 fp) [] (none :: none :: capt js σ) H2 { s2 with heap := h₁, toks := s2.toks + ([] : List (Str × Value)).length } := by
    refine ⟨okX, rfl, I2.bare, Un.kept old, ⟨_, hns, fun k y v e1 e2 e3 => ?_⟩, fun y c e => ?_, freshH _ (by show s2.heap.objs.size ≤ G.objs.size; rw [szG]; omega), fun y c e => I2.freeC y c (clX y c e), fun p hp => absurd (show p ∈ ([] : List (Addr × Obj)) from hp) (by simp), I2.hok.kept old, ?_⟩
    · match k, e1, e2 with
      | 0, e1, e2 => cases e2
      | 1, e1, e2 => cases e2
      | k + 2, e1, e2 =>
        have e1' : ys[k]? = some y := e1
        have e2' : (capt js σ)[k]? = some (some v) := e2
        unfold capt at e2'
        rw [List.getElem?_map] at e2'
        cases ej : js[k]? with
        | none => rw [ej] at e2'; cases e2'
        | some j =>
          rw [ej] at e2'
          have e4 : (σ[j]?).join = some v := Option.some.inj e2'
          have e5 : σ[j]? = some (some v) := by
            cases q : σ[j]? with
            | none => rw [q] at e4; cases e4
            | some o => rw [q] at e4; exact congrArg some e4
          have e6 : X.N[j]? = some y := by
            have := congrArg (fun l => l[k]?) hjs
            simp only [List.getElem?_map, ej, e1', Option.map_some] at this
            exact Option.some.inj this
          have hy := List.all_eq_true.mp hys y (List.mem_of_getElem? e1')
          simp only [Bool.and_eq_true, Bool.or_eq_true, beq_iff_eq] at hy
          obtain ⟨ky, ko⟩ := hy
          obtain ⟨m, hn, hl⟩ := I2.loc
          obtain ⟨u, r, lk⟩ := hl j y v e6 e5 (.inr ko)
          refine ⟨u, r, .inr ⟨ky, ?_⟩⟩
          rcases lk with ⟨kl, _⟩ | ⟨_, c, ec, hc⟩
          · have kl' : X.env.scope.names.lookup y = some .local := kl
            rw [kl'] at ko
            rcases ko with z | z <;> cases z
          · obtain ⟨c', ec'⟩ := has y ky
            have := clX y c' ec'
            rw [ec] at this
            cases this
            obtain ⟨o, ho, hd⟩ := hc
            exact ⟨c, ec', o, old c o ho, hd⟩
    · obtain ⟨v, o, ho, hd⟩ := I2.cell y c (clX y c e)
      exact ⟨v, o, old c o ho, hd⟩
    · show (none :: none :: capt js σ).length = (x1 :: x2 :: ys).length
      simp [capt, lenY]
  -- one pass through the loop
  have loop : ∀ s3 : Shared, s3 = { s2 with heap := h₁, toks := s2.toks + ([] : List (Str × Value)).length } →
      codeAny (model X.prog X.w) X.A (.compLoop (.ListComp elt [⟨.Tuple [.Name x1 px1, .Name x2 px2] tk tpos, iter, [cnd], 0⟩] scope pos) 0 (.ref it) (.ref s2.heap.objs.size) (compEnvC scope cl G.objs.size X.env))
        (compPost (model X.prog X.w) X.A X.xe use Q (.ref s2.heap.objs.size) G.objs.size) s3 := by
    rintro s3 rfl
    have stat : ∀ {H' : Hp} (o : Obj), (∀ b ∈ fp, H' b = none) → ∀ b ∈ fp, FpOk (cxComp X scope cl G.objs.size (x1 :: x2 :: ys) s2 H2 fp) [(s2.heap.objs.size, o)] H' b := fun {H'} o hn b hb => by
      obtain ⟨ob, eb⟩ := fpO b hb
      refine ⟨hn b hb, ltC b ob eb, stkFp b hb, .inl hb, fun y c e1 => (f2 b hb).2.2.2.2.1 y c (clX y c e1), fun p hp => ?_⟩
      have hp' : p = (s2.heap.objs.size, o) := by
        have : p ∈ [(s2.heap.objs.size, o)] := hp
        simpa using this
      rw [hp']
      exact Ne.symm (ltD b ob eb)
    refine comp_turnP (fun n s' => ∃ i acc its H3, Inv (cxComp X scope cl G.objs.size (x1 :: x2 :: ys) s2 H2 fp) [] (none :: none :: capt js σ) H3 s' ∧ tn i s'.heap ∧ (∀ b ∈ fp, H3 b = none) ∧ s'.heap.PlainList s2.heap.objs.size its.toArray ∧ Vals acc its ∧ H3 s2.heap.objs.size = none ∧ W i n acc H3)
      ?_ m0 ⟨0, [], [], H2, I0, T.keep _ _ _ st2 fun b _ o e => old b o e, fun b hb => (f2 b hb).1, hacc, .nil, freshH _ (Nat.le_refl _), w0⟩
    rintro n s3 ⟨i, acc, its, H3, I3, st3, fr3, ⟨nn, pl3⟩, va3, hD3, w3⟩
    obtain ⟨hlen, cs⟩ := turn i n acc H3 w3
    have hal : acc.length = its.length := va3.length
    have nD : s2.heap.objs.size ∉ frs X.stack := fun z => by
      obtain ⟨o, e⟩ := stkO _ z
      exact ltD _ o e rfl
    have I3p : Inv (cxComp X scope cl G.objs.size (x1 :: x2 :: ys) s2 H2 fp) [(s2.heap.objs.size, { cls := .type "list", data := .seq its.toArray nn })] (none :: none :: capt js σ) H3 s3 := I3.pins_of fun p hp => by
      have e : p = (s2.heap.objs.size, { cls := .type "list", data := .seq its.toArray nn }) := by simpa using hp
      subst e
      exact ⟨pl3, hD3, DC, nD, fun v z => nomatch z⟩
    rcases cs with ⟨stop, q⟩ | ⟨go, step⟩
    · refine thn (T.done (cxComp X scope cl G.objs.size (x1 :: x2 :: ys) s2 H2 fp) rfl rfl rfl hcm i _ s3 _ H3 _ I3p (stat _ fr3) st3 stop) fun r s4 hr => ?_
      obtain ⟨hr, I4⟩ := hr
      subst hr
      have pl4 := (I4.pin (s2.heap.objs.size, { cls := .type "list", data := .seq its.toArray nn }) (by simp)).1
      obtain ⟨m, hn, _⟩ := I4.loc
      have B := I4.base
      have un' : Un (frs X.stack) fp H2 (upd H3 s2.heap.objs.size (.lst acc)) s2.heap s4.heap := by
        refine ⟨fun b o e n hb hx => B.keep b o e n hb hx, fun b o e n hb hx => B.slot b o e n hb hx, fun b o e n hx => ?_, fun b o e hx => B.there b o e hx, fun b xs e => ?_, fun b o u e => ?_, fun b ps e => ?_⟩
        · rw [upd_ne (ltD b o e)]
          exact B.free b o e n hx
        · have z := B.tups b xs e
          rw [upd_ne (ne_of_none z hD3)]
          exact z
        · have z := B.frzs b o u e
          rw [upd_ne (ne_of_none z hD3)]
          exact z
        · obtain ⟨more, z⟩ := B.tbls b ps e
          exact ⟨more, by rw [upd_ne (ne_of_none z hD3)]; exact z⟩
      have freeC4 : H3 G.objs.size = none := I4.free
      have hok' : HOk X.prog X.w (upd H3 s2.heap.objs.size (.lst acc)) s4.heap := fun b u e => by
        by_cases hb : b = s2.heap.objs.size
        · subst hb
          rw [upd_same] at e
          cases e
          exact ⟨Nat.le_of_lt hlen, its, nn, va3, pl4⟩
        · rw [upd_ne hb] at e
          exact (I4.hok b u e).stay (fun c v hc z => z) (fun c z => by rw [upd_ne (ne_of_none z hD3)]; exact z) fun c xs z => by rw [upd_ne (ne_of_none z hD3)]; exact z
      have hch : ∀ b ∈ fp, (b ∈ X.ex ∨ X.s₀.heap.objs.size ≤ b) ∧ b ≠ X.env.locals ∧ (∀ y c, X.env.cells.lookup y = some c → c ≠ b) ∧ ∀ p ∈ X.pn ++ pins, p.1 ≠ b := fun b hb => by
        obtain ⟨_, z1, _, z3, z4, z5⟩ := f2 b hb
        exact ⟨z3, z1, z4, z5⟩
      have I5 := I2.call' (s' := s4) (ch := fp) I4.os un' hok' I4.bare hch
      refine fin (.ref s2.heap.objs.size) _ _ s4 G.objs.size I5 rfl (q _ hD3) ⟨m, hn⟩ ?_ ?_ ?_ (fun y c e => ?_) fun p hp => ?_
      · rw [upd_ne (Ne.symm DC)]; exact freeC4
      · rw [szG]; exact Nat.ne_of_gt (Nat.lt_succ_of_lt I2.lt)
      · rw [szG]; exact Nat.le_succ_of_le I2.sz
      · obtain ⟨v, o, ho, _⟩ := I2.cell y c e
        exact ltC c o ho
      · exact ltC p.1 p.2 (I2.pin p hp).1
    · refine thn (T.item (cxComp X scope cl G.objs.size (x1 :: x2 :: ys) s2 H2 fp) rfl rfl rfl hcm i _ s3 _ H3 _ I3p (stat _ fr3) st3 go) fun r s4 hr => ?_
      obtain ⟨u, hr, h4⟩ := hr
      subst hr
      refine thn h4 fun _ s5 h5 => ?_
      obtain ⟨v, H5, I5, r5, y5, st5, fr5⟩ := h5
      have I5' := I5.pinned (stat _ fr5) (T.obj _ _ st5)
      obtain ⟨pt, va, vb, ev, hsq, q5⟩ := step v H5 y5
      have pg : PG (cxComp X scope cl G.objs.size (x1 :: x2 :: ys) s2 H2 fp).nox (.Tuple [.Name x1 px1, .Name x2 px2] tk tpos) (gTup X.K 2 (gCons (gName 0) (gCons (gName 1) gNil))) :=
        pg_tup (n := 2) hcm (pgs_cons (pg_name (i := 0) hnd rfl (.inl (lookup_relabel_local hx1)) (.inr (lookup_relabel_local hx1))) (pgs_cons (pg_name (i := 1) hnd rfl (.inl (lookup_relabel_local hx2)) (.inr (lookup_relabel_local hx2))) pgs_nil))
      have I5n : Inv (cxComp X scope cl G.objs.size (x1 :: x2 :: ys) s2 H2 fp).nox _ _ H5 s5 := I5'.wish _
      refine wpAny_mono (pg _ s5 _ H5 v u (fun σ' H' => σ' = some va :: some vb :: capt js σ ∧ H' = H5) I5n r5 ⟨pt, _, ev, hsq, rfl, _, _, rfl, _, _, rfl, rfl, rfl, rfl⟩) (fun _ s6 h6 => ?_) fun _ _ z => z.elim
      obtain ⟨σ6, H6', I6', eσ, eH⟩ := h6
      subst eσ eH
      -- the list goes on, or the item is passed over
      have back : ∀ (H7 : Hp) (s7 : Shared) (σ7 : L2.St) (h' : Heap) (acc' : List V) (its' : List Value) (m' : Nat), Inv (cxComp X scope cl G.objs.size (x1 :: x2 :: ys) s2 H2 fp) ([(s2.heap.objs.size, { cls := .type "list", data := .seq its.toArray nn })] ++ pinsAt fp s5.heap) (some va :: some vb :: capt js σ) H7 s7 →
          Heap.SameBut s2.heap.objs.size s7.heap h' → h'.PlainList s2.heap.objs.size its'.toArray → Vals acc' its' → m' < n → W (i + 1) m' acc' H7 →
          ∃ m, m < n ∧ ∃ i acc its H3, Inv (cxComp X scope cl G.objs.size (x1 :: x2 :: ys) s2 H2 fp) [] (none :: none :: capt js σ) H3 { s7 with heap := h' } ∧ tn i h' ∧ (∀ b ∈ fp, H3 b = none) ∧ h'.PlainList s2.heap.objs.size its.toArray ∧ Vals acc its ∧ H3 s2.heap.objs.size = none ∧ W i m acc H3 := by
        intro H7 s7 _ h' acc' its' m' I7 hsb' hp' va' hm' w7
        have pinD := I7.pin (s2.heap.objs.size, { cls := .type "list", data := .seq its.toArray nn }) (by simp)
        have pf : ∀ b ∈ fp, ∀ o, s5.heap.get? b = some o → s7.heap.get? b = some o ∧ H7 b = none := fun b hb o e => by
          have z := I7.pin (b, o) (List.mem_append_right _ (List.mem_append_right _ (mem_pinsAt hb e)))
          exact ⟨z.1, z.2.1⟩
        have I8 : Inv (cxComp X scope cl G.objs.size (x1 :: x2 :: ys) s2 H2 fp) [] (none :: none :: capt js σ) H7 { s7 with heap := h' } := by
          have I7u : Inv (cxComp X scope cl G.objs.size (x1 :: x2 :: ys) s2 H2 fp) [] (none :: none :: capt js σ) H7 s7 := (I7.pins_of (pins' := []) fun p hp => absurd hp (by simp)).weak (by simp) fun k v e => by
            match k, e with
            | 0, e => cases e
            | 1, e => cases e
            | k + 2, e => exact e
          refine I7u.turned (t' := s7.toks) (it := s2.heap.objs.size) (fun b o hb e => hsb'.extBut b o hb e) pinD.2.1 DC (.inr (Nat.le_refl _)) (fun y c e => ?_) fun p hp => absurd (show p ∈ ([] : List (Addr × Obj)) from hp) (by simp)
          obtain ⟨v, o, ho, _⟩ := I2.cell y c (clX y c e)
          exact ltD c o ho
        refine ⟨m', hm', i + 1, acc', its', H7, I8, ?_, fun b hb => ?_, hp', va', pinD.2.1, w7⟩
        · refine T.keep _ _ _ st5 fun b hb o e => hsb'.extBut b o ?_ (pf b hb o e).1
          obtain ⟨ob, eb⟩ := fpO b hb
          exact ltD b ob eb
        · obtain ⟨o, e, _⟩ := T.obj _ _ st5 b hb
          exact (pf b hb o e).2
      simp only [List.forIn_cons, List.forIn_nil, if_true]
      refine wpAny_bind (wpAny_bind (wpAny_mono (hc G.objs.size s2 H2 fp _ s6 _ _ _ I6' q5) (fun ok s6a h6 => ?_) fun _ _ z => z.elim))
      obtain ⟨H6, I6a, q6⟩ := h6
      refine wpAny_pure (wpAny_pure ?_)
      cases ok with
      | false =>
        rw [if_neg (by decide)] at q6 ⊢
        obtain ⟨m', hm', w7⟩ := q6
        have I7 := I6a.unwish
        have pinD := I7.pin (s2.heap.objs.size, { cls := .type "list", data := .seq its.toArray nn }) (by simp)
        exact back H6 s6a (none :: none :: capt js σ) s6a.heap acc its m' I7 (Heap.SameBut.refl _ _) ⟨nn, pinD.1⟩ va3 hm' w7
      | true =>
        rw [if_pos rfl] at q6 ⊢
        refine wpAny_mono (he G.objs.size s2 H2 fp _ s6a _ H6 _ I6a q6) (fun y s7 h7 => ?_) fun _ _ z => z.elim
        obtain ⟨v7, H7, I7, r7, m', hm', w7⟩ := h7
        have I7 := I7.unwish
        have pinD := I7.pin (s2.heap.objs.size, { cls := .type "list", data := .seq its.toArray nn }) (by simp)
        refine wpAny_list_append_plain (items := its.toArray) ⟨nn, pinD.1⟩ (fun h' hp' hsb' => ?_) (by rw [List.size_toArray, ← hal]; exact Nat.le_of_lt hlen)
        have e8 : its.toArray.push y = (its ++ [y]).toArray := by simp
        rw [e8] at hp'
        exact back H7 s7 (none :: none :: capt js σ) h' (acc ++ [v7]) (its ++ [y]) m' I7 hsb' hp' (va3.append (.cons r7 .nil)) hm' w7
  exact codeAny_compStart_list (loop _ rfl) (T.self _ 0 _ _ _ (T.keep _ _ _ st2 fun b _ o e => old b o e) (loop _ rfl))


/-- y = [e for x in ..] on one row, y a local name -/
theorem ps_setCP {X : Cx} {elt iter cnd : Expr} {x1 x2 : Str} {px1 px2 : Pos} {tk : Nat} {tpos : Pos} {scope : Scope} {cl : List (Str × Addr)} {pos : Pos} {wi : TI} {tc : TT} {te : TE} (ys : List Str) (js : List Nat)
    {i : Nat} {y : Str} {py spos : Pos} (hN : X.N.Nodup) (hi' : X.N[i]? = some y) (hy : X.env.kindOf y = some .local) (hcm : X.calm = true) (hi : PI X (.Tuple [.Name x1 px1, .Name x2 px2] tk tpos) iter wi) (hc : ∀ C s H fp, PT (cxComp X scope cl C (x1 :: x2 :: ys) s H fp).nox cnd tc) (he : ∀ C s H fp, PE (cxComp X scope cl C (x1 :: x2 :: ys) s H fp).nox elt te)
    (hclos : closureFor scope X.env = pure cl := by rfl)
    (hcl : cl.map (fun p => X.env.cells.lookup p.1) = cl.map (fun p => some p.2) := by rfl)
    (hcell : (scope.names.all fun p => p.2 != .cell) = true := by rfl) (hkind : scope.kind = .function := by rfl)
    (hnames : (scope.names.all fun p => p.2 != .local || scope.names.lookup p.1 == some .local) = true := by rfl)
    (hx1 : scope.names.lookup x1 = some .local := by rfl) (hx2 : scope.names.lookup x2 = some .local := by rfl)
    (hhas : ((relabel scope X.env).names.all fun p => (p.2 != .cell && p.2 != .free) || (cl.lookup p.1).isSome) = true := by rfl)
    (hnd : (x1 :: x2 :: ys).Nodup := by decide)
    (hjs : js.map (fun j => X.N[j]?) = ys.map some := by rfl)
    (hys : (ys.all fun y => ((relabel scope X.env).names.lookup y == some .cell || (relabel scope X.env).names.lookup y == some .free) && (X.env.scope.names.lookup y == some .cell || X.env.scope.names.lookup y == some .free)) = true := by rfl)
    (hs : ∀ x, foldedSetIterable iter X.env x = pure x := by intro _; rfl) (hsw : swapsWith (.ListComp elt [⟨.Tuple [.Name x1 px1, .Name x2 px2] tk tpos, iter, [cnd], 0⟩] scope pos) (some (.Name y py)) spos.line X.env = pure true := by rfl) : PS X (.Assign [.Name y py] (.ListComp elt [⟨.Tuple [.Name x1 px1, .Name x2 px2] tk tpos, iter, [cnd], 0⟩] scope pos) spos) (tAsg (tCompP X.K js wi tc te) (gName i)) := by
  intro pins s σ H D I h
  rw [exec_Assign_Name_used _ _ _ _ hsw]
  refine wpAny_bind (wpAny_standAt (wpAny_bind ?_))
  have key := comp_coreP ys js hcm hi hc he hclos hcl hcell hkind hnames hx1 hx2 hhas hnd hjs hys hs (pos := pos) (fun v H' => D.nx (σ.set i (some v)) H') (some (assign (.Name y py) X.env)) (fun _ s' => SP X pins D .next s') I h fun v u H' s' C I' r q hm h0 h1 h2 h3 h4 => ?_
  · exact wpAny_bind (thn key fun _ s' hq => wpAny_pure (wpAny_pure hq))
  · refine wpAny_assign_Name (store_ok2 I' hN hi' (.inl hy) r (fun s2 I2 ch => ?_) (.inr hy))
    obtain ⟨b, sb, hb⟩ := ch
    obtain ⟨m, hm⟩ := hm
    have nb : C ≠ b := by
      rcases hb with rfl | hb
      · exact h1
      · exact Ne.symm (h3 y b hb)
    exact ⟨m, hm.sameBut sb nb, fun h' hsb => ⟨_, H', inv_turn I2 hsb h0 h1 h2 h3 h4, q⟩⟩


/-! ### the form one uses: over the numbered items of a list -/
theorem comp_enumP {K : PySem.W.Frag} {a : Addr} {xs : List V} {js : List Nat} {tc : TT} {te : TE} {σ : L2.St} {H : Hp} {Q : VK} (Pv : Nat → List V → Hp → Prop) (h0 : Pv 0 [] H) (hl : ∀ i acc H, i ≤ xs.length → Pv i acc H → SqL K H a xs ∧ acc.length < sizeLine)
    (hs : ∀ i x acc H p, i < xs.length → xs[i]? = some x → Pv i acc H → H p = none → tc (some (.int i) :: some x :: capt js σ) (upd H p (.tup [.int i, x])) fun ok H' => if ok = true then te (some (.int i) :: some x :: capt js σ) H' fun v H'' => Nxt xs.length i (Pv (i + 1) (acc ++ [v]) H'') else Nxt xs.length i (Pv (i + 1) acc H')) (hd : ∀ acc H, Pv xs.length acc H → ∀ D, H D = none → Q (.ref D) (upd H D (.lst acc))) : CompEndP K js tc te σ Q (Ite K a) H := by
  refine ⟨fun i m acc H => m = xs.length - i ∧ i ≤ xs.length ∧ Pv i acc H, ⟨xs.length, by simp, Nat.zero_le _, h0⟩, ?_⟩
  rintro i m acc H2 ⟨rfl, hi, p⟩
  obtain ⟨q, hz⟩ := hl i acc H2 hi p
  refine ⟨hz, ?_⟩
  by_cases hlt : i < xs.length
  · refine .inr ⟨⟨xs, xs[i], q, by simp [hlt]⟩, fun x H3 y => ?_⟩
    obtain ⟨z, v, hz, rfl, y, rfl⟩ := y
    exact ⟨z, _, _, rfl, SqT.of upd_same, hs i v acc _ z hlt (y xs q) p hz⟩
  · have e : i = xs.length := by omega
    subst e
    exact .inl ⟨⟨xs, q, Nat.le_refl _⟩, hd acc H2 p⟩
end L3
set_option maxHeartbeats 4000000
namespace L3
open PySem PySem.Spec PyProof.Rows L2
/-! ### for x, y in zip(xs, ys) -/
def Itz (K : PySem.W.Frag) (a b : Addr) : It :=
  ⟨fun i H => ∃ xs ys x y, SqL K H a xs ∧ SqL K H b ys ∧ xs[i]? = some x ∧ ys[i]? = some y,
   fun i H x H' => ∃ p v u, H p = none ∧ x = .ref p ∧ (∀ xs, SqL K H a xs → xs[i]? = some v) ∧ (∀ ys, SqL K H b ys → ys[i]? = some u) ∧ H' = upd H p (.tup [v, u]),
   fun i H => ∃ xs ys, SqL K H a xs ∧ SqL K H b ys ∧ (xs.length ≤ i ∨ ys.length ≤ i)⟩
theorem turn_zip {P : Program} {w : World} {K : PySem.W.Frag} {elts : List Expr} {k1 : Nat} {pos : Pos} (z TI TO i1 i2 a b : Addr) (n0 : z ≠ TI ∧ z ≠ TO ∧ z ≠ i1 ∧ z ≠ i2 ∧ TI ≠ TO ∧ TI ≠ i1 ∧ TI ≠ i2 ∧ TO ≠ i1 ∧ TO ≠ i2 ∧ i1 ≠ i2) :
    Turn P w K (.Tuple elts k1 pos) (Itz K a b) [z, TI, TO, i1, i2] z (fun i h => IsZip h z TI TO .none ∧ IsPair h TI (.ref i1) (.ref i2) ∧ (∃ u v, IsPair h TO u v) ∧ h.IsListIter i1 a i ∧ h.IsListIter i2 b i) where
  mem := by simp
  obj := fun i h st c hc => by
    obtain ⟨hz, hTI, ⟨u, v, hTO⟩, ⟨o1, e1, _, d1⟩, o2, e2, _, d2⟩ := st
    simp only [List.mem_cons, List.not_mem_nil, or_false] at hc
    rcases hc with rfl | rfl | rfl | rfl | rfl
    · exact ⟨_, hz, fun v z => by cases z⟩
    · exact ⟨_, hTI, fun v z => by cases z⟩
    · exact ⟨_, hTO, fun v z => by cases z⟩
    · exact ⟨o1, e1, fun v z => by rw [d1] at z; cases z⟩
    · exact ⟨o2, e2, fun v z => by rw [d2] at z; cases z⟩
  keep := fun i h h' st k => by
    obtain ⟨hz, hTI, ⟨u, v, hTO⟩, h1, h2⟩ := st
    exact ⟨k z (by simp) _ hz, k TI (by simp) _ hTI, ⟨u, v, k TO (by simp) _ hTO⟩, h1.at fun o q => k i1 (by simp) o q, h2.at fun o q => k i2 (by simp) o q⟩
  item := by
    intro X hP hw hK hc i pins s σ H E I hf st hg
    subst hP hw hK
    obtain ⟨hz, hTI, ⟨u0, v0, hTO⟩, h1, h2⟩ := st
    obtain ⟨xs, ys, x, y, hq1, hq2, hx, hy⟩ := hg
    obtain ⟨its1, rv1, p1, hz1⟩ := I.list hq1
    obtain ⟨its2, rv2, p2, hz2⟩ := I.list hq2
    obtain ⟨u, hu, ru⟩ := rv1.get hx
    obtain ⟨u', hu', ru'⟩ := rv2.get hy
    have free : ∀ c ∈ [z, TI, TO, i1, i2], H c = none := fun c hc => (hf c hc).1
    have nl : ∀ (l : Addr) (zs : List V), SqL X.K H l zs → ∀ c ∈ [z, TI, TO, i1, i2], l ≠ c := fun l zs hl c hc e => by
      subst e
      rcases hl with (q | ⟨o, q⟩) | ⟨o, its, n, q, _⟩
      · rw [free _ hc] at q; cases q
      · rw [free _ hc] at q; cases q
      · have q1 := (I.bs l o (I.ok.mod.kin l o q)).1
        have := hf l hc
        rcases this.2.2.2.1 with q2 | q2
        · exact I.ok.noex l o (I.ok.mod.kin l o q) q2
        · exact Nat.lt_irrefl _ (Nat.lt_of_lt_of_le (Nat.lt_of_lt_of_le (Heap.lt_size (I.ok.mod.kin l o q)) I.ok.bsz) q2)
    obtain ⟨n1, n2, n3, n4, n5, n6, n7, n8, n9, n10⟩ := n0
    have D : ZipApart z TI TO i1 i2 a b := ⟨n1.symm, n2.symm, n3.symm, n4.symm, n5, n6, n7, n8, n9, n10, nl a xs hq1 z (by simp), nl a xs hq1 TO (by simp), nl a xs hq1 i1 (by simp), nl a xs hq1 i2 (by simp), nl b ys hq2 z (by simp), nl b ys hq2 TO (by simp), nl b ys hq2 i1 (by simp), nl b ys hq2 i2 (by simp)⟩
    refine wpAny_pyNext_zip_item D hz hTI hTO h1 h2 p1.isList p2.isList (x := u) (y := u') (by simpa using hu) (by simpa using hu') fun h' hz' hTO' h1' h2' hT hsz hk => ?_
    refine ⟨_, rfl, wpAny_letOwnedTupleGo_zip hz' fun h'' hz'' hs'' => ?_⟩
    have lt : ∀ c ∈ [z, TI, TO, i1, i2], c < s.heap.objs.size := fun c hc => by
      simp only [List.mem_cons, List.not_mem_nil, or_false] at hc
      rcases hc with rfl | rfl | rfl | rfl | rfl
      · exact Heap.lt_size hz
      · exact Heap.lt_size hTI
      · exact Heap.lt_size hTO
      · obtain ⟨_, q, _⟩ := h1; exact Heap.lt_size q
      · obtain ⟨_, q, _⟩ := h2; exact Heap.lt_size q
    have up : ∀ c o, c ≠ z → h'.get? c = some o → h''.get? c = some o := fun c o hc q => (hs''.2 c hc).trans q
    have T := tupled (h' := h'') (t' := s.toks) (ch := [z, TI, TO, i1, i2]) (xs := [x, y]) (us := #[u, u']) I hf lt
      (fun c o hc q => up c o (fun e => hc (by simp [e])) (hk c o (fun e => hc (by simp [e])) (fun e => hc (by simp [e])) (fun e => hc (by simp [e])) (fun e => hc (by simp [e])) q))
      (up _ _ (Nat.ne_of_gt (lt z (by simp))) hT) (.cons ru (.cons ru' .nil)) (by show 2 ≤ sizeLine; decide)
    refine ⟨.ref s.heap.objs.size, _, T.1, rfl, ⟨_, x, y, I.hok.fresh (Nat.le_refl _), rfl, fun zs hzs => by rw [I.list_inj hzs hq1]; exact hx, fun zs hzs => by rw [I.list_inj hzs hq2]; exact hy, rfl⟩, ?_, T.2⟩
    exact ⟨hz'', up _ _ n1.symm (hk _ _ n1.symm n5 n6 n7 hTI), ⟨_, _, up _ _ n2.symm hTO'⟩, h1'.at fun o q => up _ o n3.symm q, h2'.at fun o q => up _ o n4.symm q⟩
  done := by
    intro X hP hw hK hc i pins s σ H E I hf st hg
    subst hP hw hK
    obtain ⟨hz, hTI, ⟨u0, v0, hTO⟩, h1, h2⟩ := st
    obtain ⟨xs, ys, hq1, hq2, hend⟩ := hg
    obtain ⟨its1, rv1, p1, hz1⟩ := I.list hq1
    obtain ⟨its2, rv2, p2, hz2⟩ := I.list hq2
    have free : ∀ c ∈ [z, TI, TO, i1, i2], H c = none := fun c hc => (hf c hc).1
    have nl : ∀ (l : Addr) (zs : List V), SqL X.K H l zs → ∀ c ∈ [z, TI, TO, i1, i2], l ≠ c := fun l zs hl c hc e => by
      subst e
      rcases hl with (q | ⟨o, q⟩) | ⟨o, its, n, q, _⟩
      · rw [free _ hc] at q; cases q
      · rw [free _ hc] at q; cases q
      · rcases (hf l hc).2.2.2.1 with q2 | q2
        · exact I.ok.noex l o (I.ok.mod.kin l o q) q2
        · exact Nat.lt_irrefl _ (Nat.lt_of_lt_of_le (Nat.lt_of_lt_of_le (Heap.lt_size (I.ok.mod.kin l o q)) I.ok.bsz) q2)
    obtain ⟨n1, n2, n3, n4, n5, n6, n7, n8, n9, n10⟩ := n0
    have D : ZipApart z TI TO i1 i2 a b := ⟨n1.symm, n2.symm, n3.symm, n4.symm, n5, n6, n7, n8, n9, n10, nl a xs hq1 z (by simp), nl a xs hq1 TO (by simp), nl a xs hq1 i1 (by simp), nl a xs hq1 i2 (by simp), nl b ys hq2 z (by simp), nl b ys hq2 TO (by simp), nl b ys hq2 i1 (by simp), nl b ys hq2 i2 (by simp)⟩
    have l1 := rv1.length
    have l2 := rv2.length
    refine wpAny_pyNext_zip_end (I.ok.hd hc) D hz hTI hTO h1 h2 p1.isList p2.isList ?_ fun h' hk => ⟨rfl, turnedL (t' := s.toks) (ch := [z, TI, TO, i1, i2]) I hf fun c o hc q => hk c o (fun e => hc (by simp [e])) (fun e => hc (by simp [e])) (fun e => hc (by simp [e])) (fun e => hc (by simp [e])) q⟩
    rcases hend with q | q
    · exact .inl (by simp; omega)
    · exact .inr (by simp; omega)
  self := fun _ _ _ _ _ st h => wpAny_pyIter_zip st.1 h
theorem five_apart (n : Nat) : n + 4 ≠ n + 2 ∧ n + 4 ≠ n + 3 ∧ n + 4 ≠ n ∧ n + 4 ≠ n + 1 ∧ n + 2 ≠ n + 3 ∧ n + 2 ≠ n ∧ n + 2 ≠ n + 1 ∧ n + 3 ≠ n ∧ n + 3 ≠ n + 1 ∧ n ≠ n + 1 := by omega
def iZip (K : PySem.W.Frag) (t : TA) : TI := fun σ H R => t σ H fun vs H1 => ∃ a b, vs = [.ref a, .ref b] ∧ (∃ xs, SqL K H1 a xs) ∧ (∃ ys, SqL K H1 b ys) ∧ R (Itz K a b) H1
theorem pi_zip {X : Cx} {l l' : Expr} {tl : TA} {elts : List Expr} {k1 : Nat} {tpos p pos : Pos} (hg : Gl X "zip") (hm : X.mg "zip" = none) (hl : PA X [l, l'] tl) (hs : starEach [l, l'] X.env = [(false, eval l X.env), (false, eval l' X.env)] := by rfl) (hs2 : starEach [l'] X.env = [(false, eval l' X.env)] := by rfl) :
    PI X (.Tuple elts k1 tpos) (.Call (.Name "zip" p) [l, l'] [] pos) (iZip X.K tl) := by
  intro pins s σ H R I h
  refine Call_ (ld_blt I hg hm boot_zip (PyProof.Rows.callWith_type1 (thn (hl pos pins s σ H _ I h) fun us s1 ⟨vs, H1, I1, r1, q1⟩ => ?_) (by rw [hs, hs2]) (by rw [hs2]; rfl)))
  obtain ⟨a, b, e, ⟨xs, hq1⟩, ⟨ys, hq2⟩, q⟩ := q1
  subst e
  cases r1 with
  | cons r rr =>
    cases rr with
    | cons r' rr =>
      cases rr
      cases r
      cases r'
      obtain ⟨its1, rv1, p1, hz1⟩ := I1.list hq1
      obtain ⟨its2, rv2, p2, hz2⟩ := I1.list hq2
      refine call_zip_2 p1.isList p2.isList fun h' hz hTI hTO h1 h2 hsz hk => ?_
      refine wpAny_pyIter_zip hz ?_
      refine ⟨s1.heap.objs.size + 4, [s1.heap.objs.size + 4, s1.heap.objs.size + 2, s1.heap.objs.size + 3, s1.heap.objs.size, s1.heap.objs.size + 1], _, _, H1, rfl, I1.kept (t' := s1.toks) fun c o e => hk c o e, turn_zip _ _ _ _ _ a b (five_apart _), ⟨hz, hTI, ⟨_, _, hTO⟩, h1, h2⟩, fun c hc => ?_, q⟩
      have hle : s1.heap.objs.size ≤ c := by
        simp only [List.mem_cons, List.not_mem_nil, or_false] at hc
        rcases hc with rfl | rfl | rfl | rfl | rfl <;> omega
      exact I1.fpOk hle (I1.hok.fresh hle)
/-- over the items of two lists side by side, that the body leaves as they are -/
theorem for_zip {K : PySem.W.Frag} {a b : Addr} {xs ys : List V} {g : TG} {tb : TS} {D : Ends} {σ : L2.St} {H : Hp} (Pv : Nat → L2.St → Hp → Prop) (hlen : xs.length = ys.length) (h0 : Pv 0 σ H) (hl : ∀ i σ H, i ≤ xs.length → Pv i σ H → SqL K H a xs ∧ SqL K H b ys)
    (hs : ∀ i x y σ H p, xs[i]? = some x → ys[i]? = some y → Pv i σ H → H p = none → g (.ref p) σ (upd H p (.tup [x, y])) fun σ2 H2 => tb { D with nx := Pv (i + 1), ct := Pv (i + 1), bk := D.nx } σ2 H2) (hd : ∀ σ H, Pv xs.length σ H → D.nx σ H) :
    ∃ W : Nat → Nat → L2.St → Hp → Prop, (∃ m, W 0 m σ H) ∧ ∀ i m σ H, W i m σ H →
      ((Itz K a b).stop i H ∧ D.nx σ H) ∨ ((Itz K a b).go i H ∧ ∃ N : L2.St → Hp → Prop, (∀ σ' H', N σ' H' → ∃ m', m' < m ∧ W (i + 1) m' σ' H') ∧ ∀ x H', (Itz K a b).yld i H x H' → g x σ H' fun σ2 H2 => tb { D with nx := N, ct := N, bk := D.nx } σ2 H2) := by
  refine ⟨fun i m σ H => m = xs.length - i ∧ i ≤ xs.length ∧ Pv i σ H, ⟨xs.length, by simp, Nat.zero_le _, h0⟩, ?_⟩
  rintro i m σ H ⟨rfl, hi, p⟩
  obtain ⟨q1, q2⟩ := hl i σ H hi p
  by_cases hlt : i < xs.length
  · have hlt2 : i < ys.length := by omega
    refine .inr ⟨⟨xs, ys, xs[i], ys[i], q1, q2, by simp [hlt], by simp [hlt2]⟩, Pv (i + 1), fun σ' H' p' => ⟨xs.length - (i + 1), by omega, rfl, hlt, p'⟩, fun x H' y => ?_⟩
    obtain ⟨z, v, u, hz, rfl, y1, y2, rfl⟩ := y
    exact hs i v u σ _ z (y1 xs q1) (y2 ys q2) p hz
  · have e : i = xs.length := by omega
    subst e
    exact .inl ⟨⟨xs, ys, q1, q2, .inl (Nat.le_refl _)⟩, hd σ H p⟩
/-! ### a dict is frozen while it is walked -/
theorem freeze {X : Cx} {pins : List (Addr × Obj)} {σ : L2.St} {H : Hp} {s : Shared} {d : Addr} {kvs : List (Key × V)} {o : Obj} (I : Inv X pins σ H s) (e : H d = some (.dK kvs)) (ho : s.heap.get? d = some o) :
    Inv X pins σ (upd H d (.frz o (.dK kvs))) s := by
  have ne : ∀ b u, H b = some u → u ≠ .dK kvs → b ≠ d := fun b u h hu z => by subst z; rw [e] at h; exact hu (Option.some.inj h).symm
  refine I.step (g' := s.gens) (d' := s.drawn) (t' := s.toks) (h' := s.heap) (ch := []) (fun _ z => nomatch z) (fun b o _ _ _ h _ => h) (fun b o _ _ _ h _ => ⟨o.slots, h⟩) (fun b ob _ h n => ?_) (fun b o _ h => ⟨o, h⟩) (fun b xs h => ?_) (fun b ob u h => ?_) (fun b ps h => ?_) (fun m hm => hm) (fun b u h => ?_) I.bare
  · rw [upd_ne (fun z => by subst z; rw [e] at n; cases n)]; exact n
  · rw [upd_ne (ne b _ h (by intro z; cases z))]; exact h
  · rw [upd_ne (ne b _ h (by intro z; cases z))]; exact h
  · exact ⟨#[], by rw [upd_ne (ne b _ h (by intro z; cases z)), h]; simp⟩
  · by_cases hb : b = d
    · subst hb
      rw [upd_same] at h
      cases h
      exact ⟨ho, I.hok _ _ e⟩
    · rw [upd_ne hb] at h
      exact (I.hok b u h).stay (fun c v _ q => q) (fun c q => by rw [upd_ne (ne c _ q (by intro z; cases z))]; exact q) fun c xs q => by rw [upd_ne (ne c _ q (by intro z; cases z))]; exact q
theorem key_rel {k : Key} {v : Value} (h : keyIs k v = true) : RelV (kV k) v := by
  rcases keyIs_shape h with ⟨i, t, rfl, rfl⟩ | ⟨x, t, rfl, rfl⟩
  · exact ⟨t, rfl⟩
  · exact ⟨t, rfl⟩
theorem KV.get {κ : Type} {kvs : List (κ × V)} {vs : List (κ × Value)} (r : KV kvs vs) {i : Nat} {k : κ} {v : V} (h : kvs[i]? = some (k, v)) : ∃ u, vs[i]? = some (k, u) ∧ RelV v u := by
  induction r generalizing i with
  | nil => simp at h
  | @cons p q ps qs hpq _ ih =>
    cases i with
    | zero =>
      have e : p = (k, v) := by simpa using h
      subst e
      obtain ⟨k', u⟩ := q
      have e : k = k' := hpq.1
      subst e
      exact ⟨u, rfl, hpq.2⟩
    | succ i => exact ih (by simpa using h)
theorem kv_len {κ : Type} {kvs : List (κ × V)} {vs : List (κ × Value)} (r : KV kvs vs) : kvs.length = vs.length := Paired.length r
/-- the items of the dict at d, frozen as o -/
def Itd (d : Addr) (o : Obj) (kvs : List (Key × V)) : It :=
  ⟨fun i H => H d = some (.frz o (.dK kvs)) ∧ i < kvs.length, fun i H x H' => ∃ p k v, H p = none ∧ kvs[i]? = some (k, v) ∧ x = .ref p ∧ H' = upd H p (.tup [kV k, v]), fun i H => H d = some (.frz o (.dK kvs)) ∧ kvs.length ≤ i⟩
/-- its keys -/
def Itk (d : Addr) (o : Obj) (kvs : List (Key × V)) : It :=
  ⟨fun i H => H d = some (.frz o (.dK kvs)) ∧ i < kvs.length, fun i H x H' => ∃ k v, kvs[i]? = some (k, v) ∧ x = kV k ∧ H' = H, fun i H => H d = some (.frz o (.dK kvs)) ∧ kvs.length ≤ i⟩
theorem entry_itit : entryFor table "dict_itemiterator.__iter__" = some Builtin.«dict_keyiterator.__iter__» := by
  refine entryFor_alias (id' := "dict_keyiterator.__iter__") ?_ ?_ ?_ ?_
  · kernel_rfl
  · first
      | rfl
      | decide +kernel
      | (unfold String.splitOn
         simp +decide [String.splitOnAux])
  · decide +kernel
  · kernel_rfl
section
variable {P : Program} {w : World} {K : PySem.W.Frag}
theorem turn_items {elts : List Expr} {k1 : Nat} {pos : Pos} {d it : Addr} {o : Obj} {kvs : List (Key × V)} {vs : List (Key × Value)} {ep : Nat} (r : KV kvs vs) (hD : ∀ h : Heap, h.get? d = some o → h.DictAt (mixKind P w) d vs ep) :
    Turn P w K (.Tuple elts k1 pos) (Itd d o kvs) [it] it (fun i h => ∃ ok ov, IsItemIter h it d i vs.length ep ok ov) where
  mem := by simp
  obj := fun i h st b hb => by
    obtain ⟨ok, ov, e⟩ := st
    have z : b = it := by simpa using hb
    subst z
    exact ⟨_, e, fun v z => by cases z⟩
  keep := fun i h h' st k => by
    obtain ⟨ok, ov, e⟩ := st
    exact ⟨ok, ov, k it (by simp) _ e⟩
  item := by
    intro X hP hw hK hc i pins s σ H E I hf st hg
    subst hP hw hK
    obtain ⟨ok, ov, hit⟩ := st
    obtain ⟨hH, hi⟩ := hg
    have hd : s.heap.get? d = some o := (show s.heap.get? d = some o ∧ _ from I.hok d _ hH).1
    have ex : kvs[i]? = some (kvs[i].1, kvs[i].2) := by rw [List.getElem?_eq_getElem hi]
    obtain ⟨u, hu, ru⟩ := KV.get r ex
    refine wpAny_pyNext_items_item hit (hD _ hd) hu fun key h' hk hit' hT hsz hkp => ?_
    refine ⟨_, rfl, wpAny_letOwnedTupleGo_items hit' fun h'' he'' hs'' => ?_⟩
    have hil : it < s.heap.objs.size := Heap.lt_size hit
    have T := tupled (h' := h'') (t' := s.toks) (ch := [it]) (xs := [kV kvs[i].1, kvs[i].2]) (us := #[key, u]) I hf (fun b hb => by
        have z : b = it := by simpa using hb
        subst z; exact hil)
      (fun b ob hb q => (hs''.2 b (fun z => hb (by simp [z]))).trans (hkp b ob (fun z => hb (by simp [z])) q))
      ((hs''.2 _ (Nat.ne_of_gt hil)).trans hT) (.cons (key_rel hk) (.cons ru .nil)) (by show 2 ≤ sizeLine; decide)
    exact ⟨.ref s.heap.objs.size, _, T.1, rfl, ⟨_, _, _, I.hok.fresh (Nat.le_refl _), ex, rfl, rfl⟩, ⟨_, _, he''⟩, T.2⟩
  done := by
    intro X hP hw hK hc i pins s σ H E I hf st hg
    subst hP hw hK
    obtain ⟨ok, ov, hit⟩ := st
    obtain ⟨hH, hi⟩ := hg
    have hd : s.heap.get? d = some o := (show s.heap.get? d = some o ∧ _ from I.hok d _ hH).1
    obtain ⟨f0, f1, f2, f3, f4, f5⟩ := hf it (by simp)
    have hl := kv_len r
    exact wpAny_pyNext_items_end (I.ok.hd hc) hit (hD _ hd) (by simp; omega) fun h' eb => ⟨rfl, I.turned (t' := s.toks) (fun b o hb e => eb b o hb e) f0 f1 f3 f4 f5⟩
  self := fun _ _ s' _ _ st h => by
    obtain ⟨ok, ov, hit⟩ := st
    have hT : s'.TypeIs (.ref it) "dict_itemiterator" := ⟨_, hit, rfl⟩
    refine wpAny_pyIter_slot hT F.slot_dict_itemiterator_iter (wpAny_call_entry F.slot_dict_itemiterator_iter hT entry_itit ?_ (F.args_dict_itemiterator_iter_1 _))
    exact wpAny_pure ⟨_, rfl, "dict_itemiterator", _, hT, F.slot_dict_itemiterator_next.lookup, h⟩
theorem turn_keys {tg : Expr} {d it : Addr} {o : Obj} {kvs : List (Key × V)} {vs : List (Key × Value)} {ep : Nat} (r : KV kvs vs) (hD : ∀ h : Heap, h.get? d = some o → h.DictAt (mixKind P w) d vs ep) :
    Turn P w K tg (Itk d o kvs) [it] it (fun i h => h.IsKeyIter it d i vs.length ep) where
  mem := by simp
  obj := fun i h st b hb => by
    obtain ⟨ob, e, _, q⟩ := st
    have z : b = it := by simpa using hb
    subst z
    exact ⟨_, e, fun v z => by rw [q] at z; cases z⟩
  keep := fun i h h' st k => by
    obtain ⟨ob, e, q⟩ := st
    exact ⟨ob, k it (by simp) _ e, q⟩
  item := by
    intro X hP hw hK hc i pins s σ H E I hf st hg
    subst hP hw hK
    obtain ⟨hH, hi⟩ := hg
    have hd : s.heap.get? d = some o := (show s.heap.get? d = some o ∧ _ from I.hok d _ hH).1
    have ex : kvs[i]? = some (kvs[i].1, kvs[i].2) := by rw [List.getElem?_eq_getElem hi]
    obtain ⟨u, hu, ru⟩ := KV.get r ex
    obtain ⟨f0, f1, f2, f3, f4, f5⟩ := hf it (by simp)
    refine wpAny_pyNext_dict_item st (hD _ hd) hu fun key h' hk st' sb => ?_
    have I1 : Inv X pins σ H { s with heap := h' } := I.turned (t' := s.toks) (fun b o hb e => (sb.2 b hb).trans e) f0 f1 f3 f4 f5
    obtain ⟨ob, e, c, q⟩ := id st'
    exact ⟨key, rfl, go_of (s := { s with heap := h' }) e c q (by decide) ⟨kV kvs[i].1, H, I1, key_rel hk, ⟨_, _, ex, rfl, rfl⟩, st', fun b hb => (hf b hb).1⟩⟩
  done := by
    intro X hP hw hK hc i pins s σ H E I hf st hg
    subst hP hw hK
    obtain ⟨hH, hi⟩ := hg
    have hd : s.heap.get? d = some o := (show s.heap.get? d = some o ∧ _ from I.hok d _ hH).1
    obtain ⟨f0, f1, f2, f3, f4, f5⟩ := hf it (by simp)
    have hl := kv_len r
    exact wpAny_pyNext_dict_end (I.ok.hd hc) st (hD _ hd) (by simp; omega) fun h' eb => ⟨rfl, I.turned (t' := s.toks) (fun b o hb e => eb b o hb e) f0 f1 f3 f4 f5⟩
  self := fun _ _ _ _ _ st h => wpAny_pyIter_keyiter st h
end
/-- a dict that is read, frozen or not: it is frozen from here on -/
def Frz (H : Hp) (d : Addr) (kvs : List (Key × V)) (R : Obj → Hp → Prop) : Prop := (∃ o, H d = some (.frz o (.dK kvs)) ∧ R o H) ∨ (H d = some (.dK kvs) ∧ ∀ o, R o (upd H d (.frz o (.dK kvs))))
theorem frz_of {X : Cx} {pins : List (Addr × Obj)} {σ : L2.St} {H : Hp} {s : Shared} {d : Addr} {kvs : List (Key × V)} {R : Obj → Hp → Prop} (I : Inv X pins σ H s) (h : Frz H d kvs R) :
    ∃ (o : Obj) (vs : List (Key × Value)) (ep : Nat) (H' : Hp), Inv X pins σ H' s ∧ R o H' ∧ H' d = some (.frz o (.dK kvs)) ∧ KV kvs vs ∧ (d == sysModules) = false ∧ ∀ h' : Heap, h'.get? d = some o → h'.DictAt (mixKind X.prog X.w) d vs ep := by
  rcases h with ⟨o, e, q⟩ | ⟨e, q⟩
  · obtain ⟨ho, _, hs, vs, r, o', es, ep, ho', rest⟩ := (show s.heap.get? d = some o ∧ kvs.length ≤ sizeLine ∧ (d == sysModules) = false ∧ ∃ vs, KV kvs vs ∧ s.heap.DictOf (mixKind X.prog X.w) d vs from I.hok d _ e)
    rw [ho] at ho'
    cases ho'
    exact ⟨o, vs, ep, H, I, q, e, r, hs, fun h' hh => ⟨o, es, hh, rest⟩⟩
  · obtain ⟨_, hs, vs, r, o, es, ep, ho, rest⟩ := (show kvs.length ≤ sizeLine ∧ (d == sysModules) = false ∧ ∃ vs, KV kvs vs ∧ s.heap.DictOf (mixKind X.prog X.w) d vs from I.hok d _ e)
    exact ⟨o, vs, ep, _, freeze I e ho, q o, upd_same, r, hs, fun h' hh => ⟨o, es, hh, rest⟩⟩
def iItems (td : TE) : TI := fun σ H R => td σ H fun x H1 => ∃ d kvs, x = .ref d ∧ Frz H1 d kvs fun o H2 => R (Itd d o kvs) H2
theorem pi_items {X : Cx} {e : Expr} {td : TE} {elts : List Expr} {k1 : Nat} {tpos apos cpos : Pos} (he : PE X e td)
    (hbase : attributeBase e "items" X.env (eval e X.env) = eval e X.env := by rfl) (hline : (apos.endLine == cpos.line) = true := by rfl) :
    PI X (.Tuple elts k1 tpos) (.Call (.Attribute e "items" apos) [] [] cpos) (iItems td) := by
  intro pins s σ H R I h
  refine wpAny_Call_method0_late hbase hline (thn (he pins s σ H _ I h) fun v s1 ⟨x, H1, I1, r1, d, kvs, ex, fz⟩ => ?_)
  subst ex
  cases r1
  obtain ⟨o, vs, ep, H2, I2, q, hd, r, hs, hD⟩ := frz_of I1 fz
  have hg : s1.heap.get? d = some o := (show s1.heap.get? d = some o ∧ _ from I2.hok d _ hd).1
  have hA := hD _ hg
  have hT : s1.TypeIs (.ref d) "dict" := hA.dictOf.typeIs
  refine ⟨"dict", "dict.items", F.plainAttrs_dict, F.slot_dict_items, F.type_dict_items, hT, fun a ea => ?_, Calls.callWith_builtin rfl (PySem.evalArgs_none ?_)⟩
  · cases ea
    obtain ⟨o', es, e1, ex, _⟩ := hA
    exact ⟨o', e1, ex.2.1⟩
  refine call_meetsIn F.slot_dict_items hT F.entry_dict_items (F.args_dict_items_1 _) (meets_dict_items (mixKind X.prog X.w) d hs) ⟨⟨vs, hA.dictOf⟩, ?_⟩
  have hA2 := hD (s1.heap.push { cls := .type "dict_items", data := .fields #[.ref d] }) (Heap.get?_push_of_some _ hg)
  refine wpAny_pyIter_items (knd := mixKind X.prog X.w) ⟨_, Heap.get?_push_size _ rfl, rfl, rfl⟩ hA2 ?_
  have I3 : Inv X pins σ H2 { s1 with heap := s1.heap.push { cls := .type "dict_items", data := .fields #[.ref d] } } := I2.kept (t' := s1.toks) fun b ob e => Heap.get?_push_of_some _ e
  refine ⟨(s1.heap.push { cls := .type "dict_items", data := .fields #[.ref d] }).objs.size, [(s1.heap.push { cls := .type "dict_items", data := .fields #[.ref d] }).objs.size], _, _, H2, rfl, I3.kept (t' := s1.toks) fun b ob e => Heap.get?_push_of_some _ e, turn_items r hD, ⟨_, _, Heap.get?_push_size _ rfl⟩, fun b hb => ?_, q⟩
  have e : b = (s1.heap.push { cls := .type "dict_items", data := .fields #[.ref d] }).objs.size := by simpa using hb
  subst e
  exact I3.fpOk (Nat.le_refl _) (I3.hok.fresh (Nat.le_refl _))
def iKeys (td : TE) : TI := fun σ H R => td σ H fun x H1 => ∃ d kvs, x = .ref d ∧ Frz H1 d kvs fun o H2 => R (Itk d o kvs) H2
theorem pi_keys {X : Cx} {e tg : Expr} {td : TE} (he : PE X e td) : PI X tg e (iKeys td) := by
  intro pins s σ H R I h
  refine thn (he pins s σ H _ I h) fun v s1 ⟨x, H1, I1, r1, d, kvs, ex, fz⟩ => ?_
  subst ex
  cases r1
  obtain ⟨o, vs, ep, H2, I2, q, hd, r, hs, hD⟩ := frz_of I1 fz
  have hg : s1.heap.get? d = some o := (show s1.heap.get? d = some o ∧ _ from I2.hok d _ hd).1
  refine wpAny_pyIter_dict (knd := mixKind X.prog X.w) hs (hD _ hg) ?_
  refine ⟨s1.heap.objs.size, [s1.heap.objs.size], _, _, H2, rfl, I2.kept (t' := s1.toks) fun b ob e => Heap.get?_push_of_some _ e, turn_keys r hD, ⟨_, Heap.get?_push_size _ rfl, rfl, rfl⟩, fun b hb => ?_, q⟩
  have e : b = s1.heap.objs.size := by simpa using hb
  subst e
  exact I2.fpOk (Nat.le_refl _) (I2.hok.fresh (Nat.le_refl _))
/-- over the items of a dict that the body leaves as it is -/
theorem for_items {d : Addr} {o : Obj} {kvs : List (Key × V)} {g : TG} {tb : TS} {D : Ends} {σ : L2.St} {H : Hp} (Pv : Nat → L2.St → Hp → Prop) (h0 : Pv 0 σ H) (hl : ∀ i σ H, i ≤ kvs.length → Pv i σ H → H d = some (.frz o (.dK kvs)))
    (hs : ∀ i k v σ H p, kvs[i]? = some (k, v) → Pv i σ H → H p = none → g (.ref p) σ (upd H p (.tup [kV k, v])) fun σ2 H2 => tb { D with nx := Pv (i + 1), ct := Pv (i + 1), bk := D.nx } σ2 H2) (hd : ∀ σ H, Pv kvs.length σ H → D.nx σ H) :
    ∃ W : Nat → Nat → L2.St → Hp → Prop, (∃ m, W 0 m σ H) ∧ ∀ i m σ H, W i m σ H →
      ((Itd d o kvs).stop i H ∧ D.nx σ H) ∨ ((Itd d o kvs).go i H ∧ ∃ N : L2.St → Hp → Prop, (∀ σ' H', N σ' H' → ∃ m', m' < m ∧ W (i + 1) m' σ' H') ∧ ∀ x H', (Itd d o kvs).yld i H x H' → g x σ H' fun σ2 H2 => tb { D with nx := N, ct := N, bk := D.nx } σ2 H2) := by
  refine ⟨fun i m σ H => m = kvs.length - i ∧ i ≤ kvs.length ∧ Pv i σ H, ⟨kvs.length, by simp, Nat.zero_le _, h0⟩, ?_⟩
  rintro i m σ H ⟨rfl, hi, p⟩
  have q := hl i σ H hi p
  by_cases hlt : i < kvs.length
  · refine .inr ⟨⟨q, hlt⟩, Pv (i + 1), fun σ' H' p' => ⟨kvs.length - (i + 1), by omega, rfl, hlt, p'⟩, fun x H' y => ?_⟩
    obtain ⟨z, k, v, hz, ek, rfl, rfl⟩ := y
    exact hs i k v σ _ z ek p hz
  · have e : i = kvs.length := by omega
    subst e
    exact .inl ⟨⟨q, Nat.le_refl _⟩, hd σ H p⟩
/-- a comprehension with a test over the keys of a dict -/
theorem comp_keysF {d : Addr} {o : Obj} {kvs : List (Key × V)} {js : List Nat} {tc : TT} {te : TE} {σ : L2.St} {H : Hp} {Q : VK} (Pv : Nat → List V → Hp → Prop) (h0 : Pv 0 [] H) (hl : ∀ i acc H, i ≤ kvs.length → Pv i acc H → H d = some (.frz o (.dK kvs)) ∧ acc.length < sizeLine)
    (hs : ∀ i k v acc H, i < kvs.length → kvs[i]? = some (k, v) → Pv i acc H → tc (some (kV k) :: capt js σ) H fun ok H' => if ok = true then te (some (kV k) :: capt js σ) H' fun v H'' => Nxt kvs.length i (Pv (i + 1) (acc ++ [v]) H'') else Nxt kvs.length i (Pv (i + 1) acc H')) (hd : ∀ acc H, Pv kvs.length acc H → ∀ D, H D = none → Q (.ref D) (upd H D (.lst acc))) : CompEndF js tc te σ Q (Itk d o kvs) H := by
  refine ⟨fun i m acc H => m = kvs.length - i ∧ i ≤ kvs.length ∧ Pv i acc H, ⟨kvs.length, by simp, Nat.zero_le _, h0⟩, ?_⟩
  rintro i m acc H2 ⟨rfl, hi, p⟩
  obtain ⟨q, hz⟩ := hl i acc H2 hi p
  refine ⟨hz, ?_⟩
  by_cases hlt : i < kvs.length
  · refine .inr ⟨⟨q, hlt⟩, fun x H3 y => ?_⟩
    obtain ⟨k, v, ek, rfl, rfl⟩ := y
    exact hs i k v acc _ hlt ek p
  · have e : i = kvs.length := by omega
    subst e
    exact .inl ⟨⟨q, Nat.le_refl _⟩, hd acc H2 p⟩
end L3
set_option maxHeartbeats 4000000
namespace L3
open PySem PySem.Spec PyProof.Rows L2
/-! ### isinstance of what is read -/
/-- of a tuple, of a dict, frozen or a constant or not -/
theorem call_isinstR {X : Cx} : CallR X (.builtin "isinstance") (fun xs H Q => ∃ (p : Addr) (n t : String) (b : Bool), xs = [.ref p, .ty n] ∧ ((∃ ys, SqT X.K H p ys ∧ t = "tuple") ∨ ∃ kvs : List (Key × V), Rd H p (.dK kvs) ∧ t = "dict") ∧ PySem.W.kitOne X.K (.type t) (.type n) = some b ∧ Q (.bl b) H) := by
  intro pins s σ H xs us Q I r h
  obtain ⟨p, n, t, b, rfl, ht, e, q⟩ := h
  obtain ⟨u, w', rfl, ru, rw'⟩ := vals2 r
  cases ru
  have ew : w' = .type n := rw'
  subst ew
  rcases ht with ⟨ys, hy, rfl⟩ | ⟨kvs, hk, rfl⟩
  · obtain ⟨its, _, ⟨o, h1, h2, _⟩, _⟩ := I.tuple hy
    exact PySem.W.kia_one PySem.W.kitx_tuple I.kIn ⟨o, h1, h2⟩ e (fun z => nomatch z) fun tk => ⟨.bl b, H, I.tok tk, rfl, q⟩
  · obtain ⟨_, _, vs, _, o, es, ep, h1, h2, _⟩ := dk_rd I.hok hk
    exact PySem.W.kia_one PySem.W.kitx_dict I.kIn ⟨o, h1, h2.1⟩ e (fun z => nomatch z) fun tk => ⟨.bl b, H, I.tok tk, rfl, q⟩
/-! ### == of dicts of trees, and of pairs of such dicts -/
def EqIn (P : Program) (w : World) (A : Around) (s : Shared) (y x : Value) : Prop := ∀ (E : Value → Shared → Prop) (Q : Bool → Shared → Prop), Q true s → wpAny (model P w) A (eqBool y x) Q E s
theorem EqIn.rc {P : Program} {w : World} {A : Around} {s : Shared} {l b : Addr} (h : ∀ (E : Value → Shared → Prop) (Q : Value → Shared → Prop), Q (.bool true) s → wpAny (model P w) A (richCompare .Eq (.ref l) (.ref b)) Q E s) : EqIn P w A s (.ref l) (.ref b) := by
  by_cases e : l = b
  · subst e
    exact fun E Q hq => SeqAt.EqAt.same _ P w E Q hq
  · intro E Q hq
    unfold eqBool
    refine wpAny_holding (wpAny_ite_split (fun z => ?_) (fun _ => ?_))
    · have := eq_of_beq z
      injection this with this
      exact absurd this e
    · exact wpAny_bind (h E _ (wpAny_truthy_bool hq))
/-- the dicts at a and b have the same keys and trees that are alike -/
def DEq (K : PySem.W.Frag) (H : Hp) (a b : Addr) : Prop := ∃ ka kb : List (Key × V), Rd H a (.dK ka) ∧ Rd H b (.dK kb) ∧ ka.length = kb.length ∧ ∀ p ∈ ka, ∃ v d, valV kb p.1 = some v ∧ Rep K H d p.2 ∧ Rep K H d v ∧ eqD d d = true ∧ dep d ≤ 50
section
variable {X : Cx} {pins : List (Addr × Obj)} {σ : L2.St} {H : Hp} {s : Shared}
theorem hits_of (I : Inv X pins σ H s) {A : Around} (hu : A.units + 50 < cLine) {kb : List (Key × V)} {vb : List (Key × Value)} (rb : KV kb vb) : ∀ {ka : List (Key × V)} {va : List (Key × Value)}, KV ka va →
    (∀ p ∈ ka, ∃ v d, valV kb p.1 = some v ∧ Rep X.K H d p.2 ∧ Rep X.K H d v ∧ eqD d d = true ∧ dep d ≤ 50) → PySem.W.KeqHits A s vb va true := by
  intro ka va r
  unfold KV at r
  induction r with
  | nil => exact fun _ => .nil
  | @cons p q ps qs h t ih =>
    intro hp
    obtain ⟨h1, h2⟩ := h
    obtain ⟨v, d, e, r1, r2, g, hd⟩ := hp p (by simp)
    have rv := rb.val p.1
    rw [e] at rv
    cases w : valueAt vb p.1 with
    | none => rw [w] at rv; exact (show False from rv).elim
    | some y =>
      rw [w] at rv
      have rv : RelV v y := rv
      have ea := rep_eq I 50 A d d p.2 v q.2 y hd hu r1 r2 h2 rv
      rw [g] at ea
      have hq : q = (p.1, q.2) := by rw [h1]
      have k := PySem.W.KeqHits.hit (A := A) (s := s) (kb := vb) (k := p.1) (v := q.2) (e := true) w ea (ih fun x hx => hp x (by simp [hx]))
      rw [hq]
      exact k
theorem DEq.at (I : Inv X pins σ H s) {A : Around} (hu : A.units + 51 < cLine) {a b : Addr} (h : DEq X.K H a b) : EqIn X.prog X.w A s (.ref a) (.ref b) := by
  obtain ⟨ka, kb, ra, rb, hl, hh⟩ := h
  obtain ⟨_, na, va, qa, da⟩ := dk_rd I.hok ra
  obtain ⟨_, nb, vb, qb, db⟩ := dk_rd I.hok rb
  refine EqIn.rc fun E Q hq => ?_
  refine PySem.W.keq_eq (r := true) na nb da db (by omega) (fun _ => hits_of I (by show A.units + 1 + 50 < cLine; omega) qb qa hh) ?_
  have e : (va.length == vb.length) = true := by rw [← qa.length, ← qb.length, hl]; simp
  rw [e]
  exact hq
end
/-! ### more rules by K alone -/
theorem call_lenR {X : Cx} : CallR X (.builtin "len") (fun xs H Q => ∃ (a : Addr) (kvs : List (Key × V)), xs = [V.ref a] ∧ Rd H a (.dK kvs) ∧ Q (.int kvs.length) H) := by
  intro pins s σ H xs us Q I r h
  obtain ⟨a, kvs, rfl, ha, q⟩ := h
  obtain ⟨u, rfl, ru⟩ := vals1 r
  cases ru
  exact d_len I ha fun t s' I' => ⟨.int _, H, I', ⟨t, rfl⟩, q⟩
end L3
set_option maxHeartbeats 4000000
set_option maxRecDepth 100000
namespace Lw
open PySem L2 L3 Mt
seal L2.PSs L2.PS L2.PE L2.PA L2.PT L2.PW L2.PC L2.PI L2.PG L2.PGs L2.PO
def top (i : Nat) : Stmt := PySem.Challenge.pw_reelcut_k32_mixes_told.main.body.getD i (.Pass ⟨0, 0, 0, 0⟩)
abbrev s_is_whole : Stmt := top 7
abbrev s_common_divisor : Stmt := top 8
abbrev s_is_fraction : Stmt := top 9
abbrev s_fraction : Stmt := top 10
abbrev s_sum_of : Stmt := top 11
abbrev s_less_by : Stmt := top 12
abbrev s_times_of : Stmt := top 13
abbrev s_quotient : Stmt := top 14
abbrev s_is_before : Stmt := top 15
abbrev s_floor_of : Stmt := top 16
abbrev s_is_name : Stmt := top 22
abbrev s_has_clip_form : Stmt := top 23
abbrev s_place_at : Stmt := top 24
abbrev s_picture_at : Stmt := top 25
abbrev s_is_there : Stmt := top 26
abbrev s_check_clip : Stmt := top 27
abbrev s_moments_there : Stmt := top 28
abbrev s_head_room : Stmt := top 29
abbrev s_tail_room : Stmt := top 30
abbrev s_is_length : Stmt := top 32
abbrev s_has_nest_form : Stmt := top 33
abbrev s_has_gap_or_mix_form : Stmt := top 34
abbrev s_moments_of : Stmt := top 35
abbrev s_one_form : Stmt := top 36
abbrev s_item_at : Stmt := top 37
abbrev s_kind_at : Stmt := top 38
abbrev s_is_in_one_form : Stmt := top 39
abbrev s_place_ahead : Stmt := top 40
abbrev s_neighbours_at : Stmt := top 41
abbrev s_clips_at_border : Stmt := top 42
abbrev s_part_ahead : Stmt := top 44
abbrev s_part_behind : Stmt := top 45
abbrev s_mix_spans : Stmt := top 46
abbrev s_mix_shares : Stmt := top 47
abbrev s_mix_at : Stmt := top 48
abbrev s_told_in_mix : Stmt := top 49
abbrev s_taken_at_begin : Stmt := top 50
abbrev s_taken_at_end : Stmt := top 51
abbrev s_most_mix : Stmt := top 52
abbrev s_mixes_fit : Stmt := top 53
abbrev s_told_on : Stmt := top 59
abbrev s_told_at : Stmt := top 60
abbrev s_is_number_of_pictures : Stmt := top 61
abbrev s_check_reels : Stmt := top 62
abbrev s_check_clip_of_room : Stmt := top 63
abbrev s_check_item : Stmt := top 64
abbrev s_check_track : Stmt := top 65
abbrev s_is_tied : Stmt := top 66
abbrev s_check_table : Stmt := top 67
abbrev s_nested_in : Stmt := top 68
abbrev s_rests_upon : Stmt := top 69
abbrev s_check_depth : Stmt := top 70
abbrev s_check_room : Stmt := top 71
abbrev s__law_cell_at : Stmt := top 73
abbrev s__law_stream : Stmt := top 74
abbrev s__law_track : Stmt := top 75
abbrev s__law_picture : Stmt := top 76
abbrev s__law_share : Stmt := top 77
abbrev s__law_mixed : Stmt := top 78
abbrev s__law_due : Stmt := top 79
abbrev s__law_spans : Stmt := top 80
abbrev s_law : Stmt := top 81
theorem sc_is_whole : FnScope ["x"] ["x"] (defScope s_is_whole) := ⟨rfl, rfl, rfl, by decide +kernel, rfl, by decide +kernel, by decide +kernel⟩
theorem sc_common_divisor : FnScope ["one", "other", "rest"] ["one", "other"] (defScope s_common_divisor) := ⟨rfl, rfl, rfl, by decide +kernel, rfl, by decide +kernel, by decide +kernel⟩
theorem sc_is_fraction : FnScope ["x"] ["x"] (defScope s_is_fraction) := ⟨rfl, rfl, rfl, by decide +kernel, rfl, by decide +kernel, by decide +kernel⟩
theorem sc_fraction : FnScope ["top", "bottom", "divisor"] ["top", "bottom"] (defScope s_fraction) := ⟨rfl, rfl, rfl, by decide +kernel, rfl, by decide +kernel, by decide +kernel⟩
theorem sc_sum_of : FnScope ["one", "other"] ["one", "other"] (defScope s_sum_of) := ⟨rfl, rfl, rfl, by decide +kernel, rfl, by decide +kernel, by decide +kernel⟩
theorem sc_less_by : FnScope ["one", "other"] ["one", "other"] (defScope s_less_by) := ⟨rfl, rfl, rfl, by decide +kernel, rfl, by decide +kernel, by decide +kernel⟩
theorem sc_times_of : FnScope ["one", "other"] ["one", "other"] (defScope s_times_of) := ⟨rfl, rfl, rfl, by decide +kernel, rfl, by decide +kernel, by decide +kernel⟩
theorem sc_quotient : FnScope ["one", "other"] ["one", "other"] (defScope s_quotient) := ⟨rfl, rfl, rfl, by decide +kernel, rfl, by decide +kernel, by decide +kernel⟩
theorem sc_is_before : FnScope ["one", "other"] ["one", "other"] (defScope s_is_before) := ⟨rfl, rfl, rfl, by decide +kernel, rfl, by decide +kernel, by decide +kernel⟩
theorem sc_floor_of : FnScope ["one"] ["one"] (defScope s_floor_of) := ⟨rfl, rfl, rfl, by decide +kernel, rfl, by decide +kernel, by decide +kernel⟩
theorem sc_is_name : FnScope ["thing"] ["thing"] (defScope s_is_name) := ⟨rfl, rfl, rfl, by decide +kernel, rfl, by decide +kernel, by decide +kernel⟩
theorem sc_has_clip_form : FnScope ["item"] ["item"] (defScope s_has_clip_form) := ⟨rfl, rfl, rfl, by decide +kernel, rfl, by decide +kernel, by decide +kernel⟩
theorem sc_place_at : FnScope ["clip", "k"] ["clip", "k"] (defScope s_place_at) := ⟨rfl, rfl, rfl, by decide +kernel, rfl, by decide +kernel, by decide +kernel⟩
theorem sc_picture_at : FnScope ["clip", "k"] ["clip", "k"] (defScope s_picture_at) := ⟨rfl, rfl, rfl, by decide +kernel, rfl, by decide +kernel, by decide +kernel⟩
theorem sc_is_there : FnScope ["picture", "many"] ["picture", "many"] (defScope s_is_there) := ⟨rfl, rfl, rfl, by decide +kernel, rfl, by decide +kernel, by decide +kernel⟩
theorem sc_check_clip : FnScope ["item", "reels", "many"] ["item", "reels"] (defScope s_check_clip) := ⟨rfl, rfl, rfl, by decide +kernel, rfl, by decide +kernel, by decide +kernel⟩
theorem sc_moments_there : FnScope ["first", "step", "many", "room"] ["first", "step", "many"] (defScope s_moments_there) := ⟨rfl, rfl, rfl, by decide +kernel, rfl, by decide +kernel, by decide +kernel⟩
theorem sc_head_room : FnScope ["clip", "reels"] ["clip", "reels"] (defScope s_head_room) := ⟨rfl, rfl, rfl, by decide +kernel, rfl, by decide +kernel, by decide +kernel⟩
theorem sc_tail_room : FnScope ["clip", "reels"] ["clip", "reels"] (defScope s_tail_room) := ⟨rfl, rfl, rfl, by decide +kernel, rfl, by decide +kernel, by decide +kernel⟩
theorem sc_is_length : FnScope ["thing"] ["thing"] (defScope s_is_length) := ⟨rfl, rfl, rfl, by decide +kernel, rfl, by decide +kernel, by decide +kernel⟩
theorem sc_has_nest_form : FnScope ["item"] ["item"] (defScope s_has_nest_form) := ⟨rfl, rfl, rfl, by decide +kernel, rfl, by decide +kernel, by decide +kernel⟩
theorem sc_has_gap_or_mix_form : FnScope ["item"] ["item"] (defScope s_has_gap_or_mix_form) := ⟨rfl, rfl, rfl, by decide +kernel, rfl, by decide +kernel, by decide +kernel⟩
theorem sc_moments_of : FnScope ["item"] ["item"] (defScope s_moments_of) := ⟨rfl, rfl, rfl, by decide +kernel, rfl, by decide +kernel, by decide +kernel⟩
theorem sc_one_form : FnScope ["some", "track", "waiting", "item"] ["some"] (defScope s_one_form) := ⟨rfl, rfl, rfl, by decide +kernel, rfl, by decide +kernel, by decide +kernel⟩
theorem sc_item_at : FnScope ["track", "moment", "begin", "place", "item", "end"] ["track", "moment"] (defScope s_item_at) := ⟨rfl, rfl, rfl, by decide +kernel, rfl, by decide +kernel, by decide +kernel⟩
theorem sc_kind_at : FnScope ["track", "place"] ["track", "place"] (defScope s_kind_at) := ⟨rfl, rfl, rfl, by decide +kernel, rfl, by decide +kernel, by decide +kernel⟩
theorem sc_is_in_one_form : FnScope ["track", "mixes"] ["track"] (defScope s_is_in_one_form) := ⟨rfl, rfl, rfl, by decide +kernel, rfl, by decide +kernel, by decide +kernel⟩
theorem sc_place_ahead : FnScope ["track", "place"] ["track", "place"] (defScope s_place_ahead) := ⟨rfl, rfl, rfl, by decide +kernel, rfl, by decide +kernel, by decide +kernel⟩
theorem sc_neighbours_at : FnScope ["track", "moment", "found"] ["track", "moment"] (defScope s_neighbours_at) := ⟨rfl, rfl, rfl, by decide +kernel, rfl, by decide +kernel, by decide +kernel⟩
theorem sc_clips_at_border : FnScope ["track", "moment", "places"] ["track", "moment"] (defScope s_clips_at_border) := ⟨rfl, rfl, rfl, by decide +kernel, rfl, by decide +kernel, by decide +kernel⟩
theorem sc_part_ahead : FnScope ["length"] ["length"] (defScope s_part_ahead) := ⟨rfl, rfl, rfl, by decide +kernel, rfl, by decide +kernel, by decide +kernel⟩
theorem sc_part_behind : FnScope ["length"] ["length"] (defScope s_part_behind) := ⟨rfl, rfl, rfl, by decide +kernel, rfl, by decide +kernel, by decide +kernel⟩
theorem sc_mix_spans : FnScope ["track", "spans", "border", "item"] ["track"] (defScope s_mix_spans) := ⟨rfl, rfl, rfl, by decide +kernel, rfl, by decide +kernel, by decide +kernel⟩
theorem sc_mix_shares : FnScope ["length", "j"] ["length", "j"] (defScope s_mix_shares) := ⟨rfl, rfl, rfl, by decide +kernel, rfl, by decide +kernel, by decide +kernel⟩
theorem sc_mix_at : FnScope ["track", "moment", "places", "place", "span"] ["track", "moment"] (defScope s_mix_at) := ⟨rfl, rfl, rfl, by decide +kernel, rfl, by decide +kernel, by decide +kernel⟩
theorem sc_told_in_mix : FnScope ["track", "place", "j", "length", "ahead", "behind", "shares", "from_border", "first", "second"] ["track", "place", "j"] (defScope s_told_in_mix) := ⟨rfl, rfl, rfl, by decide +kernel, rfl, by decide +kernel, by decide +kernel⟩
theorem sc_taken_at_begin : FnScope ["track", "place"] ["track", "place"] (defScope s_taken_at_begin) := ⟨rfl, rfl, rfl, by decide +kernel, rfl, by decide +kernel, by decide +kernel⟩
theorem sc_taken_at_end : FnScope ["track", "place"] ["track", "place"] (defScope s_taken_at_end) := ⟨rfl, rfl, rfl, by decide +kernel, rfl, by decide +kernel, by decide +kernel⟩
theorem sc_most_mix : FnScope ["track", "moment", "reels", "places", "ahead", "behind", "most_ahead", "most_behind"] ["track", "moment", "reels"] (defScope s_most_mix) := ⟨rfl, rfl, rfl, by decide +kernel, rfl, by decide +kernel, by decide +kernel⟩
theorem sc_mixes_fit : FnScope ["track", "reels"] ["track", "reels"] (defScope s_mixes_fit) := ⟨rfl, rfl, rfl, by decide +kernel, rfl, by decide +kernel, by decide +kernel⟩
theorem sc_told_on : FnScope ["track", "moment", "room", "mixed", "found", "item"] ["track", "moment", "room"] (defScope s_told_on) := ⟨rfl, rfl, rfl, by decide +kernel, rfl, by decide +kernel, by decide +kernel⟩
theorem sc_told_at : FnScope ["room", "name", "moment", "tracks", "track", "told"] ["room", "name", "moment"] (defScope s_told_at) := ⟨rfl, rfl, rfl, by decide +kernel, rfl, by decide +kernel, by decide +kernel⟩
theorem sc_is_number_of_pictures : FnScope ["thing"] ["thing"] (defScope s_is_number_of_pictures) := ⟨rfl, rfl, rfl, by decide +kernel, rfl, by decide +kernel, by decide +kernel⟩
theorem sc_check_reels : FnScope ["reels", "name", "many"] ["reels"] (defScope s_check_reels) := ⟨rfl, rfl, rfl, by decide +kernel, rfl, by decide +kernel, by decide +kernel⟩
theorem sc_check_clip_of_room : FnScope ["item", "reels"] ["item", "reels"] (defScope s_check_clip_of_room) := ⟨rfl, rfl, rfl, by decide +kernel, rfl, by decide +kernel, by decide +kernel⟩
theorem sc_check_item : FnScope ["item", "room"] ["item", "room"] (defScope s_check_item) := ⟨rfl, rfl, rfl, by decide +kernel, rfl, by decide +kernel, by decide +kernel⟩
theorem sc_check_track : FnScope ["track", "room", "item"] ["track", "room"] (defScope s_check_track) := ⟨rfl, rfl, rfl, by decide +kernel, rfl, by decide +kernel, by decide +kernel⟩
theorem sc_is_tied : FnScope ["tied", "many", "least", "number"] ["tied", "many"] (defScope s_is_tied) := ⟨rfl, rfl, rfl, by decide +kernel, rfl, by decide +kernel, by decide +kernel⟩
theorem sc_check_table : FnScope ["table", "room", "track"] ["table", "room"] (defScope s_check_table) := ⟨rfl, rfl, rfl, by decide +kernel, rfl, by decide +kernel, by decide +kernel⟩
theorem sc_nested_in : FnScope ["table", "names", "track"] ["table"] (defScope s_nested_in) := ⟨rfl, rfl, rfl, by decide +kernel, rfl, by decide +kernel, by decide +kernel⟩
theorem sc_rests_upon : FnScope ["table", "lower"] ["table", "lower"] (defScope s_rests_upon) := ⟨rfl, rfl, rfl, by decide +kernel, rfl, by decide +kernel, by decide +kernel⟩
theorem sc_check_depth : FnScope ["tables", "lower", "layer", "found", "name"] ["tables"] (defScope s_check_depth) := ⟨rfl, rfl, rfl, by decide +kernel, rfl, by decide +kernel, by decide +kernel⟩
theorem sc_check_room : FnScope ["room", "name", "table"] ["room"] (defScope s_check_room) := ⟨rfl, rfl, rfl, by decide +kernel, rfl, by decide +kernel, by decide +kernel⟩
theorem sc__law_cell_at : FnScope ["_law_script", "_law_k"] ["_law_script", "_law_k"] (defScope s__law_cell_at) := ⟨rfl, rfl, rfl, by decide +kernel, rfl, by decide +kernel, by decide +kernel⟩
theorem sc__law_stream : FnScope ["_law_cell", "_law_size", "_law_found", "_law_rest", "_law_k", "_law_number"] ["_law_cell", "_law_size"] (defScope s__law_stream) := ⟨rfl, rfl, rfl, by decide +kernel, rfl, by decide +kernel, by decide +kernel⟩
theorem sc__law_track : FnScope ["_law_script", "_law_track_here", "_law_ahead", "_law_xs", "_law_many", "_law_k", "_law_mix", "_law_length", "_law_step"] ["_law_script"] (defScope s__law_track) := ⟨rfl, rfl, rfl, by decide +kernel, rfl, by decide +kernel, by decide +kernel⟩
theorem sc__law_picture : FnScope ["_law_clip", "_law_k", "_law_start", "_law_step"] ["_law_clip", "_law_k"] (defScope s__law_picture) := ⟨rfl, rfl, rfl, by decide +kernel, rfl, by decide +kernel, by decide +kernel⟩
theorem sc__law_share : FnScope ["_law_top", "_law_bottom", "_law_one", "_law_other"] ["_law_top", "_law_bottom"] (defScope s__law_share) := ⟨rfl, rfl, rfl, by decide +kernel, rfl, by decide +kernel, by decide +kernel⟩
theorem sc__law_mixed : FnScope ["_law_track_here", "_law_place", "_law_border", "_law_moment", "_law_mix", "_law_j", "_law_ahead", "_law_behind", "_law_first", "_law_second", "_law_told"] ["_law_track_here", "_law_place", "_law_border", "_law_moment"] (defScope s__law_mixed) := ⟨rfl, rfl, rfl, by decide +kernel, rfl, by decide +kernel, by decide +kernel⟩
theorem sc__law_due : FnScope ["_law_track_here", "_law_moment", "_law_begin", "_law_plain", "_law_place", "_law_item"] ["_law_track_here", "_law_moment"] (defScope s__law_due) := ⟨rfl, rfl, rfl, by decide +kernel, rfl, by decide +kernel, by decide +kernel⟩
theorem sc__law_spans : FnScope ["_law_track_here", "_law_found", "_law_begin", "_law_item"] ["_law_track_here"] (defScope s__law_spans) := ⟨rfl, rfl, rfl, by decide +kernel, rfl, by decide +kernel, by decide +kernel⟩
theorem sc_law : FnScope ["_law_script", "_law_track_here", "_law_handed", "_law_room", "_law_found", "_law_moment"] ["_law_script"] (defScope s_law) := ⟨rfl, rfl, rfl, by decide +kernel, rfl, by decide +kernel, by decide +kernel⟩
structure Ads where
  a_is_whole : Addr
  f_is_whole : FuncData
  a_common_divisor : Addr
  f_common_divisor : FuncData
  a_is_fraction : Addr
  f_is_fraction : FuncData
  a_fraction : Addr
  f_fraction : FuncData
  a_sum_of : Addr
  f_sum_of : FuncData
  a_less_by : Addr
  f_less_by : FuncData
  a_times_of : Addr
  f_times_of : FuncData
  a_quotient : Addr
  f_quotient : FuncData
  a_is_before : Addr
  f_is_before : FuncData
  a_floor_of : Addr
  f_floor_of : FuncData
  a_is_name : Addr
  f_is_name : FuncData
  a_has_clip_form : Addr
  f_has_clip_form : FuncData
  a_place_at : Addr
  f_place_at : FuncData
  a_picture_at : Addr
  f_picture_at : FuncData
  a_is_there : Addr
  f_is_there : FuncData
  a_check_clip : Addr
  f_check_clip : FuncData
  a_moments_there : Addr
  f_moments_there : FuncData
  a_head_room : Addr
  f_head_room : FuncData
  a_tail_room : Addr
  f_tail_room : FuncData
  a_is_length : Addr
  f_is_length : FuncData
  a_has_nest_form : Addr
  f_has_nest_form : FuncData
  a_has_gap_or_mix_form : Addr
  f_has_gap_or_mix_form : FuncData
  a_moments_of : Addr
  f_moments_of : FuncData
  a_one_form : Addr
  f_one_form : FuncData
  a_item_at : Addr
  f_item_at : FuncData
  a_kind_at : Addr
  f_kind_at : FuncData
  a_is_in_one_form : Addr
  f_is_in_one_form : FuncData
  a_place_ahead : Addr
  f_place_ahead : FuncData
  a_neighbours_at : Addr
  f_neighbours_at : FuncData
  a_clips_at_border : Addr
  f_clips_at_border : FuncData
  a_part_ahead : Addr
  f_part_ahead : FuncData
  a_part_behind : Addr
  f_part_behind : FuncData
  a_mix_spans : Addr
  f_mix_spans : FuncData
  a_mix_shares : Addr
  f_mix_shares : FuncData
  a_mix_at : Addr
  f_mix_at : FuncData
  a_told_in_mix : Addr
  f_told_in_mix : FuncData
  a_taken_at_begin : Addr
  f_taken_at_begin : FuncData
  a_taken_at_end : Addr
  f_taken_at_end : FuncData
  a_most_mix : Addr
  f_most_mix : FuncData
  a_mixes_fit : Addr
  f_mixes_fit : FuncData
  a_told_on : Addr
  f_told_on : FuncData
  a_told_at : Addr
  f_told_at : FuncData
  a_is_number_of_pictures : Addr
  f_is_number_of_pictures : FuncData
  a_check_reels : Addr
  f_check_reels : FuncData
  a_check_clip_of_room : Addr
  f_check_clip_of_room : FuncData
  a_check_item : Addr
  f_check_item : FuncData
  a_check_track : Addr
  f_check_track : FuncData
  a_is_tied : Addr
  f_is_tied : FuncData
  a_check_table : Addr
  f_check_table : FuncData
  a_nested_in : Addr
  f_nested_in : FuncData
  a_rests_upon : Addr
  f_rests_upon : FuncData
  a_check_depth : Addr
  f_check_depth : FuncData
  a_check_room : Addr
  f_check_room : FuncData
  a__law_cell_at : Addr
  f__law_cell_at : FuncData
  a__law_stream : Addr
  f__law_stream : FuncData
  a__law_track : Addr
  f__law_track : FuncData
  a__law_picture : Addr
  f__law_picture : FuncData
  a__law_share : Addr
  f__law_share : FuncData
  a__law_mixed : Addr
  f__law_mixed : FuncData
  a__law_due : Addr
  f__law_due : FuncData
  a__law_spans : Addr
  f__law_spans : FuncData
  a_law : Addr
  f_law : FuncData
  k_CutError : Addr
  k_NoNumber : Addr
  k_NoClip : Addr
  k_NoPlace : Addr
  k_NoRoom : Addr
  t_LETTERS : Tok
  t_LONGEST_NAME : Tok
  t_MOST_ROOM : Tok
  n_NOUGHT : Addr
  t_MOST_PICTURES : Tok
  t_MOST_TRACKS : Tok
  t_MOST_DEEP : Tok
  n_WHOLE_SHARE : Addr
structure Tx (K : PySem.W.Frag) (mg : Str → Option Value) (a : Ads) : Prop where
  d_is_whole : L3.Def K mg "is_whole" s_is_whole ["x"] a.a_is_whole a.f_is_whole
  d_common_divisor : L3.Def K mg "common_divisor" s_common_divisor ["one", "other"] a.a_common_divisor a.f_common_divisor
  d_is_fraction : L3.Def K mg "is_fraction" s_is_fraction ["x"] a.a_is_fraction a.f_is_fraction
  d_fraction : L3.Def K mg "fraction" s_fraction ["top", "bottom"] a.a_fraction a.f_fraction
  d_sum_of : L3.Def K mg "sum_of" s_sum_of ["one", "other"] a.a_sum_of a.f_sum_of
  d_less_by : L3.Def K mg "less_by" s_less_by ["one", "other"] a.a_less_by a.f_less_by
  d_times_of : L3.Def K mg "times_of" s_times_of ["one", "other"] a.a_times_of a.f_times_of
  d_quotient : L3.Def K mg "quotient" s_quotient ["one", "other"] a.a_quotient a.f_quotient
  d_is_before : L3.Def K mg "is_before" s_is_before ["one", "other"] a.a_is_before a.f_is_before
  d_floor_of : L3.Def K mg "floor_of" s_floor_of ["one"] a.a_floor_of a.f_floor_of
  d_is_name : L3.Def K mg "is_name" s_is_name ["thing"] a.a_is_name a.f_is_name
  d_has_clip_form : L3.Def K mg "has_clip_form" s_has_clip_form ["item"] a.a_has_clip_form a.f_has_clip_form
  d_place_at : L3.Def K mg "place_at" s_place_at ["clip", "k"] a.a_place_at a.f_place_at
  d_picture_at : L3.Def K mg "picture_at" s_picture_at ["clip", "k"] a.a_picture_at a.f_picture_at
  d_is_there : L3.Def K mg "is_there" s_is_there ["picture", "many"] a.a_is_there a.f_is_there
  d_check_clip : L3.Def K mg "check_clip" s_check_clip ["item", "reels"] a.a_check_clip a.f_check_clip
  d_moments_there : L3.Def K mg "moments_there" s_moments_there ["first", "step", "many"] a.a_moments_there a.f_moments_there
  d_head_room : L3.Def K mg "head_room" s_head_room ["clip", "reels"] a.a_head_room a.f_head_room
  d_tail_room : L3.Def K mg "tail_room" s_tail_room ["clip", "reels"] a.a_tail_room a.f_tail_room
  d_is_length : L3.Def K mg "is_length" s_is_length ["thing"] a.a_is_length a.f_is_length
  d_has_nest_form : L3.Def K mg "has_nest_form" s_has_nest_form ["item"] a.a_has_nest_form a.f_has_nest_form
  d_has_gap_or_mix_form : L3.Def K mg "has_gap_or_mix_form" s_has_gap_or_mix_form ["item"] a.a_has_gap_or_mix_form a.f_has_gap_or_mix_form
  d_moments_of : L3.Def K mg "moments_of" s_moments_of ["item"] a.a_moments_of a.f_moments_of
  d_one_form : L3.Def K mg "one_form" s_one_form ["some"] a.a_one_form a.f_one_form
  d_item_at : L3.Def K mg "item_at" s_item_at ["track", "moment"] a.a_item_at a.f_item_at
  d_kind_at : L3.Def K mg "kind_at" s_kind_at ["track", "place"] a.a_kind_at a.f_kind_at
  d_is_in_one_form : L3.Def K mg "is_in_one_form" s_is_in_one_form ["track"] a.a_is_in_one_form a.f_is_in_one_form
  d_place_ahead : L3.Def K mg "place_ahead" s_place_ahead ["track", "place"] a.a_place_ahead a.f_place_ahead
  d_neighbours_at : L3.Def K mg "neighbours_at" s_neighbours_at ["track", "moment"] a.a_neighbours_at a.f_neighbours_at
  d_clips_at_border : L3.Def K mg "clips_at_border" s_clips_at_border ["track", "moment"] a.a_clips_at_border a.f_clips_at_border
  d_part_ahead : L3.Def K mg "part_ahead" s_part_ahead ["length"] a.a_part_ahead a.f_part_ahead
  d_part_behind : L3.Def K mg "part_behind" s_part_behind ["length"] a.a_part_behind a.f_part_behind
  d_mix_spans : L3.Def K mg "mix_spans" s_mix_spans ["track"] a.a_mix_spans a.f_mix_spans
  d_mix_shares : L3.Def K mg "mix_shares" s_mix_shares ["length", "j"] a.a_mix_shares a.f_mix_shares
  d_mix_at : L3.Def K mg "mix_at" s_mix_at ["track", "moment"] a.a_mix_at a.f_mix_at
  d_told_in_mix : L3.Def K mg "told_in_mix" s_told_in_mix ["track", "place", "j"] a.a_told_in_mix a.f_told_in_mix
  d_taken_at_begin : L3.Def K mg "taken_at_begin" s_taken_at_begin ["track", "place"] a.a_taken_at_begin a.f_taken_at_begin
  d_taken_at_end : L3.Def K mg "taken_at_end" s_taken_at_end ["track", "place"] a.a_taken_at_end a.f_taken_at_end
  d_most_mix : L3.Def K mg "most_mix" s_most_mix ["track", "moment", "reels"] a.a_most_mix a.f_most_mix
  d_mixes_fit : L3.Def K mg "mixes_fit" s_mixes_fit ["track", "reels"] a.a_mixes_fit a.f_mixes_fit
  d_told_on : L3.Def K mg "told_on" s_told_on ["track", "moment", "room"] a.a_told_on a.f_told_on
  d_told_at : L3.Def K mg "told_at" s_told_at ["room", "name", "moment"] a.a_told_at a.f_told_at
  d_is_number_of_pictures : L3.Def K mg "is_number_of_pictures" s_is_number_of_pictures ["thing"] a.a_is_number_of_pictures a.f_is_number_of_pictures
  d_check_reels : L3.Def K mg "check_reels" s_check_reels ["reels"] a.a_check_reels a.f_check_reels
  d_check_clip_of_room : L3.Def K mg "check_clip_of_room" s_check_clip_of_room ["item", "reels"] a.a_check_clip_of_room a.f_check_clip_of_room
  d_check_item : L3.Def K mg "check_item" s_check_item ["item", "room"] a.a_check_item a.f_check_item
  d_check_track : L3.Def K mg "check_track" s_check_track ["track", "room"] a.a_check_track a.f_check_track
  d_is_tied : L3.Def K mg "is_tied" s_is_tied ["tied", "many"] a.a_is_tied a.f_is_tied
  d_check_table : L3.Def K mg "check_table" s_check_table ["table", "room"] a.a_check_table a.f_check_table
  d_nested_in : L3.Def K mg "nested_in" s_nested_in ["table"] a.a_nested_in a.f_nested_in
  d_rests_upon : L3.Def K mg "rests_upon" s_rests_upon ["table", "lower"] a.a_rests_upon a.f_rests_upon
  d_check_depth : L3.Def K mg "check_depth" s_check_depth ["tables"] a.a_check_depth a.f_check_depth
  d_check_room : L3.Def K mg "check_room" s_check_room ["room"] a.a_check_room a.f_check_room
  d__law_cell_at : L3.Def K mg "_law_cell_at" s__law_cell_at ["_law_script", "_law_k"] a.a__law_cell_at a.f__law_cell_at
  d__law_stream : L3.Def K mg "_law_stream" s__law_stream ["_law_cell", "_law_size"] a.a__law_stream a.f__law_stream
  d__law_track : L3.Def K mg "_law_track" s__law_track ["_law_script"] a.a__law_track a.f__law_track
  d__law_picture : L3.Def K mg "_law_picture" s__law_picture ["_law_clip", "_law_k"] a.a__law_picture a.f__law_picture
  d__law_share : L3.Def K mg "_law_share" s__law_share ["_law_top", "_law_bottom"] a.a__law_share a.f__law_share
  d__law_mixed : L3.Def K mg "_law_mixed" s__law_mixed ["_law_track_here", "_law_place", "_law_border", "_law_moment"] a.a__law_mixed a.f__law_mixed
  d__law_due : L3.Def K mg "_law_due" s__law_due ["_law_track_here", "_law_moment"] a.a__law_due a.f__law_due
  d__law_spans : L3.Def K mg "_law_spans" s__law_spans ["_law_track_here"] a.a__law_spans a.f__law_spans
  d_law : L3.Def K mg "law" s_law ["_law_script"] a.a_law a.f_law
  c_CutError : mg "CutError" = some (.ref a.k_CutError)
  c_NoNumber : mg "NoNumber" = some (.ref a.k_NoNumber)
  c_NoClip : mg "NoClip" = some (.ref a.k_NoClip)
  c_NoPlace : mg "NoPlace" = some (.ref a.k_NoPlace)
  c_NoRoom : mg "NoRoom" = some (.ref a.k_NoRoom)
  b_isinstance : mg "isinstance" = none
  b_int : mg "int" = none
  b_bool : mg "bool" = none
  b_abs : mg "abs" = none
  b_tuple : mg "tuple" = none
  b_len : mg "len" = none
  b_all : mg "all" = none
  b_str : mg "str" = none
  b_min : mg "min" = none
  b_enumerate : mg "enumerate" = none
  b_zip : mg "zip" = none
  b_max : mg "max" = none
  b_list : mg "list" = none
  b_range : mg "range" = none
  b_dict : mg "dict" = none
  b_sum : mg "sum" = none
  g_LETTERS : mg "LETTERS" = some (.str "abcdefghijklmnopqrstuvwxyz" a.t_LETTERS)
  g_LONGEST_NAME : mg "LONGEST_NAME" = some (.int 8 a.t_LONGEST_NAME)
  g_MOST_ROOM : mg "MOST_ROOM" = some (.int 1000000 a.t_MOST_ROOM)
  g_NOUGHT : mg "NOUGHT" = some (.ref a.n_NOUGHT)
  sq_NOUGHT : ∀ H, SqT K H a.n_NOUGHT [.int 0, .int 1]
  g_MOST_PICTURES : mg "MOST_PICTURES" = some (.int 1000000000 a.t_MOST_PICTURES)
  g_MOST_TRACKS : mg "MOST_TRACKS" = some (.int 8 a.t_MOST_TRACKS)
  g_MOST_DEEP : mg "MOST_DEEP" = some (.int 6 a.t_MOST_DEEP)
  g_WHOLE_SHARE : mg "WHOLE_SHARE" = some (.ref a.n_WHOLE_SHARE)
  sq_WHOLE_SHARE : ∀ H, SqT K H a.n_WHOLE_SHARE [.int 1, .int 1]
/-- a new tuple of two ints -/
def spLaw (K : PySem.W.Frag) : Sp := fun vs H Q _ => ∃ (a : Addr) (ns : List Int), vs = [.ref a] ∧ SqL K H a (ns.map V.int) ∧ ns.length ≤ 63 ∧ ∀ H', Q (.bl true) H'
def New2 (H : Hp) (Q : VK) (p q : Int) : Prop := ∀ z, H z = none → Q (.ref z) (upd H z (.tup [.int p, .int q]))
section
variable {P : Program} {w : World} {K : PySem.W.Frag} {mg : Str → Option Value} {base : Heap} {a : Ads}

/-! ### is_whole, common_divisor, fraction -/
def sp_is_whole : Sp := fun vs H Q _ => ∃ i : Int, vs = [.int i] ∧ Q (.bl true) H
theorem ok_is_whole (T : Tx K mg a) : FnOk P w K mg base CX0 1 a.a_is_whole a.f_is_whole ["x"] sp_is_whole := by
  refine T.d_is_whole.F.ok sc_is_whole (fun vs H Q E h => ?_) (fun cdv A outer s H vs Q E hr h => ?_)
  · obtain ⟨i, rfl, _⟩ := h
    rfl
  obtain ⟨i, rfl, q⟩ := h
  refine ⟨_, (pss_one (ps_ret (pe_and (pe_callB call_isinst rfl T.b_isinstance rfl (pa_cons (pv 0) (pa_cons (pe_ty rfl T.b_int rfl) pa_nil))) (pe_one (pe_not (pe_callB call_isinst rfl T.b_isinstance rfl (pa_cons (pv 0) (pa_cons (pe_ty rfl T.b_bool rfl) pa_nil)))))))), ?_⟩
  refine ⟨_, rfl, _, _, _, true, rfl, .int i, ⟨_, .inl ⟨rfl, rfl⟩⟩, true, rfl, iteT ?_⟩
  refine ⟨_, rfl, _, _, _, false, rfl, .int i, ⟨_, .inl ⟨rfl, by kernel_rfl⟩⟩, false, rfl, ?_⟩
  exact q
def sp_common_divisor : Sp := fun vs H Q _ => ∃ i j : Int, vs = [.int i, .int j] ∧ Q (.int ((Int.gcd i j : Nat) : Int)) H
theorem ok_common_divisor (T : Tx K mg a) : FnOk P w K mg base CX0 1 a.a_common_divisor a.f_common_divisor ["one", "other"] sp_common_divisor := by
  refine T.d_common_divisor.F.ok sc_common_divisor (fun vs H Q E h => ?_) (fun cdv A outer s H vs Q E hr h => ?_)
  · obtain ⟨i, j, rfl, _⟩ := h
    rfl
  obtain ⟨i, j, rfl, q⟩ := h
  refine ⟨_, (pss_cons (ps_while PassesOwn.never (pt_cmpR op_ne (pv 1) pe_int (nomark _)) (pss_cons (ps_set (i := 2) sc_common_divisor.nd rfl (Or.inl rfl) (pe_op op_modN (pv 0) (pv 1)))
      (pss_cons (ps_set (i := 0) sc_common_divisor.nd rfl (Or.inl rfl) (pv 1))
      (pss_one (ps_set (i := 1) sc_common_divisor.nd rfl (Or.inl rfl) (pv 2))))))
      (pss_one (ps_ret (pe_callB call_abs rfl T.b_abs rfl (pa_cons (pv 0) pa_nil))))), ?_⟩
  refine while_by (fun σ H' => H' = H ∧ ∃ (x y : Int) (v : Option V), σ = [some (.int x), some (.int y), v] ∧ Int.gcd x y = Int.gcd i j)
    (fun σ _ => match σ with | [_, some (.int y), _] => y.natAbs | _ => 0) ⟨rfl, i, j, none, rfl, rfl⟩ ?_ ?_
  · rintro σ H1 ⟨rfl, x, y, v, rfl, e⟩
    refine ⟨_, rfl, rfl, _, rfl, ?_⟩
    refine ite2 (fun c => ?_) (fun c => ?_)
    · have hy : y ≠ 0 := by simpa using c
      refine ⟨_, rfl, _, rfl, _, _, rfl, rfl, hy, _, rfl, _, rfl, ⟨rfl, y, x.fmod y, _, rfl, ?_⟩, ?_⟩
      · rw [gcd_step]; exact e
      · exact fmod_lt x y hy
    · have hy : y = 0 := by simpa using c
      subst hy
      refine ⟨_, rfl, x, rfl, ?_⟩
      have e2 : (if x < 0 then -x else x) = ((Int.gcd i j : Nat) : Int) := by
        rw [← e, Int.gcd_zero_right]
        split <;> omega
      rw [e2]
      exact q
  · rintro σ H1 Q1 Q2 hq h
    obtain ⟨v, e, s, k, hk, z⟩ := h
    exact ⟨v, e, s, k, hk, hq _ _ z⟩
/-- a fraction of two whole numbers, the second not 0: a new pair in lowest terms -/
def sp_fraction : Sp := fun vs H Q _ => ∃ t b : Int, vs = [.int t, .int b] ∧ b ≠ 0 ∧ b.natAbs < 2 ^ 8000 ∧ New2 H Q (lowP t b) (lowQ t b)
theorem sg_small {t b : Int} (h : b ≠ 0) (hb : b.natAbs < 2 ^ 8000) : CDivB t (sg t b) ∧ CDivB b (sg t b) := by
  have h1 := sg_ne (t := t) h
  have h2 : (sg t b).natAbs < 2 ^ 8000 := by
    rw [sg_abs]
    exact Nat.lt_of_le_of_lt (Nat.le_of_dvd (by omega) (Int.gcd_dvd_natAbs_right ..)) hb
  exact ⟨⟨h1, h2⟩, ⟨h1, h2⟩⟩
theorem ok_fraction (T : Tx K mg a) : FnOk P w K mg base CX0 2 a.a_fraction a.f_fraction ["top", "bottom"] sp_fraction := by
  refine T.d_fraction.F.ok sc_fraction (fun vs H Q E h => ?_) (fun cdv A outer s H vs Q E hr h => ?_)
  · obtain ⟨t, b, rfl, _⟩ := h
    rfl
  obtain ⟨t, b, rfl, hb, hs, q⟩ := h
  refine ⟨_, (pss_cons (ps_if (PW.pt (pw_or (pt_not (pt_val (pe_def T.d_is_whole (ok_is_whole T) hr rfl (pa_cons (pv 0) pa_nil)))) (pw_or1 (pt_not (pt_val (pe_def T.d_is_whole (ok_is_whole T) hr rfl (pa_cons (pv 1) pa_nil))))))) pss_never pss_nil)
      (pss_cons (ps_if (pt_cmpR op_eq (pv 1) pe_int (nomark _)) pss_never pss_nil)
      (pss_cons (ps_set (i := 2) sc_fraction.nd rfl (Or.inl rfl) (pe_def T.d_common_divisor (ok_common_divisor T) hr rfl (pa_cons (pv 0) (pa_cons (pv 1) pa_nil))))
      (pss_cons (ps_if (pt_cmpR op_lt (pv 1) pe_int (nomark _)) (pss_one (ps_set (i := 2) sc_fraction.nd rfl (Or.inl rfl) (pe_un un_neg (pv 2)))) pss_nil)
      (pss_one (ps_ret (pe_tup (pa_cons (pe_op op_fdivB (pv 0) (pv 2)) (pa_cons (pe_op op_fdivB (pv 1) (pv 2)) pa_nil))))))))), ?_⟩
  refine ⟨_, rfl, t, rfl, true, rfl, iteF ?_⟩
  refine ⟨_, rfl, b, rfl, true, rfl, iteF ?_⟩
  refine ⟨_, rfl, rfl, _, rfl, ?_⟩
  refine ite2 (fun c => absurd (by simpa using c) hb) (fun _ => ?_)
  refine ⟨_, rfl, _, rfl, t, b, rfl, ?_⟩
  refine ⟨_, rfl, _, _, rfl, rfl, _, rfl, ?_⟩
  obtain ⟨d1, d2⟩ := sg_small (t := t) hb hs
  refine ite2 (fun c => ?_) (fun c => ?_)
  · have c' : b < 0 := by simpa using c
    have e : -((Int.gcd t b : Nat) : Int) = sg t b := by unfold sg; rw [if_pos c']
    have q' : New2 H Q (t.fdiv (-((Int.gcd t b : Nat) : Int))) (b.fdiv (-((Int.gcd t b : Nat) : Int))) := by rw [e]; exact q
    exact ⟨_, rfl, _, rfl, _, rfl, _, rfl, _, _, rfl, rfl, (by rw [e]; exact d1), _, rfl, _, rfl, _, _, rfl, rfl, (by rw [e]; exact d2), (by show 2 ≤ sizeLine; decide), q'⟩
  · have c' : ¬ b < 0 := by simpa using c
    have e : ((Int.gcd t b : Nat) : Int) = sg t b := by unfold sg; rw [if_neg c']
    have q' : New2 H Q (t.fdiv ((Int.gcd t b : Nat) : Int)) (b.fdiv ((Int.gcd t b : Nat) : Int)) := by rw [e]; exact q
    exact ⟨_, rfl, _, rfl, _, _, rfl, rfl, (by rw [e]; exact d1), _, rfl, _, rfl, _, _, rfl, rfl, (by rw [e]; exact d2), (by show 2 ≤ sizeLine; decide), q'⟩

/-! ### sum_of, floor_of, rest_of, is_before, is_fraction -/
/-- a value that is a pair of ints -/
def Pr (K : PySem.W.Frag) (H : Hp) (v : V) (p q : Int) : Prop := ∃ z, v = .ref z ∧ SqT K H z [.int p, .int q]
theorem Pr.same {H H' : Hp} {v : V} {p q : Int} (e : Same H H') (h : Pr K H v p q) : Pr K H' v p q := let ⟨z, h1, h2⟩ := h; ⟨z, h1, L3.Same.tup e h2⟩
def Sm (i : Int) : Prop := i.natAbs < 2 ^ 3000
theorem Sm.mul {i j : Int} (h1 : Sm i) (h2 : Sm j) : CMulB i j := by
  unfold Sm at h1 h2
  have : (2 : Nat) ^ 3000 ≤ 2 ^ 60000 := Nat.pow_le_pow_right (by decide) (by decide)
  exact .inr ⟨by omega, by omega⟩
theorem Sm.prod {i j : Int} (h1 : Sm i) (h2 : Sm j) : (i * j).natAbs < 2 ^ 8000 := by
  unfold Sm at h1 h2
  rw [Int.natAbs_mul]
  have h3 : i.natAbs * j.natAbs < 2 ^ 3000 * 2 ^ 3000 := Nat.mul_lt_mul'' h1 h2
  rw [← Nat.pow_add] at h3
  exact Nat.lt_of_lt_of_le h3 (Nat.pow_le_pow_right (by decide) (by decide))
theorem at0 {x y : V} : atI [x, y] 0 = some x := rfl
theorem at1 {x y : V} : atI [x, y] 1 = some y := rfl
def sp_sum_of (K : PySem.W.Frag) : Sp := fun vs H Q _ => ∃ (x y : V) (p q r s : Int), vs = [x, y] ∧ Pr K H x p q ∧ Pr K H y r s ∧ q ≠ 0 ∧ s ≠ 0 ∧ Sm p ∧ Sm q ∧ Sm r ∧ Sm s ∧ New2 H Q (lowP (p * s + r * q) (q * s)) (lowQ (p * s + r * q) (q * s))
theorem ok_sum_of (T : Tx K mg a) : FnOk P w K mg base CX0 3 a.a_sum_of a.f_sum_of ["one", "other"] (sp_sum_of K) := by
  refine T.d_sum_of.F.ok sc_sum_of (fun vs H Q E h => ?_) (fun cdv A outer s H vs Q E hr h => ?_)
  · obtain ⟨x, y, p, q, r, s, rfl, _⟩ := h
    rfl
  obtain ⟨x, y, p, q, r, s', rfl, ⟨z1, rfl, h1⟩, ⟨z2, rfl, h2⟩, hq, hs, bp, bq, br, bs, k⟩ := h
  refine ⟨_, (pss_one (ps_ret (pe_def T.d_fraction (ok_fraction T) hr rfl (pa_cons (pe_op op_add (pe_op op_mulB (pe_ix ix_tup (pv 0) pe_int (fun _ _ => rfl)) (pe_ix ix_tup (pv 1) pe_int (fun _ _ => rfl))) (pe_op op_mulB (pe_ix ix_tup (pv 1) pe_int (fun _ _ => rfl)) (pe_ix ix_tup (pv 0) pe_int (fun _ _ => rfl)))) (pa_cons (pe_op op_mulB (pe_ix ix_tup (pv 0) pe_int (fun _ _ => rfl)) (pe_ix ix_tup (pv 1) pe_int (fun _ _ => rfl))) pa_nil))))), ?_⟩
  refine ⟨_, rfl, _, _, _, _, rfl, rfl, h1, at0, _, rfl, _, _, _, _, rfl, rfl, h2, at1, _, _, rfl, rfl, bp.mul bs, ?_⟩
  refine ⟨_, rfl, _, _, _, _, rfl, rfl, h2, at0, _, rfl, _, _, _, _, rfl, rfl, h1, at1, _, _, rfl, rfl, br.mul bq, _, _, rfl, rfl, ?_⟩
  refine ⟨_, rfl, _, _, _, _, rfl, rfl, h1, at1, _, rfl, _, _, _, _, rfl, rfl, h2, at1, _, _, rfl, rfl, bq.mul bs, ?_⟩
  exact ⟨_, _, rfl, Int.mul_ne_zero hq hs, bq.prod bs, k⟩
def sp_floor_of (K : PySem.W.Frag) : Sp := fun vs H Q _ => ∃ (x : V) (p q : Int), vs = [x] ∧ Pr K H x p q ∧ q ≠ 0 ∧ q.natAbs < 2 ^ 8000 ∧ Q (.int (p.fdiv q)) H
theorem ok_floor_of (T : Tx K mg a) : FnOk P w K mg base CX0 1 a.a_floor_of a.f_floor_of ["one"] (sp_floor_of K) := by
  refine T.d_floor_of.F.ok sc_floor_of (fun vs H Q E h => ?_) (fun cdv A outer s H vs Q E hr h => ?_)
  · obtain ⟨x, p, q, rfl, _⟩ := h
    rfl
  obtain ⟨x, p, q, rfl, ⟨z1, rfl, h1⟩, hq, bq, k⟩ := h
  refine ⟨_, (pss_one (ps_ret (pe_op op_fdivB (pe_ix ix_tup (pv 0) pe_int (fun _ _ => rfl)) (pe_ix ix_tup (pv 0) pe_int (fun _ _ => rfl))))), ?_⟩
  exact ⟨_, rfl, _, _, _, _, rfl, rfl, h1, at0, _, rfl, _, _, _, _, rfl, rfl, h1, at1, _, _, rfl, rfl, ⟨hq, bq⟩, k⟩

theorem nz {j : Int} (h : j ≠ 0 := by decide) : j ≠ 0 := h
theorem cdB {i j : Int} (h0 : j ≠ 0) (h : j.natAbs < 18446744073709551616) : CDivB i j :=
  ⟨h0, Nat.lt_of_lt_of_le h (Nat.le_trans (by decide : 18446744073709551616 ≤ 2 ^ 64) (Nat.pow_le_pow_right (by decide) (by decide)))⟩
theorem cmR {i j : Int} (h1 : -(18446744073709551616 : Int) < j) (h2 : j < 18446744073709551616) : CMulB i j := .inl (.inr ⟨h1, h2⟩)
theorem cmL {i j : Int} (h1 : -(18446744073709551616 : Int) < i) (h2 : i < 18446744073709551616) : CMulB i j := .inl (.inl ⟨h1, h2⟩)
theorem fm (i : Int) {j : Int} (h : 0 < j) : 0 ≤ i.fmod j ∧ i.fmod j < j := ⟨Int.fmod_nonneg_of_pos i h, Int.fmod_lt_of_pos i h⟩
theorem cpw {n : Nat} (h : n ≤ 1000000) : CPow 10 (n : Int) := ⟨by omega, by omega, by decide⟩
def Good (n : Nat) (p q : Int) : Prop := 0 < q ∧ Int.gcd p q = 1 ∧ p.natAbs < 2 ^ n ∧ q.natAbs < 2 ^ n
theorem Good.mono {n m : Nat} {p q : Int} (h : Good n p q) (l : n ≤ m) : Good m p q := ⟨h.1, h.2.1, Nat.lt_of_lt_of_le h.2.2.1 (Nat.pow_le_pow_right (by decide) l), Nat.lt_of_lt_of_le h.2.2.2 (Nat.pow_le_pow_right (by decide) l)⟩
theorem Sm.of200 {i : Int} (h : i.natAbs < 2 ^ 200) : Sm i := Nat.lt_of_lt_of_le h (Nat.pow_le_pow_right (by decide) (by decide))
/-! ### times_of, place_at, picture_at -/
def sp_times_of (K : PySem.W.Frag) : Sp := fun vs H Q _ => ∃ (x y : V) (p q r s : Int), vs = [x, y] ∧ Pr K H x p q ∧ Pr K H y r s ∧ q ≠ 0 ∧ s ≠ 0 ∧ Sm p ∧ Sm q ∧ Sm r ∧ Sm s ∧ New2 H Q (lowP (p * r) (q * s)) (lowQ (p * r) (q * s))
theorem ok_times_of (T : Tx K mg a) : FnOk P w K mg base CX0 3 a.a_times_of a.f_times_of ["one", "other"] (sp_times_of K) := by
  refine T.d_times_of.F.ok sc_times_of (fun vs H Q E h => ?_) (fun cdv A outer s H vs Q E hr h => ?_)
  · obtain ⟨x, y, p, q, r, s, rfl, _⟩ := h
    rfl
  obtain ⟨x, y, p, q, r, s', rfl, ⟨z1, rfl, h1⟩, ⟨z2, rfl, h2⟩, hq, hs, bp, bq, br, bs, k⟩ := h
  refine ⟨_, (pss_one (ps_ret (pe_def T.d_fraction (ok_fraction T) hr rfl (pa_cons (pe_op op_mulB (pe_ix ix_tup (pv 0) pe_int (fun _ _ => rfl)) (pe_ix ix_tup (pv 1) pe_int (fun _ _ => rfl))) (pa_cons (pe_op op_mulB (pe_ix ix_tup (pv 0) pe_int (fun _ _ => rfl)) (pe_ix ix_tup (pv 1) pe_int (fun _ _ => rfl))) pa_nil))))), ?_⟩
  refine ⟨_, rfl, _, _, _, _, rfl, rfl, h1, at0, _, rfl, _, _, _, _, rfl, rfl, h2, at0, _, _, rfl, rfl, bp.mul br, ?_⟩
  refine ⟨_, rfl, _, _, _, _, rfl, rfl, h1, at1, _, rfl, _, _, _, _, rfl, rfl, h2, at1, _, _, rfl, rfl, bq.mul bs, ?_⟩
  exact ⟨_, _, rfl, Int.mul_ne_zero hq hs, bq.prod bs, k⟩

/-! ### less_by, quotient -/
def sp_less_by (K : PySem.W.Frag) : Sp := fun vs H Q _ => ∃ (x y : V) (p q r s : Int), vs = [x, y] ∧ Pr K H x p q ∧ Pr K H y r s ∧ q ≠ 0 ∧ s ≠ 0 ∧ Sm p ∧ Sm q ∧ Sm r ∧ Sm s ∧ New2 H Q (lowP (p * s - r * q) (q * s)) (lowQ (p * s - r * q) (q * s))
theorem ok_less_by (T : Tx K mg a) : FnOk P w K mg base CX0 3 a.a_less_by a.f_less_by ["one", "other"] (sp_less_by K) := by
  refine T.d_less_by.F.ok sc_less_by (fun vs H Q E h => ?_) (fun cdv A outer s H vs Q E hr h => ?_)
  · obtain ⟨x, y, p, q, r, s, rfl, _⟩ := h
    rfl
  obtain ⟨x, y, p, q, r, s', rfl, ⟨z1, rfl, h1⟩, ⟨z2, rfl, h2⟩, hq, hs, bp, bq, br, bs, k⟩ := h
  refine ⟨_, (pss_one (ps_ret (pe_def T.d_fraction (ok_fraction T) hr rfl (pa_cons (pe_op op_sub (pe_op op_mulB (pe_ix ix_tup (pv 0) pe_int (fun _ _ => rfl)) (pe_ix ix_tup (pv 1) pe_int (fun _ _ => rfl))) (pe_op op_mulB (pe_ix ix_tup (pv 1) pe_int (fun _ _ => rfl)) (pe_ix ix_tup (pv 0) pe_int (fun _ _ => rfl)))) (pa_cons (pe_op op_mulB (pe_ix ix_tup (pv 0) pe_int (fun _ _ => rfl)) (pe_ix ix_tup (pv 1) pe_int (fun _ _ => rfl))) pa_nil))))), ?_⟩
  refine ⟨_, rfl, _, _, _, _, rfl, rfl, h1, at0, _, rfl, _, _, _, _, rfl, rfl, h2, at1, _, _, rfl, rfl, bp.mul bs, ?_⟩
  refine ⟨_, rfl, _, _, _, _, rfl, rfl, h2, at0, _, rfl, _, _, _, _, rfl, rfl, h1, at1, _, _, rfl, rfl, br.mul bq, _, _, rfl, rfl, ?_⟩
  refine ⟨_, rfl, _, _, _, _, rfl, rfl, h1, at1, _, rfl, _, _, _, _, rfl, rfl, h2, at1, _, _, rfl, rfl, bq.mul bs, ?_⟩
  exact ⟨_, _, rfl, Int.mul_ne_zero hq hs, bq.prod bs, k⟩
def sp_quotient (K : PySem.W.Frag) : Sp := fun vs H Q _ => ∃ (x y : V) (p q r s : Int), vs = [x, y] ∧ Pr K H x p q ∧ Pr K H y r s ∧ q ≠ 0 ∧ r ≠ 0 ∧ Sm p ∧ Sm q ∧ Sm r ∧ Sm s ∧ New2 H Q (lowP (p * s) (q * r)) (lowQ (p * s) (q * r))
theorem ok_quotient (T : Tx K mg a) : FnOk P w K mg base CX0 3 a.a_quotient a.f_quotient ["one", "other"] (sp_quotient K) := by
  refine T.d_quotient.F.ok sc_quotient (fun vs H Q E h => ?_) (fun cdv A outer s H vs Q E hr h => ?_)
  · obtain ⟨x, y, p, q, r, s, rfl, _⟩ := h
    rfl
  obtain ⟨x, y, p, q, r, s', rfl, ⟨z1, rfl, h1⟩, ⟨z2, rfl, h2⟩, hq, hr', bp, bq, br, bs, k⟩ := h
  refine ⟨_, (pss_one (ps_ret (pe_def T.d_fraction (ok_fraction T) hr rfl (pa_cons (pe_op op_mulB (pe_ix ix_tup (pv 0) pe_int (fun _ _ => rfl)) (pe_ix ix_tup (pv 1) pe_int (fun _ _ => rfl))) (pa_cons (pe_op op_mulB (pe_ix ix_tup (pv 0) pe_int (fun _ _ => rfl)) (pe_ix ix_tup (pv 1) pe_int (fun _ _ => rfl))) pa_nil))))), ?_⟩
  refine ⟨_, rfl, _, _, _, _, rfl, rfl, h1, at0, _, rfl, _, _, _, _, rfl, rfl, h2, at1, _, _, rfl, rfl, bp.mul bs, ?_⟩
  refine ⟨_, rfl, _, _, _, _, rfl, rfl, h1, at1, _, rfl, _, _, _, _, rfl, rfl, h2, at0, _, _, rfl, rfl, bq.mul br, ?_⟩
  exact ⟨_, _, rfl, Int.mul_ne_zero hq hr', bq.prod br, k⟩

def sp_is_before (K : PySem.W.Frag) : Sp := fun vs H Q _ => ∃ (x y : V) (p q r s : Int), vs = [x, y] ∧ Pr K H x p q ∧ Pr K H y r s ∧ Sm p ∧ Sm q ∧ Sm r ∧ Sm s ∧ Q (.bl (decide (p * s < r * q))) H
theorem ok_is_before (T : Tx K mg a) : FnOk P w K mg base CX0 1 a.a_is_before a.f_is_before ["one", "other"] (sp_is_before K) := by
  refine T.d_is_before.F.ok sc_is_before (fun vs H Q E h => ?_) (fun cdv A outer s H vs Q E hr h => ?_)
  · obtain ⟨x, y, p, q, r, s, rfl, _⟩ := h
    rfl
  obtain ⟨x, y, p, q, r, s', rfl, ⟨z1, rfl, h1⟩, ⟨z2, rfl, h2⟩, bp, bq, br, bs, k⟩ := h
  refine ⟨_, (pss_one (ps_ret (pe_cmpR op_lt (pe_op op_mulB (pe_ix ix_tup (pv 0) pe_int (fun _ _ => rfl)) (pe_ix ix_tup (pv 1) pe_int (fun _ _ => rfl))) (pe_op op_mulB (pe_ix ix_tup (pv 1) pe_int (fun _ _ => rfl)) (pe_ix ix_tup (pv 0) pe_int (fun _ _ => rfl))) (nomark _)))), ?_⟩
  refine ⟨_, rfl, _, _, _, _, rfl, rfl, h1, at0, _, rfl, _, _, _, _, rfl, rfl, h2, at1, _, _, rfl, rfl, bp.mul bs, ?_⟩
  exact ⟨_, rfl, _, _, _, _, rfl, rfl, h2, at0, _, rfl, _, _, _, _, rfl, rfl, h1, at1, _, _, rfl, rfl, br.mul bq, _, _, rfl, rfl, k⟩

/-- of a tuple of two ints -/
def sp_is_fraction : Sp := fun vs H Q _ => ∃ (z : Addr) (p q : Int), vs = [.ref z] ∧ H z = some (.tup [.int p, .int q]) ∧ 1 ≤ q ∧ Int.gcd p q = 1 ∧ Q (.bl true) H
theorem ok_is_fraction (T : Tx K mg a) : FnOk P w K mg base CX0 2 a.a_is_fraction a.f_is_fraction ["x"] sp_is_fraction := by
  refine T.d_is_fraction.F.ok sc_is_fraction (fun vs H Q E h => ?_) (fun cdv A outer s H vs Q E hr h => ?_)
  · obtain ⟨z, p, q, rfl, _⟩ := h
    rfl
  obtain ⟨z, p, q, rfl, hz, hq, hg, k⟩ := h
  have h1 : SqT K H z [.int p, .int q] := SqT.of hz
  refine ⟨_, (pss_cons (ps_if (PW.pt (pw_or (pt_not (pt_val (pe_callB call_isinst rfl T.b_isinstance rfl (pa_cons (pv 0) (pa_cons (pe_ty rfl T.b_tuple rfl) pa_nil))))) (pw_or1 (pt_cmpR op_ne (pe_callB call_len_seq rfl T.b_len rfl (pa_cons (pv 0) pa_nil)) pe_int (nomark _))))) (pss_one (ps_ret pe_bl)) pss_nil)
      (pss_cons (ps_if (PW.pt (pw_or (pt_not (pt_val (pe_def T.d_is_whole (ok_is_whole T) hr rfl (pa_cons (pe_ix ix_tup (pv 0) pe_int (fun _ _ => rfl)) pa_nil)))) (pw_or1 (pt_not (pt_val (pe_def T.d_is_whole (ok_is_whole T) hr rfl (pa_cons (pe_ix ix_tup (pv 0) pe_int (fun _ _ => rfl)) pa_nil))))))) (pss_one (ps_ret pe_bl)) pss_nil)
      (pss_one (ps_ret (pe_and (pe_cmpR op_ge (pe_ix ix_tup (pv 0) pe_int (fun _ _ => rfl)) pe_int (nomark _)) (pe_one (pe_cmpR op_eq (pe_def T.d_common_divisor (ok_common_divisor T) hr rfl (pa_cons (pe_ix ix_tup (pv 0) pe_int (fun _ _ => rfl)) (pa_cons (pe_ix ix_tup (pv 0) pe_int (fun _ _ => rfl)) pa_nil))) pe_int (nomark _)))))))), ?_⟩
  refine ⟨_, rfl, _, _, _, true, rfl, .tup hz, ⟨_, .inl ⟨rfl, rfl⟩⟩, true, rfl, iteF ?_⟩
  refine ⟨_, rfl, _, _, rfl, .inr h1, rfl, _, rfl, iteF ?_⟩
  refine ⟨_, rfl, _, _, _, _, rfl, rfl, h1, at0, p, rfl, true, rfl, iteF ?_⟩
  refine ⟨_, rfl, _, _, _, _, rfl, rfl, h1, at1, q, rfl, true, rfl, iteF ?_⟩
  refine ⟨_, rfl, _, _, _, _, rfl, rfl, h1, at1, _, _, rfl, rfl, true, ?_, iteT ?_⟩
  · have : decide (1 ≤ q) = true := decide_eq_true hq
    rw [← this]
  refine ⟨_, rfl, _, _, _, _, rfl, rfl, h1, at0, _, rfl, _, _, _, _, rfl, rfl, h1, at1, p, q, rfl, rfl, ?_⟩
  rw [hg]
  exact k

/-! ### place_at, picture_at -/
/-- a value that is a clip's tuple: its name, start and step -/
structure Cp (K : PySem.W.Frag) (H : Hp) (v : V) (n : Str) (p q r s len : Int) : Prop where
  ex : ∃ z z1 z2, v = .ref z ∧ SqT K H z [.str "clip", .str n, .ref z1, .ref z2, .int len] ∧ SqT K H z1 [.int p, .int q] ∧ SqT K H z2 [.int r, .int s]
theorem Cp.same {H H' : Hp} {v : V} {n : Str} {p q r s len : Int} (e : Same H H') (h : Cp K H v n p q r s len) : Cp K H' v n p q r s len :=
  let ⟨z, z1, z2, h1, h2, h3, h4⟩ := h.ex; ⟨z, z1, z2, h1, L3.Same.tup e h2, L3.Same.tup e h3, L3.Same.tup e h4⟩
theorem at5_2 {x0 x1 x2 x3 x4 : V} : atI [x0, x1, x2, x3, x4] 2 = some x2 := rfl
theorem at5_3 {x0 x1 x2 x3 x4 : V} : atI [x0, x1, x2, x3, x4] 3 = some x3 := rfl
/-- the place at k, before it is brought to lowest terms -/
theorem place_eq {p q r s k : Int} (hq : 0 < q) (hs : 0 < s) :
    lowP (p * lowQ (k * r) (1 * s) + lowP (k * r) (1 * s) * q) (q * lowQ (k * r) (1 * s)) = lowP (p * s + k * r * q) (q * s) ∧
    lowQ (p * lowQ (k * r) (1 * s) + lowP (k * r) (1 * s) * q) (q * lowQ (k * r) (1 * s)) = lowQ (p * s + k * r * q) (q * s) := by
  rw [Int.one_mul]
  have c := low_cross (k * r) s
  have n0 := low_pos (t := k * r) (b := s) (by omega)
  generalize lowP (k * r) s = m at c ⊢
  generalize lowQ (k * r) s = n at c n0 ⊢
  have b1 : q * s ≠ 0 := Int.mul_ne_zero (by omega) (by omega)
  have b2 : q * n ≠ 0 := Int.mul_ne_zero (by omega) (by omega)
  refine low_eq b2 (low_pos b1) (low_gcd b1) ?_
  have e := low_cross (p * s + k * r * q) (q * s)
  generalize lowP (p * s + k * r * q) (q * s) = u at e ⊢
  generalize lowQ (p * s + k * r * q) (q * s) = v at e ⊢
  -- u * (q * s) = (p * s + k * r * q) * v  and  m * s = k * r * n
  have h : (u * (q * n)) * s = ((p * n + m * q) * v) * s := by
    calc (u * (q * n)) * s = (u * (q * s)) * n := by rw [Int.mul_assoc, Int.mul_assoc, Int.mul_assoc, Int.mul_assoc, Int.mul_comm n s]
      _ = ((p * s + k * r * q) * v) * n := by rw [e]
      _ = (p * n * s + (k * r * n) * q) * v := by
        have h1 : (p * s + k * r * q) * v * n = (p * s + k * r * q) * n * v := by rw [Int.mul_assoc, Int.mul_comm v n, ← Int.mul_assoc]
        have h2 : (p * s + k * r * q) * n = p * n * s + k * r * n * q := by
          rw [Int.add_mul, Int.mul_assoc p s n, Int.mul_comm s n, ← Int.mul_assoc, Int.mul_assoc (k * r) q n, Int.mul_comm q n, ← Int.mul_assoc]
        rw [h1, h2]
      _ = (p * n * s + (m * s) * q) * v := by rw [← c]
      _ = ((p * n + m * q) * v) * s := by
        have h3 : p * n * s + m * s * q = (p * n + m * q) * s := by rw [Int.add_mul, Int.mul_assoc m s q, Int.mul_comm s q, ← Int.mul_assoc]
        rw [h3, Int.mul_assoc, Int.mul_comm s v, ← Int.mul_assoc]
  exact Int.eq_of_mul_eq_mul_right (by omega) h
def Sm2 (i : Int) : Prop := i.natAbs < 2 ^ 700
theorem Sm2.sm {i : Int} (h : Sm2 i) : Sm i := Nat.lt_of_lt_of_le h (Nat.pow_le_pow_right (by decide) (by decide))
theorem abs_mul_lt {i j : Int} {n m : Nat} (h1 : i.natAbs < 2 ^ n) (h2 : j.natAbs < 2 ^ m) : (i * j).natAbs < 2 ^ (n + m) := by
  rw [Int.natAbs_mul, Nat.pow_add]
  exact Nat.mul_lt_mul'' h1 h2
def sp_place_at (K : PySem.W.Frag) : Sp := fun vs H Q _ => ∃ (v : V) (n : Str) (p q r s len k : Int), vs = [v, .int k] ∧ Cp K H v n p q r s len ∧ 0 < q ∧ 0 < s ∧ Sm2 p ∧ Sm2 q ∧ Sm2 r ∧ Sm2 s ∧ Sm2 k ∧
  ∀ z H', Same H H' → H' z = some (.tup [.int (lowP (p * s + k * r * q) (q * s)), .int (lowQ (p * s + k * r * q) (q * s))]) → Q (.ref z) H'
theorem ok_place_at (T : Tx K mg a) : FnOk P w K mg base CX0 4 a.a_place_at a.f_place_at ["clip", "k"] (sp_place_at K) := by
  refine T.d_place_at.F.ok sc_place_at (fun vs H Q E h => ?_) (fun cdv A outer s H vs Q E hr h => ?_)
  · obtain ⟨v, n, p, q, r, s, len, k, rfl, _⟩ := h
    rfl
  obtain ⟨v, n, p, q, r, s', len, k, rfl, ⟨z, z1, z2, rfl, hc, h1, h2⟩, hq, hs, bp, bq, br, bs, bk, kk⟩ := h
  refine ⟨_, (pss_one (ps_ret (pe_def T.d_sum_of (ok_sum_of T) hr rfl (pa_cons (pe_ix ix_tup (pv 0) pe_int (fun _ _ => rfl)) (pa_cons (pe_def T.d_times_of (ok_times_of T) hr rfl (pa_cons (pe_def T.d_fraction (ok_fraction T) hr rfl (pa_cons (pv 1) (pa_cons pe_int pa_nil))) (pa_cons (pe_ix ix_tup (pv 0) pe_int (fun _ _ => rfl)) pa_nil))) pa_nil))))), ?_⟩
  refine ⟨_, rfl, z, _, _, _, rfl, rfl, hc, at5_2, _, rfl, k, 1, rfl, by decide, Nat.lt_of_lt_of_le (m := 2 ^ 1) (by decide) (Nat.pow_le_pow_right (by decide) (by decide)), fun y hy => ?_⟩
  have s1 := same_new hy (.tup [.int (lowP k 1), .int (lowQ k 1)])
  obtain ⟨l1, l2⟩ := low_self (p := k) (q := 1) (by decide) (Int.gcd_one_right ..)
  refine ⟨_, rfl, z, _, _, _, rfl, rfl, L3.Same.tup s1 hc, at5_3, ?_⟩
  have one : Sm 1 := Nat.lt_of_lt_of_le (m := 2 ^ 1) (by decide) (Nat.pow_le_pow_right (by decide) (by decide))
  refine ⟨_, _, k, 1, r, s', rfl, ⟨y, rfl, ?_⟩, ⟨z2, rfl, L3.Same.tup s1 h2⟩, by decide, by omega, bk.sm, one, br.sm, bs.sm, fun x hx => ?_⟩
  · have e : SqT K (upd H y (.tup [.int (lowP k 1), .int (lowQ k 1)])) y [.int (lowP k 1), .int (lowQ k 1)] := SqT.of upd_same
    rw [l1, l2] at e ⊢
    exact e
  have s2 := s1.trans (same_new hx (.tup [.int (lowP (k * r) (1 * s')), .int (lowQ (k * r) (1 * s'))]))
  have b1 : (1 * s') ≠ 0 := by omega
  have n0 := low_pos (t := k * r) b1
  have bm : Sm (lowP (k * r) (1 * s')) := by
    refine Nat.lt_of_le_of_lt (low_absP b1) (Nat.lt_of_lt_of_le (abs_mul_lt bk br) (Nat.pow_le_pow_right (by decide) (by decide)))
  have bn : Sm (lowQ (k * r) (1 * s')) := by
    refine Nat.lt_of_le_of_lt (low_absQ b1) ?_
    rw [Int.one_mul]
    exact bs.sm
  refine ⟨_, _, p, q, _, _, rfl, ⟨z1, rfl, L3.Same.tup s2 h1⟩, ⟨x, rfl, SqT.of upd_same⟩, by omega, by omega, bp.sm, bq.sm, bm, bn, fun u hu => ?_⟩
  obtain ⟨e1, e2⟩ := place_eq (p := p) (r := r) (k := k) hq hs
  refine kk u _ (s2.trans (same_new hu _)) ?_
  rw [upd_same, e1, e2]
/-- the whole of a pair in lowest terms is that of the pair -/
theorem low_floor {t b : Int} (hb : 0 < b) : (lowP t b).fdiv (lowQ t b) = t.fdiv b := by
  have e1 := low_t t b
  have e2 := low_b t b
  have sp : 0 < sg t b := by
    have g := gcd_pos (t := t) (b := b) (by omega)
    unfold sg
    rw [if_neg (by omega)]
    omega
  have q0 := low_pos (t := t) (b := b) (by omega)
  obtain ⟨h1, h2⟩ := fdiv_bounds (p := lowP t b) q0
  obtain ⟨h3, h4⟩ := fdiv_bounds (p := t) hb
  generalize (lowP t b).fdiv (lowQ t b) = f at h1 h2 ⊢
  generalize t.fdiv b = g at h3 h4 ⊢
  generalize lowP t b = u at e1 h1 h2
  generalize lowQ t b = v at e2 h1 h2 q0
  generalize sg t b = w at e1 e2 sp
  subst e1 e2
  -- f * v ≤ u < (f + 1) * v ; g * (v * w) ≤ u * w < (g + 1) * (v * w)
  have k1 : g * v ≤ u := by
    rw [← Int.mul_assoc] at h3
    exact Int.le_of_mul_le_mul_right h3 sp
  have k2 : u < (g + 1) * v := by
    rw [← Int.mul_assoc] at h4
    exact Int.lt_of_mul_lt_mul_right h4 (by omega)
  have k3 : f < g + 1 := Int.lt_of_mul_lt_mul_right (a := v) (by omega) (by omega)
  have k4 : g < f + 1 := Int.lt_of_mul_lt_mul_right (a := v) (by omega) (by omega)
  omega
def sp_picture_at (K : PySem.W.Frag) : Sp := fun vs H Q _ => ∃ (v : V) (n : Str) (p q r s len k : Int), vs = [v, .int k] ∧ Cp K H v n p q r s len ∧ 0 < q ∧ 0 < s ∧ Sm2 p ∧ Sm2 q ∧ Sm2 r ∧ Sm2 s ∧ Sm2 k ∧
  ∀ H', Same H H' → Q (.int ((p * s + k * r * q).fdiv (q * s))) H'
theorem ok_picture_at (T : Tx K mg a) : FnOk P w K mg base CX0 5 a.a_picture_at a.f_picture_at ["clip", "k"] (sp_picture_at K) := by
  refine T.d_picture_at.F.ok sc_picture_at (fun vs H Q E h => ?_) (fun cdv A outer s H vs Q E hr h => ?_)
  · obtain ⟨v, n, p, q, r, s, len, k, rfl, _⟩ := h
    rfl
  obtain ⟨v, n, p, q, r, s', len, k, rfl, hc, hq, hs, bp, bq, br, bs, bk, kk⟩ := h
  refine ⟨_, (pss_one (ps_ret (pe_def T.d_floor_of (ok_floor_of T) hr rfl (pa_cons (pe_def T.d_place_at (ok_place_at T) hr rfl (pa_cons (pv 0) (pa_cons (pv 1) pa_nil))) pa_nil)))), ?_⟩
  refine ⟨_, rfl, _, rfl, v, n, p, q, r, s', len, k, rfl, hc, hq, hs, bp, bq, br, bs, bk, fun z H' sH hz => ?_⟩
  have b1 : q * s' ≠ 0 := Int.mul_ne_zero (by omega) (by omega)
  refine ⟨_, _, _, rfl, ⟨z, rfl, SqT.of hz⟩, ?_, ?_, ?_⟩
  · have := low_pos (t := p * s' + k * r * q) b1; omega
  · exact Nat.lt_of_le_of_lt (low_absQ b1) (Nat.lt_of_lt_of_le (abs_mul_lt bq bs) (Nat.pow_le_pow_right (by decide) (by decide)))
  · rw [low_floor (Int.mul_pos hq hs)]
    exact kk H' sH

theorem at5_0 {x0 x1 x2 x3 x4 : V} : atI [x0, x1, x2, x3, x4] 0 = some x0 := rfl
theorem at5_1 {x0 x1 x2 x3 x4 : V} : atI [x0, x1, x2, x3, x4] 1 = some x1 := rfl
theorem at5_4 {x0 x1 x2 x3 x4 : V} : atI [x0, x1, x2, x3, x4] 4 = some x4 := rfl
theorem eq2 (a b c d : Int) : eqAll [.int a, .int b] [.int c, .int d] = (a == c && b == d) := by
  simp [eqAll, eqV, List.range_succ]
/-- bounds of a clip's start and step -/
structure Bn (n : Nat) (p q r s : Int) : Prop where
  q0 : 0 < q
  s0 : 0 < s
  bp : p.natAbs < 2 ^ n
  bq : q.natAbs < 2 ^ n
  br : r.natAbs < 2 ^ n
  bs : s.natAbs < 2 ^ n
theorem pmono {i : Int} {n m : Nat} (h : i.natAbs < 2 ^ n) (l : n ≤ m := by decide) : i.natAbs < 2 ^ m := Nat.lt_of_lt_of_le h (Nat.pow_le_pow_right (by decide) l)
theorem Bn.mono {n m : Nat} {p q r s : Int} (h : Bn n p q r s) (l : n ≤ m := by decide) : Bn m p q r s := ⟨h.q0, h.s0, pmono h.bp l, pmono h.bq l, pmono h.br l, pmono h.bs l⟩
/-- a part's bounds -/
theorem Bn.part {p q r s k : Int} (h : Bn 110 p q r s) (hk : k.natAbs < 2 ^ 30) : Bn 340 (plP p q r s k) (plQ p q r s k) r s := by
  obtain ⟨hq, hs, bp, bq, br, bs⟩ := h
  refine ⟨pl_pos hq hs, hs, Nat.lt_of_le_of_lt (pl_absP hq hs) ?_, Nat.lt_of_le_of_lt (pl_absQ hq hs) (pmono (abs_mul_lt bq bs)), pmono br, pmono bs⟩
  have h1 := abs_mul_lt bp bs
  have h2 := abs_mul_lt (abs_mul_lt hk br) bq
  have e : (2 : Nat) ^ (110 + 110) + 2 ^ (30 + 110 + 110) ≤ 2 ^ 340 := by decide
  omega
theorem p8000 {i : Int} {n : Nat} (h : i.natAbs < 2 ^ n) (l : n ≤ 8000 := by decide) : i.natAbs < 2 ^ 8000 := pmono h l

/-! ### the script's cells, and numbers mixed of them -/
def sp__law_cell_at (K : PySem.W.Frag) : Sp := fun vs H Q _ => ∃ (z : Addr) (ns : List Int) (i : Int), vs = [.ref z, .int i] ∧ SqL K H z (ns.map V.int) ∧ ns.length ≤ 63 ∧ 0 ≤ i ∧ ∀ c : Int, Q (.int c) H
theorem ok__law_cell_at (T : Tx K mg a) : FnOk P w K mg base CX0 1 a.a__law_cell_at a.f__law_cell_at ["_law_script", "_law_k"] (sp__law_cell_at K) := by
  refine T.d__law_cell_at.F.ok sc__law_cell_at (fun vs H Q E h => ?_) (fun cdv A outer s H vs Q E hr h => ?_)
  · obtain ⟨z, ns, i, rfl, _⟩ := h
    rfl
  obtain ⟨z, ns, i, rfl, hS, hl, h0, k⟩ := h
  refine ⟨_, (pss_cons (ps_if (pt_cmpR op_lt (pv 1) (pe_callB call_len_seq rfl T.b_len rfl (pa_cons (pv 0) pa_nil)) (nomark _)) (pss_one (ps_ret (pe_ix ix_list (pv 0) (pv 1) (fun _ _ => rfl)))) pss_nil)
      (pss_one (ps_ret pe_int))), ?_⟩
  have hml : (ns.map V.int).length = ns.length := List.length_map _
  refine ⟨_, rfl, _, rfl, z, _, rfl, .inl hS, _, _, rfl, rfl, _, rfl, ?_⟩
  refine ite2 (fun c => ?_) (fun _ => ?_)
  · have c' : i < ((ns.map V.int).length : Int) := of_decide_eq_true c
    rw [hml] at c'
    have hi : i.toNat < ns.length := by omega
    have e : i = ((i.toNat : Nat) : Int) := by omega
    have hat : atI (ns.map V.int) ((i.toNat : Nat) : Int) = some (.int ns[i.toNat]) := atI_nat (by rw [List.getElem?_map, List.getElem?_eq_getElem hi]; rfl)
    rw [← e] at hat
    exact ⟨_, rfl, _, rfl, z, _, _, .int ns[i.toNat], rfl, rfl, hS, hat, k _⟩
  · exact k 0

/-! ### is_there, is_name -/
def thB (i m : Int) : Bool := decide (0 ≤ i) && decide (i < m)
theorem thB_iff {N D m : Int} (hD : 0 < D) : thB (N.fdiv D) m = true ↔ InR N D m := by
  rw [inR_iff hD]
  simp [thB]
def sp_is_there : Sp := fun vs H Q _ => ∃ i m : Int, vs = [.int i, .int m] ∧ Q (.bl (thB i m)) H
theorem ok_is_there (T : Tx K mg a) : FnOk P w K mg base CX0 1 a.a_is_there a.f_is_there ["picture", "many"] sp_is_there := by
  refine T.d_is_there.F.ok sc_is_there (fun vs H Q E h => ?_) (fun cdv A outer s H vs Q E hr h => ?_)
  · obtain ⟨i, m, rfl, _⟩ := h
    rfl
  obtain ⟨i, m, rfl, q⟩ := h
  refine ⟨_, (pss_one (ps_ret (pe_and (pe_cmpR op_le pe_int (pv 0) (nomark _)) (pe_one (pe_cmpR op_lt (pv 0) (pv 1) (nomark _)))))), ?_⟩
  refine ⟨_, rfl, _, _, rfl, rfl, _, rfl, ?_⟩
  unfold thB at q
  by_cases h0 : 0 ≤ i
  · rw [decide_eq_true h0] at q ⊢
    exact iteT ⟨_, rfl, _, rfl, _, _, rfl, rfl, q⟩
  · rw [decide_eq_false h0] at q ⊢
    exact iteF q

def letB (c : Nat) : Bool := !(Builtin.Str.occurrences "abcdefghijklmnopqrstuvwxyz" ⟨#[c]⟩ 0 ("abcdefghijklmnopqrstuvwxyz" : Str).length 1).isEmpty
def nameB (z : Str) : Bool := decide (1 ≤ z.length ∧ z.length ≤ 8) && z.cps.toList.all letB

def sp_is_name : Sp := fun vs H Q _ => ∃ z : Str, vs = [.str z] ∧ z.length ≤ 1000 ∧ ∀ H', Same H H' → Q (.bl (nameB z)) H'
theorem ok_is_name (T : Tx K mg a) : FnOk P w K mg base CX0 1 a.a_is_name a.f_is_name ["thing"] sp_is_name := by
  refine T.d_is_name.F.ok sc_is_name (fun vs H Q E h => ?_) (fun cdv A outer s H vs Q E hr h => ?_)
  · obtain ⟨z, rfl, _⟩ := h
    rfl
  obtain ⟨z, rfl, hz, kk⟩ := h
  refine ⟨_, (pss_cons (ps_if (pt_not (pt_val (pe_callB call_isinst rfl T.b_isinstance rfl (pa_cons (pv 0) (pa_cons (pe_ty rfl T.b_str rfl) pa_nil))))) (pss_one (ps_ret pe_bl)) pss_nil)
      (pss_cons (ps_if (PW.pt (pw_or (pt_cmpR op_lt (pe_callB call_len_str rfl T.b_len rfl (pa_cons (pv 0) pa_nil)) pe_int (nomark _)) (pw_or1 (pt_cmpR op_gt (pe_callB call_len_str rfl T.b_len rfl (pa_cons (pv 0) pa_nil)) (pe_glob (v := .int 8) rfl T.g_LONGEST_NAME ⟨_, rfl⟩) (nomark _))))) (pss_one (ps_ret pe_bl)) pss_nil)
      (pss_one (ps_ret (pe_callB (call_allB rfl) rfl T.b_all rfl (pa_cons (pe_comp [] [] rfl (pi_str (pv 0)) (fun _ _ _ _ => (pe_cmpR op_inS (pv 0) (pe_glob (v := .str "abcdefghijklmnopqrstuvwxyz") rfl T.g_LETTERS ⟨_, rfl⟩) rfl))) pa_nil)))))), ?_⟩
  have hsz : z.length ≤ sizeLine := Nat.le_of_lt (small1000 hz)
  refine ⟨_, rfl, _, _, _, true, rfl, .str z, ⟨_, .inl ⟨rfl, by kernel_rfl⟩⟩, true, rfl, iteF ?_⟩
  refine ⟨_, rfl, z, rfl, hsz, _, _, rfl, rfl, _, rfl, ?_⟩
  by_cases h1 : (z.length : Int) < 1
  · rw [decide_eq_true h1]
    have e : nameB z = false := by unfold nameB; rw [decide_eq_false (by omega)]; rfl
    have := kk H (Same.refl _)
    rw [e] at this
    exact iteT (iteT this)
  rw [decide_eq_false h1]
  refine iteF ⟨_, rfl, z, rfl, hsz, _, _, rfl, rfl, _, rfl, ?_⟩
  by_cases h2 : (8 : Int) < (z.length : Int)
  · rw [decide_eq_true h2]
    have e : nameB z = false := by unfold nameB; rw [decide_eq_false (by omega)]; rfl
    have := kk H (Same.refl _)
    rw [e] at this
    exact iteT this
  rw [decide_eq_false h2]
  refine iteF ?_
  refine ⟨_, rfl, z, rfl, comp_str (fun i acc H' => H' = H ∧ acc = ((z.cps.toList.take i).map letB).map V.bl) ⟨rfl, rfl⟩ ?_ ?_ ?_⟩
  · rintro i acc H' hi ⟨_, rfl⟩
    rw [List.length_map, List.length_map, List.length_take]
    exact small1000 (by have : z.cps.size = z.length := rfl; omega)
  · rintro i c acc H' hi hc ⟨rfl, rfl⟩
    refine ⟨_, rfl, _, _, rfl, rfl, Nxt.mk hi ⟨rfl, ?_⟩⟩
    have hc' : z.cps.toList[i]? = some c := by simpa using hc
    rw [List.take_succ, hc', List.map_append, List.map_append]
    rfl
  · rintro acc H' ⟨rfl, rfl⟩ D hD
    refine ⟨D, _, rfl, SqL.of upd_same, ?_⟩
    have e : ((z.cps.toList.take z.cps.size).map letB).all id = nameB z := by
      rw [List.take_of_length_le (by simp)]
      unfold nameB
      rw [decide_eq_true (by omega : 1 ≤ z.length ∧ z.length ≤ 8), Bool.true_and, List.all_map]
      rfl
    rw [e]
    exact kk _ (same_new hD _)

/-! ### moments_there, the rooms -/
theorem neg_low {c d : Int} (hd : 0 < d) (g : Int.gcd c d = 1) : lowP (0 * d - c * 1) (1 * d) = -c ∧ lowQ (0 * d - c * 1) (1 * d) = d := by
  refine low_eq (by omega) hd (by rw [Int.neg_gcd]; exact g) ?_
  grind
def sp_moments_there (K : PySem.W.Frag) : Sp := fun vs H Q _ => ∃ (x y : V) (A B c d m : Int), vs = [x, y, .int m] ∧ Pr K H x A B ∧ Pr K H y c d ∧ 0 < B ∧ 0 < d ∧ Int.gcd c d = 1 ∧ A.natAbs < 2 ^ 700 ∧ B.natAbs < 2 ^ 700 ∧ c.natAbs < 2 ^ 700 ∧ d.natAbs < 2 ^ 700 ∧ m.natAbs < 2 ^ 700 ∧
  ∀ H', Same H H' → Q (.int (roomB (A * d) (c * B) (B * d) m)) H'
theorem ok_moments_there (T : Tx K mg a) : FnOk P w K mg base CX0 4 a.a_moments_there a.f_moments_there ["first", "step", "many"] (sp_moments_there K) := by
  refine T.d_moments_there.F.ok sc_moments_there (fun vs H Q E h => ?_) (fun cdv A outer s H vs Q E hr h => ?_)
  · obtain ⟨x, y, A, B, c, d, m, rfl, _⟩ := h
    rfl
  obtain ⟨x, y, A', B, c, d, m, rfl, ⟨z1, rfl, h1⟩, ⟨z2, rfl, h2⟩, hB, hd, hg, bA, bB, bc, bd, bm, kk⟩ := h
  have hu := hr.units0
  refine ⟨_, (pss_cons (ps_if (pt_cmpR (op_eqT hu) (pv 1) (pe_glob (v := .ref a.n_NOUGHT) rfl T.g_NOUGHT rfl) (nomark _)) (pss_one (ps_ret (pe_glob (v := .int 1000000) rfl T.g_MOST_ROOM ⟨_, rfl⟩))) pss_nil)
      (pss_cons (ps_if (pt_not (pt_val (pe_def T.d_is_there (ok_is_there T) hr rfl (pa_cons (pe_def T.d_floor_of (ok_floor_of T) hr rfl (pa_cons (pv 0) pa_nil)) (pa_cons (pv 2) pa_nil))))) (pss_one (ps_ret pe_int)) pss_nil)
      (pss_cons (ps_join (ps_if (pt_val (pe_def T.d_is_before (ok_is_before T) hr rfl (pa_cons (pv 1) (pa_cons (pe_glob (v := .ref a.n_NOUGHT) rfl T.g_NOUGHT rfl) pa_nil)))) (pss_one (ps_set (i := 3) sc_moments_there.nd rfl (Or.inl rfl) (pe_op op_add (pe_def T.d_floor_of (ok_floor_of T) hr rfl (pa_cons (pe_def T.d_quotient (ok_quotient T) hr rfl (pa_cons (pv 0) (pa_cons (pe_def T.d_less_by (ok_less_by T) hr rfl (pa_cons (pe_glob (v := .ref a.n_NOUGHT) rfl T.g_NOUGHT rfl) (pa_cons (pv 1) pa_nil))) pa_nil))) pa_nil)) pe_int))) (pss_one (ps_set (i := 3) sc_moments_there.nd rfl (Or.inl rfl) (pe_un un_neg (pe_def T.d_floor_of (ok_floor_of T) hr rfl (pa_cons (pe_def T.d_quotient (ok_quotient T) hr rfl (pa_cons (pe_def T.d_less_by (ok_less_by T) hr rfl (pa_cons (pv 0) (pa_cons (pe_def T.d_fraction (ok_fraction T) hr rfl (pa_cons (pv 2) (pa_cons pe_int pa_nil))) pa_nil))) (pa_cons (pv 1) pa_nil))) pa_nil)))))))
      (pss_one (ps_ret (pe_callB (call_min2 rfl) rfl T.b_min rfl (pa_cons (pv 3) (pa_cons (pe_glob (v := .int 1000000) rfl T.g_MOST_ROOM ⟨_, rfl⟩) pa_nil)))))))), ?_⟩
  have S : ∀ {i : Int}, i.natAbs < 2 ^ 700 → Sm i := fun h => pmono h
  have one : Sm 1 := Sm.of200 (by decide)
  have nul : Sm 0 := Sm.of200 (by decide)
  have hBd := Int.mul_pos hB hd
  have H1 : ∀ {H' : Hp}, Same H H' → SqT K H' z1 [.int A', .int B] := fun e => L3.Same.tup e h1
  have H2 : ∀ {H' : Hp}, Same H H' → SqT K H' z2 [.int c, .int d] := fun e => L3.Same.tup e h2
  refine ⟨_, rfl, _, _, _, _, rfl, rfl, h2, T.sq_NOUGHT _, rfl, rfl, _, rfl, ?_⟩
  rw [if_neg (by decide : ¬ (false = true)), eq2]
  by_cases hc : c = 0
  · have d1 : d = 1 := by
      subst hc
      rw [Int.gcd_zero_left] at hg
      omega
    rw [show (c == 0 && d == 1) = true by simp [hc, d1]]
    refine iteT ?_
    have := kk H (Same.refl _)
    unfold roomB at this
    rw [if_pos (by rw [hc, Int.zero_mul])] at this
    exact this
  rw [show (c == 0 && d == 1) = false by simp [hc]]
  refine iteF ?_
  have hcB : ¬ (c * B = 0) := Int.mul_ne_zero hc (by omega)
  have ef : A'.fdiv B = (A' * d).fdiv (B * d) := fdiv_cross hB hBd (by grind)
  refine ⟨_, rfl, _, A', B, rfl, ⟨z1, rfl, h1⟩, by omega, p8000 bB, _, rfl, _, _, rfl, _, rfl, ?_⟩
  by_cases ht : 0 ≤ A'.fdiv B ∧ A'.fdiv B < m
  rotate_left
  · rw [show thB (A'.fdiv B) m = false by unfold thB; rw [Bool.eq_false_iff]; simpa using ht]
    refine iteT ?_
    have := kk H (Same.refl _)
    unfold roomB at this
    rw [if_neg hcB, if_pos (by rw [← ef]; exact ht)] at this
    exact this
  rw [show thB (A'.fdiv B) m = true by simp [thB, ht]]
  refine iteF ?_
  have res : ∀ H', Same H H' → Q (.int (if 1000000 < (if c * B < 0 then (A' * d).fdiv (-(c * B)) + 1 else -((A' * d - m * (B * d)).fdiv (c * B))) then 1000000 else (if c * B < 0 then (A' * d).fdiv (-(c * B)) + 1 else -((A' * d - m * (B * d)).fdiv (c * B))))) H' := fun H' e => by
    have := kk H' e
    unfold roomB at this
    rw [if_neg hcB, if_neg (by rw [← ef]; simpa using ht)] at this
    exact this
  generalize hgg : (if c * B < 0 then (A' * d).fdiv (-(c * B)) + 1 else -((A' * d - m * (B * d)).fdiv (c * B))) = g at res
  refine ⟨fun σ' H' => σ' = [some (.ref z1), some (.ref z2), some (.int m), some (.int g)] ∧ Same H H', ?_, ?_⟩
  · refine ⟨_, rfl, _, _, c, d, 0, 1, rfl, ⟨z2, rfl, h2⟩, ⟨_, rfl, T.sq_NOUGHT _⟩, S bc, S bd, nul, one, _, rfl, ?_⟩
    by_cases hn : c * 1 < 0 * d
    · rw [decide_eq_true hn]
      refine iteT ?_
      have c0 : c < 0 := by omega
      refine ⟨_, rfl, _, rfl, _, _, 0, 1, c, d, rfl, ⟨_, rfl, T.sq_NOUGHT _⟩, ⟨z2, rfl, h2⟩, by decide, by omega, nul, one, S bc, S bd, fun u hu' => ?_⟩
      rw [(neg_low hd hg).1, (neg_low hd hg).2]
      have w1 := same_new hu' (.tup [.int (-c), .int d])
      have bnc : (-c).natAbs < 2 ^ 700 := by rw [Int.natAbs_neg]; exact bc
      have hpos : 0 < B * (-c) := Int.mul_pos hB (by omega)
      refine ⟨_, _, A', B, -c, d, rfl, ⟨z1, rfl, H1 w1⟩, ⟨u, rfl, SqT.of upd_same⟩, by omega, by omega, S bA, S bB, S bnc, S bd, fun v hv => ?_⟩
      have w2 := w1.trans (same_new hv (.tup [.int (lowP (A' * d) (B * (-c))), .int (lowQ (A' * d) (B * (-c)))]))
      have lq := low_pos (t := A' * d) (b := B * (-c)) (by omega)
      refine ⟨_, _, _, rfl, ⟨v, rfl, SqT.of upd_same⟩, by omega, Nat.lt_of_le_of_lt (low_absQ (by omega)) (p8000 (abs_mul_lt bB bnc)), ?_⟩
      rw [low_floor hpos]
      refine ⟨_, _, rfl, rfl, ?_, w2⟩
      have e : g = (A' * d).fdiv (B * -c) + 1 := by
        rw [← hgg, if_pos (by have := Int.mul_neg_of_neg_of_pos c0 hB; exact this)]
        rw [show -(c * B) = B * -c by grind]
      rw [e]
      rfl
    · rw [decide_eq_false hn]
      refine iteF ?_
      have c0 : 0 < c := by omega
      obtain ⟨l1, l2⟩ := low_self (p := m) (q := 1) (by decide) (Int.gcd_one_right ..)
      refine ⟨_, rfl, _, rfl, m, 1, rfl, by decide, p8000 (n := 1) (by decide), fun u hu' => ?_⟩
      rw [l1, l2]
      have w1 := same_new hu' (.tup [.int m, .int 1])
      refine ⟨_, _, A', B, m, 1, rfl, ⟨z1, rfl, H1 w1⟩, ⟨u, rfl, SqT.of upd_same⟩, by omega, by decide, S bA, S bB, S bm, one, fun v hv => ?_⟩
      have hb1 : B * 1 ≠ 0 := by omega
      have cr := low_cross (A' * 1 - m * B) (B * 1)
      have lq := low_pos (t := A' * 1 - m * B) hb1
      have aP := low_absP (t := A' * 1 - m * B) hb1
      have aQ := low_absQ (t := A' * 1 - m * B) hb1
      have w2 := w1.trans (same_new hv (.tup [.int (lowP (A' * 1 - m * B) (B * 1)), .int (lowQ (A' * 1 - m * B) (B * 1))]))
      have ev := upd_same (H := upd H u (.tup [.int m, .int 1])) (a := v) (o := .tup [.int (lowP (A' * 1 - m * B) (B * 1)), .int (lowQ (A' * 1 - m * B) (B * 1))])
      generalize upd (upd H u (.tup [.int m, .int 1])) v (.tup [.int (lowP (A' * 1 - m * B) (B * 1)), .int (lowQ (A' * 1 - m * B) (B * 1))]) = H3 at w2 ev ⊢
      generalize lowP (A' * 1 - m * B) (B * 1) = P' at cr aP ev ⊢
      generalize lowQ (A' * 1 - m * B) (B * 1) = Q' at cr aQ lq ev ⊢
      have sP : Sm P' := by
        have t := abs_mul_lt bm bB
        have : (A' * 1 - m * B).natAbs < 2 ^ 1500 := by
          have e : (2 : Nat) ^ 700 + 2 ^ (700 + 700) ≤ 2 ^ 1500 := by decide
          omega
        exact Nat.lt_of_le_of_lt aP (pmono this)
      have bQ : Q'.natAbs < 2 ^ 700 := by rw [Int.mul_one] at aQ; omega
      refine ⟨_, rfl, _, _, P', Q', c, d, rfl, ⟨v, rfl, SqT.of ev⟩, ⟨z2, rfl, H2 w2⟩, by omega, hc, sP, S bQ, S bc, S bd, fun x hx => ?_⟩
      have hpos : 0 < Q' * c := Int.mul_pos lq c0
      have w3 := w2.trans (same_new hx (.tup [.int (lowP (P' * d) (Q' * c)), .int (lowQ (P' * d) (Q' * c))]))
      have lq2 := low_pos (t := P' * d) (b := Q' * c) (by omega)
      refine ⟨_, _, _, rfl, ⟨x, rfl, SqT.of upd_same⟩, by omega, Nat.lt_of_le_of_lt (low_absQ (by omega)) (p8000 (abs_mul_lt bQ bc)), ?_⟩
      rw [low_floor hpos]
      refine ⟨_, rfl, ?_, w3⟩
      have e : g = -(P' * d).fdiv (Q' * c) := by
        have hcB' := Int.mul_pos c0 hB
        rw [← hgg, if_neg (by omega)]
        rw [fdiv_cross hcB' hpos (by grind : (A' * d - m * (B * d)) * (Q' * c) = P' * d * (c * B))]
      rw [e]
      rfl
  rintro σ' H' ⟨rfl, sH⟩
  exact ⟨_, rfl, _, _, rfl, res H' sH⟩

theorem rd_same {H H' : Hp} (e : Same H H') {a : Addr} {u : HO} (h : Rd H a u) : Rd H' a u := by
  rcases h with h | ⟨o, h⟩
  · exact .inl (e _ _ h)
  · exact .inr ⟨o, e _ _ h⟩

/-- a reel of the dict, frozen or not -/
def Reel (H : Hp) (rd : Addr) (n : Str) (m : Int) : Prop := ∃ kvs, Rd H rd (.dK kvs) ∧ valV kvs (Sum.inr n) = some (.int m)
theorem Reel.same {H H' : Hp} {rd : Addr} {n : Str} {m : Int} (e : Same H H') (h : Reel H rd n m) : Reel H' rd n m := let ⟨k, h1, h2⟩ := h; ⟨k, rd_same e h1, h2⟩
theorem Reel.get {H : Hp} {rd : Addr} {n : Str} {m : Int} (h : Reel H rd n m) : DGet H rd (.str n) (some (.int m)) := let ⟨k, h1, h2⟩ := h; .inl ⟨k, Sum.inr n, h1, rfl, h2.symm⟩
/-- a clip's value at k, over q * s -/
def Vk (p q r s k : Int) : Int := p * s + k * r * q

/-- a clip whose tuples are tracked -/
structure Ch (H : Hp) (z : Addr) (n : Str) (p q r s len : Int) : Prop where
  ex : ∃ z1 z2, H z = some (.tup [.str "clip", .str n, .ref z1, .ref z2, .int len]) ∧ H z1 = some (.tup [.int p, .int q]) ∧ H z2 = some (.tup [.int r, .int s])
theorem Ch.same {H H' : Hp} {z : Addr} {n : Str} {p q r s len : Int} (e : Same H H') (h : Ch H z n p q r s len) : Ch H' z n p q r s len := let ⟨z1, z2, h1, h2, h3⟩ := h.ex; ⟨z1, z2, e _ _ h1, e _ _ h2, e _ _ h3⟩
theorem Ch.cp {H : Hp} {z : Addr} {n : Str} {p q r s len : Int} (h : Ch H z n p q r s len) : Cp K H (.ref z) n p q r s len := let ⟨z1, z2, h1, h2, h3⟩ := h.ex; ⟨z, z1, z2, rfl, SqT.of h1, SqT.of h2, SqT.of h3⟩

/-- a room of a clip from its moment k0 on, in the way e -/
theorem room_of {p q r s k0 e m : Int} (hq : 0 < q) (hs : 0 < s) (he : e = 1 ∨ e = -1) (h0 : r = 0 → InR (Vk p q r s 0) (q * s) m) :
    let g := roomB (plP p q r s k0 * s) (e * r * plQ p q r s k0) (plQ p q r s k0 * s) m
    0 ≤ g ∧ g ≤ 1000000 ∧ (∀ j, 0 ≤ j → j < g → InR (Vk p q r s (k0 + e * j)) (q * s) m) ∧ (g < 1000000 → ¬ InR (Vk p q r s (k0 + e * g)) (q * s) m) ∧ (r = 0 → g = 1000000) := by
  intro g
  have c := pl_cross p q r s k0
  have hb := pl_pos (p := p) (r := r) (k := k0) hq hs
  have hbs := Int.mul_pos hb hs
  have hqs := Int.mul_pos hq hs
  have cross : ∀ j : Int, InR (plP p q r s k0 * s + j * (e * r * plQ p q r s k0)) (plQ p q r s k0 * s) m ↔ InR (Vk p q r s (k0 + e * j)) (q * s) m := fun j => by
    refine inR_cross hbs hqs ?_
    unfold Vk
    generalize plP p q r s k0 = u at c ⊢
    generalize plQ p q r s k0 = v at c ⊢
    grind
  have key := room_ok (N := plP p q r s k0 * s) (R := e * r * plQ p q r s k0) (D := plQ p q r s k0 * s) (m := m) hbs (fun z => by
    have r0 : r = 0 := by
      rcases Int.mul_eq_zero.mp z with z | z
      · rcases Int.mul_eq_zero.mp z with z | z
        · omega
        · exact z
      · omega
    have := h0 r0
    have e0 := (cross 0).mpr (by
      have e : Vk p q r s (k0 + e * 0) = Vk p q r s 0 := by unfold Vk; rw [r0]; grind
      rw [e]; exact this)
    rw [Int.zero_mul, Int.add_zero] at e0
    exact e0)
  obtain ⟨k1, k2, k3, k4, k5⟩ := key
  refine ⟨k1, k2, fun j a b => (cross j).mp (k3 j a b), fun z w => k4 z ((cross _).mpr w), fun z => k5 ?_⟩
  rw [z]
  grind
def sp_head_room (K : PySem.W.Frag) : Sp := fun vs H Q _ => ∃ (v : V) (n : Str) (p q r s len m : Int) (rd : Addr), vs = [v, .ref rd] ∧ Cp K H v n p q r s len ∧ Good 110 p q ∧ Good 110 r s ∧ Reel H rd n m ∧ m.natAbs < 2 ^ 700 ∧
  ∀ H', Same H H' → Q (.int (roomB (plP p q r s (-1) * s) (-1 * r * plQ p q r s (-1)) (plQ p q r s (-1) * s) m)) H'
theorem ok_head_room (T : Tx K mg a) : FnOk P w K mg base CX0 5 a.a_head_room a.f_head_room ["clip", "reels"] (sp_head_room K) := by
  refine T.d_head_room.F.ok sc_head_room (fun vs H Q E h => ?_) (fun cdv A outer s H vs Q E hr h => ?_)
  · obtain ⟨v, n, p, q, r, s, len, m, rd, rfl, _⟩ := h
    rfl
  obtain ⟨v, n, p, q, r, s', len, m, rd, rfl, hc, g1, g2, hrd, bm, kk⟩ := h
  have hu1 := hu_of hr
  refine ⟨_, (pss_one (ps_ret (pe_def T.d_moments_there (ok_moments_there T) hr rfl (pa_cons (pe_def T.d_place_at (ok_place_at T) hr rfl (pa_cons (pv 0) (pa_cons (pe_un un_neg pe_int) pa_nil))) (pa_cons (pe_def T.d_less_by (ok_less_by T) hr rfl (pa_cons (pe_glob (v := .ref a.n_NOUGHT) rfl T.g_NOUGHT rfl) (pa_cons (pe_ix ix_tup (pv 0) pe_int (fun _ _ => rfl)) pa_nil))) (pa_cons (pe_dget hu1 (pv 1) (pe_ix ix_tup (pv 0) pe_int (fun _ _ => rfl)) (fun _ _ => rfl)) pa_nil)))))), ?_⟩
  have hb : Bn 110 p q r s' := ⟨g1.1, g2.1, g1.2.2.1, g1.2.2.2, g2.2.2.1, g2.2.2.2⟩
  have hb7 := hb.mono (m := 700)
  have hp := (hb.part (k := -1) (by decide)).mono (m := 700)
  refine ⟨_, rfl, _, rfl, v, n, p, q, r, s', len, -1, rfl, hc, hb7.q0, hb7.s0, hb7.bp, hb7.bq, hb7.br, hb7.bs, pmono (n := 30) (by decide), fun y H1 s1 e1 => ?_⟩
  obtain ⟨z, z1, z2, e, h0, h1, h2⟩ := (hc.same s1).ex
  subst e
  have S : ∀ {i : Int}, i.natAbs < 2 ^ 700 → Sm i := fun h => pmono h
  refine ⟨_, rfl, z, _, _, _, rfl, rfl, h0, at5_3, ?_⟩
  refine ⟨_, _, 0, 1, r, s', rfl, ⟨_, rfl, T.sq_NOUGHT _⟩, ⟨z2, rfl, h2⟩, by decide, by have := hb.s0; omega, Sm.of200 (by decide), Sm.of200 (by decide), S hb7.br, S hb7.bs, fun u hu' => ?_⟩
  rw [(neg_low hb.s0 g2.2.1).1, (neg_low hb.s0 g2.2.1).2]
  have w1 := same_new hu' (.tup [.int (-r), .int s'])
  refine ⟨_, rfl, _, rfl, z, _, _, _, rfl, rfl, L3.Same.tup w1 h0, at5_1, rd, _, rfl, (hrd.same (s1.trans w1)).get, ?_⟩
  refine ⟨_, _, _, _, -r, s', m, rfl, ⟨y, rfl, SqT.of (w1 _ _ e1)⟩, ⟨u, rfl, SqT.of upd_same⟩, hp.q0, hb.s0, by rw [Int.neg_gcd]; exact g2.2.1, hp.bp, hp.bq, by rw [Int.natAbs_neg]; exact hb7.br, hb7.bs, bm, fun H' sH => ?_⟩
  have := kk H' (s1.trans (w1.trans sH))
  rw [show -1 * r * plQ p q r s' (-1) = -r * plQ p q r s' (-1) by grind] at this
  exact this
def sp_tail_room (K : PySem.W.Frag) : Sp := fun vs H Q _ => ∃ (v : V) (n : Str) (p q r s len m : Int) (rd : Addr), vs = [v, .ref rd] ∧ Cp K H v n p q r s len ∧ Good 110 p q ∧ Good 110 r s ∧ len.natAbs < 2 ^ 30 ∧ Reel H rd n m ∧ m.natAbs < 2 ^ 700 ∧
  ∀ H', Same H H' → Q (.int (roomB (plP p q r s len * s) (1 * r * plQ p q r s len) (plQ p q r s len * s) m)) H'
theorem ok_tail_room (T : Tx K mg a) : FnOk P w K mg base CX0 5 a.a_tail_room a.f_tail_room ["clip", "reels"] (sp_tail_room K) := by
  refine T.d_tail_room.F.ok sc_tail_room (fun vs H Q E h => ?_) (fun cdv A outer s H vs Q E hr h => ?_)
  · obtain ⟨v, n, p, q, r, s, len, m, rd, rfl, _⟩ := h
    rfl
  obtain ⟨v, n, p, q, r, s', len, m, rd, rfl, hc, g1, g2, bl, hrd, bm, kk⟩ := h
  have hu1 := hu_of hr
  refine ⟨_, (pss_one (ps_ret (pe_def T.d_moments_there (ok_moments_there T) hr rfl (pa_cons (pe_def T.d_place_at (ok_place_at T) hr rfl (pa_cons (pv 0) (pa_cons (pe_ix ix_tup (pv 0) pe_int (fun _ _ => rfl)) pa_nil))) (pa_cons (pe_ix ix_tup (pv 0) pe_int (fun _ _ => rfl)) (pa_cons (pe_dget hu1 (pv 1) (pe_ix ix_tup (pv 0) pe_int (fun _ _ => rfl)) (fun _ _ => rfl)) pa_nil)))))), ?_⟩
  have hb : Bn 110 p q r s' := ⟨g1.1, g2.1, g1.2.2.1, g1.2.2.2, g2.2.2.1, g2.2.2.2⟩
  have hb7 := hb.mono (m := 700)
  have hp := (hb.part (k := len) bl).mono (m := 700)
  have hc0 := hc
  obtain ⟨z, z1, z2, e, h0, h1, h2⟩ := hc0.ex
  subst e
  refine ⟨_, rfl, _, rfl, z, _, _, _, rfl, rfl, h0, at5_4, _, n, p, q, r, s', len, len, rfl, hc, hb7.q0, hb7.s0, hb7.bp, hb7.bq, hb7.br, hb7.bs, pmono bl, fun y H1 s1 e1 => ?_⟩
  refine ⟨_, rfl, z, _, _, _, rfl, rfl, L3.Same.tup s1 h0, at5_3, ?_⟩
  refine ⟨_, rfl, _, rfl, z, _, _, _, rfl, rfl, L3.Same.tup s1 h0, at5_1, rd, _, rfl, (hrd.same s1).get, ?_⟩
  refine ⟨_, _, _, _, r, s', m, rfl, ⟨y, rfl, SqT.of e1⟩, ⟨z2, rfl, L3.Same.tup s1 h2⟩, hp.q0, hb.s0, g2.2.1, hp.bp, hp.bq, hb7.br, hb7.bs, bm, fun H' sH => ?_⟩
  have := kk H' (s1.trans sH)
  rw [Int.one_mul] at this
  exact this
/-! ### has_clip_form, check_clip -/
def sp_has_clip_form : Sp := fun vs H Q _ => ∃ (z : Addr) (n : Str) (p q r s len : Int), vs = [.ref z] ∧ Ch H z n p q r s len ∧ nameB n = true ∧ n.length ≤ 1000 ∧ 1 ≤ q ∧ Int.gcd p q = 1 ∧ 1 ≤ s ∧ Int.gcd r s = 1 ∧ 1 ≤ len ∧ ∀ H', Same H H' → Q (.bl true) H'
theorem ok_has_clip_form (T : Tx K mg a) : FnOk P w K mg base CX0 3 a.a_has_clip_form a.f_has_clip_form ["item"] sp_has_clip_form := by
  refine T.d_has_clip_form.F.ok sc_has_clip_form (fun vs H Q E h => ?_) (fun cdv A outer s H vs Q E hr h => ?_)
  · obtain ⟨z, n, p, q, r, s, len, rfl, _⟩ := h
    rfl
  obtain ⟨z, n, p, q, r, s', len, rfl, ⟨z1, z2, e0, e1, e2⟩, hn, hl, hq, gq, hs, gs, l1, kk⟩ := h
  refine ⟨_, (pss_cons (ps_if (PW.pt (pw_or (pt_not (pt_val (pe_callB call_isinst rfl T.b_isinstance rfl (pa_cons (pv 0) (pa_cons (pe_ty rfl T.b_tuple rfl) pa_nil))))) (pw_or1 (pt_cmpR op_ne (pe_callB call_len_seq rfl T.b_len rfl (pa_cons (pv 0) pa_nil)) pe_int (nomark _))))) (pss_one (ps_ret pe_bl)) pss_nil)
      (pss_cons (ps_if (PW.pt (pw_or (pt_cmpR op_ne (pe_ix ix_tup (pv 0) pe_int (fun _ _ => rfl)) pe_str (nomark _)) (pw_or1 (pt_not (pt_val (pe_def T.d_is_name (ok_is_name T) hr rfl (pa_cons (pe_ix ix_tup (pv 0) pe_int (fun _ _ => rfl)) pa_nil))))))) (pss_one (ps_ret pe_bl)) pss_nil)
      (pss_cons (ps_if (PW.pt (pw_or (pt_not (pt_val (pe_def T.d_is_fraction (ok_is_fraction T) hr rfl (pa_cons (pe_ix ix_tup (pv 0) pe_int (fun _ _ => rfl)) pa_nil)))) (pw_or1 (pt_not (pt_val (pe_def T.d_is_fraction (ok_is_fraction T) hr rfl (pa_cons (pe_ix ix_tup (pv 0) pe_int (fun _ _ => rfl)) pa_nil))))))) (pss_one (ps_ret pe_bl)) pss_nil)
      (pss_one (ps_ret (pe_and (pe_def T.d_is_whole (ok_is_whole T) hr rfl (pa_cons (pe_ix ix_tup (pv 0) pe_int (fun _ _ => rfl)) pa_nil)) (pe_one (pe_cmpR op_ge (pe_ix ix_tup (pv 0) pe_int (fun _ _ => rfl)) pe_int (nomark _))))))))), ?_⟩
  have h0 : ∀ {H' : Hp}, Same H H' → SqT K H' z [.str "clip", .str n, .ref z1, .ref z2, .int len] := fun e => SqT.of (e _ _ e0)
  refine ⟨_, rfl, _, _, _, true, rfl, .tup e0, ⟨_, .inl ⟨rfl, by kernel_rfl⟩⟩, true, rfl, iteF ?_⟩
  refine ⟨_, rfl, _, _, rfl, .inr (h0 (Same.refl _)), rfl, _, rfl, iteF ?_⟩
  refine ⟨_, rfl, _, _, _, _, rfl, rfl, h0 (Same.refl _), at5_0, rfl, _, rfl, iteNS rfl ?_⟩
  refine ⟨_, rfl, _, _, _, _, rfl, rfl, h0 (Same.refl _), at5_1, n, rfl, hl, fun H1 s1 => ?_⟩
  rw [hn]
  refine ⟨true, rfl, iteF ?_⟩
  refine ⟨_, rfl, _, _, _, _, rfl, rfl, h0 s1, at5_2, z1, p, q, rfl, s1 _ _ e1, hq, gq, true, rfl, iteF ?_⟩
  refine ⟨_, rfl, _, _, _, _, rfl, rfl, h0 s1, at5_3, z2, r, s', rfl, s1 _ _ e2, hs, gs, true, rfl, iteF ?_⟩
  refine ⟨_, rfl, _, _, _, _, rfl, rfl, h0 s1, at5_4, len, rfl, true, rfl, iteT ?_⟩
  refine ⟨_, rfl, _, _, _, _, rfl, rfl, h0 s1, at5_4, _, _, rfl, rfl, ?_⟩
  have z := kk H1 s1
  rw [← decide_eq_true l1] at z
  exact z

/-! ### the numbers drawn of a cell -/
def sp__law_stream : Sp := fun vs H Q _ => ∃ c n : Int, vs = [.int c, .int n] ∧ 0 ≤ n ∧ n ≤ 400 ∧
  ∀ (z : Addr) (xs : List Int) (H' : Hp), Same H H' → H z = none → H' z = some (.lst (xs.map V.int)) → xs.length = n.toNat → (∀ x ∈ xs, 0 ≤ x ∧ x < 10000000019) → Q (.ref z) H'
theorem ok__law_stream (T : Tx K mg a) : FnOk P w K mg base CX0 1 a.a__law_stream a.f__law_stream ["_law_cell", "_law_size"] sp__law_stream := by
  refine T.d__law_stream.F.ok sc__law_stream (fun vs H Q E h => ?_) (fun cdv A outer s H vs Q E hr h => ?_)
  · obtain ⟨c, n, rfl, _⟩ := h
    rfl
  obtain ⟨c, n, rfl, n0, n1, kk⟩ := h
  refine ⟨_, (pss_cons (ps_set (i := 2) sc__law_stream.nd rfl (Or.inl rfl) (pe_lst pa_nil))
      (pss_cons (ps_if (pt_cmpR op_ge (pv 0) (pe_op op_pow pe_int pe_int) (nomark _)) (pss_cons (ps_set (i := 3) sc__law_stream.nd rfl (Or.inl rfl) (pe_op op_fdivB (pv 0) pe_int))
      (pss_cons (ps_for PassesOwn.never rfl (pi_range1 rfl T.b_range (pa_cons (pv 1) pa_nil)) (pg_name (i := 4) sc__law_stream.nd rfl (Or.inl rfl)) (pss_cons (ps_expr (pe_bm PySem.F.plainAttrs_list PySem.F.slot_list_append PySem.F.type_list_append mt_append (pv 2) (pa_cons (pe_op op_modN (pv 3) pe_int) pa_nil)))
      (pss_one (ps_set (i := 3) sc__law_stream.nd rfl (Or.inl rfl) (pe_op op_fdivB (pv 3) pe_int)))))
      (pss_one (ps_ret (pe_rev (pv 2)))))) pss_nil)
      (pss_cons (ps_set (i := 5) sc__law_stream.nd rfl (Or.inl rfl) (pe_op op_modN (pe_op op_mulB (pe_op op_add (pe_op op_modN (pv 0) pe_int) pe_int) pe_int) pe_int))
      (pss_cons (ps_for PassesOwn.never rfl (pi_range1 rfl T.b_range (pa_cons (pv 1) pa_nil)) (pg_name (i := 4) sc__law_stream.nd rfl (Or.inl rfl)) (pss_cons (ps_set (i := 5) sc__law_stream.nd rfl (Or.inl rfl) (pe_op op_add (pe_op op_add (pe_op op_modN (pe_op op_mulB (pv 5) (pe_op op_add (pe_op op_fdivB (pv 5) pe_int) pe_int)) pe_int) (pv 4)) pe_int))
      (pss_one (ps_expr (pe_bm PySem.F.plainAttrs_list PySem.F.slot_list_append PySem.F.type_list_append mt_append (pv 2) (pa_cons (pv 5) pa_nil))))))
      (pss_one (ps_ret (pv 2))))))), ?_⟩
  refine ⟨(by show 0 ≤ sizeLine; decide), fun z hz => ?_⟩
  have wz : ∀ (xs : List Int), Same H (upd H z (.lst (xs.map V.int))) := fun xs => same_new hz _
  refine ⟨_, rfl, _, _, rfl, rfl, cpw (n := 40) (by decide), _, _, rfl, rfl, _, rfl, ite2 (fun _ => ?_) (fun _ => ?_)⟩
  · refine ⟨_, rfl, _, _, rfl, rfl, cdB (by decide) (by decide), ?_⟩
    refine ⟨_, rfl, n, rfl, by omega, by omega, for_range (n := n.toNat) (fun i σ H' => ∃ (xs : List Int) (r : Int) (o p : Option V), σ = [some (.int c), some (.int n), some (.ref z), some (.int r), o, p] ∧ H' = upd H z (.lst (xs.map V.int)) ∧ xs.length = i ∧ (∀ x ∈ xs, 0 ≤ x ∧ x < 10000000019))
      ⟨[], _, none, none, rfl, rfl, rfl, (by simp)⟩ ?_ ?_⟩
    · rintro i σ H' hi ⟨xs, r, o, p, rfl, rfl, hl, hx⟩
      have f := fm r (show (0 : Int) < 10000000019 by decide)
      refine ⟨_, rfl, .inl ⟨rfl, _, SqL.of upd_same⟩, _, rfl, _, _, rfl, rfl, nz, z, _, _, rfl, rfl, upd_same, (by rw [List.length_map]; exact small1000 (by omega)), ?_⟩
      refine ⟨_, rfl, _, _, rfl, rfl, cdB (by decide) (by decide), xs ++ [r.fmod 10000000019], _, _, _, rfl, ?_, ?_, ?_⟩
      · rw [upd_upd, List.map_append]; rfl
      · rw [List.length_append, hl]; rfl
      · intro y hy
        rcases List.mem_append.mp hy with hy | hy
        · exact hx y hy
        · have e : y = r.fmod 10000000019 := by simpa using hy
          rw [e]; exact f
    · rintro σ H' ⟨xs, r, o, p, rfl, rfl, hl, hx⟩
      refine ⟨_, rfl, z, _, rfl, SqL.of upd_same, fun y hy => ?_⟩
      rw [← List.map_reverse]
      exact kk y xs.reverse _ ((wz xs).trans (same_new hy _)) ((wz xs).free hy) upd_same (by rw [List.length_reverse]; exact hl) (fun x hx' => hx x (List.mem_reverse.mp hx'))
  · have f0 := fm c (show (0 : Int) < 2147483647 by decide)
    refine ⟨_, rfl, _, _, rfl, rfl, nz, _, _, rfl, rfl, _, _, rfl, rfl, cmR (by decide) (by decide), _, _, rfl, rfl, nz, ?_⟩
    have f1 := fm ((c.fmod 2147483647 + 1) * 48271) (show (0 : Int) < 2147483647 by decide)
    refine ⟨_, rfl, n, rfl, by omega, by omega, for_range (n := n.toNat) (fun i σ H' => ∃ (xs : List Int) (r : Int) (o p : Option V), σ = [some (.int c), some (.int n), some (.ref z), o, p, some (.int r)] ∧ H' = upd H z (.lst (xs.map V.int)) ∧ xs.length = i ∧ (∀ x ∈ xs, 0 ≤ x ∧ x < 10000000019) ∧ 0 ≤ r ∧ r < 2147484647)
      ⟨[], _, none, none, rfl, rfl, rfl, (by simp), f1.1, by omega⟩ ?_ ?_⟩
    · rintro i σ H' hi ⟨xs, r, o, p, rfl, rfl, hl, hx, r0, r1⟩
      have f := fm (r * (r.fdiv 1009 + 69621)) (show (0 : Int) < 2147483647 by decide)
      refine ⟨_, rfl, _, rfl, _, _, rfl, rfl, cdB (by decide) (by decide), _, _, rfl, rfl, _, _, rfl, rfl, cmL (by omega) (by omega), _, _, rfl, rfl, nz, _, rfl, _, _, rfl, rfl, _, _, rfl, rfl, ?_⟩
      refine ⟨_, rfl, .inl ⟨rfl, _, SqL.of upd_same⟩, _, rfl, z, _, _, rfl, rfl, upd_same, (by rw [List.length_map]; exact small1000 (by omega)), ?_⟩
      refine ⟨xs ++ [(r * (r.fdiv 1009 + 69621)).fmod 2147483647 + (0 + (i : Int)) + 1], _, _, _, rfl, ?_, ?_, ?_, by omega, by omega⟩
      · rw [upd_upd, List.map_append]; rfl
      · rw [List.length_append, hl]; rfl
      · intro y hy
        rcases List.mem_append.mp hy with hy | hy
        · exact hx y hy
        · have e : y = (r * (r.fdiv 1009 + 69621)).fmod 2147483647 + (0 + (i : Int)) + 1 := by simpa using hy
          rw [e]; omega
    · rintro σ H' ⟨xs, r, o, p, rfl, rfl, hl, hx, _, _⟩
      exact ⟨_, rfl, kk z xs _ (wz xs) hz upd_same hl hx⟩

theorem iteNT {c A B : Prop} [Decidable c] (hc : ¬ c) (h : A) : if (!decide c) = true then A else B := by
  rw [decide_eq_false hc]
  exact iteT h
/-! ### items of tracks -/
inductive Im where
  | clip (n : Str) (p q r s l : Int)
  | nest (n : Str) (b l : Int)
  | gap (l : Int)
  | mix (l : Int)
def Im.d : Im → D
  | .clip n p q r s l => .tup [.leaf (.str "clip"), .leaf (.str n), .tup [.leaf (.int p), .leaf (.int q)], .tup [.leaf (.int r), .leaf (.int s)], .leaf (.int l)]
  | .nest n b l => .tup [.leaf (.str "nest"), .leaf (.str n), .leaf (.int b), .leaf (.int l)]
  | .gap l => .tup [.leaf (.str "gap"), .leaf (.int l)]
  | .mix l => .tup [.leaf (.str "mix"), .leaf (.int l)]
def Im.wd : Im → Str
  | .clip .. => "clip"
  | .nest .. => "nest"
  | .gap _ => "gap"
  | .mix _ => "mix"
def Im.l : Im → Int
  | .clip _ _ _ _ _ l => l
  | .nest _ _ l => l
  | .gap l => l
  | .mix l => l
/-- the tuples stay -/
def TS (H H' : Hp) : Prop := ∀ b xs, H b = some (.tup xs) → H' b = some (.tup xs)
theorem TS.refl (H : Hp) : TS H H := fun _ _ h => h
theorem TS.trans {H H1 H2 : Hp} (a : TS H H1) (b : TS H1 H2) : TS H H2 := fun c o h => b c o (a c o h)
theorem ts_same {H H' : Hp} (e : Same H H') : TS H H' := fun _ _ h => e _ _ h
theorem ts_updL {H : Hp} {l : Addr} {xs : List V} {o : HO} (h : H l = some (.lst xs)) : TS H (upd H l o) := fun b ys hb => by
  rw [upd_ne (ne_of hb h (by intro z; cases z))]; exact hb
/-- what was there ahead stays, whatever comes to a new place -/
theorem same_updN {H H' : Hp} {y : Addr} {o : HO} (e : Same H H') (h : H y = none) : Same H (upd H' y o) := fun b u hb => by
  rw [upd_ne (ne_of_none hb h)]; exact e b u hb
/-- an item at a value -/
def IsI (H : Hp) : Im → V → Prop
  | .clip n p q r s l, v => ∃ z x y : Addr, v = .ref z ∧ H z = some (.tup [.str "clip", .str n, .ref x, .ref y, .int l]) ∧ H x = some (.tup [.int p, .int q]) ∧ H y = some (.tup [.int r, .int s])
  | .nest n b l, v => ∃ z : Addr, v = .ref z ∧ H z = some (.tup [.str "nest", .str n, .int b, .int l])
  | .gap l, v => ∃ z : Addr, v = .ref z ∧ H z = some (.tup [.str "gap", .int l])
  | .mix l, v => ∃ z : Addr, v = .ref z ∧ H z = some (.tup [.str "mix", .int l])
theorem isG {H : Hp} {z : Addr} {l : Int} (h : H z = some (.tup [.str "gap", .int l])) : IsI H (.gap l) (.ref z) := ⟨z, rfl, h⟩
theorem isM {H : Hp} {z : Addr} {l : Int} (h : H z = some (.tup [.str "mix", .int l])) : IsI H (.mix l) (.ref z) := ⟨z, rfl, h⟩
theorem isC {H : Hp} {z x y : Addr} {n : Str} {p q r s l : Int} (h : H z = some (.tup [.str "clip", .str n, .ref x, .ref y, .int l])) (hx : H x = some (.tup [.int p, .int q])) (hy : H y = some (.tup [.int r, .int s])) : IsI H (.clip n p q r s l) (.ref z) := ⟨z, x, y, rfl, h, hx, hy⟩
theorem IsI.ts {H H' : Hp} (e : TS H H') : ∀ {m : Im} {v : V}, IsI H m v → IsI H' m v
  | .clip .., _, ⟨z, x, y, h, hz, hx, hy⟩ => ⟨z, x, y, h, e _ _ hz, e _ _ hx, e _ _ hy⟩
  | .nest .., _, ⟨z, h, hz⟩ => ⟨z, h, e _ _ hz⟩
  | .gap _, _, ⟨z, h, hz⟩ => ⟨z, h, e _ _ hz⟩
  | .mix _, _, ⟨z, h, hz⟩ => ⟨z, h, e _ _ hz⟩
theorem IsI.opn {H : Hp} {m : Im} {v : V} (h : IsI H m v) : ∃ (z : Addr) (xs : List V), v = .ref z ∧ H z = some (.tup xs) ∧ atI xs 0 = some (.str m.wd) ∧ atI xs (-1) = some (.int m.l) := by
  cases m with
  | clip n p q r s l => obtain ⟨z, x, y, h, hz, _⟩ := h; exact ⟨z, _, h, hz, rfl, rfl⟩
  | nest n b l => obtain ⟨z, h, hz⟩ := h; exact ⟨z, _, h, hz, rfl, rfl⟩
  | gap l => obtain ⟨z, h, hz⟩ := h; exact ⟨z, _, h, hz, rfl, rfl⟩
  | mix l => obtain ⟨z, h, hz⟩ := h; exact ⟨z, _, h, hz, rfl, rfl⟩
theorem rep_flat {H : Hp} : ∀ {xs : List V}, xs.all flatV = true → Reps K H (xs.map D.leaf) xs
  | [], _ => by simp [Reps]
  | x :: xs, h => by
    rw [List.all_cons, Bool.and_eq_true] at h
    rw [List.map_cons]; unfold Reps Rep
    exact ⟨⟨rfl, h.1⟩, rep_flat h.2⟩
theorem rep_tupF {H : Hp} {z : Addr} {xs : List V} (hz : H z = some (.tup xs)) (h : xs.all flatV = true) : Rep K H (.tup (xs.map D.leaf)) (.ref z) := by
  unfold Rep
  exact ⟨z, xs, rfl, SqT.of hz, rep_flat h⟩
theorem IsI.rep {H : Hp} : ∀ {m : Im} {v : V}, IsI H m v → Rep K H m.d v
  | .clip n p q r s l, _, ⟨z, x, y, h, hz, hx, hy⟩ => by
    subst h
    have h1 : Rep K H (.tup [.leaf (.int p), .leaf (.int q)]) (.ref x) := rep_tupF hx rfl
    have h2 : Rep K H (.tup [.leaf (.int r), .leaf (.int s)]) (.ref y) := rep_tupF hy rfl
    unfold Im.d Rep
    refine ⟨z, _, rfl, SqT.of hz, ?_⟩
    unfold Reps Reps Reps Reps Reps Reps
    refine ⟨?_, ?_, h1, h2, ?_, trivial⟩
    · unfold Rep; exact ⟨rfl, rfl⟩
    · unfold Rep; exact ⟨rfl, rfl⟩
    · unfold Rep; exact ⟨rfl, rfl⟩
  | .nest n b l, _, ⟨z, h, hz⟩ => by subst h; exact rep_tupF hz rfl
  | .gap l, _, ⟨z, h, hz⟩ => by subst h; exact rep_tupF hz rfl
  | .mix l, _, ⟨z, h, hz⟩ => by subst h; exact rep_tupF hz rfl
theorem eqI_self (m : Im) : eqD m.d m.d = true := by
  cases m <;> simp [Im.d, eqD, eqDs, eqV]
theorem dep_I (m : Im) : dep m.d ≤ 2 := by
  cases m <;> simp [Im.d, dep, deps]
def IsIs (H : Hp) : List Im → List V → Prop
  | [], [] => True
  | m :: ms, v :: vs => IsI H m v ∧ IsIs H ms vs
  | _, _ => False
theorem IsIs.len {H : Hp} : ∀ {ms : List Im} {vs : List V}, IsIs H ms vs → vs.length = ms.length
  | [], [], _ => rfl
  | _ :: _, _ :: _, h => by rw [List.length_cons, List.length_cons, IsIs.len h.2]
  | [], _ :: _, h => h.elim
  | _ :: _, [], h => h.elim
theorem IsIs.ts {H H' : Hp} (e : TS H H') : ∀ {ms : List Im} {vs : List V}, IsIs H ms vs → IsIs H' ms vs
  | [], [], _ => trivial
  | _ :: _, _ :: _, h => ⟨IsI.ts e h.1, IsIs.ts e h.2⟩
  | [], _ :: _, h => h.elim
  | _ :: _, [], h => h.elim
theorem IsIs.get {H : Hp} : ∀ {ms : List Im} {vs : List V} {i : Nat} {v : V}, IsIs H ms vs → vs[i]? = some v → ∃ m, ms[i]? = some m ∧ IsI H m v
  | [], [], _, _, _, h => by simp at h
  | m :: _, x :: _, 0, v, h, e => by
    have e' : x = v := by simpa using e
    subst e'
    exact ⟨m, rfl, h.1⟩
  | _ :: ms, _ :: vs, i + 1, v, h, e => by
    obtain ⟨m, h1, h2⟩ := IsIs.get (i := i) h.2 (by simpa using e)
    exact ⟨m, by simpa using h1, h2⟩
  | [], _ :: _, _, _, h, _ => h.elim
  | _ :: _, [], _, _, h, _ => h.elim
theorem IsIs.get' {H : Hp} {ms : List Im} {vs : List V} {i : Nat} {m : Im} (h : IsIs H ms vs) (e : ms[i]? = some m) : ∃ v, vs[i]? = some v ∧ IsI H m v := by
  have hi : i < vs.length := by rw [h.len]; exact (List.getElem?_eq_some_iff.mp e).1
  have ev : vs[i]? = some vs[i] := List.getElem?_eq_getElem hi
  obtain ⟨m', h1, h2⟩ := h.get ev
  rw [e] at h1
  cases h1
  exact ⟨_, ev, h2⟩
theorem IsIs.app {H : Hp} : ∀ {ms : List Im} {vs : List V} {ms' : List Im} {vs' : List V}, IsIs H ms vs → IsIs H ms' vs' → IsIs H (ms ++ ms') (vs ++ vs')
  | [], [], _, _, _, h' => h'
  | _ :: _, _ :: _, _, _, h, h' => ⟨h.1, h.2.app h'⟩
  | [], _ :: _, _, _, h, _ => h.elim
  | _ :: _, [], _, _, h, _ => h.elim
theorem IsIs.one {H : Hp} {m : Im} {v : V} (h : IsI H m v) : IsIs H [m] [v] := ⟨h, trivial⟩
theorem IsIs.rep {H : Hp} : ∀ {ms : List Im} {vs : List V}, IsIs H ms vs → Reps K H (ms.map Im.d) vs
  | [], [], _ => by unfold List.map Reps; trivial
  | _ :: _, _ :: _, h => by unfold List.map Reps; exact ⟨h.1.rep, h.2.rep⟩
  | [], _ :: _, h => h.elim
  | _ :: _, [], h => h.elim
theorem eqIs_self : ∀ ms : List Im, eqDs (ms.map Im.d) (ms.map Im.d) = true
  | [] => by simp [eqDs]
  | m :: ms => by unfold List.map eqDs; rw [eqI_self, eqIs_self ms]; rfl
theorem deps_I : ∀ ms : List Im, deps (ms.map Im.d) ≤ 2
  | [] => by simp [deps]
  | m :: ms => by
    have h1 := dep_I m
    have h2 := deps_I ms
    unfold List.map deps
    omega
/-- a track at a list -/
def Tr (H : Hp) (z : Addr) (ms : List Im) : Prop := ∃ vs, H z = some (.lst vs) ∧ IsIs H ms vs
theorem Tr.same {H H' : Hp} {z : Addr} {ms : List Im} (e : Same H H') (h : Tr H z ms) : Tr H' z ms := let ⟨vs, h1, h2⟩ := h; ⟨vs, e _ _ h1, h2.ts (ts_same e)⟩
/-- another list is written -/
theorem Tr.updL {H : Hp} {z l : Addr} {ms : List Im} {xs ys : List V} (h : Tr H z ms) (hl : H l = some (.lst xs)) (ne : z ≠ l) : Tr (upd H l (.lst ys)) z ms :=
  let ⟨vs, h1, h2⟩ := h; ⟨vs, by rw [upd_ne ne]; exact h1, h2.ts (ts_updL hl)⟩
theorem Tr.rep {H : Hp} {z : Addr} {ms : List Im} (h : Tr H z ms) : Rep K H (.lst (ms.map Im.d)) (.ref z) := by
  obtain ⟨vs, h1, h2⟩ := h
  unfold Rep
  exact ⟨z, vs, rfl, SqL.of h1, h2.rep⟩
theorem eqTr {H : Hp} {x y : Addr} {ms : List Im} {Q : VK} (h1 : Tr H x ms) (h2 : Tr H y ms) (q : Q (.bl true) H) : rEqR K false (.ref x) (.ref y) H Q := by
  refine ⟨_, _, h1.rep, h2.rep, rfl, by have := deps_I ms; unfold dep; omega, ?_⟩
  have e : eqD (.lst (ms.map Im.d)) (.lst (ms.map Im.d)) = true := by unfold eqD; exact eqIs_self ms
  rw [e]
  exact q
theorem neTr {H : Hp} {x y : Addr} {ms : List Im} {Q : VK} (h1 : Tr H x ms) (h2 : Tr H y ms) (q : Q (.bl false) H) : rEqR K true (.ref x) (.ref y) H Q := by
  refine ⟨_, _, h1.rep, h2.rep, rfl, by have := deps_I ms; unfold dep; omega, ?_⟩
  have e : eqD (.lst (ms.map Im.d)) (.lst (ms.map Im.d)) = true := by unfold eqD; exact eqIs_self ms
  rw [e]
  exact q
theorem rep_ints {H : Hp} {x : Addr} {ns : List Int} (h : H x = some (.lst (ns.map V.int))) : Rep K H (.lst ((ns.map V.int).map D.leaf)) (.ref x) := by
  unfold Rep
  exact ⟨x, _, rfl, SqL.of h, rep_flat (by rw [List.all_map, List.all_eq_true]; intro _ _; rfl)⟩
/-- the last item -/
theorem IsIs.last {H : Hp} {ms : List Im} {vs : List V} (h : IsIs H ms vs) (hne : ms ≠ []) : ∃ v m, vs[vs.length - 1]? = some v ∧ ms.getLast? = some m ∧ m ∈ ms ∧ IsI H m v := by
  have hl : 0 < ms.length := List.length_pos_iff.mpr hne
  have hi : vs.length - 1 < vs.length := by rw [h.len]; omega
  have ev : vs[vs.length - 1]? = some vs[vs.length - 1] := List.getElem?_eq_getElem hi
  obtain ⟨m, h1, h2⟩ := h.get ev
  refine ⟨_, m, ev, ?_, List.mem_of_getElem? h1, h2⟩
  rw [h.len] at h1
  rw [List.getLast?_eq_getElem?]
  exact h1
theorem w_gap {m : Im} (h : m.wd = "gap") : ∃ l, m = .gap l := by
  cases m with
  | gap l => exact ⟨l, rfl⟩
  | clip => exact absurd (show ("clip" : Str) = "gap" from h) (by decide +kernel)
  | nest => exact absurd (show ("nest" : Str) = "gap" from h) (by decide +kernel)
  | mix => exact absurd (show ("mix" : Str) = "gap" from h) (by decide +kernel)

/-! ### one_form -/
def oneF : Int → List Im → List Im
  | _, [] => []
  | w, .gap l :: ms => oneF (w + l) ms
  | w, .clip n p q r s l :: ms => if 0 < w then .gap w :: .clip n p q r s l :: oneF 0 ms else .clip n p q r s l :: oneF 0 ms
  | w, .nest n b l :: ms => if 0 < w then .gap w :: .nest n b l :: oneF 0 ms else .nest n b l :: oneF 0 ms
  | w, .mix l :: ms => if 0 < w then .gap w :: .mix l :: oneF 0 ms else .mix l :: oneF 0 ms
theorem oneF_other {m : Im} (h : m.wd ≠ "gap") (w : Int) (ms : List Im) : oneF w (m :: ms) = if 0 < w then .gap w :: m :: oneF 0 ms else m :: oneF 0 ms := by
  cases m with
  | gap l => exact absurd rfl h
  | _ => rw [oneF]
def sp_one_form : Sp := fun vs H Q _ => ∃ (z : Addr) (ms : List Im), vs = [.ref z] ∧ Tr H z ms ∧ ms.length ≤ 300 ∧ ∀ (y : Addr) (H' : Hp), Same H H' → H y = none → Tr H' y (oneF 0 ms) → Q (.ref y) H'
theorem ok_one_form (T : Tx K mg a) : FnOk P w K mg base CX0 1 a.a_one_form a.f_one_form ["some"] sp_one_form := by
  refine T.d_one_form.F.ok sc_one_form (fun vs H Q E h => ?_) (fun cdv A outer s H vs Q E hr h => ?_)
  · obtain ⟨z, ms, rfl, _⟩ := h
    rfl
  obtain ⟨z, ms, rfl, ⟨xs, hz, his⟩, hl, kk⟩ := h
  refine ⟨_, (pss_cons (ps_set (i := 1) sc_one_form.nd rfl (Or.inl rfl) (pe_lst pa_nil))
      (pss_cons (ps_set (i := 2) sc_one_form.nd rfl (Or.inl rfl) pe_int)
      (pss_cons (ps_for PassesOwn.never rfl (pi_list (pv 0)) (pg_name (i := 3) sc_one_form.nd rfl (Or.inl rfl)) (pss_one (ps_if (pt_cmpR op_eq (pe_ix ix_tup (pv 3) pe_int (fun _ _ => rfl)) pe_str (nomark _)) (pss_one (ps_set (i := 2) sc_one_form.nd rfl (Or.inl rfl) (pe_op op_add (pv 2) (pe_ix ix_tup (pv 3) pe_int (fun _ _ => rfl))))) (pss_cons (ps_if (pt_cmpR op_gt (pv 2) pe_int (nomark _)) (pss_one (ps_expr (pe_bm PySem.F.plainAttrs_list PySem.F.slot_list_append PySem.F.type_list_append mt_append (pv 1) (pa_cons (pe_tup (pa_cons pe_str (pa_cons (pv 2) pa_nil))) pa_nil)))) pss_nil)
      (pss_cons (ps_set (i := 2) sc_one_form.nd rfl (Or.inl rfl) pe_int)
      (pss_one (ps_expr (pe_bm PySem.F.plainAttrs_list PySem.F.slot_list_append PySem.F.type_list_append mt_append (pv 1) (pa_cons (pv 3) pa_nil)))))))))
      (pss_one (ps_ret (pv 1)))))), ?_⟩
  refine ⟨(by show 0 ≤ sizeLine; decide), fun y hy => ?_⟩
  refine ⟨_, rfl, z, rfl, ⟨_, SqL.of ((same_new hy _) _ _ hz)⟩, for_list (K := K) (a := z) (xs := xs) (fun i σ H' => ∃ (w : Int) (as : List Im) (o : Option V) (vs : List V), σ = [some (.ref z), some (.ref y), some (.int w), o] ∧ H' y = some (.lst vs) ∧ IsIs H' as vs ∧ as.length ≤ 2 * i ∧ as ++ oneF w (ms.drop i) = oneF 0 ms ∧ Same H H')
    ⟨0, [], none, [], rfl, upd_same, trivial, by simp, rfl, same_new hy _⟩ ?_ ?_ ?_⟩
  · rintro i σ H' hi ⟨w, as, o, vs, rfl, _, _, _, _, e⟩
    exact SqL.of (e _ _ hz)
  · rintro i x σ H' hx ⟨w, as, o, vs, rfl, hv, hiv, hal, hap, e⟩
    obtain ⟨m, hm, hIx⟩ := his.get hx
    have hI := hIx.ts (ts_same e)
    have hi : i < ms.length := (List.getElem?_eq_some_iff.mp hm).1
    have hd : ms.drop i = m :: ms.drop (i + 1) := by
      rw [List.drop_eq_getElem_cons hi]
      rw [List.getElem?_eq_getElem hi] at hm
      cases hm
      rfl
    have hvl : vs.length ≤ 2 * i := by rw [hiv.len]; exact hal
    obtain ⟨zi, xi, rfl, hzi, h0, h1⟩ := hI.opn
    refine ⟨_, rfl, zi, xi, _, _, rfl, rfl, SqT.of hzi, h0, rfl, _, rfl, ite2 (fun c => ?_) (fun c => ?_)⟩
    · obtain ⟨l, rfl⟩ := w_gap (by simpa using c)
      obtain ⟨z2, e2, hz2⟩ := hI
      cases e2
      refine ⟨_, rfl, _, rfl, _, _, _, _, rfl, rfl, SqT.of hz2, at1, _, _, rfl, rfl, w + l, as, _, vs, rfl, hv, hiv, by omega, ?_, e⟩
      rw [hd, oneF] at hap
      exact hap
    · have hne : m.wd ≠ "gap" := by simpa using c
      rw [hd, oneF_other hne] at hap
      refine ⟨_, rfl, _, _, rfl, rfl, _, rfl, ite2 (fun c => ?_) (fun c => ?_)⟩
      · have c' : 0 < w := by simpa using c
        rw [if_pos c'] at hap
        refine ⟨_, rfl, .inl ⟨rfl, _, SqL.of hv⟩, _, rfl, (by show 2 ≤ sizeLine; decide), fun g hg => ?_⟩
        have w1 := same_new hg (.tup [.str "gap", .int w])
        refine ⟨y, _, _, rfl, rfl, w1 _ _ hv, small1000 (by omega), ?_⟩
        have t2 : TS (upd H' g (.tup [.str "gap", .int w])) (upd (upd H' g (.tup [.str "gap", .int w])) y (.lst (vs ++ [.ref g]))) := ts_updL (w1 _ _ hv)
        have k2 : IsIs (upd (upd H' g (.tup [.str "gap", .int w])) y (.lst (vs ++ [.ref g]))) (as ++ [.gap w]) (vs ++ [.ref g]) := ((hiv.ts (ts_same w1)).app (.one (isG upd_same))).ts t2
        have k1 : IsI (upd (upd H' g (.tup [.str "gap", .int w])) y (.lst (vs ++ [.ref g]))) m (.ref zi) := (hI.ts (ts_same w1)).ts t2
        have e2 : Same H (upd (upd H' g (.tup [.str "gap", .int w])) y (.lst (vs ++ [.ref g]))) := same_updN (e.trans w1) hy
        have hv2 : (upd (upd H' g (.tup [.str "gap", .int w])) y (.lst (vs ++ [.ref g]))) y = some (.lst (vs ++ [.ref g])) := upd_same
        generalize upd (upd H' g (.tup [.str "gap", .int w])) y (.lst (vs ++ [.ref g])) = H2 at k1 k2 e2 hv2 ⊢
        refine ⟨_, rfl, .inl ⟨rfl, _, SqL.of hv2⟩, _, rfl, y, _, _, rfl, rfl, hv2, small1000 (by rw [List.length_append]; simp; omega), ?_⟩
        refine ⟨0, as ++ [.gap w] ++ [m], _, _, rfl, upd_same, (k2.app (.one k1)).ts (ts_updL hv2), by simp; omega, ?_, same_updN e2 hy⟩
        rw [← hap]; simp
      · have c' : ¬ 0 < w := by simpa using c
        rw [if_neg c'] at hap
        refine ⟨_, rfl, .inl ⟨rfl, _, SqL.of hv⟩, _, rfl, y, _, _, rfl, rfl, hv, small1000 (by omega), ?_⟩
        refine ⟨0, as ++ [m], _, _, rfl, upd_same, (hiv.app (.one hI)).ts (ts_updL hv), by simp; omega, ?_, same_updN e hy⟩
        rw [← hap]; simp
  · rintro σ H' ⟨w, as, o, vs, rfl, hv, hiv, _, hap, e⟩
    refine ⟨_, rfl, kk y H' e hy ⟨vs, hv, ?_⟩⟩
    rw [his.len, List.drop_length, oneF, List.append_nil] at hap
    rw [← hap]
    exact hiv

/-! ### moments_of, length_of, borders_of, item_at -/
def Im.mo : Im → Int
  | .mix _ => 0
  | .clip _ _ _ _ _ l => l
  | .nest _ _ l => l
  | .gap l => l
theorem w_mix {m : Im} (h : m.wd = "mix") : ∃ l, m = .mix l := by
  cases m with
  | mix l => exact ⟨l, rfl⟩
  | clip => exact absurd (show ("clip" : Str) = "mix" from h) (by decide +kernel)
  | nest => exact absurd (show ("nest" : Str) = "mix" from h) (by decide +kernel)
  | gap => exact absurd (show ("gap" : Str) = "mix" from h) (by decide +kernel)
theorem mo_l {m : Im} (h : m.wd ≠ "mix") : m.mo = m.l := by
  cases m with
  | mix l => exact absurd rfl h
  | _ => rfl
theorem decS {x y : Str} : decide (V.str x = V.str y) = decide (x = y) := by
  rw [Bool.eq_iff_iff]; simp
def sp_moments_of : Sp := fun vs H Q _ => ∃ (v : V) (m : Im), vs = [v] ∧ IsI H m v ∧ Q (.int m.mo) H
theorem ok_moments_of (T : Tx K mg a) : FnOk P w K mg base CX0 1 a.a_moments_of a.f_moments_of ["item"] sp_moments_of := by
  refine T.d_moments_of.F.ok sc_moments_of (fun vs H Q E h => ?_) (fun cdv A outer s H vs Q E hr h => ?_)
  · obtain ⟨v, m, rfl, _⟩ := h
    rfl
  obtain ⟨v, m, rfl, hI, kk⟩ := h
  refine ⟨_, (pss_one (ps_ret (pe_ifExp (pt_cmpR op_eq (pe_ix ix_tup (pv 0) pe_int (fun _ _ => rfl)) pe_str (nomark _)) pe_int (pe_ix ix_tup (pv 0) (pe_un un_neg pe_int) (fun _ _ => rfl))))), ?_⟩
  obtain ⟨z, xs, rfl, hz, h0, h1⟩ := hI.opn
  refine ⟨_, rfl, z, xs, _, _, rfl, rfl, SqT.of hz, h0, rfl, _, rfl, ite2 (fun c => ?_) (fun c => ?_)⟩
  · obtain ⟨l, rfl⟩ := w_mix (by simpa using c)
    exact kk
  · rw [mo_l (by simpa using c)] at kk
    exact ⟨_, rfl, _, rfl, z, xs, _, _, rfl, rfl, SqT.of hz, h1, kk⟩
/-- the place of the item at a moment, and how far behind its begin -/
def itemF : Int → Nat → List Im → Int → Option (Nat × Int)
  | _, _, [], _ => none
  | b, i, m :: ms, t => if b ≤ t ∧ t < b + m.mo then some (i, t - b) else itemF (b + m.mo) (i + 1) ms t
def AtR (H : Hp) (Q : VK) (r : Option (Nat × Int)) : Prop := match r with
  | none => ∀ H', Same H H' → Q .non H'
  | some (i, d) => ∀ (p : Addr) (H' : Hp), Same H H' → H' p = some (.tup [.int (i : Int), .int d]) → Q (.ref p) H'
theorem drop_cons {α : Type} {xs : List α} {i : Nat} {x : α} (h : xs[i]? = some x) : xs.drop i = x :: xs.drop (i + 1) := by
  have hi : i < xs.length := (List.getElem?_eq_some_iff.mp h).1
  rw [List.drop_eq_getElem_cons hi]
  rw [List.getElem?_eq_getElem hi] at h
  cases h
  rfl
def sp_item_at : Sp := fun vs H Q _ => ∃ (z : Addr) (ms : List Im) (t : Int), vs = [.ref z, .int t] ∧ Tr H z ms ∧ AtR H Q (itemF 0 0 ms t)
theorem ok_item_at (T : Tx K mg a) : FnOk P w K mg base CX0 3 a.a_item_at a.f_item_at ["track", "moment"] sp_item_at := by
  refine T.d_item_at.F.ok sc_item_at (fun vs H Q E h => ?_) (fun cdv A outer s H vs Q E hr h => ?_)
  · obtain ⟨z, ms, t, rfl, _⟩ := h
    rfl
  obtain ⟨z, ms, t, rfl, ⟨xs, hz, his⟩, kk⟩ := h
  refine ⟨_, (pss_cons (ps_set (i := 2) sc_item_at.nd rfl (Or.inl rfl) pe_int)
      (pss_cons (ps_for PassesOwn.never rfl (pi_enum rfl T.b_enumerate (pa_cons (pv 0) pa_nil)) (pg_tup rfl (pgs_cons (pg_name (i := 3) sc_item_at.nd rfl (Or.inl rfl)) (pgs_cons (pg_name (i := 4) sc_item_at.nd rfl (Or.inl rfl)) pgs_nil))) (pss_cons (ps_set (i := 5) sc_item_at.nd rfl (Or.inl rfl) (pe_op op_add (pv 2) (pe_def T.d_moments_of (ok_moments_of T) hr rfl (pa_cons (pv 4) pa_nil))))
      (pss_cons (ps_if (PW.pt (pw_and (pt_cmpR op_le (pv 2) (pv 1) (nomark _)) (pw_and1 (pt_cmpR op_lt (pv 1) (pv 5) (nomark _))))) (pss_one (ps_ret (pe_tup (pa_cons (pv 3) (pa_cons (pe_op op_sub (pv 1) (pv 2)) pa_nil))))) pss_nil)
      (pss_one (ps_set (i := 2) sc_item_at.nd rfl (Or.inl rfl) (pv 5))))))
      (pss_one (ps_ret pe_non)))), ?_⟩
  refine ⟨_, rfl, z, rfl, ⟨_, SqL.of hz⟩, for_enum (K := K) (a := z) (xs := xs) (fun i σ H' => ∃ (b : Int) (o1 o2 o3 : Option V), σ = [some (.ref z), some (.int t), some (.int b), o1, o2, o3] ∧ itemF b i (ms.drop i) t = itemF 0 0 ms t ∧ Same H H')
    ⟨0, none, none, none, rfl, rfl, Same.refl _⟩ ?_ ?_ ?_⟩
  · rintro i σ H' hi ⟨b, o1, o2, o3, rfl, _, e⟩
    exact SqL.of (e _ _ hz)
  · rintro i x σ H' p hx ⟨b, o1, o2, o3, rfl, hap, e⟩ hp
    obtain ⟨m, hm, hIx⟩ := his.get hx
    have w1 := same_new hp (.tup [.int (i : Int), x])
    have e1 := e.trans w1
    have hI := hIx.ts (ts_same e1)
    rw [drop_cons hm, itemF] at hap
    refine ⟨p, _, rfl, SqT.of upd_same, rfl, _, _, rfl, _, _, rfl, rfl, ?_⟩
    generalize upd H' p (.tup [.int (i : Int), x]) = H1 at e1 hI ⊢
    refine ⟨_, rfl, _, rfl, x, m, rfl, hI, _, _, rfl, rfl, ?_⟩
    refine ⟨_, rfl, _, rfl, _, _, rfl, rfl, _, rfl, ?_⟩
    refine ite2 (fun c1 => ?_) (fun c1 => ?_)
    · refine ⟨_, rfl, _, rfl, _, _, rfl, rfl, _, rfl, ?_⟩
      refine ite2 (fun c2 => ?_) (fun c2 => ?_)
      · rw [if_pos ⟨by simpa using c1, by simpa using c2⟩] at hap
        rw [← hap] at kk
        refine ⟨_, rfl, _, rfl, _, rfl, _, _, rfl, rfl, (by show 2 ≤ sizeLine; decide), fun q hq => ?_⟩
        exact kk q _ (e1.trans (same_new hq _)) upd_same
      · rw [if_neg (fun c => c2 (by simpa using c.2))] at hap
        exact ⟨_, rfl, _, _, _, _, rfl, hap, e1⟩
    · rw [if_neg (fun c => c1 (by simpa using c.1))] at hap
      exact iteF ⟨_, rfl, _, _, _, _, rfl, hap, e1⟩
  · rintro σ H' ⟨b, o1, o2, o3, rfl, hap, e⟩
    rw [his.len, List.drop_length, itemF] at hap
    rw [← hap] at kk
    exact kk H' e

/-! ### shares -/
/-- a pair of pairs -/
def Sh (H : Hp) (z : Addr) (p q r s : Int) : Prop := ∃ x y : Addr, H z = some (.tup [.ref x, .ref y]) ∧ H x = some (.tup [.int p, .int q]) ∧ H y = some (.tup [.int r, .int s])
def sp_mix_shares : Sp := fun vs H Q _ => ∃ l j : Int, vs = [.int l, .int j] ∧ 0 ≤ j ∧ j < l ∧ l < 2 ^ 60 ∧
  ∀ (z : Addr) (H' : Hp), Same H H' → Sh H' z (lowP (l - j) (l + 1)) (lowQ (l - j) (l + 1)) (lowP (j + 1) (l + 1)) (lowQ (j + 1) (l + 1)) → Q (.ref z) H'
theorem p60 {b : Int} (h0 : 0 < b) (h : b < 2 ^ 61) : b.natAbs < 2 ^ 8000 := by
  have e : b.natAbs < 2 ^ 61 := by omega
  exact Nat.lt_of_lt_of_le e (Nat.pow_le_pow_right (by decide) (by decide))
theorem ok_mix_shares (T : Tx K mg a) : FnOk P w K mg base CX0 3 a.a_mix_shares a.f_mix_shares ["length", "j"] sp_mix_shares := by
  refine T.d_mix_shares.F.ok sc_mix_shares (fun vs H Q E h => ?_) (fun cdv A outer s H vs Q E hr h => ?_)
  · obtain ⟨l, j, rfl, _⟩ := h
    rfl
  obtain ⟨l, j, rfl, j0, j1, l1, kk⟩ := h
  refine ⟨_, (pss_one (ps_ret (pe_tup (pa_cons (pe_def T.d_fraction (ok_fraction T) hr rfl (pa_cons (pe_op op_sub (pv 0) (pv 1)) (pa_cons (pe_op op_add (pv 0) pe_int) pa_nil))) (pa_cons (pe_def T.d_fraction (ok_fraction T) hr rfl (pa_cons (pe_op op_add (pv 1) pe_int) (pa_cons (pe_op op_add (pv 0) pe_int) pa_nil))) pa_nil))))), ?_⟩
  refine ⟨_, rfl, _, rfl, _, _, rfl, rfl, _, rfl, _, _, rfl, rfl, _, _, rfl, by omega, p60 (by omega) (by omega), fun x hx => ?_⟩
  refine ⟨_, rfl, _, _, rfl, rfl, _, rfl, _, _, rfl, rfl, _, _, rfl, by omega, p60 (by omega) (by omega), fun y hy => ?_⟩
  refine ⟨(by show 2 ≤ sizeLine; decide), fun z hz => ?_⟩
  have w1 := same_new hx (.tup [.int (lowP (l - j) (l + 1)), .int (lowQ (l - j) (l + 1))])
  have w2 := same_new hy (.tup [.int (lowP (j + 1) (l + 1)), .int (lowQ (j + 1) (l + 1))])
  have w3 := same_new hz (.tup [.ref x, .ref y])
  exact kk z _ ((w1.trans w2).trans w3) ⟨x, y, upd_same, w3 _ _ (w2 _ _ upd_same), w3 _ _ upd_same⟩

/-! ### mixes -/
def sp_part_ahead : Sp := fun vs H Q _ => ∃ l : Int, vs = [.int l] ∧ Q (.int (l.fdiv 2)) H
theorem ok_part_ahead (T : Tx K mg a) : FnOk P w K mg base CX0 1 a.a_part_ahead a.f_part_ahead ["length"] sp_part_ahead := by
  refine T.d_part_ahead.F.ok sc_part_ahead (fun vs H Q E h => ?_) (fun cdv A outer s H vs Q E hr h => ?_)
  · obtain ⟨l, rfl, _⟩ := h
    rfl
  obtain ⟨l, rfl, kk⟩ := h
  refine ⟨_, (pss_one (ps_ret (pe_op op_fdivB (pv 0) pe_int))), ?_⟩
  exact ⟨_, rfl, _, _, rfl, rfl, cdB (by decide) (by decide), kk⟩
def sp_part_behind : Sp := fun vs H Q _ => ∃ l : Int, vs = [.int l] ∧ Q (.int (l - l.fdiv 2)) H
theorem ok_part_behind (T : Tx K mg a) : FnOk P w K mg base CX0 1 a.a_part_behind a.f_part_behind ["length"] sp_part_behind := by
  refine T.d_part_behind.F.ok sc_part_behind (fun vs H Q E h => ?_) (fun cdv A outer s H vs Q E hr h => ?_)
  · obtain ⟨l, rfl, _⟩ := h
    rfl
  obtain ⟨l, rfl, kk⟩ := h
  refine ⟨_, (pss_one (ps_ret (pe_op op_sub (pv 0) (pe_op op_fdivB (pv 0) pe_int)))), ?_⟩
  exact ⟨_, rfl, _, rfl, _, _, rfl, rfl, cdB (by decide) (by decide), _, _, rfl, rfl, kk⟩
/-- the spans of the mixes -/
def spanF : Int → List Im → List (Int × Int × Int)
  | _, [] => []
  | b, .mix l :: ms => (b - l.fdiv 2, b, b + (l - l.fdiv 2)) :: spanF b ms
  | b, .clip _ _ _ _ _ l :: ms => spanF (b + l) ms
  | b, .nest _ _ l :: ms => spanF (b + l) ms
  | b, .gap l :: ms => spanF (b + l) ms
theorem spanF_other {m : Im} (h : m.wd ≠ "mix") (b : Int) (ms : List Im) : spanF b (m :: ms) = spanF (b + m.mo) ms := by
  cases m with
  | mix l => exact absurd rfl h
  | _ => rfl
theorem spanF_len : ∀ (b : Int) (ms : List Im), (spanF b ms).length ≤ ms.length
  | _, [] => by simp [spanF]
  | b, m :: ms => by
    by_cases h : m.wd = "mix"
    · obtain ⟨l, rfl⟩ := w_mix h
      have := spanF_len b ms
      rw [spanF, List.length_cons, List.length_cons]; omega
    · have := spanF_len (b + m.mo) ms
      rw [spanF_other h, List.length_cons]; omega
/-- the places of the mixes -/
def placeF : Nat → List Im → List Nat
  | _, [] => []
  | i, .mix _ :: ms => i :: placeF (i + 1) ms
  | i, .clip _ _ _ _ _ _ :: ms => placeF (i + 1) ms
  | i, .nest _ _ _ :: ms => placeF (i + 1) ms
  | i, .gap _ :: ms => placeF (i + 1) ms
theorem placeF_other {m : Im} (h : m.wd ≠ "mix") (i : Nat) (ms : List Im) : placeF i (m :: ms) = placeF (i + 1) ms := by
  cases m with
  | mix l => exact absurd rfl h
  | _ => rfl
theorem place_span : ∀ (i : Nat) (b : Int) (ms : List Im), (placeF i ms).length = (spanF b ms).length
  | _, _, [] => rfl
  | i, b, m :: ms => by
    by_cases h : m.wd = "mix"
    · obtain ⟨l, rfl⟩ := w_mix h
      rw [placeF, spanF, List.length_cons, List.length_cons, place_span (i + 1) b ms]
    · rw [placeF_other h, spanF_other h, place_span (i + 1) (b + m.mo) ms]
/-- the mix at a moment: its place, and which moment of its span -/
def mixF : Int → Nat → List Im → Int → Option (Nat × Int)
  | _, _, [], _ => none
  | b, i, .mix l :: ms, t => if b - l.fdiv 2 ≤ t ∧ t < b + (l - l.fdiv 2) then some (i, t - (b - l.fdiv 2)) else mixF b (i + 1) ms t
  | b, i, .clip _ _ _ _ _ l :: ms, t => mixF (b + l) (i + 1) ms t
  | b, i, .nest _ _ l :: ms, t => mixF (b + l) (i + 1) ms t
  | b, i, .gap l :: ms, t => mixF (b + l) (i + 1) ms t
theorem mixF_other {m : Im} (h : m.wd ≠ "mix") (b : Int) (i : Nat) (ms : List Im) (t : Int) : mixF b i (m :: ms) t = mixF (b + m.mo) (i + 1) ms t := by
  cases m with
  | mix l => exact absurd rfl h
  | _ => rfl
def findF : List Nat → List (Int × Int × Int) → Int → Option (Nat × Int)
  | p :: ps, (x, _, z) :: ss, t => if x ≤ t ∧ t < z then some (p, t - x) else findF ps ss t
  | _, _, _ => none
theorem find_mix : ∀ (b : Int) (i : Nat) (ms : List Im) (t : Int), findF (placeF i ms) (spanF b ms) t = mixF b i ms t
  | _, _, [], _ => rfl
  | b, i, m :: ms, t => by
    by_cases h : m.wd = "mix"
    · obtain ⟨l, rfl⟩ := w_mix h
      rw [placeF, spanF, findF, mixF, find_mix b (i + 1) ms t]
    · rw [placeF_other h, spanF_other h, mixF_other h, find_mix _ (i + 1) ms t]
theorem mixF_at : ∀ {b : Int} {i : Nat} {ms : List Im} {t : Int} {k : Nat} {j : Int}, mixF b i ms t = some (k, j) → ∃ l, i ≤ k ∧ ms[k - i]? = some (.mix l) ∧ 0 ≤ j ∧ j < l
  | _, _, [], _, _, _, h => by simp [mixF] at h
  | b, i, m :: ms, t, k, j, h => by
    by_cases hm : m.wd = "mix"
    · obtain ⟨l, rfl⟩ := w_mix hm
      rw [mixF] at h
      by_cases hc : b - l.fdiv 2 ≤ t ∧ t < b + (l - l.fdiv 2)
      · rw [if_pos hc] at h
        cases h
        exact ⟨l, Nat.le_refl _, by simp, by omega, by omega⟩
      · rw [if_neg hc] at h
        obtain ⟨l', h1, h2, h3⟩ := mixF_at h
        have e : k - i = (k - (i + 1)) + 1 := by omega
        exact ⟨l', by omega, by rw [e, List.getElem?_cons_succ]; exact h2, h3⟩
    · rw [mixF_other hm] at h
      obtain ⟨l', h1, h2, h3⟩ := mixF_at h
      have e : k - i = (k - (i + 1)) + 1 := by omega
      exact ⟨l', by omega, by rw [e, List.getElem?_cons_succ]; exact h2, h3⟩
def SpAt (H : Hp) : List (Int × Int × Int) → List V → Prop
  | [], [] => True
  | (x, y, z) :: ss, v :: vs => (∃ p : Addr, v = .ref p ∧ H p = some (.tup [.int x, .int y, .int z])) ∧ SpAt H ss vs
  | _, _ => False
theorem SpAt.len {H : Hp} : ∀ {ss : List (Int × Int × Int)} {vs : List V}, SpAt H ss vs → vs.length = ss.length
  | [], [], _ => rfl
  | (_, _, _) :: _, _ :: _, h => by rw [List.length_cons, List.length_cons, SpAt.len h.2]
  | [], _ :: _, h => h.elim
  | (_, _, _) :: _, [], h => h.elim
theorem SpAt.ts {H H' : Hp} (e : TS H H') : ∀ {ss : List (Int × Int × Int)} {vs : List V}, SpAt H ss vs → SpAt H' ss vs
  | [], [], _ => trivial
  | (_, _, _) :: _, _ :: _, ⟨⟨p, h1, h2⟩, h⟩ => ⟨⟨p, h1, e _ _ h2⟩, SpAt.ts e h⟩
  | [], _ :: _, h => h.elim
  | (_, _, _) :: _, [], h => h.elim
theorem SpAt.app {H : Hp} : ∀ {ss : List (Int × Int × Int)} {vs : List V} {ss' : List (Int × Int × Int)} {vs' : List V}, SpAt H ss vs → SpAt H ss' vs' → SpAt H (ss ++ ss') (vs ++ vs')
  | [], [], _, _, _, h' => h'
  | (_, _, _) :: _, _ :: _, _, _, h, h' => ⟨h.1, h.2.app h'⟩
  | [], _ :: _, _, _, h, _ => h.elim
  | (_, _, _) :: _, [], _, _, h, _ => h.elim
theorem SpAt.one {H : Hp} {x y z : Int} {p : Addr} (h : H p = some (.tup [.int x, .int y, .int z])) : SpAt H [(x, y, z)] [.ref p] := ⟨⟨p, rfl, h⟩, trivial⟩
theorem SpAt.get {H : Hp} : ∀ {ss : List (Int × Int × Int)} {vs : List V} {i : Nat} {v : V}, SpAt H ss vs → vs[i]? = some v → ∃ (x y z : Int) (p : Addr), ss[i]? = some (x, y, z) ∧ v = .ref p ∧ H p = some (.tup [.int x, .int y, .int z])
  | [], [], _, _, _, h => by simp at h
  | (x, y, z) :: _, u :: _, 0, v, h, e => by
    have e' : u = v := by simpa using e
    subst e'
    obtain ⟨⟨p, h1, h2⟩, _⟩ := h
    exact ⟨x, y, z, p, rfl, h1, h2⟩
  | (_, _, _) :: ss, _ :: vs, i + 1, v, h, e => by
    obtain ⟨x, y, z, p, h1, h2⟩ := SpAt.get (i := i) h.2 (by simpa using e)
    exact ⟨x, y, z, p, by simpa using h1, h2⟩
  | [], _ :: _, _, _, h, _ => h.elim
  | (_, _, _) :: _, [], _, _, h, _ => h.elim
def sp_mix_spans : Sp := fun vs H Q _ => ∃ (z : Addr) (ms : List Im), vs = [.ref z] ∧ Tr H z ms ∧ ms.length ≤ 300 ∧ ∀ (y : Addr) (us : List V) (H' : Hp), Same H H' → H y = none → H' y = some (.lst us) → SpAt H' (spanF 0 ms) us → Q (.ref y) H'
theorem ok_mix_spans (T : Tx K mg a) : FnOk P w K mg base CX0 2 a.a_mix_spans a.f_mix_spans ["track"] sp_mix_spans := by
  refine T.d_mix_spans.F.ok sc_mix_spans (fun vs H Q E h => ?_) (fun cdv A outer s H vs Q E hr h => ?_)
  · obtain ⟨z, ms, rfl, _⟩ := h
    rfl
  obtain ⟨z, ms, rfl, ⟨xs, hz, his⟩, hl, kk⟩ := h
  refine ⟨_, (pss_cons (ps_set (i := 1) sc_mix_spans.nd rfl (Or.inl rfl) (pe_lst pa_nil))
      (pss_cons (ps_set (i := 2) sc_mix_spans.nd rfl (Or.inl rfl) pe_int)
      (pss_cons (ps_for PassesOwn.never rfl (pi_list (pv 0)) (pg_name (i := 3) sc_mix_spans.nd rfl (Or.inl rfl)) (pss_cons (ps_if (pt_cmpR op_eq (pe_ix ix_tup (pv 3) pe_int (fun _ _ => rfl)) pe_str (nomark _)) (pss_one (ps_expr (pe_bm PySem.F.plainAttrs_list PySem.F.slot_list_append PySem.F.type_list_append mt_append (pv 1) (pa_cons (pe_tup (pa_cons (pe_op op_sub (pv 2) (pe_def T.d_part_ahead (ok_part_ahead T) hr rfl (pa_cons (pe_ix ix_tup (pv 3) pe_int (fun _ _ => rfl)) pa_nil))) (pa_cons (pv 2) (pa_cons (pe_op op_add (pv 2) (pe_def T.d_part_behind (ok_part_behind T) hr rfl (pa_cons (pe_ix ix_tup (pv 3) pe_int (fun _ _ => rfl)) pa_nil))) pa_nil)))) pa_nil)))) pss_nil)
      (pss_one (ps_set (i := 2) sc_mix_spans.nd rfl (Or.inl rfl) (pe_op op_add (pv 2) (pe_def T.d_moments_of (ok_moments_of T) hr rfl (pa_cons (pv 3) pa_nil)))))))
      (pss_one (ps_ret (pv 1)))))), ?_⟩
  refine ⟨(by show 0 ≤ sizeLine; decide), fun y hy => ?_⟩
  refine ⟨_, rfl, z, rfl, ⟨_, SqL.of ((same_new hy _) _ _ hz)⟩, for_list (K := K) (a := z) (xs := xs) (fun i σ H' => ∃ (b : Int) (as : List (Int × Int × Int)) (o : Option V) (us : List V), σ = [some (.ref z), some (.ref y), some (.int b), o] ∧ H' y = some (.lst us) ∧ SpAt H' as us ∧ as.length ≤ i ∧ as ++ spanF b (ms.drop i) = spanF 0 ms ∧ Same H H')
    ⟨0, [], none, [], rfl, upd_same, trivial, by simp, rfl, same_new hy _⟩ ?_ ?_ ?_⟩
  · rintro i σ H' hi ⟨b, as, o, us, rfl, _, _, _, _, e⟩
    exact SqL.of (e _ _ hz)
  · rintro i x σ H' hx ⟨b, as, o, us, rfl, hv, hsp, hal, hap, e⟩
    obtain ⟨m, hm, hIx⟩ := his.get hx
    have hI := hIx.ts (ts_same e)
    have hi : i < ms.length := (List.getElem?_eq_some_iff.mp hm).1
    rw [drop_cons hm] at hap
    obtain ⟨zi, xi, rfl, hzi, h0, h1⟩ := hI.opn
    refine ⟨_, rfl, zi, xi, _, _, rfl, rfl, SqT.of hzi, h0, rfl, _, rfl, ite2 (fun c => ?_) (fun c => ?_)⟩
    · obtain ⟨l, rfl⟩ := w_mix (by simpa using c)
      obtain ⟨z2, e2, hz2⟩ := id hI
      cases e2
      rw [spanF] at hap
      refine ⟨_, rfl, .inl ⟨rfl, _, SqL.of hv⟩, _, rfl, _, rfl, _, _, _, _, rfl, rfl, SqT.of hz2, at1, _, rfl, _, _, rfl, rfl, _, rfl, _, rfl, _, rfl, _, _, _, _, rfl, rfl, SqT.of hz2, at1, _, rfl, _, _, rfl, rfl, (by show 3 ≤ sizeLine; decide), fun g hg => ?_⟩
      have w1 := same_new hg (.tup [.int (b - l.fdiv 2), .int b, .int (b + (l - l.fdiv 2))])
      refine ⟨y, _, _, rfl, rfl, w1 _ _ hv, small1000 (by rw [hsp.len]; omega), ?_⟩
      have t2 : TS (upd H' g (.tup [.int (b - l.fdiv 2), .int b, .int (b + (l - l.fdiv 2))])) (upd (upd H' g (.tup [.int (b - l.fdiv 2), .int b, .int (b + (l - l.fdiv 2))])) y (.lst (us ++ [.ref g]))) := ts_updL (w1 _ _ hv)
      refine ⟨_, rfl, _, rfl, _, .mix l, rfl, (hI.ts (ts_same w1)).ts t2, _, _, rfl, rfl, b, as ++ [(b - l.fdiv 2, b, b + (l - l.fdiv 2))], some (.ref zi), us ++ [.ref g], ?_, upd_same, ((hsp.ts (ts_same w1)).app (.one upd_same)).ts t2, by simp; omega, ?_, same_updN (e.trans w1) hy⟩
      · show [some (V.ref z), some (V.ref y), some (V.int (b + 0)), some (V.ref zi)] = _
        rw [Int.add_zero]
      · rw [← hap]; simp
    · have hne : m.wd ≠ "mix" := by simpa using c
      rw [spanF_other hne] at hap
      exact ⟨_, rfl, _, rfl, _, m, rfl, hI, _, _, rfl, rfl, _, as, _, us, rfl, hv, hsp, by omega, hap, e⟩
  · rintro σ H' ⟨b, as, o, us, rfl, hv, hsp, hal, hap, e⟩
    rw [his.len, List.drop_length, spanF, List.append_nil] at hap
    rw [hap] at hsp
    exact ⟨_, rfl, kk y us H' e hy hv hsp⟩
def sp_mix_at : Sp := fun vs H Q _ => ∃ (z : Addr) (ms : List Im) (t : Int), vs = [.ref z, .int t] ∧ Tr H z ms ∧ ms.length ≤ 300 ∧ AtR H Q (mixF 0 0 ms t)
theorem placeF_snoc : ∀ (i : Nat) (ms : List Im) (m : Im), placeF i (ms ++ [m]) = placeF i ms ++ (if m.wd = "mix" then [i + ms.length] else [])
  | i, [], m => by
    by_cases h : m.wd = "mix"
    · obtain ⟨l, rfl⟩ := w_mix h
      rw [if_pos h]; rfl
    · rw [if_neg h, List.nil_append, placeF_other h]; rfl
  | i, m' :: ms, m => by
    have ih := placeF_snoc (i + 1) ms m
    have e : i + 1 + ms.length = i + (m' :: ms).length := by rw [List.length_cons]; omega
    rw [e] at ih
    by_cases h : m'.wd = "mix"
    · obtain ⟨l, rfl⟩ := w_mix h
      rw [List.cons_append, placeF, placeF, ih]; rfl
    · rw [List.cons_append, placeF_other h, placeF_other h, ih]
theorem ok_mix_at (T : Tx K mg a) : FnOk P w K mg base CX0 4 a.a_mix_at a.f_mix_at ["track", "moment"] sp_mix_at := by
  refine T.d_mix_at.F.ok sc_mix_at (fun vs H Q E h => ?_) (fun cdv A outer s H vs Q E hr h => ?_)
  · obtain ⟨z, ms, t, rfl, _⟩ := h
    rfl
  obtain ⟨z, ms, t, rfl, ⟨xs, hz, his⟩, hl, kk⟩ := h
  have hxl := his.len
  refine ⟨_, (pss_cons (ps_setCP (i := 2) [] [] sc_mix_at.nd rfl rfl rfl (pi_enum rfl T.b_enumerate (pa_cons (pv 0) pa_nil)) (fun _ _ _ _ => (pt_cmpR op_eq (pe_ix (ixK_tup (K := K) rfl) (pv 1) pe_int (fun _ _ => rfl)) pe_str (nomark _))) (fun _ _ _ _ => (pv 0)))
      (pss_cons (ps_for PassesOwn.never rfl (pi_zip rfl T.b_zip (pa_cons (pv 2) (pa_cons (pe_def T.d_mix_spans (ok_mix_spans T) hr rfl (pa_cons (pv 0) pa_nil)) pa_nil))) (pg_tup rfl (pgs_cons (pg_name (i := 3) sc_mix_at.nd rfl (Or.inl rfl)) (pgs_cons (pg_name (i := 4) sc_mix_at.nd rfl (Or.inl rfl)) pgs_nil))) (pss_one (ps_if (PW.pt (pw_and (pt_cmpR op_le (pe_ix ix_tup (pv 4) pe_int (fun _ _ => rfl)) (pv 1) (nomark _)) (pw_and1 (pt_cmpR op_lt (pv 1) (pe_ix ix_tup (pv 4) pe_int (fun _ _ => rfl)) (nomark _))))) (pss_one (ps_ret (pe_tup (pa_cons (pv 3) (pa_cons (pe_op op_sub (pv 1) (pe_ix ix_tup (pv 4) pe_int (fun _ _ => rfl))) pa_nil))))) pss_nil)))
      (pss_one (ps_ret pe_non)))), ?_⟩
  refine ⟨_, rfl, z, rfl, ⟨_, SqL.of hz⟩, comp_enumP (K := K) (a := z) (xs := xs) (fun i acc H' => Same H H' ∧ acc = (placeF 0 (ms.take i)).map (fun (n : Nat) => V.int (n : Int)) ∧ acc.length ≤ i) ⟨Same.refl _, rfl, by simp⟩ ?_ ?_ ?_⟩
  · rintro i acc H' hi ⟨e, rfl, hal⟩
    exact ⟨SqL.of (e _ _ hz), small1000 (by omega)⟩
  · rintro i x acc H' p hi hx ⟨e, rfl, hal⟩ hp
    obtain ⟨m, hm, hIx⟩ := his.get hx
    have w1 := same_new hp (.tup [.int (i : Int), x])
    have hI := hIx.ts (ts_same (e.trans w1))
    obtain ⟨zi, xi, rfl, hzi, h0, h1⟩ := hI.opn
    have htk : ms.take (i + 1) = ms.take i ++ [m] := by rw [List.take_add_one, hm]; rfl
    have hlt : (ms.take i).length = i := by rw [List.length_take]; omega
    refine ⟨_, rfl, zi, xi, _, _, rfl, rfl, SqT.of hzi, h0, rfl, _, rfl, ite2 (fun c => ?_) (fun c => ?_)⟩
    · have hw : m.wd = "mix" := by simpa using c
      refine ⟨_, rfl, Nxt.mk hi ⟨e.trans w1, ?_, by simp at hal ⊢; omega⟩⟩
      rw [htk, placeF_snoc, if_pos hw, hlt, List.map_append, Nat.zero_add]; rfl
    · have hw : ¬ m.wd = "mix" := by simpa using c
      refine Nxt.mk hi ⟨e.trans w1, ?_, by omega⟩
      rw [htk, placeF_snoc, if_neg hw, List.append_nil]
  rintro acc H1 ⟨e1, rfl, hal⟩ pl hpl
  rw [hxl, List.take_length] at *
  have w2 := same_new hpl (.lst ((placeF 0 ms).map fun (n : Nat) => V.int (n : Int)))
  have hP : (upd H1 pl (.lst ((placeF 0 ms).map fun (n : Nat) => V.int (n : Int)))) pl = some (.lst ((placeF 0 ms).map fun (n : Nat) => V.int (n : Int))) := upd_same
  have e2 := e1.trans w2
  generalize upd H1 pl (.lst ((placeF 0 ms).map fun (n : Nat) => V.int (n : Int))) = H2 at hP e2 ⊢
  have tr2 : Tr H2 z ms := ⟨xs, e2 _ _ hz, his.ts (ts_same e2)⟩
  refine ⟨_, rfl, _, rfl, z, ms, rfl, tr2, hl, fun sp us H3 e3 _ hsp hus => ?_⟩
  have hP3 := e3 _ _ hP
  have hul := hus.len
  refine ⟨pl, sp, rfl, ⟨_, SqL.of hP3⟩, ⟨_, SqL.of hsp⟩, for_zip (K := K) (a := pl) (b := sp) (xs := (placeF 0 ms).map fun (n : Nat) => V.int (n : Int)) (ys := us) (fun i σ H' => ∃ (o1 o2 : Option V), σ = [some (.ref z), some (.int t), some (.ref pl), o1, o2] ∧ findF ((placeF 0 ms).drop i) ((spanF 0 ms).drop i) t = mixF 0 0 ms t ∧ Same H3 H') ?_ ⟨none, none, rfl, find_mix 0 0 ms t, Same.refl _⟩ ?_ ?_ ?_⟩
  · rw [List.length_map, hul, place_span 0 0 ms]
  · rintro i σ H' hi ⟨o1, o2, rfl, _, e⟩
    exact ⟨SqL.of (e _ _ hP3), SqL.of (e _ _ hsp)⟩
  · rintro i x y σ H' p hx hy ⟨o1, o2, rfl, hap, e⟩ hp
    obtain ⟨n, hn, rfl⟩ : ∃ n : Nat, (placeF 0 ms)[i]? = some n ∧ x = .int (n : Int) := by
      rw [List.getElem?_map] at hx
      cases e : (placeF 0 ms)[i]? with
      | none => rw [e] at hx; cases hx
      | some m => rw [e] at hx; exact ⟨m, rfl, (Option.some.inj hx).symm⟩
    obtain ⟨x0, y0, z0, q, hs, rfl, hq⟩ := hus.get hy
    have w4 := same_new hp (.tup [.int (n : Int), .ref q])
    have e4 := e.trans w4
    have hq4 := e4 _ _ hq
    rw [drop_cons hn, drop_cons hs, findF] at hap
    refine ⟨p, _, rfl, SqT.of upd_same, rfl, _, _, rfl, _, _, rfl, rfl, ?_⟩
    generalize upd H' p (.tup [.int (n : Int), .ref q]) = H5 at e4 hq4 ⊢
    have a0 : atI [V.int x0, .int y0, .int z0] 0 = some (.int x0) := rfl
    have a2 : atI [V.int x0, .int y0, .int z0] 2 = some (.int z0) := rfl
    refine ⟨_, rfl, q, _, _, _, rfl, rfl, SqT.of hq4, a0, _, rfl, _, _, rfl, rfl, _, rfl, ?_⟩
    refine ite2 (fun c1 => ?_) (fun c1 => ?_)
    · refine ⟨_, rfl, _, rfl, q, _, _, _, rfl, rfl, SqT.of hq4, a2, _, _, rfl, rfl, _, rfl, ?_⟩
      refine ite2 (fun c2 => ?_) (fun c2 => ?_)
      · rw [if_pos ⟨by simpa using c1, by simpa using c2⟩] at hap
        rw [← hap] at kk
        refine ⟨_, rfl, _, rfl, _, rfl, q, _, _, _, rfl, rfl, SqT.of hq4, a0, _, _, rfl, rfl, (by show 2 ≤ sizeLine; decide), fun f hf => ?_⟩
        exact kk f _ (((e2.trans e3).trans e4).trans (same_new hf _)) upd_same
      · rw [if_neg (fun c => c2 (by simpa using c.2))] at hap
        exact ⟨_, _, rfl, hap, e4⟩
    · rw [if_neg (fun c => c1 (by simpa using c.1))] at hap
      exact iteF ⟨_, _, rfl, hap, e4⟩
  · rintro σ H' ⟨o1, o2, rfl, hap, e⟩
    rw [List.length_map, List.drop_length] at hap
    have hn : findF [] ((spanF 0 ms).drop (placeF 0 ms).length) t = none := by
      generalize (spanF 0 ms).drop (placeF 0 ms).length = ss
      cases ss <;> rfl
    rw [hn] at hap
    rw [← hap] at kk
    exact kk H' ((e2.trans e3).trans e)
/-! ### what is told -/
structure Te where
  n : Str
  pic : Int
  p : Int
  q : Int
def Te.d (t : Te) : D := .tup [.leaf (.str t.n), .leaf (.int t.pic), .tup [.leaf (.int t.p), .leaf (.int t.q)]]
def IsTe (K : PySem.W.Frag) (H : Hp) (t : Te) (v : V) : Prop := ∃ z s : Addr, v = .ref z ∧ H z = some (.tup [.str t.n, .int t.pic, .ref s]) ∧ SqT K H s [.int t.p, .int t.q]
def IsTes (K : PySem.W.Frag) (H : Hp) : List Te → List V → Prop
  | [], [] => True
  | t :: ts, v :: vs => IsTe K H t v ∧ IsTes K H ts vs
  | _, _ => False
theorem IsTe.same {H H' : Hp} (e : Same H H') {t : Te} {v : V} (h : IsTe K H t v) : IsTe K H' t v :=
  let ⟨z, s, h1, h2, h3⟩ := h; ⟨z, s, h1, e _ _ h2, L3.Same.tup e h3⟩
theorem IsTes.same {H H' : Hp} (e : Same H H') : ∀ {ts : List Te} {vs : List V}, IsTes K H ts vs → IsTes K H' ts vs
  | [], [], _ => trivial
  | _ :: _, _ :: _, h => ⟨h.1.same e, IsTes.same e h.2⟩
  | [], _ :: _, h => h.elim
  | _ :: _, [], h => h.elim
theorem IsTes.len {H : Hp} : ∀ {ts : List Te} {vs : List V}, IsTes K H ts vs → vs.length = ts.length
  | [], [], _ => rfl
  | _ :: _, _ :: _, h => by rw [List.length_cons, List.length_cons, IsTes.len h.2]
  | [], _ :: _, h => h.elim
  | _ :: _, [], h => h.elim
theorem IsTes.get {H : Hp} : ∀ {ts : List Te} {vs : List V} {i : Nat} {v : V}, IsTes K H ts vs → vs[i]? = some v → ∃ t, IsTe K H t v
  | [], [], _, _, _, h => by simp at h
  | t :: _, u :: _, 0, v, h, e => by
    have e' : u = v := by simpa using e
    subst e'
    exact ⟨t, h.1⟩
  | _ :: _, _ :: _, i + 1, v, h, e => IsTes.get (i := i) h.2 (by simpa using e)
  | [], _ :: _, _, _, h, _ => h.elim
  | _ :: _, [], _, _, h, _ => h.elim
theorem IsTe.rep {H : Hp} {t : Te} {v : V} (h : IsTe K H t v) : Rep K H t.d v := by
  obtain ⟨z, s, rfl, h2, h3⟩ := h
  unfold Te.d Rep
  refine ⟨z, _, rfl, SqT.of h2, ?_⟩
  unfold Reps Reps Reps Reps
  refine ⟨?_, ?_, ?_, trivial⟩
  · unfold Rep; exact ⟨rfl, rfl⟩
  · unfold Rep; exact ⟨rfl, rfl⟩
  · unfold Rep; exact ⟨s, _, rfl, h3, rep_flat (xs := [.int t.p, .int t.q]) rfl⟩
theorem IsTes.rep {H : Hp} : ∀ {ts : List Te} {vs : List V}, IsTes K H ts vs → Reps K H (ts.map Te.d) vs
  | [], [], _ => by unfold List.map Reps; trivial
  | _ :: _, _ :: _, h => by unfold List.map Reps; exact ⟨h.1.rep, h.2.rep⟩
  | [], _ :: _, h => h.elim
  | _ :: _, [], h => h.elim
theorem eqTe_self (t : Te) : eqD t.d t.d = true := by simp [Te.d, eqD, eqDs, eqV]
theorem eqTes_self : ∀ ts : List Te, eqDs (ts.map Te.d) (ts.map Te.d) = true
  | [] => by simp [eqDs]
  | m :: ms => by unfold List.map eqDs; rw [eqTe_self, eqTes_self ms]; rfl
theorem deps_Te : ∀ ts : List Te, deps (ts.map Te.d) ≤ 2
  | [] => by simp [deps]
  | m :: ms => by
    have h2 := deps_Te ms
    have h1 : dep m.d ≤ 2 := by simp [Te.d, dep, deps]
    unfold List.map deps
    omega
/-- a list that is told -/
def TL (K : PySem.W.Frag) (H : Hp) (z : Addr) (ts : List Te) : Prop := ∃ vs, H z = some (.lst vs) ∧ IsTes K H ts vs
theorem TL.same {H H' : Hp} {z : Addr} {ts : List Te} (e : Same H H') (h : TL K H z ts) : TL K H' z ts := let ⟨vs, h1, h2⟩ := h; ⟨vs, e _ _ h1, h2.same e⟩
theorem TL.rep {H : Hp} {z : Addr} {ts : List Te} (h : TL K H z ts) : Rep K H (.lst (ts.map Te.d)) (.ref z) := by
  obtain ⟨vs, h1, h2⟩ := h
  unfold Rep
  exact ⟨z, vs, rfl, SqL.of h1, h2.rep⟩
theorem neTL {H : Hp} {x y : Addr} {ts : List Te} {Q : VK} (h1 : TL K H x ts) (h2 : TL K H y ts) (q : Q (.bl false) H) : rEqR K true (.ref x) (.ref y) H Q := by
  refine ⟨_, _, h1.rep, h2.rep, rfl, by have := deps_Te ts; unfold dep; omega, ?_⟩
  have e : eqD (.lst (ts.map Te.d)) (.lst (ts.map Te.d)) = true := by unfold eqD; exact eqTes_self ts
  rw [e]
  exact q
theorem rep_nil {H : Hp} {y : Addr} (h2 : H y = some (.lst [])) : Rep K H (.lst []) (.ref y) := by
  unfold Rep; exact ⟨y, [], rfl, SqL.of h2, by unfold Reps; trivial⟩
theorem neTN {H : Hp} {x y : Addr} {ts : List Te} {Q : VK} (h1 : TL K H x ts) (h2 : H y = some (.lst [])) (q : Q (.bl (!ts.isEmpty)) H) : rEqR K true (.ref x) (.ref y) H Q := by
  refine ⟨_, .lst [], h1.rep, rep_nil h2, rfl, by have := deps_Te ts; unfold dep; omega, ?_⟩
  have e : eqD (.lst (ts.map Te.d)) (.lst []) = ts.isEmpty := by cases ts <;> simp [eqD, eqDs]
  rw [e]
  exact q
/-- bounds of an item -/
def Im.g : Im → Prop
  | .clip _ p q r s l => 0 < q ∧ 0 < s ∧ p.natAbs < 2 ^ 400 ∧ q.natAbs < 2 ^ 400 ∧ r.natAbs < 2 ^ 400 ∧ s.natAbs < 2 ^ 400 ∧ 1 ≤ l ∧ l < 2 ^ 400
  | .nest _ b l => 0 ≤ b ∧ b < 2 ^ 60 ∧ 1 ≤ l
  | .gap l => 1 ≤ l
  | .mix l => 1 ≤ l ∧ l < 2 ^ 60
theorem Im.g_mo {m : Im} (h : m.g) : 0 ≤ m.mo := by
  cases m with
  | clip n p q r s l => have := h.2.2.2.2.2.2.1; show 0 ≤ l; omega
  | nest n b l => have := h.2.2; show 0 ≤ l; omega
  | gap l => have h : 1 ≤ l := h; show 0 ≤ l; omega
  | mix l => exact Int.le_refl _
/-- a mix stands between two clips -/
def MixOk (ms : List Im) : Prop := ∀ (i : Nat) (l : Int), ms[i]? = some (.mix l) → 1 ≤ i ∧ (∃ n p q r s k, ms[i - 1]? = some (.clip n p q r s k)) ∧ ∃ n p q r s k, ms[i + 1]? = some (.clip n p q r s k)
def picF (p q r s k : Int) : Int := (p * s + k * r * q).fdiv (q * s)
def mixedF (ms : List Im) (i : Nat) (j : Int) : List Te :=
  match ms[i]?, ms[i - 1]?, ms[i + 1]? with
  | some (.mix l), some (.clip n p q r s k), some (.clip n' p' q' r' s' _) => [⟨n, picF p q r s (k + (j - l.fdiv 2)), lowP (l - j) (l + 1), lowQ (l - j) (l + 1)⟩, ⟨n', picF p' q' r' s' (j - l.fdiv 2), lowP (j + 1) (l + 1), lowQ (j + 1) (l + 1)⟩]
  | _, _, _ => []
def toldOn (f : Str → Int → List Te) (ms : List Im) (t : Int) : List Te :=
  match mixF 0 0 ms t with
  | some (i, j) => mixedF ms i j
  | none => match itemF 0 0 ms t with
    | none => []
    | some (i, d) => match ms[i]? with
      | some (.clip n p q r s _) => [⟨n, picF p q r s d, 1, 1⟩]
      | some (.nest nm b _) => f nm (b + d)
      | _ => []
def firstNE : List (List Te) → List Te
  | [] => []
  | x :: r => if x.isEmpty then firstNE r else x
abbrev Rms := Str → Option (List (List Im))
def toldAt (rm : Rms) : Nat → Str → Int → List Te
  | 0, _, _ => []
  | n + 1, nm, t => firstNE (((rm nm).getD []).map fun ms => toldOn (toldAt rm n) ms t)
def TrsAt (H : Hp) : List (List Im) → List V → Prop
  | [], [] => True
  | ms :: r, v :: vs => (∃ z : Addr, v = .ref z ∧ Tr H z ms) ∧ TrsAt H r vs
  | _, _ => False
theorem TrsAt.same {H H' : Hp} (e : Same H H') : ∀ {ts : List (List Im)} {vs : List V}, TrsAt H ts vs → TrsAt H' ts vs
  | [], [], _ => trivial
  | _ :: _, _ :: _, ⟨⟨z, h1, h2⟩, h⟩ => ⟨⟨z, h1, h2.same e⟩, TrsAt.same e h⟩
  | [], _ :: _, h => h.elim
  | _ :: _, [], h => h.elim
theorem TrsAt.len {H : Hp} : ∀ {ts : List (List Im)} {vs : List V}, TrsAt H ts vs → vs.length = ts.length
  | [], [], _ => rfl
  | _ :: _, _ :: _, h => by rw [List.length_cons, List.length_cons, TrsAt.len h.2]
  | [], _ :: _, h => h.elim
  | _ :: _, [], h => h.elim
theorem TrsAt.get {H : Hp} : ∀ {ts : List (List Im)} {vs : List V} {i : Nat} {v : V}, TrsAt H ts vs → vs[i]? = some v → ∃ (ms : List Im) (z : Addr), ts[i]? = some ms ∧ v = .ref z ∧ Tr H z ms
  | [], [], _, _, _, h => by simp at h
  | ms :: _, u :: _, 0, v, h, e => by
    have e' : u = v := by simpa using e
    subst e'
    obtain ⟨⟨z, h1, h2⟩, _⟩ := h
    exact ⟨ms, z, rfl, h1, h2⟩
  | _ :: _, _ :: _, i + 1, v, h, e => by
    obtain ⟨ms, z, h1, h2⟩ := TrsAt.get (i := i) h.2 (by simpa using e)
    exact ⟨ms, z, by simpa using h1, h2⟩
  | [], _ :: _, _, _, h, _ => h.elim
  | _ :: _, [], _, _, h, _ => h.elim
/-- a table's tuple -/
def TabAt (H : Hp) (v : V) (ts : List (List Im)) : Prop := ∃ (tt tl ti : Addr) (zs : List V), v = .ref tt ∧ H tt = some (.tup [.ref tl, .ref ti]) ∧ H tl = some (.lst zs) ∧ TrsAt H ts zs
theorem TabAt.same {H H' : Hp} (e : Same H H') {v : V} {ts : List (List Im)} (h : TabAt H v ts) : TabAt H' v ts :=
  let ⟨tt, tl, ti, zs, h1, h2, h3, h4⟩ := h; ⟨tt, tl, ti, zs, h1, e _ _ h2, e _ _ h3, h4.same e⟩
/-- a room: its tables -/
def RoomAt (H : Hp) (rz : Addr) (rm : Rms) : Prop := ∃ (re td : Addr) (kvs : List (Key × V)), H rz = some (.tup [.ref re, .ref td]) ∧ Rd H td (.dK kvs) ∧ ∀ nm ts, rm nm = some ts → ∃ v, valV kvs (Sum.inr nm) = some v ∧ TabAt H v ts
theorem RoomAt.same {H H' : Hp} (e : Same H H') {rz : Addr} {rm : Rms} (h : RoomAt H rz rm) : RoomAt H' rz rm :=
  let ⟨re, td, kvs, h1, h2, h3⟩ := h; ⟨re, td, kvs, e _ _ h1, rd_same e h2, fun nm ts q => let ⟨v, a, b⟩ := h3 nm ts q; ⟨v, a, b.same e⟩⟩
/-- tables nested at most n deep -/
def Lv (rm : Rms) : Nat → Str → Prop
  | 0, _ => False
  | n + 1, nm => ∃ ts, rm nm = some ts ∧ ts.length ≤ 300 ∧ ∀ ms ∈ ts, ms.length ≤ 300 ∧ MixOk ms ∧ ∀ m ∈ ms, m.g ∧ ∀ nm' b l, m = .nest nm' b l → Lv rm n nm'
def LvT (rm : Rms) (n : Nat) (ms : List Im) : Prop := ms.length ≤ 300 ∧ MixOk ms ∧ ∀ m ∈ ms, m.g ∧ ∀ nm' b l, m = .nest nm' b l → Lv rm n nm'
theorem itemF_at : ∀ {b : Int} {i : Nat} {ms : List Im} {t : Int} {k : Nat} {d : Int}, itemF b i ms t = some (k, d) → (∀ m ∈ ms, m.g) → 0 ≤ b → 0 ≤ d ∧ d ≤ t
  | _, _, [], _, _, _, h, _, _ => by simp [itemF] at h
  | b, i, m :: ms, t, k, d, h, hg, hb => by
    rw [itemF] at h
    by_cases hc : b ≤ t ∧ t < b + m.mo
    · rw [if_pos hc] at h
      cases h
      omega
    · rw [if_neg hc] at h
      have := Im.g_mo (hg m (by simp))
      exact itemF_at h (fun x hx => hg x (by simp [hx])) (by omega)
theorem itemF_place : ∀ {b : Int} {i : Nat} {ms : List Im} {t : Int} {k : Nat} {d : Int}, itemF b i ms t = some (k, d) → i ≤ k ∧ ∃ m, ms[k - i]? = some m
  | _, _, [], _, _, _, h => by simp [itemF] at h
  | b, i, m :: ms, t, k, d, h => by
    rw [itemF] at h
    by_cases hc : b ≤ t ∧ t < b + m.mo
    · rw [if_pos hc] at h
      cases h
      exact ⟨Nat.le_refl _, m, by simp⟩
    · rw [if_neg hc] at h
      obtain ⟨h1, m', h2⟩ := itemF_place h
      have e : k - i = (k - (i + 1)) + 1 := by omega
      exact ⟨by omega, m', by rw [e, List.getElem?_cons_succ]; exact h2⟩
theorem sm400 {i : Int} (h : i.natAbs < 2 ^ 400) : Sm2 i := Nat.lt_of_lt_of_le h (Nat.pow_le_pow_right (by decide) (by decide))
theorem cp_of {H : Hp} {v : V} {n : Str} {p q r s l : Int} (h : IsI H (.clip n p q r s l) v) : Cp K H v n p q r s l := by
  obtain ⟨z, x, y, h0, hz, hx, hy⟩ := h
  exact ⟨z, x, y, h0, SqT.of hz, SqT.of hx, SqT.of hy⟩
def sp_told_in_mix (K : PySem.W.Frag) : Sp := fun vs H Q _ => ∃ (z : Addr) (ms : List Im) (i : Nat) (j l : Int), vs = [.ref z, .int (i : Int), .int j] ∧ Tr H z ms ∧ MixOk ms ∧ (∀ m ∈ ms, m.g) ∧ ms[i]? = some (.mix l) ∧ 0 ≤ j ∧ j < l ∧
  ∀ (y : Addr) (H' : Hp), Same H H' → H y = none → TL K H' y (mixedF ms i j) → Q (.ref y) H'
theorem ok_told_in_mix (T : Tx K mg a) : FnOk P w K mg base CX0 6 a.a_told_in_mix a.f_told_in_mix ["track", "place", "j"] (sp_told_in_mix K) := by
  refine T.d_told_in_mix.F.ok sc_told_in_mix (fun vs H Q E h => ?_) (fun cdv A outer s H vs Q E hr h => ?_)
  · obtain ⟨z, ms, i, j, l, rfl, _⟩ := h
    rfl
  obtain ⟨z, ms, i, j, l, rfl, ⟨xs, hz, his⟩, hok, hg, hm, j0, j1, kk⟩ := h
  refine ⟨_, (pss_cons (ps_set (i := 3) sc_told_in_mix.nd rfl (Or.inl rfl) (pe_ix ix_tup (pe_ix ix_list (pv 0) (pv 1) (fun _ _ => rfl)) pe_int (fun _ _ => rfl)))
      (pss_cons (ps_set (i := 4) sc_told_in_mix.nd rfl (Or.inl rfl) (pe_ix ix_list (pv 0) (pe_op op_sub (pv 1) pe_int) (fun _ _ => rfl)))
      (pss_cons (ps_set (i := 5) sc_told_in_mix.nd rfl (Or.inl rfl) (pe_ix ix_list (pv 0) (pe_op op_add (pv 1) pe_int) (fun _ _ => rfl)))
      (pss_cons (ps_set (i := 6) sc_told_in_mix.nd rfl (Or.inl rfl) (pe_def T.d_mix_shares (ok_mix_shares T) hr rfl (pa_cons (pv 3) (pa_cons (pv 2) pa_nil))))
      (pss_cons (ps_set (i := 7) sc_told_in_mix.nd rfl (Or.inl rfl) (pe_op op_sub (pv 2) (pe_def T.d_part_ahead (ok_part_ahead T) hr rfl (pa_cons (pv 3) pa_nil))))
      (pss_cons (ps_set (i := 8) sc_told_in_mix.nd rfl (Or.inl rfl) (pe_tup (pa_cons (pe_ix ix_tup (pv 4) pe_int (fun _ _ => rfl)) (pa_cons (pe_def T.d_picture_at (ok_picture_at T) hr rfl (pa_cons (pv 4) (pa_cons (pe_op op_add (pe_ix ix_tup (pv 4) pe_int (fun _ _ => rfl)) (pv 7)) pa_nil))) (pa_cons (pe_ix ix_tup (pv 6) pe_int (fun _ _ => rfl)) pa_nil)))))
      (pss_cons (ps_set (i := 9) sc_told_in_mix.nd rfl (Or.inl rfl) (pe_tup (pa_cons (pe_ix ix_tup (pv 5) pe_int (fun _ _ => rfl)) (pa_cons (pe_def T.d_picture_at (ok_picture_at T) hr rfl (pa_cons (pv 5) (pa_cons (pv 7) pa_nil))) (pa_cons (pe_ix ix_tup (pv 6) pe_int (fun _ _ => rfl)) pa_nil)))))
      (pss_one (ps_ret (pe_lst (pa_cons (pv 8) (pa_cons (pv 9) pa_nil)))))))))))), ?_⟩
  obtain ⟨i1, ⟨n, p, q, r, s1, k, ha⟩, n', p', q', r', s2, k', hb⟩ := hok i l hm
  have gm := hg _ (List.mem_of_getElem? hm)
  have ga := hg _ (List.mem_of_getElem? ha)
  have gb := hg _ (List.mem_of_getElem? hb)
  have el : mixedF ms i j = [⟨n, picF p q r s1 (k + (j - l.fdiv 2)), lowP (l - j) (l + 1), lowQ (l - j) (l + 1)⟩, ⟨n', picF p' q' r' s2 (j - l.fdiv 2), lowP (j + 1) (l + 1), lowQ (j + 1) (l + 1)⟩] := by
    unfold mixedF; rw [hm, ha, hb]
  rw [el] at kk
  have l60 : l < 2 ^ 60 := gm.2
  obtain ⟨vm, hvm, Im⟩ := his.get' hm
  obtain ⟨va, hva, Ia⟩ := his.get' ha
  obtain ⟨vb, hvb, Ib⟩ := his.get' hb
  obtain ⟨zm, rfl, hzm⟩ := id Im
  have am : atI xs (i : Int) = some (.ref zm) := atI_nat hvm
  have aa : atI xs ((i : Int) - 1) = some va := by
    have e : (i : Int) - 1 = ((i - 1 : Nat) : Int) := by omega
    rw [e]; exact atI_nat hva
  have ab : atI xs ((i : Int) + 1) = some vb := by
    have e : (i : Int) + 1 = ((i + 1 : Nat) : Int) := by omega
    rw [e]; exact atI_nat hvb
  have hS := SqL.of (K := K) hz
  refine ⟨_, rfl, _, rfl, z, _, _, _, rfl, rfl, hS, am, zm, _, _, _, rfl, rfl, SqT.of hzm, at1, ?_⟩
  refine ⟨_, rfl, _, rfl, _, _, rfl, rfl, z, _, _, _, rfl, rfl, hS, aa, ?_⟩
  refine ⟨_, rfl, _, rfl, _, _, rfl, rfl, z, _, _, _, rfl, rfl, hS, ab, ?_⟩
  refine ⟨_, rfl, _, rfl, l, j, rfl, j0, j1, l60, fun sh H1 w1 ⟨sx, sy, hsh, hsx, hsy⟩ => ?_⟩
  refine ⟨_, rfl, _, rfl, l, rfl, _, _, rfl, rfl, ?_⟩
  have Ia1 := Ia.ts (ts_same w1)
  have Ib1 := Ib.ts (ts_same w1)
  obtain ⟨za, xa, ya, rfl, hza, hxa, hya⟩ := id Ia1
  obtain ⟨zb, xb, yb, rfl, hzb, hxb, hyb⟩ := id Ib1
  obtain ⟨q0, s0, bp, bq, br, bs, k0, k1⟩ := id ga
  obtain ⟨q0', s0', bp', bq', br', bs', _, _⟩ := id gb
  have hf : l.fdiv 2 ≤ l ∧ 0 ≤ l.fdiv 2 := by
    have := fdiv_bounds (p := l) (q := 2) (by decide)
    omega
  have bk1 : Sm2 (k + (j - l.fdiv 2)) := by
    have e : (2 : Int) ^ 400 + 2 ^ 61 < 2 ^ 401 := by decide
    have : (k + (j - l.fdiv 2)).natAbs < 2 ^ 401 := by omega
    exact Nat.lt_of_lt_of_le this (Nat.pow_le_pow_right (by decide) (by decide))
  have bk2 : Sm2 (j - l.fdiv 2) := by
    have : (j - l.fdiv 2).natAbs < 2 ^ 61 := by omega
    exact Nat.lt_of_lt_of_le this (Nat.pow_le_pow_right (by decide) (by decide))
  refine ⟨_, rfl, za, _, _, _, rfl, rfl, SqT.of hza, at5_1, _, rfl, _, rfl, za, _, _, _, rfl, rfl, SqT.of hza, at5_4, _, rfl, _, _, rfl, rfl, ?_⟩
  refine ⟨_, n, p, q, r, s1, k, _, rfl, cp_of Ia1, q0, s0, sm400 bp, sm400 bq, sm400 br, sm400 bs, bk1, fun H2 w2 => ?_⟩
  refine ⟨_, rfl, sh, _, _, _, rfl, rfl, SqT.of (w2 _ _ hsh), at0, (by show 3 ≤ sizeLine; decide), fun f1 hf1 => ?_⟩
  have w3 := same_new hf1 (.tup [.str n, .int ((p * s1 + (k + (j - l.fdiv 2)) * r * q).fdiv (q * s1)), .ref sx])
  have w23 := w2.trans w3
  refine ⟨_, rfl, zb, _, _, _, rfl, rfl, SqT.of (w23 _ _ hzb), at5_1, _, rfl, _, rfl, ?_⟩
  refine ⟨_, n', p', q', r', s2, k', _, rfl, cp_of (Ib1.ts (ts_same w23)), q0', s0', sm400 bp', sm400 bq', sm400 br', sm400 bs', bk2, fun H4 w4 => ?_⟩
  have w24 := w23.trans w4
  refine ⟨_, rfl, sh, _, _, _, rfl, rfl, SqT.of (w24 _ _ hsh), at1, (by show 3 ≤ sizeLine; decide), fun f2 hf2 => ?_⟩
  have w5 := same_new hf2 (.tup [.str n', .int ((p' * s2 + (j - l.fdiv 2) * r' * q').fdiv (q' * s2)), .ref sy])
  refine ⟨_, rfl, _, rfl, (by show 2 ≤ sizeLine; decide), fun y hy => ?_⟩
  have w6 := same_new hy (.lst [.ref f1, .ref f2])
  have w25 := (w24.trans w5).trans w6
  refine kk y _ (w1.trans w25) ((w1.trans (w24.trans w5)).free hy) ⟨_, upd_same, ⟨f1, sx, rfl, w6 _ _ (w5 _ _ (w4 _ _ upd_same)), SqT.of (w25 _ _ hsx)⟩, ⟨f2, sy, rfl, w6 _ _ upd_same, SqT.of (w25 _ _ hsy)⟩, trivial⟩

def sp_told_at (K : PySem.W.Frag) (n : Nat) : Sp := fun vs H Q _ => ∃ (rz : Addr) (nm : Str) (t : Int) (rm : Rms), vs = [.ref rz, .str nm, .int t] ∧ RoomAt H rz rm ∧ Lv rm n nm ∧ 0 ≤ t ∧ t + n * 2 ^ 61 < 2 ^ 400 ∧
  ∀ (y : Addr) (H' : Hp), Same H H' → H y = none → TL K H' y (toldAt rm n nm t) → Q (.ref y) H'
def sp_told_on (K : PySem.W.Frag) (n : Nat) : Sp := fun vs H Q _ => ∃ (z rz : Addr) (ms : List Im) (t : Int) (rm : Rms), vs = [.ref z, .int t, .ref rz] ∧ Tr H z ms ∧ LvT rm n ms ∧ (n ≠ 0 → RoomAt H rz rm) ∧ 0 ≤ t ∧ t + n * 2 ^ 61 + 2 ^ 60 < 2 ^ 400 ∧
  ∀ (y : Addr) (H' : Hp), Same H H' → H y = none → TL K H' y (toldOn (toldAt rm n) ms t) → Q (.ref y) H'
theorem step_told_on (T : Tx K mg a) (n : Nat) (IH : ∀ {base : Heap}, FnOk P w K mg base CX0 (2 * n + 7) a.a_told_at a.f_told_at ["room", "name", "moment"] (sp_told_at K n)) :
    FnOk P w K mg base CX0 (2 * n + 8) a.a_told_on a.f_told_on ["track", "moment", "room"] (sp_told_on K n) := by
  refine T.d_told_on.F.ok sc_told_on (fun vs H Q E h => ?_) (fun cdv A outer s H vs Q E hrn h => ?_)
  · obtain ⟨z, rz, ms, t, rm, rfl, _⟩ := h
    rfl
  obtain ⟨z, rz, ms, t, rm, rfl, tT, ⟨hml, hmx, hgs⟩, hrm, t0, t1, kk⟩ := h
  have hr := hrn.mono (show 7 ≤ 2 * n + 7 by omega)
  refine ⟨_, (pss_cons (ps_set (i := 3) sc_told_on.nd rfl (Or.inl rfl) (pe_def T.d_mix_at (ok_mix_at T) hr rfl (pa_cons (pv 0) (pa_cons (pv 1) pa_nil))))
      (pss_cons (ps_if (pt_cmp (pc_notN (pv 3))) (pss_one (ps_ret (pe_def T.d_told_in_mix (ok_told_in_mix T) hr rfl (pa_cons (pv 0) (pa_cons (pe_ix ix_tup (pv 3) pe_int (fun _ _ => rfl)) (pa_cons (pe_ix ix_tup (pv 3) pe_int (fun _ _ => rfl)) pa_nil)))))) pss_nil)
      (pss_cons (ps_set (i := 4) sc_told_on.nd rfl (Or.inl rfl) (pe_def T.d_item_at (ok_item_at T) hr rfl (pa_cons (pv 0) (pa_cons (pv 1) pa_nil))))
      (pss_cons (ps_if (pt_cmp (pc_isN (pv 4))) (pss_one (ps_ret (pe_lst pa_nil))) pss_nil)
      (pss_cons (ps_set (i := 5) sc_told_on.nd rfl (Or.inl rfl) (pe_ix ix_list (pv 0) (pe_ix ix_tup (pv 4) pe_int (fun _ _ => rfl)) (fun _ _ => rfl)))
      (pss_cons (ps_if (pt_cmpR op_eq (pe_ix ix_tup (pv 5) pe_int (fun _ _ => rfl)) pe_str (nomark _)) (pss_one (ps_ret (pe_lst (pa_cons (pe_tup (pa_cons (pe_ix ix_tup (pv 5) pe_int (fun _ _ => rfl)) (pa_cons (pe_def T.d_picture_at (ok_picture_at T) hr rfl (pa_cons (pv 5) (pa_cons (pe_ix ix_tup (pv 4) pe_int (fun _ _ => rfl)) pa_nil))) (pa_cons (pe_glob (v := .ref a.n_WHOLE_SHARE) rfl T.g_WHOLE_SHARE rfl) pa_nil)))) pa_nil)))) pss_nil)
      (pss_cons (ps_if (pt_cmpR op_eq (pe_ix ix_tup (pv 5) pe_int (fun _ _ => rfl)) pe_str (nomark _)) (pss_one (ps_ret (pe_def T.d_told_at IH hrn rfl (pa_cons (pv 2) (pa_cons (pe_ix ix_tup (pv 5) pe_int (fun _ _ => rfl)) (pa_cons (pe_op op_add (pe_ix ix_tup (pv 5) pe_int (fun _ _ => rfl)) (pe_ix ix_tup (pv 4) pe_int (fun _ _ => rfl))) pa_nil))) (Nat.le_refl _)))) pss_nil)
      (pss_one (ps_ret (pe_lst pa_nil)))))))))), ?_⟩
  have hg : ∀ m ∈ ms, m.g := fun m hm => (hgs m hm).1
  obtain ⟨xs, hz, his⟩ := id tT
  refine ⟨_, rfl, _, rfl, z, ms, t, rfl, tT, hml, ?_⟩
  cases hmf : mixF 0 0 ms t with
  | some c =>
    obtain ⟨i, j⟩ := c
    intro p H1 e1 hp
    have et : toldOn (toldAt rm n) ms t = mixedF ms i j := by unfold toldOn; rw [hmf]
    rw [et] at kk
    obtain ⟨l, _, hm, j0, j1⟩ := mixF_at hmf
    rw [Nat.sub_zero] at hm
    refine ⟨_, rfl, _, rfl, iteNT (by intro z; cases z) ?_⟩
    refine ⟨_, rfl, _, rfl, p, _, _, _, rfl, rfl, SqT.of hp, at0, _, rfl, p, _, _, _, rfl, rfl, SqT.of hp, at1, ?_⟩
    exact ⟨z, ms, i, j, l, rfl, tT.same e1, hmx, hg, hm, j0, j1, fun y H2 e2 hy ht => kk y H2 (e1.trans e2) (e1.free hy) ht⟩
  | none =>
    intro H1 e1
    refine ⟨_, rfl, _, rfl, iteNS rfl ?_⟩
    refine ⟨_, rfl, _, rfl, z, ms, t, rfl, tT.same e1, ?_⟩
    cases hit : itemF 0 0 ms t with
    | none =>
      intro H2 e2
      have et : toldOn (toldAt rm n) ms t = [] := by unfold toldOn; rw [hmf, hit]
      rw [et] at kk
      refine ⟨_, rfl, _, rfl, ite2 (fun _ => ?_) (fun c => absurd (by simp) c)⟩
      refine ⟨(by show 0 ≤ sizeLine; decide), fun y hy => ?_⟩
      exact kk y _ ((e1.trans e2).trans (same_new hy _)) ((e1.trans e2).free hy) ⟨[], upd_same, trivial⟩
    | some c =>
      obtain ⟨i, d⟩ := c
      intro p H2 e2 hp
      obtain ⟨d0, d1⟩ := itemF_at hit hg (by decide)
      obtain ⟨_, m, hm⟩ := itemF_place hit
      rw [Nat.sub_zero] at hm
      obtain ⟨v, hv, hI⟩ := his.get' hm
      have e12 := e1.trans e2
      have hI2 := hI.ts (ts_same e12)
      refine ⟨_, rfl, _, rfl, ite2 (fun c => absurd c (by simp)) (fun _ => ?_)⟩
      refine ⟨_, rfl, _, rfl, p, _, _, _, rfl, rfl, SqT.of hp, at0, z, _, _, _, rfl, rfl, SqL.of (e12 _ _ hz), atI_nat hv, ?_⟩
      obtain ⟨gm, hnest⟩ := hgs m (List.mem_of_getElem? hm)
      obtain ⟨zi, xi, rfl, hzi, h0, h1⟩ := hI2.opn
      refine ⟨_, rfl, zi, xi, _, _, rfl, rfl, SqT.of hzi, h0, rfl, _, rfl, ?_⟩
      cases m with
      | clip nm p' q r s1 l =>
        have et : toldOn (toldAt rm n) ms t = [⟨nm, picF p' q r s1 d, 1, 1⟩] := by unfold toldOn; rw [hmf, hit]; simp only [hm]
        rw [et] at kk
        refine ite2 (fun _ => ?_) (fun c => absurd (by show decide (V.str "clip" = V.str "clip") = true; simp) c)
        obtain ⟨q0, s0, bp, bq, br, bs, _, _⟩ := gm
        obtain ⟨z2, x2, y2, e3, hz2, hx2, hy2⟩ := id hI2
        cases e3
        refine ⟨_, rfl, zi, _, _, _, rfl, rfl, SqT.of hz2, at5_1, _, rfl, _, rfl, p, _, _, _, rfl, rfl, SqT.of hp, at1, ?_⟩
        refine ⟨_, nm, p', q, r, s1, l, d, rfl, cp_of hI2, q0, s0, sm400 bp, sm400 bq, sm400 br, sm400 bs, sm400 (by have : (0 : Int) ≤ n * 2 ^ 61 := Int.mul_nonneg (by omega) (by decide); omega), fun H3 w3 => ?_⟩
        refine ⟨(by show 3 ≤ sizeLine; decide), fun f hf => ⟨(by show 1 ≤ sizeLine; decide), fun y hy => ?_⟩⟩
        have w4 := same_new hf (.tup [.str nm, .int ((p' * s1 + d * r * q).fdiv (q * s1)), .ref a.n_WHOLE_SHARE])
        have w5 := same_new hy (.lst [.ref f])
        exact kk y _ (((e12.trans w3).trans w4).trans w5) (((e12.trans w3).trans w4).free hy) ⟨_, upd_same, ⟨f, _, rfl, w5 _ _ upd_same, T.sq_WHOLE_SHARE _⟩, trivial⟩
      | nest nm b l =>
        have et : toldOn (toldAt rm n) ms t = toldAt rm n nm (b + d) := by unfold toldOn; rw [hmf, hit]; simp only [hm]
        rw [et] at kk
        refine ite2 (fun c => absurd (show decide (V.str "nest" = V.str "clip") = true from c) (by rw [decS]; decide +kernel)) (fun _ => ?_)
        refine ⟨_, rfl, zi, xi, _, _, rfl, rfl, SqT.of hzi, h0, rfl, _, rfl, ?_⟩
        refine ite2 (fun _ => ?_) (fun c => absurd (by show decide (V.str "nest" = V.str "nest") = true; simp) c)
        have lv := hnest nm b l rfl
        have n0 : n ≠ 0 := by
          intro q
          subst q
          exact lv
        obtain ⟨b0, b1, l1⟩ := gm
        obtain ⟨z2, e3, hz2⟩ := id hI2
        cases e3
        have a1 : atI [V.str "nest", .str nm, .int b, .int l] 1 = some (.str nm) := rfl
        have a2 : atI [V.str "nest", .str nm, .int b, .int l] 2 = some (.int b) := rfl
        refine ⟨_, rfl, _, rfl, zi, _, _, _, rfl, rfl, SqT.of hz2, a1, _, rfl, zi, _, _, _, rfl, rfl, SqT.of hz2, a2, _, rfl, p, _, _, _, rfl, rfl, SqT.of hp, at1, _, _, rfl, rfl, ?_⟩
        refine ⟨rz, nm, b + d, rm, rfl, (hrm n0).same e12, lv, by omega, by omega, fun y H3 e3 hy ht => kk y H3 (e12.trans e3) (e12.free hy) ht⟩
      | gap l =>
        have et : toldOn (toldAt rm n) ms t = [] := by unfold toldOn; rw [hmf, hit]; simp only [hm]
        rw [et] at kk
        refine ite2 (fun c => absurd (show decide (V.str "gap" = V.str "clip") = true from c) (by rw [decS]; decide +kernel)) (fun _ => ?_)
        refine ⟨_, rfl, zi, xi, _, _, rfl, rfl, SqT.of hzi, h0, rfl, _, rfl, ?_⟩
        refine ite2 (fun c => absurd (show decide (V.str "gap" = V.str "nest") = true from c) (by rw [decS]; decide +kernel)) (fun _ => ?_)
        refine ⟨(by show 0 ≤ sizeLine; decide), fun y hy => ?_⟩
        exact kk y _ (e12.trans (same_new hy _)) (e12.free hy) ⟨[], upd_same, trivial⟩
      | mix l =>
        have et : toldOn (toldAt rm n) ms t = [] := by unfold toldOn; rw [hmf, hit]; simp only [hm]
        rw [et] at kk
        refine ite2 (fun c => absurd (show decide (V.str "mix" = V.str "clip") = true from c) (by rw [decS]; decide +kernel)) (fun _ => ?_)
        refine ⟨_, rfl, zi, xi, _, _, rfl, rfl, SqT.of hzi, h0, rfl, _, rfl, ?_⟩
        refine ite2 (fun c => absurd (show decide (V.str "mix" = V.str "nest") = true from c) (by rw [decS]; decide +kernel)) (fun _ => ?_)
        refine ⟨(by show 0 ≤ sizeLine; decide), fun y hy => ?_⟩
        exact kk y _ (e12.trans (same_new hy _)) (e12.free hy) ⟨[], upd_same, trivial⟩
theorem zero_told_at (T : Tx K mg a) : FnOk P w K mg base CX0 7 a.a_told_at a.f_told_at ["room", "name", "moment"] (sp_told_at K 0) := by
  refine T.d_told_at.F.ok sc_told_at (fun vs H Q E h => ?_) (fun cdv A outer s H vs Q E hrn h => ?_)
  · obtain ⟨_, _, _, _, _, _, h, _⟩ := h
    exact h.elim
  · obtain ⟨_, _, _, _, _, _, h, _⟩ := h
    exact h.elim
theorem step_told_at (T : Tx K mg a) (n : Nat) (IH : ∀ {base : Heap}, FnOk P w K mg base CX0 (2 * n + 8) a.a_told_on a.f_told_on ["track", "moment", "room"] (sp_told_on K n)) :
    FnOk P w K mg base CX0 (2 * n + 9) a.a_told_at a.f_told_at ["room", "name", "moment"] (sp_told_at K (n + 1)) := by
  refine T.d_told_at.F.ok sc_told_at (fun vs H Q E h => ?_) (fun cdv A outer s H vs Q E hrn h => ?_)
  · obtain ⟨rz, nm, t, rm, rfl, _⟩ := h
    rfl
  obtain ⟨rz, nm, t, rm, rfl, hR, ⟨ts, hts, htl, hlv⟩, t0, t1, kk⟩ := h
  have hu := hrn.units
  have hu1 : (A.deeper (PyProof.Rows.envOfC (Str.ofString "told_at") (defScope s_told_at) s.heap.objs.size a.a_told_at cdv)).units + 1 < cLine := by omega
  refine ⟨_, (pss_cons (ps_set (i := 3) sc_told_at.nd rfl (Or.inl rfl) (pe_ix ix_tup (pe_dget hu1 (pe_ix ix_tup (pv 0) pe_int (fun _ _ => rfl)) (pv 1) (fun _ _ => rfl)) pe_int (fun _ _ => rfl)))
      (pss_cons (ps_for PassesOwn.never rfl (pi_list (pv 3)) (pg_name (i := 4) sc_told_at.nd rfl (Or.inl rfl)) (pss_cons (ps_set (i := 5) sc_told_at.nd rfl (Or.inl rfl) (pe_def T.d_told_on IH hrn rfl (pa_cons (pv 4) (pa_cons (pv 2) (pa_cons (pv 0) pa_nil))) (Nat.le_refl _)))
      (pss_one (ps_if (pt_cmpR (op_neR hu) (pv 5) (pe_lst pa_nil) (nomark _)) (pss_one (ps_ret (pv 5))) pss_nil))))
      (pss_one (ps_ret (pe_lst pa_nil))))), ?_⟩
  have et : toldAt rm (n + 1) nm t = firstNE (ts.map fun ms => toldOn (toldAt rm n) ms t) := by rw [toldAt, hts]; rfl
  rw [et] at kk
  obtain ⟨re, td, kvs, h1, h2, h3⟩ := id hR
  obtain ⟨v, hv, tt, tl, ti, zs, rfl, h4, h5, h6⟩ := h3 nm ts hts
  refine ⟨_, rfl, rz, _, _, _, rfl, rfl, SqT.of h1, at1, _, rfl, td, _, rfl, .inl ⟨kvs, Sum.inr nm, h2, rfl, hv.symm⟩, tt, _, _, _, rfl, rfl, SqT.of h4, at0, ?_⟩
  refine ⟨_, rfl, tl, rfl, ⟨_, SqL.of h5⟩, for_list (K := K) (a := tl) (xs := zs) (fun i σ H' => ∃ (o1 o2 : Option V), σ = [some (.ref rz), some (.str nm), some (.int t), some (.ref tl), o1, o2] ∧ firstNE ((ts.drop i).map fun ms => toldOn (toldAt rm n) ms t) = firstNE (ts.map fun ms => toldOn (toldAt rm n) ms t) ∧ Same H H') ⟨none, none, rfl, rfl, Same.refl _⟩ ?_ ?_ ?_⟩
  · rintro i σ H' hi ⟨o1, o2, rfl, _, e⟩
    exact SqL.of (e _ _ h5)
  · rintro i x σ H' hx ⟨o1, o2, rfl, hap, e⟩
    obtain ⟨ms, z, hms, rfl, hT⟩ := h6.get hx
    rw [drop_cons hms, List.map_cons, firstNE] at hap
    refine ⟨_, rfl, _, rfl, _, rfl, z, rz, ms, t, rm, rfl, hT.same e, hlv ms (List.mem_of_getElem? hms), fun _ => hR.same e, t0, ?_, fun y H1 e1 hy ht => ?_⟩
    · have e1 : ((n + 1 : Nat) : Int) = (n : Int) + 1 := by omega
      rw [e1, Int.add_mul] at t1
      omega
    refine ⟨_, rfl, (by show 0 ≤ sizeLine; decide), fun en hen => neTN (ht.same (same_new hen _)) upd_same ⟨_, rfl, ?_⟩⟩
    have w2 := same_new hen (.lst [])
    cases hq : (toldOn (toldAt rm n) ms t).isEmpty with
    | true =>
      rw [hq, if_pos rfl] at hap
      exact iteF ⟨_, _, rfl, hap, (e.trans e1).trans w2⟩
    | false =>
      rw [hq, if_neg (by decide)] at hap
      rw [← hap] at kk
      exact iteT ⟨_, rfl, kk y _ ((e.trans e1).trans w2) (e.free hy) (ht.same w2)⟩
  · rintro σ H' ⟨o1, o2, rfl, hap, e⟩
    rw [h6.len, List.drop_length] at hap
    have hn : firstNE ([].map fun ms => toldOn (toldAt rm n) ms t) = [] := rfl
    rw [hn] at hap
    rw [← hap] at kk
    refine ⟨(by show 0 ≤ sizeLine; decide), fun y hy => ?_⟩
    exact kk y _ (e.trans (same_new hy _)) (e.free hy) ⟨[], upd_same, trivial⟩
theorem ok_told (T : Tx K mg a) : ∀ (n : Nat), (∀ {base : Heap}, FnOk P w K mg base CX0 (2 * n + 7) a.a_told_at a.f_told_at ["room", "name", "moment"] (sp_told_at K n)) ∧ (∀ {base : Heap}, FnOk P w K mg base CX0 (2 * n + 8) a.a_told_on a.f_told_on ["track", "moment", "room"] (sp_told_on K n))
  | 0 => ⟨zero_told_at T, step_told_on T 0 (zero_told_at T)⟩
  | n + 1 => by
    have ih := ok_told T n
    have h1 : ∀ {base : Heap}, FnOk P w K mg base CX0 (2 * (n + 1) + 7) a.a_told_at a.f_told_at ["room", "name", "moment"] (sp_told_at K (n + 1)) := step_told_at T n ih.2
    exact ⟨h1, step_told_on T (n + 1) h1⟩
/-- all but z stays -/
def SB (z : Addr) (H H' : Hp) : Prop := ∀ b u, b ≠ z → H b = some u → H' b = some u
theorem SB.refl (z : Addr) (H : Hp) : SB z H H := fun _ _ _ h => h
theorem SB.trans {z : Addr} {H H1 H2 : Hp} (a : SB z H H1) (b : SB z H1 H2) : SB z H H2 := fun c u n h => b c u n (a c u n h)
theorem sb_upd {z : Addr} {H : Hp} {o : HO} : SB z H (upd H z o) := fun b u n h => by rw [upd_ne n]; exact h
theorem SB.ts {z : Addr} {H H' : Hp} {xs : List V} (e : SB z H H') (h : H z = some (.lst xs)) : TS H H' := fun b ys hb => e b _ (ne_of hb h (by intro q; cases q)) hb
theorem SB.free {z : Addr} {H H' : Hp} (e : SB z H H') {y : Addr} (ny : y ≠ z) (h : H' y = none) : H y = none := by
  cases q : H y with
  | none => rfl
  | some u => rw [e y u ny q] at h; cases h

/-! ### tables and rooms, whole -/
def TabF (H : Hp) (v : V) (ts : List (List Im)) (tie : List Int) : Prop := ∃ (tt tl ti : Addr) (zs : List V), v = .ref tt ∧ H tt = some (.tup [.ref tl, .ref ti]) ∧ H tl = some (.lst zs) ∧ TrsAt H ts zs ∧ H ti = some (.lst (tie.map V.int))
theorem TabF.same {H H' : Hp} (e : Same H H') {v : V} {ts : List (List Im)} {tie : List Int} (h : TabF H v ts tie) : TabF H' v ts tie :=
  let ⟨tt, tl, ti, zs, h1, h2, h3, h4, h5⟩ := h; ⟨tt, tl, ti, zs, h1, e _ _ h2, e _ _ h3, h4.same e, e _ _ h5⟩
theorem Tr.sb {z y : Addr} {H H' : Hp} {ms : List Im} (e : SB z H H') (ny : y ≠ z) (ts : TS H H') (h : Tr H y ms) : Tr H' y ms := let ⟨vs, h1, h2⟩ := h; ⟨vs, e _ _ ny h1, h2.ts ts⟩
/-- a dict is written, or frozen: nothing else -/
theorem sbD_ts {z : Addr} {H H' : Hp} {kvs : List (Key × V)} (e : SB z H H') (h : H z = some (.dK kvs)) : TS H H' := fun b ys hb => e b _ (ne_of hb h (by intro q; cases q)) hb
theorem TrsAt.sbD {z : Addr} {H H' : Hp} {kvs : List (Key × V)} (e : SB z H H') (h : H z = some (.dK kvs)) : ∀ {ts : List (List Im)} {vs : List V}, TrsAt H ts vs → TrsAt H' ts vs
  | [], [], _ => trivial
  | _ :: _, _ :: _, ⟨⟨y, h1, h2⟩, r⟩ => ⟨⟨y, h1, by obtain ⟨us, q, _⟩ := id h2; exact h2.sb e (ne_of q h (by intro q; cases q)) (sbD_ts e h)⟩, TrsAt.sbD e h r⟩
  | [], _ :: _, h => h.elim
  | _ :: _, [], h => h.elim
theorem TabF.sbD {z : Addr} {H H' : Hp} {kvs : List (Key × V)} (e : SB z H H') (h : H z = some (.dK kvs)) {v : V} {ts : List (List Im)} {tie : List Int} (hT : TabF H v ts tie) : TabF H' v ts tie :=
  let ⟨tt, tl, ti, zs, h1, h2, h3, h4, h5⟩ := hT
  ⟨tt, tl, ti, zs, h1, sbD_ts e h _ _ h2, e _ _ (ne_of h3 h (by intro q; cases q)) h3, h4.sbD e h, e _ _ (ne_of h5 h (by intro q; cases q)) h5⟩
abbrev Tb := Str × List (List Im) × List Int
def TbsAt (H : Hp) : List Tb → List (Key × V) → Prop
  | [], [] => True
  | (nm, ts, tie) :: r, (k, v) :: kv => k = Sum.inr nm ∧ TabF H v ts tie ∧ TbsAt H r kv
  | _, _ => False
theorem TbsAt.same {H H' : Hp} (e : Same H H') : ∀ {tb : List Tb} {kv : List (Key × V)}, TbsAt H tb kv → TbsAt H' tb kv
  | [], [], _ => trivial
  | (_, _, _) :: _, (_, _) :: _, ⟨h1, h2, h3⟩ => ⟨h1, h2.same e, TbsAt.same e h3⟩
  | [], (_, _) :: _, h => h.elim
  | (_, _, _) :: _, [], h => h.elim
theorem TbsAt.sbD {z : Addr} {H H' : Hp} {kvs : List (Key × V)} (e : SB z H H') (h : H z = some (.dK kvs)) : ∀ {tb : List Tb} {kv : List (Key × V)}, TbsAt H tb kv → TbsAt H' tb kv
  | [], [], _ => trivial
  | (_, _, _) :: _, (_, _) :: _, ⟨h1, h2, h3⟩ => ⟨h1, h2.sbD e h, TbsAt.sbD e h h3⟩
  | [], (_, _) :: _, h => h.elim
  | (_, _, _) :: _, [], h => h.elim
theorem TbsAt.len {H : Hp} : ∀ {tb : List Tb} {kv : List (Key × V)}, TbsAt H tb kv → kv.length = tb.length
  | [], [], _ => rfl
  | (_, _, _) :: _, (_, _) :: _, ⟨_, _, h3⟩ => by rw [List.length_cons, List.length_cons, TbsAt.len h3]
  | [], (_, _) :: _, h => h.elim
  | (_, _, _) :: _, [], h => h.elim
theorem TbsAt.get {H : Hp} : ∀ {tb : List Tb} {kv : List (Key × V)} {i : Nat} {k : Key} {v : V}, TbsAt H tb kv → kv[i]? = some (k, v) → ∃ nm ts tie, tb[i]? = some (nm, ts, tie) ∧ k = Sum.inr nm ∧ TabF H v ts tie
  | [], [], _, _, _, _, h => by simp at h
  | (nm, ts, tie) :: _, (k0, v0) :: _, 0, k, v, ⟨h1, h2, _⟩, e => by
    have e' : (k0, v0) = (k, v) := by simpa using e
    cases e'
    exact ⟨nm, ts, tie, rfl, h1, h2⟩
  | (_, _, _) :: _, (_, _) :: _, i + 1, k, v, ⟨_, _, h3⟩, e => by
    obtain ⟨nm, ts, tie, q1, q2⟩ := TbsAt.get (i := i) h3 (by simpa using e)
    exact ⟨nm, ts, tie, by simpa using q1, q2⟩
  | [], (_, _) :: _, _, _, _, h, _ => h.elim
  | (_, _, _) :: _, [], _, _, _, h, _ => h.elim
theorem TbsAt.app {H : Hp} : ∀ {tb : List Tb} {kv : List (Key × V)} {nm : Str} {ts : List (List Im)} {tie : List Int} {v : V}, TbsAt H tb kv → TabF H v ts tie → TbsAt H (tb ++ [(nm, ts, tie)]) (kv ++ [(Sum.inr nm, v)])
  | [], [], _, _, _, _, _, h => ⟨rfl, h, trivial⟩
  | (_, _, _) :: _, (_, _) :: _, _, _, _, _, ⟨h1, h2, h3⟩, h => ⟨h1, h2, h3.app h⟩
  | [], (_, _) :: _, _, _, _, _, h, _ => h.elim
  | (_, _, _) :: _, [], _, _, _, _, h, _ => h.elim
theorem TbsAt.no {H : Hp} : ∀ {tb : List Tb} {kv : List (Key × V)} {nm : Str}, TbsAt H tb kv → nm ∉ tb.map (·.1) → valV kv (Sum.inr nm) = none
  | [], [], _, _, _ => rfl
  | (n0, _, _) :: r, (k, v) :: kv, nm, ⟨h1, _, h3⟩, hn => by
    rw [List.map_cons, List.mem_cons] at hn
    rw [valV_neg (p := (k, v)) (by intro e; apply hn; left; rw [h1] at e; exact (Sum.inr.inj e).symm)]
    exact TbsAt.no h3 fun q => hn (.inr q)
  | [], (_, _) :: _, _, h, _ => h.elim
  | (_, _, _) :: _, [], _, h, _ => h.elim
theorem TbsAt.val {H : Hp} : ∀ {tb : List Tb} {kv : List (Key × V)} {i : Nat} {nm : Str} {ts : List (List Im)} {tie : List Int}, TbsAt H tb kv → (tb.map (·.1)).Nodup → tb[i]? = some (nm, ts, tie) → ∃ v, valV kv (Sum.inr nm) = some v ∧ TabF H v ts tie
  | [], [], _, _, _, _, _, _, e => by simp at e
  | (n0, t0, i0) :: r, (k, v) :: kv, 0, nm, ts, tie, ⟨h1, h2, h3⟩, _, e => by
    have e' : (n0, t0, i0) = (nm, ts, tie) := by simpa using e
    cases e'
    exact ⟨v, valV_pos (p := (k, v)) h1, h2⟩
  | (n0, t0, i0) :: r, (k, v) :: kv, i + 1, nm, ts, tie, ⟨h1, h2, h3⟩, hnd, e => by
    rw [List.map_cons, List.nodup_cons] at hnd
    have e1 : r[i]? = some (nm, ts, tie) := by simpa using e
    obtain ⟨v', q1, q2⟩ := TbsAt.val h3 hnd.2 e1
    refine ⟨v', ?_, q2⟩
    rw [valV_neg (p := (k, v)) (by intro q; rw [h1] at q; exact hnd.1 (by rw [Sum.inr.inj q]; exact List.mem_map.mpr ⟨_, List.mem_of_getElem? e1, rfl⟩))]
    exact q1
  | [], (_, _) :: _, _, _, _, _, h, _, _ => h.elim
  | (_, _, _) :: _, [], _, _, _, _, h, _, _ => h.elim
/-- a table as a tree -/
def tabD (ts : List (List Im)) (tie : List Int) : D := .tup [.lst (ts.map fun ms => .lst (ms.map Im.d)), .lst ((tie.map V.int).map D.leaf)]
theorem TrsAt.rep {H : Hp} : ∀ {ts : List (List Im)} {vs : List V}, TrsAt H ts vs → Reps K H (ts.map fun ms => .lst (ms.map Im.d)) vs
  | [], [], _ => by unfold List.map Reps; trivial
  | _ :: _, _ :: _, ⟨⟨z, h1, h2⟩, r⟩ => by unfold List.map Reps; subst h1; exact ⟨h2.rep, r.rep⟩
  | [], _ :: _, h => h.elim
  | _ :: _, [], h => h.elim
theorem TabF.rep {H : Hp} {v : V} {ts : List (List Im)} {tie : List Int} (h : TabF H v ts tie) : Rep K H (tabD ts tie) v := by
  obtain ⟨tt, tl, ti, zs, rfl, h2, h3, h4, h5⟩ := h
  unfold tabD Rep
  refine ⟨tt, _, rfl, SqT.of h2, ?_⟩
  unfold Reps Reps Reps
  refine ⟨?_, rep_ints h5, trivial⟩
  unfold Rep
  exact ⟨tl, zs, rfl, SqL.of h3, h4.rep⟩
/-! ### the checks of rooms that are good -/
def sp_check_clip : Sp := fun vs H Q _ => ∃ (z rd : Addr) (n : Str) (p q r s len m : Int), vs = [.ref z, .ref rd] ∧ Ch H z n p q r s len ∧ Reel H rd n m ∧ nameB n = true ∧ n.length ≤ 1000 ∧ Bn 700 p q r s ∧ Int.gcd p q = 1 ∧ Int.gcd r s = 1 ∧ 1 ≤ len ∧ len.natAbs < 2 ^ 600 ∧
  InR (Vk p q r s 0) (q * s) m ∧ InR (Vk p q r s (len - 1)) (q * s) m ∧ ∀ H', Same H H' → Q .non H'
theorem ok_check_clip (T : Tx K mg a) : FnOk P w K mg base CX0 6 a.a_check_clip a.f_check_clip ["item", "reels"] sp_check_clip := by
  refine T.d_check_clip.F.ok sc_check_clip (fun vs H Q E h => ?_) (fun cdv A outer s H vs Q E hr h => ?_)
  · obtain ⟨z, rd, n, p, q, r, s, len, m, rfl, _⟩ := h
    rfl
  obtain ⟨z, rd, n, p, q, r, s', len, m, rfl, hc, hrd, hn, hl, hb, gq, gs, l1, bl, i0, i1, kg⟩ := h
  have hu1 := hu_of hr
  refine ⟨_, (pss_cons (ps_if (pt_not (pt_val (pe_def T.d_has_clip_form (ok_has_clip_form T) hr rfl (pa_cons (pv 0) pa_nil)))) pss_never pss_nil)
      (pss_cons (ps_if (pt_cmp (pc_dnotin hu1 (pe_ix ix_tup (pv 0) pe_int (fun _ _ => rfl)) (pv 1))) pss_never pss_nil)
      (pss_cons (ps_set (i := 2) sc_check_clip.nd rfl (Or.inl rfl) (pe_dget hu1 (pv 1) (pe_ix ix_tup (pv 0) pe_int (fun _ _ => rfl)) (fun _ _ => rfl)))
      (pss_one (ps_if (PW.pt (pw_or (pt_not (pt_val (pe_def T.d_is_there (ok_is_there T) hr rfl (pa_cons (pe_def T.d_picture_at (ok_picture_at T) hr rfl (pa_cons (pv 0) (pa_cons pe_int pa_nil))) (pa_cons (pv 2) pa_nil))))) (pw_or1 (pt_not (pt_val (pe_def T.d_is_there (ok_is_there T) hr rfl (pa_cons (pe_def T.d_picture_at (ok_picture_at T) hr rfl (pa_cons (pv 0) (pa_cons (pe_op op_sub (pe_ix ix_tup (pv 0) pe_int (fun _ _ => rfl)) pe_int) pa_nil))) (pa_cons (pv 2) pa_nil)))))))) pss_never pss_nil))))), ?_⟩
  have hqs := Int.mul_pos hb.q0 hb.s0
  have h0 : ∀ {H' : Hp}, Same H H' → ∃ z1 z2, SqT K H' z [.str "clip", .str n, .ref z1, .ref z2, .int len] := fun e => let ⟨z1, z2, h1, _, _⟩ := (hc.same e).ex; ⟨z1, z2, SqT.of h1⟩
  refine ⟨_, rfl, z, n, p, q, r, s', len, rfl, hc, hn, hl, hb.q0, gq, hb.s0, gs, l1, fun H1 s1 => ⟨true, rfl, iteF ?_⟩⟩
  obtain ⟨z1, z2, t1⟩ := h0 s1
  refine ⟨_, rfl, z, _, _, _, rfl, rfl, t1, at5_1, _, rfl, rd, _, rfl, (hrd.same s1).get, _, rfl, iteF ?_⟩
  refine ⟨_, rfl, _, rfl, z, _, _, _, rfl, rfl, t1, at5_1, rd, _, rfl, (hrd.same s1).get, ?_⟩
  refine ⟨_, rfl, _, n, p, q, r, s', len, 0, rfl, (hc.same s1).cp, hb.q0, hb.s0, hb.bp, hb.bq, hb.br, hb.bs, pmono (n := 30) (by decide), fun H2 s2 => ?_⟩
  have s2 := s1.trans s2
  refine ⟨_, rfl, _, m, rfl, _, rfl, ?_⟩
  have e : thB ((p * s' + 0 * r * q).fdiv (q * s')) m = true := (thB_iff hqs).mpr i0
  rw [e]
  refine iteF ?_
  obtain ⟨z1, z2, t2⟩ := h0 s2
  have bl1 : (len - 1).natAbs < 2 ^ 700 := by
    have e : (2 : Nat) ^ 600 ≤ 2 ^ 700 := Nat.pow_le_pow_right (by decide) (by decide)
    omega
  refine ⟨_, rfl, _, rfl, z, _, _, _, rfl, rfl, t2, at5_4, _, _, rfl, rfl, _, n, p, q, r, s', len, len - 1, rfl, (hc.same s2).cp, hb.q0, hb.s0, hb.bp, hb.bq, hb.br, hb.bs, bl1, fun H3 s3 => ?_⟩
  have s3 := s2.trans s3
  refine ⟨_, rfl, _, m, rfl, _, rfl, ?_⟩
  have e : thB ((p * s' + (len - 1) * r * q).fdiv (q * s')) m = true := (thB_iff hqs).mpr i1
  rw [e]
  exact iteF (kg H3 s3)
def sp_is_length : Sp := fun vs H Q _ => ∃ i : Int, vs = [.int i] ∧ 1 ≤ i ∧ Q (.bl true) H
theorem ok_is_length (T : Tx K mg a) : FnOk P w K mg base CX0 2 a.a_is_length a.f_is_length ["thing"] sp_is_length := by
  refine T.d_is_length.F.ok sc_is_length (fun vs H Q E h => ?_) (fun cdv A outer s H vs Q E hr h => ?_)
  · obtain ⟨i, rfl, _⟩ := h
    rfl
  obtain ⟨i, rfl, i1, q⟩ := h
  refine ⟨_, (pss_one (ps_ret (pe_and (pe_def T.d_is_whole (ok_is_whole T) hr rfl (pa_cons (pv 0) pa_nil)) (pe_one (pe_cmpR op_ge (pv 0) pe_int (nomark _)))))), ?_⟩
  rw [← decide_eq_true i1] at q
  exact ⟨_, rfl, i, rfl, true, rfl, iteT ⟨_, rfl, _, _, rfl, rfl, q⟩⟩
def nestB : Im → Bool
  | .nest .. => true
  | _ => false
/-- an item but a clip, good by itself -/
def NiceO : Im → Prop
  | .clip .. => False
  | .nest n b l => nameB n = true ∧ n.length ≤ 1000 ∧ 0 ≤ b ∧ 1 ≤ l
  | .gap l => 1 ≤ l
  | .mix l => 1 ≤ l
def sp_has_nest_form : Sp := fun vs H Q _ => ∃ (v : V) (m : Im), vs = [v] ∧ IsI H m v ∧ NiceO m ∧ ∀ H', Same H H' → Q (.bl (nestB m)) H'
theorem ok_has_nest_form (T : Tx K mg a) : FnOk P w K mg base CX0 3 a.a_has_nest_form a.f_has_nest_form ["item"] sp_has_nest_form := by
  refine T.d_has_nest_form.F.ok sc_has_nest_form (fun vs H Q E h => ?_) (fun cdv A outer s H vs Q E hr h => ?_)
  · obtain ⟨v, m, rfl, _⟩ := h
    rfl
  obtain ⟨v, m, rfl, hI, hn, kk⟩ := h
  refine ⟨_, (pss_cons (ps_if (PW.pt (pw_or (pt_not (pt_val (pe_callB call_isinst rfl T.b_isinstance rfl (pa_cons (pv 0) (pa_cons (pe_ty rfl T.b_tuple rfl) pa_nil))))) (pw_or1 (pt_cmpR op_ne (pe_callB call_len_seq rfl T.b_len rfl (pa_cons (pv 0) pa_nil)) pe_int (nomark _))))) (pss_one (ps_ret pe_bl)) pss_nil)
      (pss_cons (ps_if (PW.pt (pw_or (pt_cmpR op_ne (pe_ix ix_tup (pv 0) pe_int (fun _ _ => rfl)) pe_str (nomark _)) (pw_or1 (pt_not (pt_val (pe_def T.d_is_name (ok_is_name T) hr rfl (pa_cons (pe_ix ix_tup (pv 0) pe_int (fun _ _ => rfl)) pa_nil))))))) (pss_one (ps_ret pe_bl)) pss_nil)
      (pss_one (ps_ret (pe_and (pe_def T.d_is_whole (ok_is_whole T) hr rfl (pa_cons (pe_ix ix_tup (pv 0) pe_int (fun _ _ => rfl)) pa_nil)) (pe_and (pe_cmpR op_ge (pe_ix ix_tup (pv 0) pe_int (fun _ _ => rfl)) pe_int (nomark _)) (pe_one (pe_def T.d_is_length (ok_is_length T) hr rfl (pa_cons (pe_ix ix_tup (pv 0) pe_int (fun _ _ => rfl)) pa_nil))))))))), ?_⟩
  cases m with
  | clip => exact hn.elim
  | gap l =>
    obtain ⟨z, rfl, hz⟩ := hI
    refine ⟨_, rfl, _, _, _, true, rfl, .tup hz, ⟨_, .inl ⟨rfl, rfl⟩⟩, true, rfl, iteF ?_⟩
    exact ⟨_, rfl, _, _, rfl, .inr (SqT.of hz), rfl, _, rfl, iteT (kk H (Same.refl _))⟩
  | mix l =>
    obtain ⟨z, rfl, hz⟩ := hI
    refine ⟨_, rfl, _, _, _, true, rfl, .tup hz, ⟨_, .inl ⟨rfl, rfl⟩⟩, true, rfl, iteF ?_⟩
    exact ⟨_, rfl, _, _, rfl, .inr (SqT.of hz), rfl, _, rfl, iteT (kk H (Same.refl _))⟩
  | nest n b l =>
    obtain ⟨z, rfl, hz⟩ := hI
    obtain ⟨h1, h2, h3, h4⟩ := hn
    have a0 : atI [V.str "nest", .str n, .int b, .int l] 0 = some (.str "nest") := rfl
    have a1 : atI [V.str "nest", .str n, .int b, .int l] 1 = some (.str n) := rfl
    have a2 : atI [V.str "nest", .str n, .int b, .int l] 2 = some (.int b) := rfl
    have a3 : atI [V.str "nest", .str n, .int b, .int l] 3 = some (.int l) := rfl
    refine ⟨_, rfl, _, _, _, true, rfl, .tup hz, ⟨_, .inl ⟨rfl, rfl⟩⟩, true, rfl, iteF ?_⟩
    refine ⟨_, rfl, _, _, rfl, .inr (SqT.of hz), rfl, _, rfl, iteF ?_⟩
    refine ⟨_, rfl, _, _, _, _, rfl, rfl, SqT.of hz, a0, rfl, _, rfl, iteNS rfl ?_⟩
    refine ⟨_, rfl, _, _, _, _, rfl, rfl, SqT.of hz, a1, n, rfl, h2, fun H1 s1 => ?_⟩
    rw [h1]
    have hz1 := s1 _ _ hz
    refine ⟨true, rfl, iteF ?_⟩
    refine ⟨_, rfl, _, _, _, _, rfl, rfl, SqT.of hz1, a2, b, rfl, true, rfl, iteT ?_⟩
    refine ⟨_, rfl, _, _, _, _, rfl, rfl, SqT.of hz1, a2, _, _, rfl, rfl, true, congrArg V.bl (decide_eq_true h3), iteT ?_⟩
    exact ⟨_, rfl, _, _, _, _, rfl, rfl, SqT.of hz1, a3, l, rfl, h4, kk H1 s1⟩
def sp_has_gap_or_mix_form : Sp := fun vs H Q _ => ∃ (v : V) (m : Im), vs = [v] ∧ IsI H m v ∧ NiceO m ∧ nestB m = false ∧ ∀ H', Same H H' → Q (.bl true) H'
theorem ok_has_gap_or_mix_form (T : Tx K mg a) : FnOk P w K mg base CX0 3 a.a_has_gap_or_mix_form a.f_has_gap_or_mix_form ["item"] sp_has_gap_or_mix_form := by
  refine T.d_has_gap_or_mix_form.F.ok sc_has_gap_or_mix_form (fun vs H Q E h => ?_) (fun cdv A outer s H vs Q E hr h => ?_)
  · obtain ⟨v, m, rfl, _⟩ := h
    rfl
  obtain ⟨v, m, rfl, hI, hn, hb, kk⟩ := h
  refine ⟨_, (pss_cons (ps_if (PW.pt (pw_or (pt_not (pt_val (pe_callB call_isinst rfl T.b_isinstance rfl (pa_cons (pv 0) (pa_cons (pe_ty rfl T.b_tuple rfl) pa_nil))))) (pw_or1 (pt_cmpR op_ne (pe_callB call_len_seq rfl T.b_len rfl (pa_cons (pv 0) pa_nil)) pe_int (nomark _))))) (pss_one (ps_ret pe_bl)) pss_nil)
      (pss_one (ps_ret (pe_and (pe_cmpR op_in_seq (pe_ix ix_tup (pv 0) pe_int (fun _ _ => rfl)) (pe_tup (pa_cons pe_str (pa_cons pe_str pa_nil))) rfl) (pe_one (pe_def T.d_is_length (ok_is_length T) hr rfl (pa_cons (pe_ix ix_tup (pv 0) pe_int (fun _ _ => rfl)) pa_nil))))))), ?_⟩
  have key : ∀ (z : Addr) (x : Str) (l : Int), H z = some (.tup [.str x, .int l]) → 1 ≤ l → inV (.str x) [.str "gap", .str "mix"] = true → ∀ R : Prop, R → R := fun _ _ _ _ _ _ _ r => r
  cases m with
  | clip => exact hn.elim
  | nest => cases hb
  | gap l =>
    obtain ⟨z, rfl, hz⟩ := hI
    refine ⟨_, rfl, _, _, _, true, rfl, .tup hz, ⟨_, .inl ⟨rfl, rfl⟩⟩, true, rfl, iteF ?_⟩
    refine ⟨_, rfl, _, _, rfl, .inr (SqT.of hz), rfl, _, rfl, iteF ?_⟩
    refine ⟨_, rfl, _, _, _, _, rfl, rfl, SqT.of hz, at0, (by show 2 ≤ sizeLine; decide), fun t ht => ?_⟩
    have w1 := same_new ht (.tup [.str "gap", .str "mix"])
    refine ⟨t, _, rfl, .inr (SqT.of upd_same), rfl, rfl, true, (by decide +kernel), iteT ?_⟩
    exact ⟨_, rfl, _, _, _, _, rfl, rfl, SqT.of (w1 _ _ hz), at1, l, rfl, hn, kk _ w1⟩
  | mix l =>
    obtain ⟨z, rfl, hz⟩ := hI
    refine ⟨_, rfl, _, _, _, true, rfl, .tup hz, ⟨_, .inl ⟨rfl, rfl⟩⟩, true, rfl, iteF ?_⟩
    refine ⟨_, rfl, _, _, rfl, .inr (SqT.of hz), rfl, _, rfl, iteF ?_⟩
    refine ⟨_, rfl, _, _, _, _, rfl, rfl, SqT.of hz, at0, (by show 2 ≤ sizeLine; decide), fun t ht => ?_⟩
    have w1 := same_new ht (.tup [.str "gap", .str "mix"])
    refine ⟨t, _, rfl, .inr (SqT.of upd_same), rfl, rfl, true, (by decide +kernel), iteT ?_⟩
    exact ⟨_, rfl, _, _, _, _, rfl, rfl, SqT.of (w1 _ _ hz), at1, l, rfl, hn, kk _ w1⟩
/-- the word of the item at a place -/
def kindF (ms : List Im) (i : Int) : Str := if i < 0 then "" else match ms[i.toNat]? with
  | some m => m.wd
  | none => ""
theorem kindF_nat {ms : List Im} {i : Nat} {m : Im} (h : ms[i]? = some m) {k : Int} (hk : k = (i : Int)) : kindF ms k = m.wd := by
  subst hk
  unfold kindF
  rw [if_neg (by omega)]
  have e : ((i : Int)).toNat = i := by omega
  rw [e, h]
def sp_kind_at : Sp := fun vs H Q _ => ∃ (z : Addr) (ms : List Im) (i : Int), vs = [.ref z, .int i] ∧ Tr H z ms ∧ Q (.str (kindF ms i)) H
theorem ok_kind_at (T : Tx K mg a) : FnOk P w K mg base CX0 1 a.a_kind_at a.f_kind_at ["track", "place"] sp_kind_at := by
  refine T.d_kind_at.F.ok sc_kind_at (fun vs H Q E h => ?_) (fun cdv A outer s H vs Q E hr h => ?_)
  · obtain ⟨z, ms, i, rfl, _⟩ := h
    rfl
  obtain ⟨z, ms, i, rfl, ⟨vs, hz, his⟩, q⟩ := h
  refine ⟨_, (pss_cons (ps_if (PW.pt (pw_or (pt_cmpR op_lt (pv 1) pe_int (nomark _)) (pw_or1 (pt_cmpR op_ge (pv 1) (pe_callB call_len_seq rfl T.b_len rfl (pa_cons (pv 0) pa_nil)) (nomark _))))) (pss_one (ps_ret pe_str)) pss_nil)
      (pss_one (ps_ret (pe_ix ix_tup (pe_ix ix_list (pv 0) (pv 1) (fun _ _ => rfl)) pe_int (fun _ _ => rfl))))), ?_⟩
  have hl := his.len
  refine ⟨_, rfl, _, _, rfl, rfl, _, rfl, ?_⟩
  by_cases h0 : i < 0
  · rw [decide_eq_true h0]
    have e : kindF ms i = "" := by unfold kindF; rw [if_pos h0]
    rw [e] at q
    exact iteT (iteT q)
  rw [decide_eq_false h0]
  refine iteF ⟨_, rfl, _, rfl, z, _, rfl, .inl (SqL.of hz), _, _, rfl, rfl, _, rfl, ?_⟩
  by_cases h1 : ((vs.length : Nat) : Int) ≤ i
  · rw [decide_eq_true (show i ≥ ((vs.length : Nat) : Int) from h1)]
    have e : kindF ms i = "" := by
      unfold kindF
      rw [if_neg h0, List.getElem?_eq_none (by omega)]
    rw [e] at q
    exact iteT q
  · rw [decide_eq_false (show ¬ i ≥ ((vs.length : Nat) : Int) from h1)]
    refine iteF ?_
    have hi : i.toNat < ms.length := by omega
    have hm : ms[i.toNat]? = some ms[i.toNat] := List.getElem?_eq_getElem hi
    obtain ⟨v, hv, hI⟩ := his.get' hm
    obtain ⟨zi, xi, rfl, hzi, q0, _⟩ := hI.opn
    have ei : i = ((i.toNat : Nat) : Int) := by omega
    have hat : atI vs i = some (.ref zi) := by
      rw [ei]; exact atI_nat hv
    have e : kindF ms i = ms[i.toNat].wd := kindF_nat hm ei
    rw [e] at q
    exact ⟨_, rfl, _, rfl, z, _, _, _, rfl, rfl, SqL.of hz, hat, zi, xi, _, _, rfl, rfl, SqT.of hzi, q0, q⟩
theorem placeF_mem : ∀ {i : Nat} {ms : List Im} {p : Nat}, p ∈ placeF i ms → i ≤ p ∧ ∃ l, ms[p - i]? = some (.mix l)
  | _, [], _, h => by simp [placeF] at h
  | i, m :: ms, p, h => by
    by_cases hm : m.wd = "mix"
    · obtain ⟨l, rfl⟩ := w_mix hm
      rw [placeF] at h
      rcases List.mem_cons.mp h with rfl | h
      · exact ⟨Nat.le_refl _, l, by simp⟩
      · obtain ⟨h1, l', h2⟩ := placeF_mem h
        have e : p - i = (p - (i + 1)) + 1 := by omega
        exact ⟨by omega, l', by rw [e, List.getElem?_cons_succ]; exact h2⟩
    · rw [placeF_other hm] at h
      obtain ⟨h1, l', h2⟩ := placeF_mem h
      have e : p - i = (p - (i + 1)) + 1 := by omega
      exact ⟨by omega, l', by rw [e, List.getElem?_cons_succ]; exact h2⟩
def sp_is_in_one_form : Sp := fun vs H Q _ => ∃ (z : Addr) (ms : List Im), vs = [.ref z] ∧ Tr H z ms ∧ ms.length ≤ 300 ∧ oneF 0 ms = ms ∧ MixOk ms ∧ ∀ H', Same H H' → Q (.bl true) H'
theorem ok_is_in_one_form (T : Tx K mg a) : FnOk P w K mg base CX0 3 a.a_is_in_one_form a.f_is_in_one_form ["track"] sp_is_in_one_form := by
  refine T.d_is_in_one_form.F.ok sc_is_in_one_form (fun vs H Q E h => ?_) (fun cdv A outer s H vs Q E hr h => ?_)
  · obtain ⟨z, ms, rfl, _⟩ := h
    rfl
  obtain ⟨z, ms, rfl, tT, hml, hof, hmx, kk⟩ := h
  have hu := hr.units
  refine ⟨_, (pss_cons (ps_if (pt_cmpR (op_neR hu) (pe_def T.d_one_form (ok_one_form T) hr rfl (pa_cons (pv 0) pa_nil)) (pv 0) (nomark _)) (pss_one (ps_ret pe_bl)) pss_nil)
      (pss_cons (ps_setCP (i := 1) [] [] sc_is_in_one_form.nd rfl rfl rfl (pi_enum rfl T.b_enumerate (pa_cons (pv 0) pa_nil)) (fun _ _ _ _ => (pt_cmpR op_eq (pe_ix (ixK_tup (K := K) rfl) (pv 1) pe_int (fun _ _ => rfl)) pe_str (nomark _))) (fun _ _ _ _ => (pv 0)))
      (pss_one (ps_ret (pe_callB (call_allB rfl) rfl T.b_all rfl (pa_cons (pe_comp ["track"] [0] rfl (pi_list (pv 1)) (fun _ _ _ _ => (pe_and (pe_cmpR op_eq (pe_def T.d_kind_at (ok_kind_at T) hr rfl (pa_cons (pv 1) (pa_cons (pe_op op_sub (pv 0) pe_int) pa_nil))) pe_str (nomark _)) (pe_one (pe_cmpR op_eq (pe_def T.d_kind_at (ok_kind_at T) hr rfl (pa_cons (pv 1) (pa_cons (pe_op op_add (pv 0) pe_int) pa_nil))) pe_str (nomark _)))))) pa_nil)))))), ?_⟩
  refine ⟨_, rfl, z, ms, rfl, tT, hml, fun y H1 e1 _ tY => ?_⟩
  rw [hof] at tY
  refine ⟨_, rfl, neTr tY (tT.same e1) ⟨_, rfl, iteF ?_⟩⟩
  obtain ⟨xs, hz, his⟩ := tT.same e1
  have hxl := his.len
  refine ⟨_, rfl, z, rfl, ⟨_, SqL.of hz⟩, comp_enumP (K := K) (a := z) (xs := xs) (fun i acc H' => Same H1 H' ∧ acc = (placeF 0 (ms.take i)).map (fun (n : Nat) => V.int (n : Int)) ∧ acc.length ≤ i) ⟨Same.refl _, rfl, by simp⟩ ?_ ?_ ?_⟩
  · rintro i acc H' hi ⟨e, rfl, hal⟩
    exact ⟨SqL.of (e _ _ hz), small1000 (by omega)⟩
  · rintro i x acc H' p hi hx ⟨e, rfl, hal⟩ hp
    obtain ⟨m, hm, hIx⟩ := his.get hx
    have w1 := same_new hp (.tup [.int (i : Int), x])
    have hI := hIx.ts (ts_same (e.trans w1))
    obtain ⟨zi, xi, rfl, hzi, h0, h1⟩ := hI.opn
    have htk : ms.take (i + 1) = ms.take i ++ [m] := by rw [List.take_add_one, hm]; rfl
    have hlt : (ms.take i).length = i := by rw [List.length_take]; omega
    refine ⟨_, rfl, zi, xi, _, _, rfl, rfl, SqT.of hzi, h0, rfl, _, rfl, ite2 (fun c => ?_) (fun c => ?_)⟩
    · have hw : m.wd = "mix" := by simpa using c
      refine ⟨_, rfl, Nxt.mk hi ⟨e.trans w1, ?_, by simp at hal ⊢; omega⟩⟩
      rw [htk, placeF_snoc, if_pos hw, hlt, List.map_append, Nat.zero_add]; rfl
    · have hw : ¬ m.wd = "mix" := by simpa using c
      refine Nxt.mk hi ⟨e.trans w1, ?_, by omega⟩
      rw [htk, placeF_snoc, if_neg hw, List.append_nil]
  rintro acc H2 ⟨e2, rfl, hal⟩ pl hpl
  rw [hxl, List.take_length] at *
  have w3 := same_new hpl (.lst ((placeF 0 ms).map fun (n : Nat) => V.int (n : Int)))
  have hP : (upd H2 pl (.lst ((placeF 0 ms).map fun (n : Nat) => V.int (n : Int)))) pl = some (.lst ((placeF 0 ms).map fun (n : Nat) => V.int (n : Int))) := upd_same
  have e3 := e2.trans w3
  generalize upd H2 pl (.lst ((placeF 0 ms).map fun (n : Nat) => V.int (n : Int))) = H3 at hP e3 ⊢
  have tr3 : Tr H3 z ms := ⟨xs, e3 _ _ hz, his.ts (ts_same e3)⟩
  have hpln : (placeF 0 ms).length ≤ 300 := by simp at hal; omega
  refine ⟨_, rfl, pl, rfl, ⟨_, SqL.of hP⟩, comp_list (K := K) (a := pl) (xs := (placeF 0 ms).map fun (n : Nat) => V.int (n : Int)) (fun i acc H' => H' = H3 ∧ acc = (List.replicate i true).map V.bl) ⟨rfl, rfl⟩ ?_ ?_ ?_⟩
  · rintro i acc H' hi ⟨rfl, rfl⟩
    exact ⟨SqL.of hP, small1000 (by simp at hi ⊢; omega)⟩
  · rintro i x acc H' hi hx ⟨rfl, rfl⟩
    obtain ⟨n, hn, rfl⟩ : ∃ n : Nat, (placeF 0 ms)[i]? = some n ∧ x = .int (n : Int) := by
      rw [List.getElem?_map] at hx
      cases e : (placeF 0 ms)[i]? with
      | none => rw [e] at hx; cases hx
      | some m => rw [e] at hx; exact ⟨m, rfl, (Option.some.inj hx).symm⟩
    obtain ⟨_, l, hl⟩ := placeF_mem (List.mem_of_getElem? hn)
    rw [Nat.sub_zero] at hl
    obtain ⟨n1, ⟨a1, a2, a3, a4, a5, a6, ha⟩, b1, b2, b3, b4, b5, b6, hb⟩ := hmx n l hl
    have k1 : kindF ms ((n : Int) - 1) = "clip" := kindF_nat ha (by omega)
    have k2 : kindF ms ((n : Int) + 1) = "clip" := kindF_nat hb (by omega)
    refine ⟨_, rfl, _, rfl, _, _, rfl, rfl, z, ms, _, rfl, tr3, ?_⟩
    rw [k1]
    refine ⟨rfl, true, (by decide +kernel), iteT ?_⟩
    refine ⟨_, rfl, _, rfl, _, _, rfl, rfl, z, ms, _, rfl, tr3, ?_⟩
    rw [k2]
    refine ⟨rfl, Nxt.mk hi ⟨rfl, ?_⟩⟩
    rw [List.replicate_succ', List.map_append]
    have e : decide (V.str "clip" = V.str "clip") = true := by simp
    rw [e]
    rfl
  · rintro acc H' ⟨rfl, rfl⟩ d hd
    refine ⟨d, _, rfl, SqL.of upd_same, ?_⟩
    have eall : (List.replicate ((placeF 0 ms).map fun (n : Nat) => V.int (n : Int)).length true).all id = true := by simp
    rw [eall]
    exact kk _ ((e1.trans e3).trans (same_new hd _))

/-! ### the most of a mix, where the mix fits -/
def bsum (ms : List Im) (i : Nat) : Int := ((ms.take i).map Im.mo).sum
theorem itemF_border : ∀ (xs : List Im) (b : Int) (i0 : Nat) (m : Im) (ys : List Im), (∀ x ∈ xs, 0 ≤ x.mo) → 0 < m.mo → itemF b i0 (xs ++ m :: ys) (b + (xs.map Im.mo).sum) = some (i0 + xs.length, 0)
  | [], b, i0, m, ys, _, hm => by
    rw [List.nil_append, itemF, if_pos (by simp; omega)]
    simp
  | x :: xs, b, i0, m, ys, hx, hm => by
    have h0 := hx x (by simp)
    have hs : 0 ≤ (xs.map Im.mo).sum := by
      have : ∀ (zs : List Im), (∀ z ∈ zs, 0 ≤ z.mo) → 0 ≤ (zs.map Im.mo).sum := fun zs => by
        induction zs with
        | nil => intro _; simp
        | cons z zs ih => intro h; have := ih fun y hy => h y (by simp [hy]); have := h z (by simp); rw [List.map_cons, List.sum_cons]; omega
      exact this xs fun y hy => hx y (by simp [hy])
    have ih := itemF_border xs (b + x.mo) (i0 + 1) m ys (fun y hy => hx y (by simp [hy])) hm
    rw [List.cons_append, itemF, List.map_cons, List.sum_cons, if_neg (by omega)]
    have e : b + (x.mo + (xs.map Im.mo).sum) = b + x.mo + (xs.map Im.mo).sum := by omega
    rw [e, ih, List.length_cons]
    congr 2
    omega
theorem item_behind {ms : List Im} {i : Nat} {l : Int} {m : Im} (hg : ∀ x ∈ ms, x.g) (hm : ms[i]? = some (.mix l)) (hb : ms[i + 1]? = some m) (h0 : 0 < m.mo) : itemF 0 0 ms (bsum ms i) = some (i + 1, 0) := by
  have e : ms = (ms.take i ++ [.mix l]) ++ m :: ms.drop (i + 2) := by
    conv => lhs; rw [← List.take_append_drop i ms, drop_cons hm, drop_cons hb]
    simp
  have es : ((ms.take i ++ [Im.mix l]).map Im.mo).sum = bsum ms i := by
    unfold bsum
    rw [List.map_append, List.sum_append]
    show _ + (0 + 0) = _
    omega
  have hl : (ms.take i ++ [Im.mix l]).length = i + 1 := by
    have : i < ms.length := (List.getElem?_eq_some_iff.mp hm).1
    rw [List.length_append, List.length_take]
    simp; omega
  have := itemF_border (ms.take i ++ [.mix l]) 0 0 m (ms.drop (i + 2)) (fun x hx => by
    rcases List.mem_append.mp hx with hx | hx
    · exact Im.g_mo (hg x (List.mem_of_mem_take hx))
    · have : x = .mix l := by simpa using hx
      rw [this]; exact Int.le_refl _) h0
  rw [← e, es, hl] at this
  rw [Int.zero_add, Nat.zero_add] at this
  exact this
def sp_place_ahead : Sp := fun vs H Q _ => ∃ (z : Addr) (ms : List Im) (i : Int), vs = [.ref z, .int i] ∧ Tr H z ms ∧ Q (.int (if kindF ms (i - 1) = "mix" then i - 2 else i - 1)) H
theorem ok_place_ahead (T : Tx K mg a) : FnOk P w K mg base CX0 2 a.a_place_ahead a.f_place_ahead ["track", "place"] sp_place_ahead := by
  refine T.d_place_ahead.F.ok sc_place_ahead (fun vs H Q E h => ?_) (fun cdv A outer s H vs Q E hr h => ?_)
  · obtain ⟨z, ms, i, rfl, _⟩ := h
    rfl
  obtain ⟨z, ms, i, rfl, tT, q⟩ := h
  refine ⟨_, (pss_one (ps_ret (pe_ifExp (pt_cmpR op_eq (pe_def T.d_kind_at (ok_kind_at T) hr rfl (pa_cons (pv 0) (pa_cons (pe_op op_sub (pv 1) pe_int) pa_nil))) pe_str (nomark _)) (pe_op op_sub (pv 1) pe_int) (pe_op op_sub (pv 1) pe_int)))), ?_⟩
  refine ⟨_, rfl, _, rfl, _, _, rfl, rfl, z, ms, _, rfl, tT, rfl, _, rfl, ite2 (fun c => ?_) (fun c => ?_)⟩
  · rw [if_pos (by simpa using c)] at q
    exact ⟨_, rfl, _, _, rfl, rfl, q⟩
  · rw [if_neg (by simpa using c)] at q
    exact ⟨_, rfl, _, _, rfl, rfl, q⟩
/-- the places of the two items at a border, of the two clips -/
def nbF (ms : List Im) (t : Int) : Option (Int × Int) := match itemF 0 0 ms t with
  | some (i, d) => if d ≠ 0 ∨ (i : Int) = 0 then none else some (if kindF ms ((i : Int) - 1) = "mix" then (i : Int) - 2 else (i : Int) - 1, (i : Int))
  | none => none
def cbF (ms : List Im) (t : Int) : Option (Int × Int) := match nbF ms t with
  | some (i, j) => if kindF ms i = "clip" ∧ kindF ms j = "clip" then some (i, j) else none
  | none => none
def PrR (H : Hp) (Q : VK) (r : Option (Int × Int)) : Prop := match r with
  | none => ∀ H', Same H H' → Q .non H'
  | some (i, j) => ∀ (p : Addr) (H' : Hp), Same H H' → H' p = some (.tup [.int i, .int j]) → Q (.ref p) H'
def sp_neighbours_at : Sp := fun vs H Q _ => ∃ (z : Addr) (ms : List Im) (t : Int), vs = [.ref z, .int t] ∧ Tr H z ms ∧ PrR H Q (nbF ms t)
theorem ok_neighbours_at (T : Tx K mg a) : FnOk P w K mg base CX0 4 a.a_neighbours_at a.f_neighbours_at ["track", "moment"] sp_neighbours_at := by
  refine T.d_neighbours_at.F.ok sc_neighbours_at (fun vs H Q E h => ?_) (fun cdv A outer s H vs Q E hr h => ?_)
  · obtain ⟨z, ms, t, rfl, _⟩ := h
    rfl
  obtain ⟨z, ms, t, rfl, tT, kk⟩ := h
  refine ⟨_, (pss_cons (ps_set (i := 2) sc_neighbours_at.nd rfl (Or.inl rfl) (pe_def T.d_item_at (ok_item_at T) hr rfl (pa_cons (pv 0) (pa_cons (pv 1) pa_nil))))
      (pss_cons (ps_if (PW.pt (pw_or (pt_cmp (pc_isN (pv 2))) (pw_or (pt_cmpR op_ne (pe_ix ix_tup (pv 2) pe_int (fun _ _ => rfl)) pe_int (nomark _)) (pw_or1 (pt_cmpR op_eq (pe_ix ix_tup (pv 2) pe_int (fun _ _ => rfl)) pe_int (nomark _)))))) (pss_one (ps_ret pe_non)) pss_nil)
      (pss_one (ps_ret (pe_tup (pa_cons (pe_def T.d_place_ahead (ok_place_ahead T) hr rfl (pa_cons (pv 0) (pa_cons (pe_ix ix_tup (pv 2) pe_int (fun _ _ => rfl)) pa_nil))) (pa_cons (pe_ix ix_tup (pv 2) pe_int (fun _ _ => rfl)) pa_nil))))))), ?_⟩
  refine ⟨_, rfl, _, rfl, z, ms, _, rfl, tT, ?_⟩
  unfold nbF at kk
  cases hit : itemF 0 0 ms t with
  | none =>
    rw [hit] at kk
    intro H1 e1
    exact ⟨_, rfl, _, rfl, iteT (kk H1 e1)⟩
  | some x =>
    obtain ⟨i, d⟩ := x
    rw [hit] at kk
    dsimp only at kk
    intro p H1 e1 hp
    refine ⟨_, rfl, _, rfl, ite2 (fun c => absurd c (by simp)) (fun _ => ?_)⟩
    refine ⟨_, rfl, p, _, _, _, rfl, rfl, SqT.of hp, at1, ?_⟩
    refine ⟨rfl, _, rfl, ite2 (fun c => ?_) (fun c => ?_)⟩
    · rw [if_pos (.inl (by simpa using c))] at kk
      exact kk H1 e1
    · refine ⟨_, rfl, p, _, _, _, rfl, rfl, SqT.of hp, at0, ?_⟩
      refine ⟨rfl, _, rfl, ite2 (fun c2 => ?_) (fun c2 => ?_)⟩
      · rw [if_pos (.inr (by simpa using c2))] at kk
        exact kk H1 e1
      · rw [if_neg (fun z => z.elim (fun z => c (by simpa using z)) (fun z => c2 (by simpa using z)))] at kk
        refine ⟨_, rfl, _, rfl, p, _, _, _, rfl, rfl, SqT.of hp, at0, z, ms, _, rfl, tT.same e1, ?_⟩
        refine ⟨_, rfl, p, _, _, _, rfl, rfl, SqT.of hp, at0, (by show 2 ≤ sizeLine; decide), fun q hq => ?_⟩
        exact kk q _ (e1.trans (same_new hq _)) upd_same
def sp_clips_at_border : Sp := fun vs H Q _ => ∃ (z : Addr) (ms : List Im) (t : Int), vs = [.ref z, .int t] ∧ Tr H z ms ∧ PrR H Q (cbF ms t)
theorem ok_clips_at_border (T : Tx K mg a) : FnOk P w K mg base CX0 5 a.a_clips_at_border a.f_clips_at_border ["track", "moment"] sp_clips_at_border := by
  refine T.d_clips_at_border.F.ok sc_clips_at_border (fun vs H Q E h => ?_) (fun cdv A outer s H vs Q E hr h => ?_)
  · obtain ⟨z, ms, t, rfl, _⟩ := h
    rfl
  obtain ⟨z, ms, t, rfl, tT, kk⟩ := h
  refine ⟨_, (pss_cons (ps_set (i := 2) sc_clips_at_border.nd rfl (Or.inl rfl) (pe_def T.d_neighbours_at (ok_neighbours_at T) hr rfl (pa_cons (pv 0) (pa_cons (pv 1) pa_nil))))
      (pss_cons (ps_if (PW.pt (pw_or (pt_cmp (pc_isN (pv 2))) (pw_or (pt_cmpR op_ne (pe_def T.d_kind_at (ok_kind_at T) hr rfl (pa_cons (pv 0) (pa_cons (pe_ix ix_tup (pv 2) pe_int (fun _ _ => rfl)) pa_nil))) pe_str (nomark _)) (pw_or1 (pt_cmpR op_ne (pe_def T.d_kind_at (ok_kind_at T) hr rfl (pa_cons (pv 0) (pa_cons (pe_ix ix_tup (pv 2) pe_int (fun _ _ => rfl)) pa_nil))) pe_str (nomark _)))))) (pss_one (ps_ret pe_non)) pss_nil)
      (pss_one (ps_ret (pv 2))))), ?_⟩
  refine ⟨_, rfl, _, rfl, z, ms, _, rfl, tT, ?_⟩
  unfold cbF at kk
  cases hit : nbF ms t with
  | none =>
    rw [hit] at kk
    intro H1 e1
    exact ⟨_, rfl, _, rfl, iteT (kk H1 e1)⟩
  | some x =>
    obtain ⟨i, j⟩ := x
    rw [hit] at kk
    dsimp only at kk
    intro p H1 e1 hp
    refine ⟨_, rfl, _, rfl, ite2 (fun c => absurd c (by simp)) (fun _ => ?_)⟩
    refine ⟨_, rfl, _, rfl, p, _, _, _, rfl, rfl, SqT.of hp, at0, z, ms, _, rfl, tT.same e1, ?_⟩
    refine ⟨rfl, _, rfl, ite2 (fun c => ?_) (fun c => ?_)⟩
    · rw [if_neg (fun z => absurd c (by simpa using z.1))] at kk
      exact kk H1 e1
    · refine ⟨_, rfl, _, rfl, p, _, _, _, rfl, rfl, SqT.of hp, at1, z, ms, _, rfl, tT.same e1, ?_⟩
      refine ⟨rfl, _, rfl, ite2 (fun c2 => ?_) (fun c2 => ?_)⟩
      · rw [if_neg (fun z => absurd c2 (by simpa using z.2))] at kk
        exact kk H1 e1
      · rw [if_pos ⟨by simpa using c, by simpa using c2⟩] at kk
        exact ⟨_, rfl, kk p H1 e1 hp⟩
theorem cbF_mix {ms : List Im} {i : Nat} {l : Int} (hmx : MixOk ms) (hg : ∀ m ∈ ms, m.g) (hm : ms[i]? = some (.mix l)) : cbF ms (bsum ms i) = some ((i : Int) - 1, (i : Int) + 1) := by
  obtain ⟨i1, ⟨a1, a2, a3, a4, a5, a6, ha⟩, b1, b2, b3, b4, b5, b6, hb⟩ := hmx i l hm
  have gb := hg _ (List.mem_of_getElem? hb)
  have hit := item_behind hg hm hb (show 0 < b6 by have := gb.2.2.2.2.2.2.1; omega)
  have k0 : kindF ms (((i + 1 : Nat) : Int) - 1) = "mix" := kindF_nat hm (by omega)
  have k1 : kindF ms ((i : Int) - 1) = "clip" := kindF_nat ha (by omega)
  have k2 : kindF ms ((i : Int) + 1) = "clip" := kindF_nat hb (by omega)
  have hn : nbF ms (bsum ms i) = some ((i : Int) - 1, (i : Int) + 1) := by
    unfold nbF
    rw [hit]
    dsimp only
    rw [if_neg (by omega), if_pos k0]
    congr 2
    omega
  unfold cbF
  rw [hn]
  dsimp only
  rw [if_pos ⟨k1, k2⟩]
def tbF (ms : List Im) (k : Nat) : Int := if k = 0 then 0 else match ms[k - 1]? with
  | some (.mix l) => l - l.fdiv 2
  | _ => 0
def teF (ms : List Im) (k : Nat) : Int := match ms[k + 1]? with
  | some (.mix l) => l.fdiv 2
  | _ => 0
theorem kindF_mix {ms : List Im} {k : Int} (h : kindF ms k = "mix") : ∃ l, 0 ≤ k ∧ ms[k.toNat]? = some (.mix l) := by
  unfold kindF at h
  by_cases h0 : k < 0
  · rw [if_pos h0] at h
    exact absurd h (by decide +kernel)
  · rw [if_neg h0] at h
    cases hm : ms[k.toNat]? with
    | none => rw [hm] at h; exact absurd h (by decide +kernel)
    | some m =>
      rw [hm] at h
      obtain ⟨l, rfl⟩ := w_mix h
      exact ⟨l, by omega, rfl⟩
def sp_taken_at_begin : Sp := fun vs H Q _ => ∃ (z : Addr) (ms : List Im) (k : Nat), vs = [.ref z, .int (k : Int)] ∧ Tr H z ms ∧ Q (.int (tbF ms k)) H
theorem ok_taken_at_begin (T : Tx K mg a) : FnOk P w K mg base CX0 2 a.a_taken_at_begin a.f_taken_at_begin ["track", "place"] sp_taken_at_begin := by
  refine T.d_taken_at_begin.F.ok sc_taken_at_begin (fun vs H Q E h => ?_) (fun cdv A outer s H vs Q E hr h => ?_)
  · obtain ⟨z, ms, k, rfl, _⟩ := h
    rfl
  obtain ⟨z, ms, k, rfl, tT, q⟩ := h
  refine ⟨_, (pss_cons (ps_if (pt_cmpR op_ne (pe_def T.d_kind_at (ok_kind_at T) hr rfl (pa_cons (pv 0) (pa_cons (pe_op op_sub (pv 1) pe_int) pa_nil))) pe_str (nomark _)) (pss_one (ps_ret pe_int)) pss_nil)
      (pss_one (ps_ret (pe_def T.d_part_behind (ok_part_behind T) hr rfl (pa_cons (pe_ix ix_tup (pe_ix ix_list (pv 0) (pe_op op_sub (pv 1) pe_int) (fun _ _ => rfl)) pe_int (fun _ _ => rfl)) pa_nil))))), ?_⟩
  refine ⟨_, rfl, _, rfl, _, _, rfl, rfl, z, ms, _, rfl, tT, rfl, _, rfl, ite2 (fun c => ?_) (fun c => ?_)⟩
  · have hn : kindF ms ((k : Int) - 1) ≠ "mix" := by simpa using c
    have e : tbF ms k = 0 := by
      unfold tbF
      by_cases k0 : k = 0
      · rw [if_pos k0]
      · rw [if_neg k0]
        split
        · next l hl => exact absurd (kindF_nat hl (by omega)) hn
        · rfl
    rw [e] at q
    exact q
  · have hk : kindF ms ((k : Int) - 1) = "mix" := by simpa using c
    obtain ⟨l, k1, hl⟩ := kindF_mix hk
    have ek : ((k : Int) - 1).toNat = k - 1 := by omega
    rw [ek] at hl
    have e : tbF ms k = l - l.fdiv 2 := by
      unfold tbF
      rw [if_neg (by omega), hl]
    rw [e] at q
    obtain ⟨vs, hz, his⟩ := tT
    obtain ⟨v, hv, hI⟩ := his.get' hl
    obtain ⟨zi, rfl, hzi⟩ := hI
    have hat : atI vs ((k : Int) - 1) = some (.ref zi) := by
      have e : (k : Int) - 1 = ((k - 1 : Nat) : Int) := by omega
      rw [e]; exact atI_nat hv
    exact ⟨_, rfl, _, rfl, _, _, rfl, rfl, z, _, _, _, rfl, rfl, SqL.of hz, hat, zi, _, _, _, rfl, rfl, SqT.of hzi, at1, l, rfl, q⟩
def sp_taken_at_end : Sp := fun vs H Q _ => ∃ (z : Addr) (ms : List Im) (k : Nat), vs = [.ref z, .int (k : Int)] ∧ Tr H z ms ∧ Q (.int (teF ms k)) H
theorem ok_taken_at_end (T : Tx K mg a) : FnOk P w K mg base CX0 2 a.a_taken_at_end a.f_taken_at_end ["track", "place"] sp_taken_at_end := by
  refine T.d_taken_at_end.F.ok sc_taken_at_end (fun vs H Q E h => ?_) (fun cdv A outer s H vs Q E hr h => ?_)
  · obtain ⟨z, ms, k, rfl, _⟩ := h
    rfl
  obtain ⟨z, ms, k, rfl, tT, q⟩ := h
  refine ⟨_, (pss_cons (ps_if (pt_cmpR op_ne (pe_def T.d_kind_at (ok_kind_at T) hr rfl (pa_cons (pv 0) (pa_cons (pe_op op_add (pv 1) pe_int) pa_nil))) pe_str (nomark _)) (pss_one (ps_ret pe_int)) pss_nil)
      (pss_one (ps_ret (pe_def T.d_part_ahead (ok_part_ahead T) hr rfl (pa_cons (pe_ix ix_tup (pe_ix ix_list (pv 0) (pe_op op_add (pv 1) pe_int) (fun _ _ => rfl)) pe_int (fun _ _ => rfl)) pa_nil))))), ?_⟩
  refine ⟨_, rfl, _, rfl, _, _, rfl, rfl, z, ms, _, rfl, tT, rfl, _, rfl, ite2 (fun c => ?_) (fun c => ?_)⟩
  · have hn : kindF ms ((k : Int) + 1) ≠ "mix" := by simpa using c
    have e : teF ms k = 0 := by
      unfold teF
      split
      · next l hl => exact absurd (kindF_nat hl (by omega)) hn
      · rfl
    rw [e] at q
    exact q
  · have hk : kindF ms ((k : Int) + 1) = "mix" := by simpa using c
    obtain ⟨l, k1, hl⟩ := kindF_mix hk
    have ek : ((k : Int) + 1).toNat = k + 1 := by omega
    rw [ek] at hl
    have e : teF ms k = l.fdiv 2 := by
      unfold teF
      rw [hl]
    rw [e] at q
    obtain ⟨vs, hz, his⟩ := tT
    obtain ⟨v, hv, hI⟩ := his.get' hl
    obtain ⟨zi, rfl, hzi⟩ := hI
    have hat : atI vs ((k : Int) + 1) = some (.ref zi) := by
      have e : (k : Int) + 1 = ((k + 1 : Nat) : Int) := by omega
      rw [e]; exact atI_nat hv
    exact ⟨_, rfl, _, rfl, _, _, rfl, rfl, z, _, _, _, rfl, rfl, SqL.of hz, hat, zi, _, _, _, rfl, rfl, SqT.of hzi, at1, l, rfl, q⟩
abbrev Rls := Str → Option Int
def ReelsAt (H : Hp) (rd : Addr) (rl : Rls) : Prop := ∀ n N, rl n = some N → Reel H rd n N
theorem ReelsAt.same {H H' : Hp} {rd : Addr} {rl : Rls} (e : Same H H') (h : ReelsAt H rd rl) : ReelsAt H' rd rl := fun n N q => (h n N q).same e
/-- the mix at place i fits -/
def FitAt (rl : Rls) (ms : List Im) (i : Nat) (l : Int) : Prop := ∃ (n : Str) (p q r s k : Int) (n' : Str) (p' q' r' s' k' N N' : Int), 1 ≤ i ∧ ms[i - 1]? = some (.clip n p q r s k) ∧ ms[i + 1]? = some (.clip n' p' q' r' s' k') ∧ rl n = some N ∧ rl n' = some N' ∧ N.natAbs < 2 ^ 700 ∧ N'.natAbs < 2 ^ 700 ∧
  Good 110 p q ∧ Good 110 r s ∧ Good 110 p' q' ∧ Good 110 r' s' ∧ k.natAbs < 2 ^ 30 ∧ InR (Vk p q r s 0) (q * s) N ∧ InR (Vk p' q' r' s' 0) (q' * s') N' ∧ l ≤ 1000000 ∧
  (∀ j, 0 ≤ j → j < l - l.fdiv 2 → InR (Vk p q r s (k + 1 * j)) (q * s) N) ∧ (∀ j, 0 ≤ j → j < l.fdiv 2 → InR (Vk p' q' r' s' (-1 + -1 * j)) (q' * s') N') ∧
  l.fdiv 2 ≤ k - tbF ms (i - 1) ∧ l - l.fdiv 2 ≤ k' - teF ms (i + 1)
def sp_most_mix : Sp := fun vs H Q _ => ∃ (z rd : Addr) (ms : List Im) (i : Nat) (l : Int) (rl : Rls), vs = [.ref z, .int (bsum ms i), .ref rd] ∧ Tr H z ms ∧ MixOk ms ∧ (∀ m ∈ ms, m.g) ∧ ms[i]? = some (.mix l) ∧ FitAt rl ms i l ∧ ReelsAt H rd rl ∧ ∀ (M : Int) (H' : Hp), Same H H' → l ≤ M → Q (.int M) H'
theorem ok_most_mix (T : Tx K mg a) : FnOk P w K mg base CX0 6 a.a_most_mix a.f_most_mix ["track", "moment", "reels"] sp_most_mix := by
  refine T.d_most_mix.F.ok sc_most_mix (fun vs H Q E h => ?_) (fun cdv A outer s H vs Q E hr h => ?_)
  · obtain ⟨z, rd, ms, i, l, rl, rfl, _⟩ := h
    rfl
  obtain ⟨z, rd, ms, i, l, rl, rfl, tT, hmx, hg, hm, ⟨n, p, q, r, s1, k, n', p', q', r', s2, k', N, N', i1, ha, hb, hN, hN', bN, bN', g1, g2, g3, g4, bk, ia, ib, l6, ra, rb, fa, fb⟩, hrl, kk⟩ := h
  refine ⟨_, (pss_cons (ps_set (i := 3) sc_most_mix.nd rfl (Or.inl rfl) (pe_ifExp (pt_val (pe_def T.d_is_whole (ok_is_whole T) hr rfl (pa_cons (pv 1) pa_nil))) (pe_def T.d_clips_at_border (ok_clips_at_border T) hr rfl (pa_cons (pv 0) (pa_cons (pv 1) pa_nil))) pe_non))
      (pss_cons (ps_if (pt_cmp (pc_isN (pv 3))) pss_never pss_nil)
      (pss_cons (ps_set (i := 4) sc_most_mix.nd rfl (Or.inl rfl) (pe_ix ix_list (pv 0) (pe_ix ix_tup (pv 3) pe_int (fun _ _ => rfl)) (fun _ _ => rfl)))
      (pss_cons (ps_set (i := 5) sc_most_mix.nd rfl (Or.inl rfl) (pe_ix ix_list (pv 0) (pe_ix ix_tup (pv 3) pe_int (fun _ _ => rfl)) (fun _ _ => rfl)))
      (pss_cons (ps_set (i := 6) sc_most_mix.nd rfl (Or.inl rfl) (pe_callB (call_min2 rfl) rfl T.b_min rfl (pa_cons (pe_op op_sub (pe_ix ix_tup (pv 4) pe_int (fun _ _ => rfl)) (pe_def T.d_taken_at_begin (ok_taken_at_begin T) hr rfl (pa_cons (pv 0) (pa_cons (pe_ix ix_tup (pv 3) pe_int (fun _ _ => rfl)) pa_nil)))) (pa_cons (pe_def T.d_head_room (ok_head_room T) hr rfl (pa_cons (pv 5) (pa_cons (pv 2) pa_nil))) pa_nil))))
      (pss_cons (ps_set (i := 7) sc_most_mix.nd rfl (Or.inl rfl) (pe_callB (call_min2 rfl) rfl T.b_min rfl (pa_cons (pe_op op_sub (pe_ix ix_tup (pv 5) pe_int (fun _ _ => rfl)) (pe_def T.d_taken_at_end (ok_taken_at_end T) hr rfl (pa_cons (pv 0) (pa_cons (pe_ix ix_tup (pv 3) pe_int (fun _ _ => rfl)) pa_nil)))) (pa_cons (pe_def T.d_tail_room (ok_tail_room T) hr rfl (pa_cons (pv 4) (pa_cons (pv 2) pa_nil))) pa_nil))))
      (pss_cons (ps_if (pt_cmpR op_gt (pv 7) (pv 6) (nomark _)) (pss_one (ps_ret (pe_callB (call_max2 rfl) rfl T.b_max rfl (pa_cons (pe_op op_add (pe_op op_mulB pe_int (pv 6)) pe_int) (pa_cons pe_int pa_nil))))) pss_nil)
      (pss_one (ps_ret (pe_callB (call_max2 rfl) rfl T.b_max rfl (pa_cons (pe_op op_mulB pe_int (pv 7)) (pa_cons pe_int pa_nil)))))))))))), ?_⟩
  have gm := hg _ (List.mem_of_getElem? hm)
  refine ⟨_, rfl, _, rfl, true, rfl, iteT ?_⟩
  refine ⟨_, rfl, _, rfl, z, ms, _, rfl, tT, ?_⟩
  rw [cbF_mix hmx hg hm]
  intro pp H1 e1 hpp
  refine ⟨_, rfl, _, rfl, ite2 (fun c => absurd c (by simp)) (fun _ => ?_)⟩
  obtain ⟨vs, hz, his⟩ := tT.same e1
  obtain ⟨va, hva, Ia⟩ := his.get' ha
  obtain ⟨vb, hvb, Ib⟩ := his.get' hb
  have aa : atI vs ((i : Int) - 1) = some va := by
    have e : (i : Int) - 1 = ((i - 1 : Nat) : Int) := by omega
    rw [e]; exact atI_nat hva
  have ab : atI vs ((i : Int) + 1) = some vb := by
    have e : (i : Int) + 1 = ((i + 1 : Nat) : Int) := by omega
    rw [e]; exact atI_nat hvb
  refine ⟨_, rfl, _, rfl, pp, _, _, _, rfl, rfl, SqT.of hpp, at0, z, _, _, _, rfl, rfl, SqL.of hz, aa, ?_⟩
  refine ⟨_, rfl, _, rfl, pp, _, _, _, rfl, rfl, SqT.of hpp, at1, z, _, _, _, rfl, rfl, SqL.of hz, ab, ?_⟩
  obtain ⟨za, xa, ya, rfl, hza, hxa, hya⟩ := id Ia
  obtain ⟨zb, xb, yb, rfl, hzb, hxb, hyb⟩ := id Ib
  have ei1 : (i : Int) - 1 = ((i - 1 : Nat) : Int) := by omega
  have ei2 : (i : Int) + 1 = ((i + 1 : Nat) : Int) := by omega
  have tT1 : Tr H1 z ms := ⟨vs, hz, his⟩
  refine ⟨_, rfl, za, _, _, _, rfl, rfl, SqT.of hza, at5_4, _, rfl, _, rfl, pp, _, _, _, rfl, rfl, SqT.of hpp, at0, z, ms, i - 1, (by rw [ei1]; rfl), tT1, _, _, rfl, rfl, ?_⟩
  refine ⟨_, rfl, _, rfl, _, n', p', q', r', s2, k', N', rd, rfl, cp_of Ib, g3, g4, (hrl n' N' hN').same e1, bN', fun H2 e2 => ?_⟩
  refine ⟨_, _, rfl, ?_⟩
  have hz2 := e2 _ _ hza
  have hzb2 := e2 _ _ hzb
  refine ⟨_, rfl, zb, _, _, _, rfl, rfl, SqT.of hzb2, at5_4, _, rfl, _, rfl, pp, _, _, _, rfl, rfl, SqT.of (e2 _ _ hpp), at1, z, ms, i + 1, (by rw [ei2]; rfl), tT1.same e2, _, _, rfl, rfl, ?_⟩
  refine ⟨_, rfl, _, rfl, _, n, p, q, r, s1, k, N, rd, rfl, cp_of (Ia.ts (ts_same e2)), g1, g2, bk, (hrl n N hN).same (e1.trans e2), bN, fun H3 e3 => ?_⟩
  refine ⟨_, _, rfl, ?_⟩
  have A1 := room_of (p := p') (q := q') (r := r') (s := s2) (k0 := -1) (e := -1) (m := N') g3.1 g4.1 (.inr rfl) (fun _ => ib)
  have A2 := room_of (p := p) (q := q) (r := r) (s := s1) (k0 := k) (e := 1) (m := N) g1.1 g2.1 (.inl rfl) (fun _ => ia)
  dsimp only at A1 A2
  generalize roomB (plP p' q' r' s2 (-1) * s2) (-1 * r' * plQ p' q' r' s2 (-1)) (plQ p' q' r' s2 (-1) * s2) N' = hd at A1 ⊢
  generalize roomB (plP p q r s1 k * s1) (1 * r * plQ p q r s1 k) (plQ p q r s1 k * s1) N = tl at A2 ⊢
  obtain ⟨h0, h1, _, h3, _⟩ := A1
  obtain ⟨t0, t1, _, t3, _⟩ := A2
  have hl2 := fdiv_bounds (p := l) (q := 2) (by decide)
  have gl : 1 ≤ l := gm.1
  have hhd : l.fdiv 2 ≤ hd := by
    by_cases c : l.fdiv 2 ≤ hd
    · exact c
    · exact absurd (rb hd h0 (by omega)) (h3 (by omega))
  have htl : l - l.fdiv 2 ≤ tl := by
    by_cases c : l - l.fdiv 2 ≤ tl
    · exact c
    · exact absurd (ra tl t0 (by omega)) (t3 (by omega))
  dsimp only
  have hma : l.fdiv 2 ≤ (if hd < k - tbF ms (i - 1) then hd else k - tbF ms (i - 1)) := by split <;> omega
  have hmb : l - l.fdiv 2 ≤ (if tl < k' - teF ms (i + 1) then tl else k' - teF ms (i + 1)) := by split <;> omega
  generalize (if hd < k - tbF ms (i - 1) then hd else k - tbF ms (i - 1)) = MA at hma ⊢
  generalize (if tl < k' - teF ms (i + 1) then tl else k' - teF ms (i + 1)) = MB at hmb ⊢
  have e13 := (e1.trans e2).trans e3
  refine ⟨_, rfl, _, rfl, _, _, rfl, rfl, _, rfl, ite2 (fun c => ?_) (fun c => ?_)⟩
  · refine ⟨_, rfl, _, _, rfl, rfl, cmL (by decide) (by decide), _, _, rfl, rfl, _, _, rfl, kk _ _ e13 ?_⟩
    have c' : MB > MA := by simpa using c
    split <;> omega
  · refine ⟨_, rfl, _, _, rfl, rfl, cmL (by decide) (by decide), _, _, rfl, kk _ _ e13 ?_⟩
    have c' : ¬ MB > MA := by simpa using c
    split <;> omega
theorem spanF_mem : ∀ {b : Int} {ms : List Im} {x y z : Int}, (x, y, z) ∈ spanF b ms → ∃ i l, ms[i]? = some (.mix l) ∧ y = b + bsum ms i ∧ x = y - l.fdiv 2 ∧ z = y + (l - l.fdiv 2)
  | _, [], _, _, _, h => by simp [spanF] at h
  | b, m :: ms, x, y, z, h => by
    by_cases hm : m.wd = "mix"
    · obtain ⟨l, rfl⟩ := w_mix hm
      rw [spanF] at h
      rcases List.mem_cons.mp h with h | h
      · cases h
        exact ⟨0, l, rfl, by simp [bsum], rfl, rfl⟩
      · obtain ⟨i, l', q1, q2, q3⟩ := spanF_mem h
        refine ⟨i + 1, l', by simpa using q1, ?_, q3⟩
        rw [q2]
        unfold bsum
        rw [List.take_succ_cons, List.map_cons, List.sum_cons]
        show _ = b + (0 + _)
        omega
    · rw [spanF_other hm] at h
      obtain ⟨i, l', q1, q2, q3⟩ := spanF_mem h
      refine ⟨i + 1, l', by simpa using q1, ?_, q3⟩
      rw [q2]
      unfold bsum
      rw [List.take_succ_cons, List.map_cons, List.sum_cons]
      omega
def MixFit (rl : Rls) (ms : List Im) : Prop := ∀ (i : Nat) (l : Int), ms[i]? = some (.mix l) → FitAt rl ms i l
def sp_mixes_fit : Sp := fun vs H Q _ => ∃ (z rd : Addr) (ms : List Im) (rl : Rls), vs = [.ref z, .ref rd] ∧ Tr H z ms ∧ ms.length ≤ 300 ∧ MixOk ms ∧ (∀ m ∈ ms, m.g) ∧ MixFit rl ms ∧ ReelsAt H rd rl ∧ ∀ H', Same H H' → Q (.bl true) H'
theorem ok_mixes_fit (T : Tx K mg a) : FnOk P w K mg base CX0 8 a.a_mixes_fit a.f_mixes_fit ["track", "reels"] sp_mixes_fit := by
  refine T.d_mixes_fit.F.ok sc_mixes_fit (fun vs H Q E h => ?_) (fun cdv A outer s H vs Q E hr h => ?_)
  · obtain ⟨z, rd, ms, rl, rfl, _⟩ := h
    rfl
  obtain ⟨z, rd, ms, rl, rfl, tT, hml, hmx, hg, hfit, hrl, kk⟩ := h
  refine ⟨_, (pss_one (ps_ret (pe_callB (call_allB rfl) rfl T.b_all rfl (pa_cons (pe_comp ["track", "reels"] [0, 1] rfl (pi_list (pe_def T.d_mix_spans (ok_mix_spans T) hr rfl (pa_cons (pv 0) pa_nil))) (fun _ _ _ _ => (pe_cmpR op_le (pe_op op_sub (pe_ix (ixK_tup (K := K) rfl) (pv 0) pe_int (fun _ _ => rfl)) (pe_ix (ixK_tup (K := K) rfl) (pv 0) pe_int (fun _ _ => rfl))) (pe_def T.d_most_mix (ok_most_mix T) hr rfl (pa_cons (pv 1) (pa_cons (pe_ix (ixK_tup (K := K) rfl) (pv 0) pe_int (fun _ _ => rfl)) (pa_cons (pv 2) pa_nil)))) (nomark _)))) pa_nil)))), ?_⟩
  refine ⟨_, rfl, z, ms, rfl, tT, hml, fun sp us H1 e1 _ hsp hus => ?_⟩
  have hul := hus.len
  have hsl := spanF_len 0 ms
  refine ⟨sp, rfl, ⟨_, SqL.of hsp⟩, comp_list (K := K) (a := sp) (xs := us) (fun i acc H' => Same H1 H' ∧ acc = (List.replicate i true).map V.bl) ⟨Same.refl _, rfl⟩ ?_ ?_ ?_⟩
  · rintro i acc H' hi ⟨e, rfl⟩
    exact ⟨SqL.of (e _ _ hsp), small1000 (by simp; omega)⟩
  · rintro i x acc H' hi hx ⟨e, rfl⟩
    obtain ⟨x0, y0, z0, q, hs, rfl, hq⟩ := hus.get hx
    obtain ⟨j, l, hm, ey, ex, ez⟩ := spanF_mem (List.mem_of_getElem? hs)
    rw [Int.zero_add] at ey
    have hq' := e _ _ hq
    have a0 : atI [V.int x0, .int y0, .int z0] 0 = some (.int x0) := rfl
    have a1 : atI [V.int x0, .int y0, .int z0] 1 = some (.int y0) := rfl
    have a2 : atI [V.int x0, .int y0, .int z0] 2 = some (.int z0) := rfl
    have e01 := e1.trans e
    refine ⟨_, rfl, q, _, _, _, rfl, rfl, SqT.of hq', a2, _, rfl, q, _, _, _, rfl, rfl, SqT.of hq', a0, _, _, rfl, rfl, ?_⟩
    refine ⟨_, rfl, _, rfl, q, _, _, _, rfl, rfl, SqT.of hq', a1, _, rfl, z, rd, ms, j, l, rl, (by rw [ey]; rfl), tT.same e01, hmx, hg, hm, hfit j l hm, hrl.same e01, fun M H2 e2 hM => ?_⟩
    refine ⟨_, _, rfl, rfl, Nxt.mk hi ⟨e.trans e2, ?_⟩⟩
    have ed : decide (z0 - x0 ≤ M) = true := decide_eq_true (by omega)
    dsimp only
    rw [ed, List.replicate_succ', List.map_append]
    rfl
  · rintro acc H' ⟨e, rfl⟩ d hd
    refine ⟨d, _, rfl, SqL.of upd_same, ?_⟩
    have eall : (List.replicate us.length true).all id = true := by simp
    rw [eall]
    exact kk _ ((e1.trans e).trans (same_new hd _))

/-! ### check_room of a good room -/
def sp_is_number_of_pictures : Sp := fun vs H Q _ => ∃ i : Int, vs = [.int i] ∧ 1 ≤ i ∧ i ≤ 1000000000 ∧ Q (.bl true) H
theorem ok_is_number_of_pictures (T : Tx K mg a) : FnOk P w K mg base CX0 2 a.a_is_number_of_pictures a.f_is_number_of_pictures ["thing"] sp_is_number_of_pictures := by
  refine T.d_is_number_of_pictures.F.ok sc_is_number_of_pictures (fun vs H Q E h => ?_) (fun cdv A outer s H vs Q E hr h => ?_)
  · obtain ⟨i, rfl, _⟩ := h
    rfl
  obtain ⟨i, rfl, i1, i2, q⟩ := h
  refine ⟨_, (pss_one (ps_ret (pe_and (pe_def T.d_is_whole (ok_is_whole T) hr rfl (pa_cons (pv 0) pa_nil)) (pe_and (pe_cmpR op_ge (pv 0) pe_int (nomark _)) (pe_one (pe_cmpR op_le (pv 0) (pe_glob (v := .int 1000000000) rfl T.g_MOST_PICTURES ⟨_, rfl⟩) (nomark _))))))), ?_⟩
  rw [← decide_eq_true i2] at q
  exact ⟨_, rfl, i, rfl, true, rfl, iteT ⟨_, rfl, _, _, rfl, rfl, true, congrArg V.bl (decide_eq_true i1), iteT ⟨_, rfl, _, _, rfl, rfl, q⟩⟩⟩
/-- the reels, one by one -/
def RlOk (ar : List (Key × V)) : Prop := ∀ p ∈ ar, ∃ (n : Str) (N : Int), p = (Sum.inr n, .int N) ∧ nameB n = true ∧ n.length ≤ 1000 ∧ 1 ≤ N ∧ N ≤ 1000000000
def SBz (z : Addr) (H H' : Hp) : Prop := ∀ b u, b ≠ z → H b = some u → H' b = some u
def sp_check_reels : Sp := fun vs H Q _ => ∃ (rd : Addr) (ar : List (Key × V)), vs = [.ref rd] ∧ Rd H rd (.dK ar) ∧ RlOk ar ∧ ar.length ≤ 100 ∧ ∀ (o : Obj) (H' : Hp), SBz rd H H' → H' rd = some (.frz o (.dK ar)) → Q .non H'
theorem ok_check_reels (T : Tx K mg a) : FnOk P w K mg base CX0 3 a.a_check_reels a.f_check_reels ["reels"] sp_check_reels := by
  refine T.d_check_reels.F.ok sc_check_reels (fun vs H Q E h => ?_) (fun cdv A outer s H vs Q E hr h => ?_)
  · obtain ⟨rd, ar, rfl, _⟩ := h
    rfl
  obtain ⟨rd, ar, rfl, hrd, hok, hal, kk⟩ := h
  refine ⟨_, (pss_one (ps_for PassesOwn.never rfl (pi_items (pv 0)) (pg_tup rfl (pgs_cons (pg_name (i := 1) sc_check_reels.nd rfl (Or.inl rfl)) (pgs_cons (pg_name (i := 2) sc_check_reels.nd rfl (Or.inl rfl)) pgs_nil))) (pss_one (ps_if (PW.pt (pw_or (pt_not (pt_val (pe_def T.d_is_name (ok_is_name T) hr rfl (pa_cons (pv 1) pa_nil)))) (pw_or1 (pt_not (pt_val (pe_def T.d_is_number_of_pictures (ok_is_number_of_pictures T) hr rfl (pa_cons (pv 2) pa_nil))))))) pss_never pss_nil)))), ?_⟩
  have key : ∀ (o : Obj) (H0 : Hp), SBz rd H H0 → H0 rd = some (.frz o (.dK ar)) → ∀ (D : Ends), (∀ σ H', Same H0 H' → D.nx σ H') → True := fun _ _ _ _ _ _ => trivial
  refine ⟨_, rfl, rd, ar, rfl, ?_⟩
  have body : ∀ (o : Obj) (H0 : Hp), SBz rd H H0 → H0 rd = some (.frz o (.dK ar)) → True := fun _ _ _ _ => trivial
  have fin : ∀ (o : Obj) (H0 H' : Hp), SBz rd H H0 → H0 rd = some (.frz o (.dK ar)) → Same H0 H' → Q .non H' := fun o H0 H' s0 h0 e => kk o H' (fun b u n hb => e _ _ (s0 b u n hb)) (e _ _ h0)
  rcases hrd with hrd | ⟨o, hrd⟩
  · refine .inr ⟨hrd, fun o => ?_⟩
    have s0 : SBz rd H (upd H rd (.frz o (.dK ar))) := fun b u n hb => by rw [upd_ne n]; exact hb
    have h0 : (upd H rd (.frz o (.dK ar))) rd = some (.frz o (.dK ar)) := upd_same
    generalize upd H rd (.frz o (.dK ar)) = H0 at s0 h0 ⊢
    refine for_items (d := rd) (o := o) (kvs := ar) (fun i σ H' => ∃ (o1 o2 : Option V), σ = [some (.ref rd), o1, o2] ∧ Same H0 H') ⟨none, none, rfl, Same.refl _⟩ ?_ ?_ ?_
    · rintro i σ H' hi ⟨o1, o2, rfl, e⟩
      exact e _ _ h0
    · rintro i k v σ H' p hkv ⟨o1, o2, rfl, e⟩ hp
      obtain ⟨n, N, ekv, h1, h2, h3, h4⟩ := hok _ (List.mem_of_getElem? hkv)
      cases ekv
      have w1 := same_new hp (.tup [kV (Sum.inr n), .int N])
      refine ⟨p, _, rfl, SqT.of upd_same, rfl, _, _, rfl, _, _, rfl, rfl, ?_⟩
      refine ⟨_, rfl, n, rfl, h2, fun H2 e2 => ?_⟩
      rw [h1]
      exact ⟨true, rfl, iteF ⟨_, rfl, N, rfl, h3, h4, true, rfl, iteF ⟨_, _, rfl, (e.trans w1).trans e2⟩⟩⟩
    · rintro σ H' ⟨o1, o2, rfl, e⟩
      exact fin o H0 H' s0 h0 e
  · refine .inl ⟨o, hrd, ?_⟩
    have s0 : SBz rd H H := fun b u n hb => hb
    refine for_items (d := rd) (o := o) (kvs := ar) (fun i σ H' => ∃ (o1 o2 : Option V), σ = [some (.ref rd), o1, o2] ∧ Same H H') ⟨none, none, rfl, Same.refl _⟩ ?_ ?_ ?_
    · rintro i σ H' hi ⟨o1, o2, rfl, e⟩
      exact e _ _ hrd
    · rintro i k v σ H' p hkv ⟨o1, o2, rfl, e⟩ hp
      obtain ⟨n, N, ekv, h1, h2, h3, h4⟩ := hok _ (List.mem_of_getElem? hkv)
      cases ekv
      have w1 := same_new hp (.tup [kV (Sum.inr n), .int N])
      refine ⟨p, _, rfl, SqT.of upd_same, rfl, _, _, rfl, _, _, rfl, rfl, ?_⟩
      refine ⟨_, rfl, n, rfl, h2, fun H2 e2 => ?_⟩
      rw [h1]
      exact ⟨true, rfl, iteF ⟨_, rfl, N, rfl, h3, h4, true, rfl, iteF ⟨_, _, rfl, (e.trans w1).trans e2⟩⟩⟩
    · rintro σ H' ⟨o1, o2, rfl, e⟩
      exact fin o H H' s0 hrd e
def sp_check_clip_of_room : Sp := sp_check_clip
theorem ok_check_clip_of_room (T : Tx K mg a) : FnOk P w K mg base CX0 7 a.a_check_clip_of_room a.f_check_clip_of_room ["item", "reels"] sp_check_clip_of_room := by
  refine T.d_check_clip_of_room.F.ok sc_check_clip_of_room (fun vs H Q E h => ?_) (fun cdv A outer s H vs Q E hr h => ?_)
  · obtain ⟨z, rd, n, p, q, r, s, len, m, rfl, _⟩ := h
    rfl
  obtain ⟨z, rd, n, p, q, r, s', len, m, rfl, hc, hrd, hn, hl, hb, gq, gs, l1, bl, i0, i1, kg⟩ := h
  refine ⟨_, (pss_one (ps_try (fun _ _ => False) .none sc_check_clip_of_room.nd rfl T.c_NoClip (fun _ => (pss_one (ps_expr (pe_def T.d_check_clip (ok_check_clip T) hr rfl (pa_cons (pv 0) (pa_cons (pv 1) pa_nil)))))) (fun _ _ => pss_never))), ?_⟩
  refine ⟨?_, ?_⟩
  · exact ⟨_, rfl, _, rfl, z, rd, n, p, q, r, s', len, m, rfl, hc, hrd, hn, hl, hb, gq, gs, l1, bl, i0, i1, fun H' e => kg H' e⟩
  · rintro ea B σ' H' h
    exact h.elim
/-- an item that is good in a room -/
def NiceI (rl : Rls) (tn : Str → Prop) : Im → Prop
  | .clip n p q r s l => ∃ N, rl n = some N ∧ nameB n = true ∧ n.length ≤ 1000 ∧ Bn 700 p q r s ∧ Int.gcd p q = 1 ∧ Int.gcd r s = 1 ∧ 1 ≤ l ∧ l.natAbs < 2 ^ 600 ∧ InR (Vk p q r s 0) (q * s) N ∧ InR (Vk p q r s (l - 1)) (q * s) N
  | .nest n b l => nameB n = true ∧ n.length ≤ 1000 ∧ 0 ≤ b ∧ 1 ≤ l ∧ tn n
  | .gap l => 1 ≤ l
  | .mix l => 1 ≤ l
theorem NiceI.o {rl : Rls} {tn : Str → Prop} {m : Im} (h : NiceI rl tn m) (hc : m.wd ≠ "clip") : NiceO m := by
  cases m with
  | clip => exact absurd rfl hc
  | nest n b l => exact ⟨h.1, h.2.1, h.2.2.1, h.2.2.2.1⟩
  | gap l => exact h
  | mix l => exact h
/-- the room as the checks read it -/
structure RoomC (H : Hp) (rz re td : Addr) (rl : Rls) (tn : Str → Prop) : Prop where
  z : H rz = some (.tup [.ref re, .ref td])
  r : ReelsAt H re rl
  t : ∃ kvs : List (Key × V), Rd H td (.dK kvs) ∧ ∀ n, tn n → (valV kvs (Sum.inr n)).isSome = true
theorem RoomC.same {H H' : Hp} {rz re td : Addr} {rl : Rls} {tn : Str → Prop} (e : Same H H') (h : RoomC H rz re td rl tn) : RoomC H' rz re td rl tn :=
  ⟨e _ _ h.z, h.r.same e, let ⟨k, a, b⟩ := h.t; ⟨k, rd_same e a, b⟩⟩
def sp_check_item : Sp := fun vs H Q _ => ∃ (v : V) (m : Im) (rz re td : Addr) (rl : Rls) (tn : Str → Prop), vs = [v, .ref rz] ∧ IsI H m v ∧ RoomC H rz re td rl tn ∧ NiceI rl tn m ∧ ∀ H', Same H H' → Q .non H'
theorem ok_check_item (T : Tx K mg a) : FnOk P w K mg base CX0 8 a.a_check_item a.f_check_item ["item", "room"] sp_check_item := by
  refine T.d_check_item.F.ok sc_check_item (fun vs H Q E h => ?_) (fun cdv A outer s H vs Q E hr h => ?_)
  · obtain ⟨v, m, rz, re, td, rl, tn, rfl, _⟩ := h
    rfl
  obtain ⟨v, m, rz, re, td, rl, tn, rfl, hI, hC, hN, kk⟩ := h
  have hu1 := hu_of hr
  refine ⟨_, (pss_one (ps_if (PW.pt (pw_and (pt_val (pe_callB call_isinst rfl T.b_isinstance rfl (pa_cons (pv 0) (pa_cons (pe_ty rfl T.b_tuple rfl) pa_nil)))) (pw_and (pt_cmpR op_gt (pe_callB call_len_seq rfl T.b_len rfl (pa_cons (pv 0) pa_nil)) pe_int (nomark _)) (pw_and1 (pt_cmpR op_eq (pe_ix ix_tup (pv 0) pe_int (fun _ _ => rfl)) pe_str (nomark _)))))) (pss_one (ps_expr (pe_def T.d_check_clip_of_room (ok_check_clip_of_room T) hr rfl (pa_cons (pv 0) (pa_cons (pe_ix ix_tup (pv 1) pe_int (fun _ _ => rfl)) pa_nil))))) (pss_one (ps_if (pt_val (pe_def T.d_has_nest_form (ok_has_nest_form T) hr rfl (pa_cons (pv 0) pa_nil))) (pss_one (ps_if (pt_cmp (pc_dnotin hu1 (pe_ix ix_tup (pv 0) pe_int (fun _ _ => rfl)) (pe_ix ix_tup (pv 1) pe_int (fun _ _ => rfl)))) pss_never pss_nil)) (pss_one (ps_if (pt_not (pt_val (pe_def T.d_has_gap_or_mix_form (ok_has_gap_or_mix_form T) hr rfl (pa_cons (pv 0) pa_nil)))) pss_never pss_nil)))))), ?_⟩
  cases m with
  | clip n p q r s1 l =>
    obtain ⟨z, x, y, rfl, hz, hx, hy⟩ := hI
    obtain ⟨N, h1, h2, h3, h4, h5, h6, h7, h8, h9, h10⟩ := hN
    refine ⟨_, rfl, _, _, _, true, rfl, .tup hz, ⟨_, .inl ⟨rfl, rfl⟩⟩, true, rfl, iteT ?_⟩
    refine ⟨_, rfl, z, _, rfl, .inr (SqT.of hz), _, _, rfl, rfl, _, rfl, iteT ?_⟩
    refine ⟨_, rfl, z, _, _, _, rfl, rfl, SqT.of hz, at5_0, rfl, _, rfl, ite2 (fun _ => ?_) (fun c => absurd (by simp) c)⟩
    exact ⟨_, rfl, _, rfl, rz, _, _, _, rfl, rfl, SqT.of hC.z, at0, z, re, n, p, q, r, s1, l, N, rfl, ⟨⟨x, y, hz, hx, hy⟩⟩, hC.r n N h1, h2, h3, h4, h5, h6, h7, h8, h9, h10, kk⟩
  | nest n b l =>
    have hno := NiceI.o (m := .nest n b l) hN (by decide +kernel : ("nest" : Str) ≠ "clip")
    obtain ⟨z, rfl, hz⟩ := id hI
    have a0 : atI [V.str "nest", .str n, .int b, .int l] 0 = some (.str "nest") := rfl
    have a1 : atI [V.str "nest", .str n, .int b, .int l] 1 = some (.str n) := rfl
    refine ⟨_, rfl, _, _, _, true, rfl, .tup hz, ⟨_, .inl ⟨rfl, rfl⟩⟩, true, rfl, iteT ?_⟩
    refine ⟨_, rfl, z, _, rfl, .inr (SqT.of hz), _, _, rfl, rfl, _, rfl, iteT ?_⟩
    refine ⟨_, rfl, z, _, _, _, rfl, rfl, SqT.of hz, a0, rfl, _, rfl, ite2 (fun c => absurd (show decide (V.str "nest" = V.str "clip") = true from c) (by rw [decS]; decide +kernel)) (fun _ => ?_)⟩
    refine ⟨_, rfl, _, _, rfl, hI, hno, fun H1 e1 => ⟨true, rfl, iteT ?_⟩⟩
    obtain ⟨kvs, hd, hn⟩ := (hC.same e1).t
    have hs := hn n hN.2.2.2.2
    cases hv : valV kvs (Sum.inr n) with
    | none => rw [hv] at hs; cases hs
    | some v =>
      refine ⟨_, rfl, z, _, _, _, rfl, rfl, SqT.of (e1 _ _ hz), a1, _, rfl, rz, _, _, _, rfl, rfl, SqT.of (hC.same e1).z, at1, td, some v, rfl, .inl ⟨kvs, Sum.inr n, hd, rfl, hv.symm⟩, _, rfl, iteF ?_⟩
      exact kk H1 e1
  | gap l =>
    have hno := NiceI.o (m := .gap l) hN (by decide +kernel : ("gap" : Str) ≠ "clip")
    obtain ⟨z, rfl, hz⟩ := id hI
    refine ⟨_, rfl, _, _, _, true, rfl, .tup hz, ⟨_, .inl ⟨rfl, rfl⟩⟩, true, rfl, iteT ?_⟩
    refine ⟨_, rfl, z, _, rfl, .inr (SqT.of hz), _, _, rfl, rfl, _, rfl, iteT ?_⟩
    refine ⟨_, rfl, z, _, _, _, rfl, rfl, SqT.of hz, at0, rfl, _, rfl, ite2 (fun c => absurd (show decide (V.str "gap" = V.str "clip") = true from c) (by rw [decS]; decide +kernel)) (fun _ => ?_)⟩
    refine ⟨_, rfl, _, _, rfl, hI, hno, fun H1 e1 => ⟨false, rfl, iteF ?_⟩⟩
    exact ⟨_, rfl, _, _, rfl, hI.ts (ts_same e1), hno, rfl, fun H2 e2 => ⟨true, rfl, iteF (kk H2 (e1.trans e2))⟩⟩
  | mix l =>
    have hno := NiceI.o (m := .mix l) hN (by decide +kernel : ("mix" : Str) ≠ "clip")
    obtain ⟨z, rfl, hz⟩ := id hI
    refine ⟨_, rfl, _, _, _, true, rfl, .tup hz, ⟨_, .inl ⟨rfl, rfl⟩⟩, true, rfl, iteT ?_⟩
    refine ⟨_, rfl, z, _, rfl, .inr (SqT.of hz), _, _, rfl, rfl, _, rfl, iteT ?_⟩
    refine ⟨_, rfl, z, _, _, _, rfl, rfl, SqT.of hz, at0, rfl, _, rfl, ite2 (fun c => absurd (show decide (V.str "mix" = V.str "clip") = true from c) (by rw [decS]; decide +kernel)) (fun _ => ?_)⟩
    refine ⟨_, rfl, _, _, rfl, hI, hno, fun H1 e1 => ⟨false, rfl, iteF ?_⟩⟩
    exact ⟨_, rfl, _, _, rfl, hI.ts (ts_same e1), hno, rfl, fun H2 e2 => ⟨true, rfl, iteF (kk H2 (e1.trans e2))⟩⟩
/-- a track that is good in a room -/
def GoodT (rl : Rls) (tn : Str → Prop) (ms : List Im) : Prop := ms.length ≤ 300 ∧ (∀ m ∈ ms, NiceI rl tn m ∧ m.g) ∧ oneF 0 ms = ms ∧ MixOk ms ∧ MixFit rl ms
def sp_check_track : Sp := fun vs H Q _ => ∃ (z rz re td : Addr) (ms : List Im) (rl : Rls) (tn : Str → Prop), vs = [.ref z, .ref rz] ∧ Tr H z ms ∧ RoomC H rz re td rl tn ∧ GoodT rl tn ms ∧ ∀ H', Same H H' → Q .non H'
theorem ok_check_track (T : Tx K mg a) : FnOk P w K mg base CX0 9 a.a_check_track a.f_check_track ["track", "room"] sp_check_track := by
  refine T.d_check_track.F.ok sc_check_track (fun vs H Q E h => ?_) (fun cdv A outer s H vs Q E hr h => ?_)
  · obtain ⟨z, rz, re, td, ms, rl, tn, rfl, _⟩ := h
    rfl
  obtain ⟨z, rz, re, td, ms, rl, tn, rfl, tT, hC, ⟨hl, hn, hof, hmx, hfit⟩, kk⟩ := h
  refine ⟨_, (pss_cons (ps_if (pt_not (pt_val (pe_callB call_isinst rfl T.b_isinstance rfl (pa_cons (pv 0) (pa_cons (pe_ty rfl T.b_list rfl) pa_nil))))) pss_never pss_nil)
      (pss_cons (ps_for PassesOwn.never rfl (pi_list (pv 0)) (pg_name (i := 2) sc_check_track.nd rfl (Or.inl rfl)) (pss_one (ps_expr (pe_def T.d_check_item (ok_check_item T) hr rfl (pa_cons (pv 2) (pa_cons (pv 1) pa_nil))))))
      (pss_cons (ps_if (pt_not (pt_val (pe_def T.d_is_in_one_form (ok_is_in_one_form T) hr rfl (pa_cons (pv 0) pa_nil)))) pss_never pss_nil)
      (pss_one (ps_if (pt_not (pt_val (pe_def T.d_mixes_fit (ok_mixes_fit T) hr rfl (pa_cons (pv 0) (pa_cons (pe_ix ix_tup (pv 1) pe_int (fun _ _ => rfl)) pa_nil))))) pss_never pss_nil))))), ?_⟩
  obtain ⟨vs, hz, his⟩ := id tT
  refine ⟨_, rfl, _, _, _, true, rfl, .lst hz, ⟨_, .inl ⟨rfl, rfl⟩⟩, true, rfl, iteF ?_⟩
  refine ⟨_, rfl, z, rfl, ⟨_, SqL.of hz⟩, for_list (K := K) (a := z) (xs := vs) (fun i σ H' => ∃ o : Option V, σ = [some (.ref z), some (.ref rz), o] ∧ Same H H') ⟨none, rfl, Same.refl _⟩ ?_ ?_ ?_⟩
  · rintro i σ H' hi ⟨o, rfl, e⟩
    exact SqL.of (e _ _ hz)
  · rintro i x σ H' hx ⟨o, rfl, e⟩
    obtain ⟨m, hm, hI⟩ := his.get hx
    exact ⟨_, rfl, _, rfl, x, m, rz, re, td, rl, tn, rfl, hI.ts (ts_same e), hC.same e, (hn m (List.mem_of_getElem? hm)).1, fun H2 e2 => ⟨_, rfl, e.trans e2⟩⟩
  · rintro σ H1 ⟨o, rfl, e1⟩
    refine ⟨_, rfl, z, ms, rfl, tT.same e1, hl, hof, hmx, fun H2 e2 => ⟨true, rfl, iteF ?_⟩⟩
    have e12 := e1.trans e2
    refine ⟨_, rfl, _, rfl, rz, _, _, _, rfl, rfl, SqT.of (hC.same e12).z, at0, z, re, ms, rl, rfl, tT.same e12, hl, hmx, fun m hm => (hn m hm).2, hfit, (hC.same e12).r, fun H3 e3 => ⟨true, rfl, iteF ?_⟩⟩
    exact kk H3 (e12.trans e3)
def tiedF (n : Int) : Int → List Int → Prop
  | _, [] => True
  | l, x :: r => l ≤ x ∧ x < n ∧ tiedF n (x + 1) r
def sp_is_tied : Sp := fun vs H Q _ => ∃ (z : Addr) (tie : List Int) (n : Int), vs = [.ref z, .int n] ∧ H z = some (.lst (tie.map V.int)) ∧ tiedF n 0 tie ∧ Q (.bl true) H
theorem ok_is_tied (T : Tx K mg a) : FnOk P w K mg base CX0 2 a.a_is_tied a.f_is_tied ["tied", "many"] sp_is_tied := by
  refine T.d_is_tied.F.ok sc_is_tied (fun vs H Q E h => ?_) (fun cdv A outer s H vs Q E hr h => ?_)
  · obtain ⟨z, tie, n, rfl, _⟩ := h
    rfl
  obtain ⟨z, tie, n, rfl, hz, ht, kk⟩ := h
  refine ⟨_, (pss_cons (ps_if (pt_not (pt_val (pe_callB call_isinst rfl T.b_isinstance rfl (pa_cons (pv 0) (pa_cons (pe_ty rfl T.b_list rfl) pa_nil))))) (pss_one (ps_ret pe_bl)) pss_nil)
      (pss_cons (ps_set (i := 2) sc_is_tied.nd rfl (Or.inl rfl) pe_int)
      (pss_cons (ps_for PassesOwn.never rfl (pi_list (pv 0)) (pg_name (i := 3) sc_is_tied.nd rfl (Or.inl rfl)) (pss_cons (ps_if (PW.pt (pw_or (pt_not (pt_val (pe_def T.d_is_whole (ok_is_whole T) hr rfl (pa_cons (pv 3) pa_nil)))) (pw_or (pt_cmpR op_lt (pv 3) (pv 2) (nomark _)) (pw_or1 (pt_cmpR op_ge (pv 3) (pv 1) (nomark _)))))) (pss_one (ps_ret pe_bl)) pss_nil)
      (pss_one (ps_set (i := 2) sc_is_tied.nd rfl (Or.inl rfl) (pe_op op_add (pv 3) pe_int)))))
      (pss_one (ps_ret pe_bl))))), ?_⟩
  refine ⟨_, rfl, _, _, _, true, rfl, .lst hz, ⟨_, .inl ⟨rfl, rfl⟩⟩, true, rfl, iteF ?_⟩
  refine ⟨_, rfl, z, rfl, ⟨_, SqL.of hz⟩, for_list (K := K) (a := z) (xs := tie.map V.int) (fun i σ H' => H' = H ∧ ∃ (l : Int) (o : Option V), σ = [some (.ref z), some (.int n), some (.int l), o] ∧ tiedF n l (tie.drop i)) ⟨rfl, 0, none, rfl, ht⟩ ?_ ?_ ?_⟩
  · rintro i σ H' hi ⟨rfl, _⟩
    exact SqL.of hz
  · rintro i x σ H' hx ⟨rfl, l, o, rfl, hti⟩
    obtain ⟨m, hm, rfl⟩ : ∃ m : Int, tie[i]? = some m ∧ x = .int m := by
      rw [List.getElem?_map] at hx
      cases e : tie[i]? with
      | none => rw [e] at hx; cases hx
      | some m => rw [e] at hx; exact ⟨m, rfl, (Option.some.inj hx).symm⟩
    rw [drop_cons hm] at hti
    obtain ⟨q1, q2, q3⟩ := hti
    refine ⟨_, rfl, m, rfl, true, rfl, iteF ?_⟩
    refine ⟨_, rfl, _, rfl, _, _, rfl, rfl, _, rfl, ite2 (fun c => absurd c (by simp; omega)) (fun _ => ?_)⟩
    refine ⟨_, rfl, _, rfl, _, _, rfl, rfl, _, rfl, ite2 (fun c => absurd c (by simp; omega)) (fun _ => ?_)⟩
    exact ⟨_, rfl, _, _, rfl, rfl, rfl, _, _, rfl, q3⟩
  · rintro σ H' ⟨rfl, l, o, rfl, _⟩
    exact kk

def GoodTab (rl : Rls) (tn : Str → Prop) (ts : List (List Im)) (tie : List Int) : Prop := 1 ≤ ts.length ∧ ts.length ≤ 8 ∧ (∀ ms ∈ ts, GoodT rl tn ms) ∧ tiedF ts.length 0 tie
def sp_check_table : Sp := fun vs H Q _ => ∃ (v : V) (rz re td : Addr) (ts : List (List Im)) (tie : List Int) (rl : Rls) (tn : Str → Prop), vs = [v, .ref rz] ∧ TabF H v ts tie ∧ RoomC H rz re td rl tn ∧ GoodTab rl tn ts tie ∧ ∀ H', Same H H' → Q .non H'
theorem ok_check_table (T : Tx K mg a) : FnOk P w K mg base CX0 10 a.a_check_table a.f_check_table ["table", "room"] sp_check_table := by
  refine T.d_check_table.F.ok sc_check_table (fun vs H Q E h => ?_) (fun cdv A outer s H vs Q E hr h => ?_)
  · obtain ⟨v, rz, re, td, ts, tie, rl, tn, rfl, _⟩ := h
    rfl
  obtain ⟨v, rz, re, td, ts, tie, rl, tn, rfl, ⟨tt, tl, ti, zs, rfl, h2, h3, h4, h5⟩, hC, ⟨l1, l8, hgt, htie⟩, kk⟩ := h
  refine ⟨_, (pss_cons (ps_if (PW.pt (pw_or (pt_not (pt_val (pe_callB call_isinst rfl T.b_isinstance rfl (pa_cons (pv 0) (pa_cons (pe_ty rfl T.b_tuple rfl) pa_nil))))) (pw_or (pt_cmpR op_ne (pe_callB call_len_seq rfl T.b_len rfl (pa_cons (pv 0) pa_nil)) pe_int (nomark _)) (pw_or1 (pt_not (pt_val (pe_callB call_isinst rfl T.b_isinstance rfl (pa_cons (pe_ix ix_tup (pv 0) pe_int (fun _ _ => rfl)) (pa_cons (pe_ty rfl T.b_list rfl) pa_nil))))))))) pss_never pss_nil)
      (pss_cons (ps_if (PW.pt (pw_or (pt_cmpR op_lt (pe_callB call_len_seq rfl T.b_len rfl (pa_cons (pe_ix ix_tup (pv 0) pe_int (fun _ _ => rfl)) pa_nil)) pe_int (nomark _)) (pw_or1 (pt_cmpR op_gt (pe_callB call_len_seq rfl T.b_len rfl (pa_cons (pe_ix ix_tup (pv 0) pe_int (fun _ _ => rfl)) pa_nil)) (pe_glob (v := .int 8) rfl T.g_MOST_TRACKS ⟨_, rfl⟩) (nomark _))))) pss_never pss_nil)
      (pss_cons (ps_for PassesOwn.never rfl (pi_list (pe_ix ix_tup (pv 0) pe_int (fun _ _ => rfl))) (pg_name (i := 2) sc_check_table.nd rfl (Or.inl rfl)) (pss_one (ps_expr (pe_def T.d_check_track (ok_check_track T) hr rfl (pa_cons (pv 2) (pa_cons (pv 1) pa_nil))))))
      (pss_one (ps_if (pt_not (pt_val (pe_def T.d_is_tied (ok_is_tied T) hr rfl (pa_cons (pe_ix ix_tup (pv 0) pe_int (fun _ _ => rfl)) (pa_cons (pe_callB call_len_seq rfl T.b_len rfl (pa_cons (pe_ix ix_tup (pv 0) pe_int (fun _ _ => rfl)) pa_nil)) pa_nil))))) pss_never pss_nil))))), ?_⟩
  have hzl := h4.len
  refine ⟨_, rfl, _, _, _, true, rfl, .tup h2, ⟨_, .inl ⟨rfl, rfl⟩⟩, true, rfl, iteF ?_⟩
  refine ⟨_, rfl, _, _, rfl, .inr (SqT.of h2), rfl, _, rfl, iteF ?_⟩
  refine ⟨_, rfl, tt, _, _, _, rfl, rfl, SqT.of h2, at0, _, _, _, true, rfl, .lst h3, ⟨_, .inl ⟨rfl, rfl⟩⟩, true, rfl, iteF ?_⟩
  refine ⟨_, rfl, tt, _, _, _, rfl, rfl, SqT.of h2, at0, tl, _, rfl, .inl (SqL.of h3), _, _, rfl, rfl, _, rfl, ite2 (fun c => absurd c (by simp; omega)) (fun _ => ?_)⟩
  refine ⟨_, rfl, tt, _, _, _, rfl, rfl, SqT.of h2, at0, tl, _, rfl, .inl (SqL.of h3), _, _, rfl, rfl, _, rfl, ite2 (fun c => absurd c (by simp; omega)) (fun _ => ?_)⟩
  refine ⟨_, rfl, tt, _, _, _, rfl, rfl, SqT.of h2, at0, tl, rfl, ⟨_, SqL.of h3⟩, for_list (K := K) (a := tl) (xs := zs) (fun i σ H' => ∃ o : Option V, σ = [some (.ref tt), some (.ref rz), o] ∧ Same H H') ⟨none, rfl, Same.refl _⟩ ?_ ?_ ?_⟩
  · rintro i σ H' hi ⟨o, rfl, e⟩
    exact SqL.of (e _ _ h3)
  · rintro i x σ H' hx ⟨o, rfl, e⟩
    obtain ⟨ms, z, hms, rfl, hT⟩ := h4.get hx
    exact ⟨_, rfl, _, rfl, z, rz, re, td, ms, rl, tn, rfl, hT.same e, hC.same e, hgt ms (List.mem_of_getElem? hms), fun H2 e2 => ⟨_, rfl, e.trans e2⟩⟩
  · rintro σ H1 ⟨o, rfl, e⟩
    refine ⟨_, rfl, tt, _, _, _, rfl, rfl, SqT.of (e _ _ h2), at1, _, rfl, tt, _, _, _, rfl, rfl, SqT.of (e _ _ h2), at0, tl, _, rfl, .inl (SqL.of (e _ _ h3)), ti, tie, _, rfl, e _ _ h5, ?_, true, rfl, iteF (kk H1 e)⟩
    rw [hzl]; exact htie
def nestN : List Im → List Str
  | [] => []
  | .nest n _ _ :: r => n :: nestN r
  | .clip .. :: r => nestN r
  | .gap _ :: r => nestN r
  | .mix _ :: r => nestN r
theorem nestN_other {m : Im} (h : m.wd ≠ "nest") (r : List Im) : nestN (m :: r) = nestN r := by
  cases m with
  | nest => exact absurd rfl h
  | _ => rfl
theorem w_nest {m : Im} (h : m.wd = "nest") : ∃ n b l, m = .nest n b l := by
  cases m with
  | nest n b l => exact ⟨n, b, l, rfl⟩
  | clip => exact absurd (show ("clip" : Str) = "nest" from h) (by decide +kernel)
  | gap => exact absurd (show ("gap" : Str) = "nest" from h) (by decide +kernel)
  | mix => exact absurd (show ("mix" : Str) = "nest" from h) (by decide +kernel)
theorem nestN_app : ∀ (xs ys : List Im), nestN (xs ++ ys) = nestN xs ++ nestN ys
  | [], _ => rfl
  | m :: xs, ys => by
    by_cases h : m.wd = "nest"
    · obtain ⟨n, b, l, rfl⟩ := w_nest h
      rw [List.cons_append, nestN, nestN, nestN_app xs ys]; rfl
    · rw [List.cons_append, nestN_other h, nestN_other h, nestN_app xs ys]
theorem nestN_len : ∀ (xs : List Im), (nestN xs).length ≤ xs.length
  | [] => by simp [nestN]
  | m :: xs => by
    have ih := nestN_len xs
    by_cases h : m.wd = "nest"
    · obtain ⟨n, b, l, rfl⟩ := w_nest h
      rw [nestN, List.length_cons, List.length_cons]; omega
    · rw [nestN_other h, List.length_cons]; omega
def nestT (ts : List (List Im)) : List Str := (ts.map nestN).flatten
def sp_nested_in : Sp := fun vs H Q _ => ∃ (v : V) (ts : List (List Im)) (tie : List Int), vs = [v] ∧ TabF H v ts tie ∧ ts.length ≤ 8 ∧ (∀ ms ∈ ts, ms.length ≤ 100) ∧ ∀ (y : Addr) (H' : Hp), Same H H' → H' y = some (.lst ((nestT ts).map V.str)) → Q (.ref y) H'
theorem ok_nested_in (T : Tx K mg a) : FnOk P w K mg base CX0 1 a.a_nested_in a.f_nested_in ["table"] sp_nested_in := by
  refine T.d_nested_in.F.ok sc_nested_in (fun vs H Q E h => ?_) (fun cdv A outer s H vs Q E hr h => ?_)
  · obtain ⟨v, ts, tie, rfl, _⟩ := h
    rfl
  obtain ⟨v, ts, tie, rfl, ⟨tt, tl, ti, zs, rfl, h2, h3, h4, h5⟩, l8, lm, kk⟩ := h
  refine ⟨_, (pss_cons (ps_set (i := 1) sc_nested_in.nd rfl (Or.inl rfl) (pe_lst pa_nil))
      (pss_cons (ps_for PassesOwn.never rfl (pi_list (pe_ix ix_tup (pv 0) pe_int (fun _ _ => rfl))) (pg_name (i := 2) sc_nested_in.nd rfl (Or.inl rfl)) (pss_one (ps_expr (pe_bm PySem.F.plainAttrs_list PySem.F.slot_list_extend PySem.F.type_list_extend mt_extend (pv 1) (pa_cons (pe_compF [] [] rfl (pi_list (pv 2)) (fun _ _ _ _ => (pt_cmpR op_eq (pe_ix (ixK_tup (K := K) rfl) (pv 0) pe_int (fun _ _ => rfl)) pe_str (nomark _))) (fun _ _ _ _ => (pe_ix (ixK_tup (K := K) rfl) (pv 0) pe_int (fun _ _ => rfl)))) pa_nil)))))
      (pss_one (ps_ret (pv 1))))), ?_⟩
  have hzl := h4.len
  refine ⟨(by show 0 ≤ sizeLine; decide), fun y hy => ?_⟩
  have w0 := same_new hy (.lst [])
  refine ⟨_, rfl, tt, _, _, _, rfl, rfl, SqT.of (w0 _ _ h2), at0, tl, rfl, ⟨_, SqL.of (w0 _ _ h3)⟩, for_list (K := K) (a := tl) (xs := zs) (fun i σ H' => ∃ o : Option V, σ = [some (.ref tt), some (.ref y), o] ∧ H' y = some (.lst ((nestT (ts.take i)).map V.str)) ∧ (nestT (ts.take i)).length ≤ 100 * i ∧ Same H H') ⟨none, rfl, upd_same, by simp [nestT], w0⟩ ?_ ?_ ?_⟩
  · rintro i σ H' hi ⟨o, rfl, _, _, e⟩
    exact SqL.of (e _ _ h3)
  · rintro i x σ H' hx ⟨o, rfl, hyv, hyl, e⟩
    have hi : i < ts.length := by rw [← hzl]; exact (List.getElem?_eq_some_iff.mp hx).1
    obtain ⟨ms, z, hms, rfl, us, hz, his⟩ := h4.get hx
    have hlm := lm ms (List.mem_of_getElem? hms)
    have hul := his.len
    refine ⟨_, rfl, .inl ⟨rfl, _, SqL.of hyv⟩, _, rfl, z, rfl, ⟨_, SqL.of (e _ _ hz)⟩, comp_listF (K := K) (a := z) (xs := us) (fun j acc H'' => H'' = H' ∧ acc = (nestN (ms.take j)).map V.str ∧ acc.length ≤ j) ⟨rfl, rfl, by simp⟩ ?_ ?_ ?_⟩
    · rintro j acc H'' hj ⟨rfl, rfl, hal⟩
      exact ⟨SqL.of (e _ _ hz), small1000 (by omega)⟩
    · rintro j v acc H'' hj hv ⟨rfl, rfl, hal⟩
      obtain ⟨m, hm, hI⟩ := his.get hv
      have hI' := hI.ts (ts_same e)
      have htk : ms.take (j + 1) = ms.take j ++ [m] := by rw [List.take_add_one, hm]; rfl
      obtain ⟨zi, xi, rfl, hzi, h0, h1⟩ := hI'.opn
      refine ⟨_, rfl, zi, xi, _, _, rfl, rfl, SqT.of hzi, h0, rfl, _, rfl, ite2 (fun c => ?_) (fun c => ?_)⟩
      · obtain ⟨n, b, l, rfl⟩ := w_nest (by simpa using c)
        obtain ⟨z2, e3, hz2⟩ := id hI'
        cases e3
        have a1 : atI [V.str "nest", .str n, .int b, .int l] 1 = some (.str n) := rfl
        refine ⟨_, rfl, zi, _, _, _, rfl, rfl, SqT.of hz2, a1, Nxt.mk hj ⟨rfl, ?_, by simp at hal ⊢; omega⟩⟩
        rw [htk, nestN_app, List.map_append]; rfl
      · have hw : m.wd ≠ "nest" := by simpa using c
        refine Nxt.mk hj ⟨rfl, ?_, by omega⟩
        rw [htk, nestN_app, nestN_other hw]
        show _ = (nestN (ms.take j) ++ []).map V.str
        rw [List.append_nil]
    · rintro acc H'' ⟨rfl, rfl, hal⟩ d hd
      rw [hul, List.take_length] at hal ⊢
      have w1 := same_new hd (.lst ((nestN ms).map V.str))
      have hnl : (nestN ms).length ≤ 100 := by have := nestN_len ms; omega
      have etk : ts.take (i + 1) = ts.take i ++ [ms] := by rw [List.take_add_one, hms]; rfl
      have en : nestT (ts.take (i + 1)) = nestT (ts.take i) ++ nestN ms := by
        unfold nestT
        rw [etk, List.map_append, List.flatten_append]
        simp
      refine ⟨y, d, _, _, rfl, rfl, w1 _ _ hyv, upd_same, Nat.le_of_lt (small1000 (by simp; omega)), _, rfl, ?_, ?_, same_updN (e.trans w1) hy⟩
      · rw [upd_same, en, List.map_append]
      · rw [en, List.length_append]; omega
  · rintro σ H' ⟨o, rfl, hyv, _, e⟩
    rw [hzl, List.take_length] at hyv
    exact ⟨_, rfl, kk y H' e hyv⟩
def sp_rests_upon : Sp := fun vs H Q _ => ∃ (v : V) (lo : Addr) (lk : List (Key × V)) (ts : List (List Im)) (tie : List Int), vs = [v, .ref lo] ∧ TabF H v ts tie ∧ ts.length ≤ 8 ∧ (∀ ms ∈ ts, ms.length ≤ 100) ∧ H lo = some (.dK lk) ∧ ∀ H', Same H H' → Q (.bl ((nestT ts).all fun n => (valV lk (Sum.inr n)).isSome)) H'
theorem flat_len : ∀ (ts : List (List Im)), (∀ ms ∈ ts, ms.length ≤ 100) → (nestT ts).length ≤ 100 * ts.length
  | [], _ => by simp [nestT]
  | ms :: ts, h => by
    have h1 := nestN_len ms
    have h2 := h ms (by simp)
    have h3 := flat_len ts fun x hx => h x (by simp [hx])
    have e : nestT (ms :: ts) = nestN ms ++ nestT ts := rfl
    rw [e, List.length_append, List.length_cons]
    omega
theorem ok_rests_upon (T : Tx K mg a) : FnOk P w K mg base CX0 3 a.a_rests_upon a.f_rests_upon ["table", "lower"] sp_rests_upon := by
  refine T.d_rests_upon.F.ok sc_rests_upon (fun vs H Q E h => ?_) (fun cdv A outer s H vs Q E hr h => ?_)
  · obtain ⟨v, lo, lk, ts, tie, rfl, _⟩ := h
    rfl
  obtain ⟨v, lo, lk, ts, tie, rfl, hT, l8, lm, hlo, kk⟩ := h
  have hu1 := hu_of hr
  have hfl := flat_len ts lm
  refine ⟨_, (pss_one (ps_ret (pe_callB (call_allB rfl) rfl T.b_all rfl (pa_cons (pe_comp ["lower"] [1] rfl (pi_list (pe_def T.d_nested_in (ok_nested_in T) hr rfl (pa_cons (pv 0) pa_nil))) (fun _ _ _ _ => (pe_cmp (pc_din hu1 (pv 0) (pv 1))))) pa_nil)))), ?_⟩
  refine ⟨_, rfl, v, ts, tie, rfl, hT, l8, lm, fun y H1 e1 hy => ?_⟩
  refine ⟨y, rfl, ⟨_, SqL.of hy⟩, comp_list (K := K) (a := y) (xs := (nestT ts).map V.str) (fun i acc H' => H' = H1 ∧ acc = (((nestT ts).take i).map fun n => (valV lk (Sum.inr n)).isSome).map V.bl) ⟨rfl, rfl⟩ ?_ ?_ ?_⟩
  · rintro i acc H' hi ⟨rfl, rfl⟩
    exact ⟨SqL.of hy, small1000 (by simp; omega)⟩
  · rintro i x acc H' hi hx ⟨rfl, rfl⟩
    obtain ⟨n, hn, rfl⟩ : ∃ n : Str, (nestT ts)[i]? = some n ∧ x = .str n := by
      rw [List.getElem?_map] at hx
      cases e : (nestT ts)[i]? with
      | none => rw [e] at hx; cases hx
      | some m => rw [e] at hx; exact ⟨m, rfl, (Option.some.inj hx).symm⟩
    refine ⟨_, rfl, _, rfl, lo, _, rfl, .inl ⟨lk, Sum.inr n, .inl (e1 _ _ hlo), rfl, rfl⟩, Nxt.mk hi ⟨rfl, ?_⟩⟩
    rw [List.take_add_one, hn]
    simp
  · rintro acc H' ⟨rfl, rfl⟩ d hd
    refine ⟨d, _, rfl, SqL.of upd_same, ?_⟩
    rw [List.length_map, List.take_length]
    have e : ((nestT ts).map fun n => (valV lk (Sum.inr n)).isSome).all id = (nestT ts).all fun n => (valV lk (Sum.inr n)).isSome := by
      rw [List.all_map]; rfl
    rw [e]
    exact kk _ (e1.trans (same_new hd _))

/-! ### depth, and the whole room -/
theorem frz_in {H : Hp} {d : Addr} {kvs : List (Key × V)} {R : Obj → Hp → Prop} (h : Rd H d (.dK kvs)) (k : ∀ o H', H' d = some (.frz o (.dK kvs)) → (H' = H ∨ (H d = some (.dK kvs) ∧ H' = upd H d (.frz o (.dK kvs)))) → R o H') : Frz H d kvs R := by
  rcases h with h | ⟨o, h⟩
  · exact .inr ⟨h, fun o => k o _ upd_same (.inr ⟨h, rfl⟩)⟩
  · exact .inl ⟨o, h, k o H h (.inl rfl)⟩
theorem frz_sb {H H' : Hp} {d : Addr} {kvs : List (Key × V)} {o : Obj} (h : H' = H ∨ (H d = some (.dK kvs) ∧ H' = upd H d (.frz o (.dK kvs)))) : SBz d H H' := by
  rcases h with rfl | ⟨_, rfl⟩
  · exact fun _ _ _ h => h
  · exact fun b u n hb => by rw [upd_ne n]; exact hb
theorem frz_tb {H H' : Hp} {d : Addr} {kvs : List (Key × V)} {o : Obj} {tb : List Tb} {kv : List (Key × V)} (h : H' = H ∨ (H d = some (.dK kvs) ∧ H' = upd H d (.frz o (.dK kvs)))) (t : TbsAt H tb kv) : TbsAt H' tb kv := by
  rcases h with rfl | ⟨h, rfl⟩
  · exact t
  · exact t.sbD sb_upd h
theorem SBz.trans {z : Addr} {H H1 H2 : Hp} (a : SBz z H H1) (b : SBz z H1 H2) : SBz z H H2 := fun c u n h => b c u n (a c u n h)
theorem sbz_same {z : Addr} {H H' : Hp} (e : Same H H') : SBz z H H' := fun b u _ h => e b u h
/-- as many keys as names -/
theorem keys_len : ∀ (lk : List (Key × V)) (ns : List Str), ns.Nodup → (∀ n ∈ ns, (valV lk (Sum.inr n)).isSome = true) → ns.length ≤ lk.length
  | [], ns, _, h => by
    cases ns with
    | nil => simp
    | cons n r => exact absurd (h n (by simp)) (by rw [valV_nil]; simp)
  | p :: lk, ns, nd, h => by
    have nd' : (ns.filter fun n => decide (¬ p.1 = Sum.inr n)).Nodup := nd.filter _
    have ih := keys_len lk _ nd' fun n hn => by
      obtain ⟨h1, h2⟩ := List.mem_filter.mp hn
      have := h n h1
      rw [valV_neg (by simpa using h2)] at this
      exact this
    have key : ∀ (l : List Str), l.Nodup → l.length ≤ (l.filter fun n => decide (¬ p.1 = Sum.inr n)).length + 1 := by
      intro l
      induction l with
      | nil => intro _; simp
      | cons x r ih2 =>
        intro hnd
        obtain ⟨hx, hr⟩ := List.nodup_cons.mp hnd
        by_cases c : p.1 = Sum.inr x
        · have er : r.filter (fun n => decide (¬ p.1 = Sum.inr n)) = r := by
            rw [List.filter_eq_self]
            intro y hy
            have : ¬ p.1 = Sum.inr y := fun q => hx (by rw [c] at q; rw [Sum.inr.inj q]; exact hy)
            simpa using this
          rw [List.filter_cons_of_neg (by simpa using c), er, List.length_cons]
          omega
        · rw [List.filter_cons_of_pos (by simpa using c), List.length_cons, List.length_cons]
          have := ih2 hr
          omega
    have := key ns nd
    rw [List.length_cons]
    omega
theorem put_len (lk : List (Key × V)) (k : Key) (v : V) : (putK lk k v).length ≤ lk.length + 1 := by
  unfold putK
  split <;> simp
def NamesOf (tb : List Tb) : List Str := tb.map (·.1)
def Ranked (tb : List Tb) (rk : Str → Nat) : Prop := ∀ t ∈ tb, rk t.1 < 6 ∧ ∀ n ∈ nestT t.2.1, n ∈ NamesOf tb ∧ rk n < rk t.1
def restB (lk : List (Key × V)) (t : Tb) : Bool := (nestT t.2.1).all fun n => (valV lk (Sum.inr n)).isSome
def sp_check_depth : Sp := fun vs H Q _ => ∃ (td : Addr) (kvs : List (Key × V)) (tb : List Tb) (rk : Str → Nat), vs = [.ref td] ∧ Rd H td (.dK kvs) ∧ TbsAt H tb kvs ∧ (NamesOf tb).Nodup ∧ tb.length ≤ 100 ∧ (∀ t ∈ tb, t.2.1.length ≤ 8 ∧ ∀ ms ∈ t.2.1, ms.length ≤ 100) ∧ Ranked tb rk ∧ ∀ H', SBz td H H' → Rd H' td (.dK kvs) → TbsAt H' tb kvs → Q .non H'
theorem ok_check_depth (T : Tx K mg a) : FnOk P w K mg base CX0 4 a.a_check_depth a.f_check_depth ["tables"] sp_check_depth := by
  refine T.d_check_depth.F.ok sc_check_depth (fun vs H Q E h => ?_) (fun cdv A outer s H vs Q E hr h => ?_)
  · obtain ⟨td, kvs, tb, rk, rfl, _⟩ := h
    rfl
  obtain ⟨td, kvs, tb, rk, rfl, hrd, htb, nd, hl, hsz, hrk, kk⟩ := h
  have hu1 := hu_of hr
  have hkl := htb.len
  refine ⟨_, (pss_cons (ps_set (i := 1) sc_check_depth.nd rfl (Or.inr rfl) pe_dnewK)
      (pss_cons (ps_for PassesOwn.never rfl (pi_range1 rfl T.b_range (pa_cons (pe_glob (v := .int 6) rfl T.g_MOST_DEEP ⟨_, rfl⟩) pa_nil)) (pg_name (i := 2) sc_check_depth.nd rfl (Or.inl rfl)) (pss_cons (ps_setCF (i := 3) ["tables", "lower"] [0, 1] sc_check_depth.nd rfl rfl rfl (pi_keys (pv 0)) (fun _ _ _ _ => (pt_val (pe_def T.d_rests_upon (ok_rests_upon T) hr rfl (pa_cons (pe_dget hu1 (pv 1) (pv 0) (fun _ _ => rfl)) (pa_cons (pv 2) pa_nil))))) (fun _ _ _ _ => (pv 0)))
      (pss_one (ps_for PassesOwn.never rfl (pi_list (pv 3)) (pg_name (i := 4) sc_check_depth.nd rfl (Or.inl rfl)) (pss_one (ps_dput hu1 (pv 1) (pv 4) pe_bl rfl))))))
      (pss_one (ps_if (pt_cmpR op_lt (pe_callB call_lenR rfl T.b_len rfl (pa_cons (pv 1) pa_nil)) (pe_callB call_lenR rfl T.b_len rfl (pa_cons (pv 0) pa_nil)) (nomark _)) pss_never pss_nil)))), ?_⟩
  refine fun lo hlo => ?_
  have w0 := same_new hlo (.dK [])
  have nlo : td ≠ lo := by
    rcases hrd with h | ⟨o, h⟩
    · exact ne_of_none h hlo
    · exact ne_of_none h hlo
  have sb0 : SBz td H (upd H lo (.dK [])) := sbz_same w0
  have hr0 : Rd (upd H lo (.dK [])) td (.dK kvs) := rd_same w0 hrd
  have ht0 : TbsAt (upd H lo (.dK [])) tb kvs := htb.same w0
  have hl0 : (upd H lo (.dK [])) lo = some (.dK []) := upd_same
  generalize upd H lo (.dK []) = Hs at sb0 hr0 ht0 hl0 ⊢
  refine ⟨_, rfl, by decide, by decide, for_range (n := 6) (fun i σ H' => ∃ (o1 o2 o3 : Option V) (lk : List (Key × V)), σ = [some (.ref td), some (.ref lo), o1, o2, o3] ∧ SBz td H H' ∧ Rd H' td (.dK kvs) ∧ TbsAt H' tb kvs ∧ H' lo = some (.dK lk) ∧ lk.length ≤ 100 * i ∧ ∀ t ∈ tb, rk t.1 < i → (valV lk (Sum.inr t.1)).isSome = true) ⟨none, none, none, [], rfl, sb0, hr0, ht0, hl0, by simp, fun t _ h => absurd h (by omega)⟩ ?_ ?_⟩
  · rintro i σ H1 hi ⟨o1, o2, o3, lk, rfl, sb1, hr1, ht1, hl1, hll, hin⟩
    refine ⟨_, rfl, td, kvs, rfl, frz_in hr1 fun o H2 h2 hc => ?_⟩
    have sb2 := sb1.trans (frz_sb hc)
    have ht2 := frz_tb hc ht1
    have hl2 : H2 lo = some (.dK lk) := frz_sb hc _ _ nlo.symm hl1
    clear hc
    refine comp_keysF (d := td) (o := o) (kvs := kvs) (fun j acc H3 => Same H2 H3 ∧ acc = ((tb.take j).filter (restB lk)).map (fun t => V.str t.1) ∧ acc.length ≤ j) ⟨Same.refl _, rfl, by simp⟩ ?_ ?_ ?_
    · rintro j acc H3 hj ⟨e3, rfl, hal⟩
      exact ⟨e3 _ _ h2, small1000 (by omega)⟩
    · rintro j k v acc H3 hj hkv ⟨e3, rfl, hal⟩
      obtain ⟨nm, ts, tie, hti, rfl, hT⟩ := (ht2.same e3).get hkv
      have hmem := List.mem_of_getElem? hti
      obtain ⟨v', hv', hT'⟩ := (ht2.same e3).val nd hti
      obtain ⟨z8, z100⟩ := hsz _ hmem
      have htk : tb.take (j + 1) = tb.take j ++ [(nm, ts, tie)] := by rw [List.take_add_one, hti]; rfl
      refine ⟨_, rfl, _, rfl, td, v', rfl, .inl ⟨kvs, Sum.inr nm, .inr ⟨o, e3 _ _ h2⟩, rfl, hv'.symm⟩, _, rfl, v', lo, lk, ts, tie, rfl, hT', z8, z100, e3 _ _ hl2, fun H4 e4 => ⟨_, rfl, ?_⟩⟩
      refine ite2 (fun c => ?_) (fun c => ?_)
      · refine ⟨_, rfl, Nxt.mk hj ⟨e3.trans e4, ?_, by simp at hal ⊢; omega⟩⟩
        have c' : restB lk (nm, ts, tie) = true := c
        rw [htk, List.filter_append, List.map_append, List.filter_cons_of_pos c']
        rfl
      · refine Nxt.mk hj ⟨e3.trans e4, ?_, by omega⟩
        have c' : ¬ restB lk (nm, ts, tie) = true := c
        rw [htk, List.filter_append, List.filter_cons_of_neg c']
        simp
    · rintro acc H3 ⟨e3, rfl, hal⟩ fd hfd
      rw [hkl, List.take_length] at hal ⊢
      have w1 := same_new hfd (.lst ((tb.filter (restB lk)).map fun t => V.str t.1))
      have hf4 : (upd H3 fd (.lst ((tb.filter (restB lk)).map fun t => V.str t.1))) fd = some (.lst ((tb.filter (restB lk)).map fun t => V.str t.1)) := upd_same
      have e4 := e3.trans w1
      have h4 := e4 _ _ h2
      have ht4 := ht2.same e4
      have hl4 := e4 _ _ hl2
      have sb4 := sb2.trans (sbz_same e4)
      generalize upd H3 fd (.lst ((tb.filter (restB lk)).map fun t => V.str t.1)) = H4 at hf4 h4 ht4 hl4 sb4 ⊢
      have nfl : fd ≠ lo := by intro q; rw [q, hl4] at hf4; cases hf4
      refine ⟨_, rfl, fd, rfl, ⟨_, SqL.of hf4⟩, for_list (K := K) (a := fd) (xs := (tb.filter (restB lk)).map fun t => V.str t.1) (fun j σ H5 => ∃ (o3 : Option V) (lk' : List (Key × V)), σ = [some (.ref td), some (.ref lo), some (.int (0 + i)), some (.ref fd), o3] ∧ SB lo H4 H5 ∧ H5 lo = some (.dK lk') ∧ lk'.length ≤ 100 * i + j ∧ ∀ n : Str, (valV lk (Sum.inr n)).isSome = true ∨ n ∈ ((tb.filter (restB lk)).take j).map (·.1) → (valV lk' (Sum.inr n)).isSome = true) ⟨_, lk, rfl, SB.refl _ _, hl4, by omega, fun n h => h.elim id fun q => absurd q (by simp)⟩ ?_ ?_ ?_⟩
      · rintro j σ H5 hj ⟨o3, lk', rfl, e5, _⟩
        exact SqL.of (e5 _ _ nfl hf4)
      · rintro j x σ H5 hx ⟨o3, lk', rfl, e5, hl5, hlen, hin5⟩
        obtain ⟨t, ht, rfl⟩ : ∃ t : Tb, (tb.filter (restB lk))[j]? = some t ∧ x = .str t.1 := by
          rw [List.getElem?_map] at hx
          cases q : (tb.filter (restB lk))[j]? with
          | none => rw [q] at hx; cases hx
          | some m => rw [q] at hx; exact ⟨m, rfl, (Option.some.inj hx).symm⟩
        have hjl : j < (tb.filter (restB lk)).length := (List.getElem?_eq_some_iff.mp ht).1
        have hfl : (tb.filter (restB lk)).length ≤ tb.length := List.length_filter_le _ _
        refine ⟨_, rfl, _, rfl, lo, _, rfl, DPut.k (k := Sum.inr t.1) hl5 (small1000 (by omega)), _, _, rfl, e5.trans sb_upd, upd_same, ?_, fun n hn => ?_⟩
        · have := put_len lk' (Sum.inr t.1) (V.bl true)
          omega
        · rw [valV_put]
          split
          · rfl
          · rename_i c
            refine hin5 n (hn.elim .inl fun q => .inr ?_)
            rw [List.take_add_one, ht, List.map_append, List.mem_append] at q
            rcases q with q | q
            · exact q
            · exact absurd (by simpa using q) fun e : n = t.1 => c (by rw [e])
      · rintro σ H5 ⟨o3, lk', rfl, e5, hl5, hlen, hin5⟩
        rw [List.length_map] at hlen hin5
        rw [List.take_length] at hin5
        have hfl : (tb.filter (restB lk)).length ≤ tb.length := List.length_filter_le _ _
        refine ⟨_, _, _, lk', rfl, fun b u nb hb => ?_, .inr ⟨o, e5 _ _ nlo h4⟩, ht4.sbD e5 hl4, hl5, by omega, fun t ht hlt => hin5 _ ?_⟩
        · exact e5 _ _ (ne_of_none hb hlo) (sb4 _ _ nb hb)
        · by_cases c : rk t.1 < i
          · exact .inl (hin t ht c)
          · refine .inr (List.mem_map.mpr ⟨t, List.mem_filter.mpr ⟨ht, ?_⟩, rfl⟩)
            unfold restB
            rw [List.all_eq_true]
            intro n hn
            obtain ⟨q1, q2⟩ := (hrk t ht).2 n hn
            obtain ⟨t', q3, rfl⟩ := List.mem_map.mp q1
            exact hin t' q3 (by omega)
  · rintro σ H1 ⟨o1, o2, o3, lk, rfl, sb1, hr1, ht1, hl1, hll, hin⟩
    have hge := keys_len lk (NamesOf tb) nd fun n hn => by
      obtain ⟨t, q, rfl⟩ := List.mem_map.mp hn
      exact hin t q (hrk t q).1
    have hnl : (NamesOf tb).length = tb.length := by unfold NamesOf; rw [List.length_map]
    refine ⟨_, rfl, lo, lk, rfl, .inl hl1, _, rfl, td, kvs, rfl, hr1, _, _, rfl, rfl, _, rfl, ite2 (fun c => absurd c (by simp; omega)) (fun _ => ?_)⟩
    exact kk H1 sb1 hr1 ht1
/-- z holds neither a list nor a tuple -/
def NoSq (H : Hp) (z : Addr) : Prop := ∀ xs, H z ≠ some (.lst xs) ∧ H z ≠ some (.tup xs)
theorem NoSq.rd {H : Hp} {z : Addr} {kvs : List (Key × V)} (h : Rd H z (.dK kvs)) : NoSq H z := fun xs => by
  rcases h with h | ⟨o, h⟩ <;> · constructor <;> · rw [h]; intro q; cases q
theorem NoSq.l {H : Hp} {z b : Addr} {xs : List V} (h : NoSq H z) (hb : H b = some (.lst xs)) : b ≠ z := by rintro rfl; exact (h xs).1 hb
theorem NoSq.t {H : Hp} {z b : Addr} {xs : List V} (h : NoSq H z) (hb : H b = some (.tup xs)) : b ≠ z := by rintro rfl; exact (h xs).2 hb
theorem sbG_ts {z : Addr} {H H' : Hp} (e : SB z H H') (h : NoSq H z) : TS H H' := fun b ys hb => e b _ (h.t hb) hb
theorem TrsAt.sbG {z : Addr} {H H' : Hp} (e : SB z H H') (h : NoSq H z) : ∀ {ts : List (List Im)} {vs : List V}, TrsAt H ts vs → TrsAt H' ts vs
  | [], [], _ => trivial
  | _ :: _, _ :: _, ⟨⟨y, h1, h2⟩, r⟩ => ⟨⟨y, h1, by obtain ⟨us, q, _⟩ := id h2; exact h2.sb e (h.l q) (sbG_ts e h)⟩, TrsAt.sbG e h r⟩
  | [], _ :: _, h => h.elim
  | _ :: _, [], h => h.elim
theorem TabF.sbG {z : Addr} {H H' : Hp} (e : SB z H H') (h : NoSq H z) {v : V} {ts : List (List Im)} {tie : List Int} (hT : TabF H v ts tie) : TabF H' v ts tie :=
  let ⟨tt, tl, ti, zs, h1, h2, h3, h4, h5⟩ := hT
  ⟨tt, tl, ti, zs, h1, e _ _ (h.t h2) h2, e _ _ (h.l h3) h3, h4.sbG e h, e _ _ (h.l h5) h5⟩
theorem TbsAt.sbG {z : Addr} {H H' : Hp} (e : SB z H H') (h : NoSq H z) : ∀ {tb : List Tb} {kv : List (Key × V)}, TbsAt H tb kv → TbsAt H' tb kv
  | [], [], _ => trivial
  | (_, _, _) :: _, (_, _) :: _, ⟨h1, h2, h3⟩ => ⟨h1, h2.sbG e h, TbsAt.sbG e h h3⟩
  | [], (_, _) :: _, h => h.elim
  | (_, _, _) :: _, [], h => h.elim
theorem rd_sbz {z b : Addr} {H H' : Hp} {u : HO} (e : SBz z H H') (n : b ≠ z) (h : Rd H b u) : Rd H' b u := by
  rcases h with h | ⟨o, h⟩
  · exact .inl (e _ _ n h)
  · exact .inr ⟨o, e _ _ n h⟩
theorem roomC_of {H : Hp} {rz re td : Addr} {rl : Rls} {tb : List Tb} {ar kvs : List (Key × V)} (hz : H rz = some (.tup [.ref re, .ref td])) (hre : Rd H re (.dK ar)) (har : ∀ n N, rl n = some N → valV ar (Sum.inr n) = some (.int N)) (htd : Rd H td (.dK kvs)) (htb : TbsAt H tb kvs) (nd : (NamesOf tb).Nodup) : RoomC H rz re td rl fun n => n ∈ NamesOf tb := by
  refine ⟨hz, fun n N h => ⟨ar, hre, har n N h⟩, kvs, htd, fun n hn => ?_⟩
  obtain ⟨t, q, rfl⟩ := List.mem_map.mp hn
  obtain ⟨i, hi, e⟩ := List.mem_iff_getElem.mp q
  obtain ⟨nm, ts, tie⟩ := t
  obtain ⟨v, hv, _⟩ := htb.val nd (i := i) (by rw [List.getElem?_eq_getElem hi, e])
  show (valV kvs (Sum.inr nm)).isSome = true
  rw [hv]; rfl
/-- a good room, all of it -/
structure GoodRoom (H : Hp) (rz re td : Addr) (ar kvs : List (Key × V)) (rl : Rls) (tb : List Tb) (rk : Str → Nat) : Prop where
  z : H rz = some (.tup [.ref re, .ref td])
  hre : Rd H re (.dK ar)
  htd : Rd H td (.dK kvs)
  ne : re ≠ td
  rok : RlOk ar
  rlen : ar.length ≤ 100
  rls : ∀ n N, rl n = some N → valV ar (Sum.inr n) = some (.int N)
  tbs : TbsAt H tb kvs
  nd : (NamesOf tb).Nodup
  tlen : tb.length ≤ 100
  names : ∀ t ∈ tb, nameB t.1 = true ∧ t.1.length ≤ 1000
  good : ∀ t ∈ tb, GoodTab rl (fun n => n ∈ NamesOf tb) t.2.1 t.2.2
  size : ∀ t ∈ tb, t.2.1.length ≤ 8 ∧ ∀ ms ∈ t.2.1, ms.length ≤ 100
  rank : Ranked tb rk
def SB2 (y z : Addr) (H H' : Hp) : Prop := ∀ b u, b ≠ y → b ≠ z → H b = some u → H' b = some u
def sp_check_room : Sp := fun vs H Q _ => ∃ (rz re td : Addr) (ar kvs : List (Key × V)) (rl : Rls) (tb : List Tb) (rk : Str → Nat), vs = [.ref rz] ∧ GoodRoom H rz re td ar kvs rl tb rk ∧ ∀ H', SB2 re td H H' → Rd H' re (.dK ar) → Rd H' td (.dK kvs) → TbsAt H' tb kvs → Q .non H'
theorem ok_check_room (T : Tx K mg a) : FnOk P w K mg base CX0 11 a.a_check_room a.f_check_room ["room"] sp_check_room := by
  refine T.d_check_room.F.ok sc_check_room (fun vs H Q E h => ?_) (fun cdv A outer s H vs Q E hr h => ?_)
  · obtain ⟨rz, re, td, ar, kvs, rl, tb, rk, rfl, _⟩ := h
    rfl
  obtain ⟨rz, re, td, ar, kvs, rl, tb, rk, rfl, hG, kk⟩ := h
  have hu1 := hu_of hr
  have hkl := hG.tbs.len
  refine ⟨_, (pss_cons (ps_if (PW.pt (pw_or (pt_not (pt_val (pe_callB call_isinst rfl T.b_isinstance rfl (pa_cons (pv 0) (pa_cons (pe_ty rfl T.b_tuple rfl) pa_nil))))) (pw_or1 (pt_cmpR op_ne (pe_callB call_len_seq rfl T.b_len rfl (pa_cons (pv 0) pa_nil)) pe_int (nomark _))))) pss_never pss_nil)
      (pss_cons (ps_if (PW.pt (pw_or (pt_not (pt_val (pe_callB call_isinstR rfl T.b_isinstance rfl (pa_cons (pe_ix ix_tup (pv 0) pe_int (fun _ _ => rfl)) (pa_cons (pe_ty rfl T.b_dict rfl) pa_nil))))) (pw_or1 (pt_not (pt_val (pe_callB call_isinstR rfl T.b_isinstance rfl (pa_cons (pe_ix ix_tup (pv 0) pe_int (fun _ _ => rfl)) (pa_cons (pe_ty rfl T.b_dict rfl) pa_nil)))))))) pss_never pss_nil)
      (pss_cons (ps_expr (pe_def T.d_check_reels (ok_check_reels T) hr rfl (pa_cons (pe_ix ix_tup (pv 0) pe_int (fun _ _ => rfl)) pa_nil)))
      (pss_cons (ps_for PassesOwn.never rfl (pi_items (pe_ix ix_tup (pv 0) pe_int (fun _ _ => rfl))) (pg_tup rfl (pgs_cons (pg_name (i := 1) sc_check_room.nd rfl (Or.inl rfl)) (pgs_cons (pg_name (i := 2) sc_check_room.nd rfl (Or.inl rfl)) pgs_nil))) (pss_cons (ps_if (pt_not (pt_val (pe_def T.d_is_name (ok_is_name T) hr rfl (pa_cons (pv 1) pa_nil)))) pss_never pss_nil)
      (pss_one (ps_expr (pe_def T.d_check_table (ok_check_table T) hr rfl (pa_cons (pv 2) (pa_cons (pv 0) pa_nil)))))))
      (pss_one (ps_expr (pe_def T.d_check_depth (ok_check_depth T) hr rfl (pa_cons (pe_ix ix_tup (pv 0) pe_int (fun _ _ => rfl)) pa_nil)))))))), ?_⟩
  have hz := hG.z
  refine ⟨_, rfl, _, _, _, true, rfl, .tup hz, ⟨_, .inl ⟨rfl, rfl⟩⟩, true, rfl, iteF ?_⟩
  refine ⟨_, rfl, _, _, rfl, .inr (SqT.of hz), rfl, _, rfl, iteF ?_⟩
  refine ⟨_, rfl, rz, _, _, _, rfl, rfl, SqT.of hz, at0, re, _, _, true, rfl, .inr ⟨ar, hG.hre, rfl⟩, rfl, true, rfl, iteF ?_⟩
  refine ⟨_, rfl, rz, _, _, _, rfl, rfl, SqT.of hz, at1, td, _, _, true, rfl, .inr ⟨kvs, hG.htd, rfl⟩, rfl, true, rfl, iteF ?_⟩
  refine ⟨_, rfl, rz, _, _, _, rfl, rfl, SqT.of hz, at0, re, ar, rfl, hG.hre, hG.rok, hG.rlen, fun o1 H1 sb1 h1 => ?_⟩
  have hz1 : H1 rz = some (.tup [.ref re, .ref td]) := by
    refine sb1 _ _ ?_ hz
    rintro rfl
    rcases hG.hre with h | ⟨o, h⟩ <;> · rw [hz] at h; cases h
  have htd1 : Rd H1 td (.dK kvs) := rd_sbz sb1 hG.ne.symm hG.htd
  have htb1 : TbsAt H1 tb kvs := hG.tbs.sbG sb1 (NoSq.rd hG.hre)
  refine ⟨_, rfl, rz, _, _, _, rfl, rfl, SqT.of hz1, at1, td, kvs, rfl, frz_in htd1 fun o2 H2 h2 hc => ?_⟩
  have sb2 := frz_sb hc
  have htb2 := frz_tb hc htb1
  have hz2 : H2 rz = some (.tup [.ref re, .ref td]) := sb2 _ _ ((NoSq.rd htd1).t hz1) hz1
  have hre2 : H2 re = some (.frz o1 (.dK ar)) := sb2 _ _ hG.ne h1
  have sb02 : SB2 re td H H2 := fun b u n1 n2 hb => sb2 _ _ n2 (sb1 _ _ n1 hb)
  clear hc
  refine for_items (d := td) (o := o2) (kvs := kvs) (fun i σ H' => ∃ (p1 p2 : Option V), σ = [some (.ref rz), p1, p2] ∧ Same H2 H') ⟨none, none, rfl, Same.refl _⟩ ?_ ?_ ?_
  · rintro i σ H' hi ⟨p1, p2, rfl, e⟩
    exact e _ _ h2
  · rintro i k v σ H' p hkv ⟨p1, p2, rfl, e⟩ hp
    have w1 := same_new hp (.tup [kV k, v])
    have e1 := e.trans w1
    obtain ⟨nm, ts, tie, hti, rfl, hT⟩ := (htb2.same e1).get hkv
    have hmem := List.mem_of_getElem? hti
    obtain ⟨hn1, hn2⟩ := hG.names _ hmem
    refine ⟨p, _, rfl, SqT.of upd_same, rfl, _, _, rfl, _, _, rfl, rfl, ?_⟩
    refine ⟨_, rfl, nm, rfl, hn2, fun H3 e3 => ?_⟩
    rw [hn1]
    have e13 := e1.trans e3
    refine ⟨true, rfl, iteF ⟨_, rfl, _, rfl, v, rz, re, td, ts, tie, rl, _, rfl, hT.same e3, roomC_of (e13 _ _ hz2) (.inr ⟨_, e13 _ _ hre2⟩) hG.rls (.inr ⟨_, e13 _ _ h2⟩) (htb2.same e13) hG.nd, hG.good _ hmem, fun H4 e4 => ?_⟩⟩
    exact ⟨_, _, rfl, e13.trans e4⟩
  · rintro σ H' ⟨p1, p2, rfl, e⟩
    refine ⟨_, rfl, rz, _, _, _, rfl, rfl, SqT.of (e _ _ hz2), at1, td, kvs, tb, rk, rfl, .inr ⟨_, e _ _ h2⟩, htb2.same e, hG.nd, hG.tlen, hG.size, hG.rank, fun H3 sb3 hr3 ht3 => ?_⟩
    exact kk H3 (fun b u n1 n2 hb => sb3 _ _ n2 (e _ _ (sb02 _ _ n1 n2 hb))) (.inr ⟨_, sb3 _ _ hG.ne (e _ _ hre2)⟩) hr3 ht3

/-! ### the law of the told mixes -/
def sp__law_picture : Sp := fun vs H Q _ => ∃ (v : V) (n : Str) (p q r s l k : Int), vs = [v, .int k] ∧ IsI H (.clip n p q r s l) v ∧ p.natAbs < 2 ^ 60 ∧ r.natAbs < 2 ^ 60 ∧ 0 < q ∧ q ≤ 1000 ∧ 0 < s ∧ s ≤ 1000 ∧ Q (.int (picF p q r s k)) H
theorem ok__law_picture (T : Tx K mg a) : FnOk P w K mg base CX0 1 a.a__law_picture a.f__law_picture ["_law_clip", "_law_k"] sp__law_picture := by
  refine T.d__law_picture.F.ok sc__law_picture (fun vs H Q E h => ?_) (fun cdv A outer s H vs Q E hr h => ?_)
  · obtain ⟨v, n, p, q, r, s, l, k, rfl, _⟩ := h
    rfl
  obtain ⟨v, n, p, q, r, s', l, k, rfl, ⟨z, x, y, rfl, hz, hx, hy⟩, bp, br, q0, q1, s0, s1, kk⟩ := h
  refine ⟨_, (pss_cons (ps_set (i := 2) sc__law_picture.nd rfl (Or.inl rfl) (pe_ix ix_tup (pv 0) pe_int (fun _ _ => rfl)))
      (pss_cons (ps_set (i := 3) sc__law_picture.nd rfl (Or.inl rfl) (pe_ix ix_tup (pv 0) pe_int (fun _ _ => rfl)))
      (pss_one (ps_ret (pe_op op_fdivB (pe_op op_add (pe_op op_mulB (pe_ix ix_tup (pv 2) pe_int (fun _ _ => rfl)) (pe_ix ix_tup (pv 3) pe_int (fun _ _ => rfl))) (pe_op op_mulB (pe_op op_mulB (pv 1) (pe_ix ix_tup (pv 3) pe_int (fun _ _ => rfl))) (pe_ix ix_tup (pv 2) pe_int (fun _ _ => rfl)))) (pe_op op_mulB (pe_ix ix_tup (pv 2) pe_int (fun _ _ => rfl)) (pe_ix ix_tup (pv 3) pe_int (fun _ _ => rfl)))))))), ?_⟩
  have a2 : atI [V.str "clip", .str n, .ref x, .ref y, .int l] 2 = some (.ref x) := rfl
  have a3 : atI [V.str "clip", .str n, .ref x, .ref y, .int l] 3 = some (.ref y) := rfl
  have hqs : 0 < q * s' := Int.mul_pos q0 s0
  have hqs1 : q * s' ≤ 1000 * 1000 := Int.mul_le_mul q1 s1 (by omega) (by omega)
  refine ⟨_, rfl, z, _, _, _, rfl, rfl, SqT.of hz, a2, ?_⟩
  refine ⟨_, rfl, z, _, _, _, rfl, rfl, SqT.of hz, a3, ?_⟩
  refine ⟨_, rfl, x, _, _, _, rfl, rfl, SqT.of hx, at0, _, rfl, y, _, _, _, rfl, rfl, SqT.of hy, at1, _, _, rfl, rfl, cmL (by omega) (by omega), ?_⟩
  refine ⟨_, rfl, _, rfl, y, _, _, _, rfl, rfl, SqT.of hy, at0, _, _, rfl, rfl, cmR (by omega) (by omega), _, rfl, x, _, _, _, rfl, rfl, SqT.of hx, at1, _, _, rfl, rfl, cmR (by omega) (by omega), _, _, rfl, rfl, ?_⟩
  refine ⟨_, rfl, x, _, _, _, rfl, rfl, SqT.of hx, at1, _, rfl, y, _, _, _, rfl, rfl, SqT.of hy, at1, _, _, rfl, rfl, cmR (by omega) (by omega), _, _, rfl, rfl, cdB (by omega) (by omega), kk⟩
def sp__law_share : Sp := fun vs H Q _ => ∃ t b : Int, vs = [.int t, .int b] ∧ 0 < t ∧ t < b ∧ b < 2 ^ 60 ∧ ∀ (z : Addr) (H' : Hp), Same H H' → H z = none → H' z = some (.tup [.int (lowP t b), .int (lowQ t b)]) → Q (.ref z) H'
theorem ok__law_share (T : Tx K mg a) : FnOk P w K mg base CX0 1 a.a__law_share a.f__law_share ["_law_top", "_law_bottom"] sp__law_share := by
  refine T.d__law_share.F.ok sc__law_share (fun vs H Q E h => ?_) (fun cdv A outer s H vs Q E hr h => ?_)
  · obtain ⟨t, b, rfl, _⟩ := h
    rfl
  obtain ⟨t, b, rfl, t0, t1, b1, kk⟩ := h
  refine ⟨_, (pss_cons (ps_set (i := 2) sc__law_share.nd rfl (Or.inl rfl) (pv 0))
      (pss_cons (ps_set (i := 3) sc__law_share.nd rfl (Or.inl rfl) (pv 1))
      (pss_cons (ps_while PassesOwn.never (pt_cmpR op_ne (pv 3) pe_int (nomark _)) (pss_one (ps_par (i := 2) (j := 3) rfl sc__law_share.nd rfl rfl (by decide) rfl rfl (pa_cons (pv 3) (pa_cons (pe_op op_modN (pv 2) (pv 3)) pa_nil)) rfl)))
      (pss_one (ps_ret (pe_tup (pa_cons (pe_op op_fdivB (pv 0) (pv 2)) (pa_cons (pe_op op_fdivB (pv 1) (pv 2)) pa_nil)))))))), ?_⟩
  refine ⟨_, rfl, _, rfl, while_by (fun σ H' => H' = H ∧ ∃ (x y : Int), σ = [some (.int t), some (.int b), some (.int x), some (.int y)] ∧ 0 ≤ x ∧ 0 ≤ y ∧ Int.gcd x y = Int.gcd t b)
    (fun σ _ => match σ with | [_, _, _, some (.int y)] => y.natAbs | _ => 0) ⟨rfl, t, b, rfl, by omega, by omega, rfl⟩ ?_ ?_⟩
  · rintro σ H1 ⟨rfl, x, y, rfl, h0, h1, e⟩
    refine ⟨_, rfl, rfl, _, rfl, ?_⟩
    refine ite2 (fun c => ?_) (fun c => ?_)
    · have hy : y ≠ 0 := by simpa using c
      refine ⟨_, rfl, _, rfl, _, rfl, _, _, rfl, rfl, hy, _, _, rfl, ⟨rfl, y, x.fmod y, rfl, h1, Int.fmod_nonneg_of_pos x (by omega), ?_⟩, ?_⟩
      · rw [gcd_step]; exact e
      · exact fmod_lt x y hy
    · have hy : y = 0 := by simpa using c
      subst hy
      have e2 : x = ((Int.gcd t b : Nat) : Int) := by
        rw [← e, Int.gcd_zero_right]
        omega
      have hb : b ≠ 0 := by omega
      have gp := gcd_pos (t := t) hb
      have esg : sg t b = x := by rw [e2]; unfold sg; rw [if_neg (by omega)]
      have gle : x ≤ b := by
        have := low_b t b
        rw [esg] at this
        have hq := low_pos (t := t) hb
        have : 1 * x ≤ lowQ t b * x := Int.mul_le_mul_of_nonneg_right (by omega) (by omega)
        omega
      refine ⟨_, rfl, _, rfl, _, _, rfl, rfl, cdB (by omega) (by omega), _, rfl, _, rfl, _, _, rfl, rfl, cdB (by omega) (by omega), (by show 2 ≤ sizeLine; decide), fun z hz => ?_⟩
      refine kk z _ (same_new hz _) hz ?_
      rw [upd_same]
      unfold lowP lowQ
      rw [esg]
  · rintro σ H1 Q1 Q2 hq h
    obtain ⟨v, e, s, k, hk, z⟩ := h
    exact ⟨v, e, s, k, hk, hq _ _ z⟩
/-- a clip of small numbers -/
def Im.sm : Im → Prop
  | .clip _ p q r s l => p.natAbs < 2 ^ 60 ∧ r.natAbs < 2 ^ 60 ∧ 0 < q ∧ q ≤ 1000 ∧ 0 < s ∧ s ≤ 1000 ∧ 1 ≤ l
  | .nest .. => False
  | .gap l => 1 ≤ l
  | .mix l => 1 ≤ l ∧ l < 2 ^ 50
def sp__law_mixed (K : PySem.W.Frag) : Sp := fun vs H Q _ => ∃ (z : Addr) (ms : List Im) (i : Nat) (b t l : Int), vs = [.ref z, .int i, .int b, .int t] ∧ Tr H z ms ∧ MixOk ms ∧ (∀ m ∈ ms, m.sm) ∧ ms[i]? = some (.mix l) ∧ b - l.fdiv 2 ≤ t ∧ t < b + (l - l.fdiv 2) ∧
  ∀ (y : Addr) (H' : Hp), Same H H' → H y = none → TL K H' y (mixedF ms i (t - (b - l.fdiv 2))) → Q (.ref y) H'
theorem ok__law_mixed (T : Tx K mg a) : FnOk P w K mg base CX0 2 a.a__law_mixed a.f__law_mixed ["_law_track_here", "_law_place", "_law_border", "_law_moment"] (sp__law_mixed K) := by
  refine T.d__law_mixed.F.ok sc__law_mixed (fun vs H Q E h => ?_) (fun cdv A outer s H vs Q E hr h => ?_)
  · obtain ⟨z, ms, i, b, t, l, rfl, _⟩ := h
    rfl
  obtain ⟨z, ms, i, b, t, l, rfl, ⟨xs, hz, his⟩, hok, hg, hm, t0, t1, kk⟩ := h
  refine ⟨_, (pss_cons (ps_set (i := 4) sc__law_mixed.nd rfl (Or.inl rfl) (pe_ix ix_tup (pe_ix ix_list (pv 0) (pv 1) (fun _ _ => rfl)) pe_int (fun _ _ => rfl)))
      (pss_cons (ps_set (i := 5) sc__law_mixed.nd rfl (Or.inl rfl) (pe_op op_add (pe_op op_sub (pv 3) (pv 2)) (pe_op op_fdivB (pv 4) pe_int)))
      (pss_cons (ps_set (i := 6) sc__law_mixed.nd rfl (Or.inl rfl) (pe_ix ix_list (pv 0) (pe_op op_sub (pv 1) pe_int) (fun _ _ => rfl)))
      (pss_cons (ps_set (i := 7) sc__law_mixed.nd rfl (Or.inl rfl) (pe_ix ix_list (pv 0) (pe_op op_add (pv 1) pe_int) (fun _ _ => rfl)))
      (pss_cons (ps_set (i := 8) sc__law_mixed.nd rfl (Or.inl rfl) (pe_def T.d__law_picture (ok__law_picture T) hr rfl (pa_cons (pv 6) (pa_cons (pe_op op_sub (pe_op op_add (pe_ix ix_tup (pv 6) (pe_un un_neg pe_int) (fun _ _ => rfl)) (pv 3)) (pv 2)) pa_nil))))
      (pss_cons (ps_set (i := 9) sc__law_mixed.nd rfl (Or.inl rfl) (pe_def T.d__law_picture (ok__law_picture T) hr rfl (pa_cons (pv 7) (pa_cons (pe_op op_sub (pv 3) (pv 2)) pa_nil))))
      (pss_cons (ps_set (i := 10) sc__law_mixed.nd rfl (Or.inl rfl) (pe_lst (pa_cons (pe_tup (pa_cons (pe_ix ix_tup (pv 6) pe_int (fun _ _ => rfl)) (pa_cons (pv 8) (pa_cons (pe_def T.d__law_share (ok__law_share T) hr rfl (pa_cons (pe_op op_sub (pv 4) (pv 5)) (pa_cons (pe_op op_add (pv 4) pe_int) pa_nil))) pa_nil)))) pa_nil)))
      (pss_one (ps_ret (pe_op op_cat (pv 10) (pe_lst (pa_cons (pe_tup (pa_cons (pe_ix ix_tup (pv 7) pe_int (fun _ _ => rfl)) (pa_cons (pv 9) (pa_cons (pe_def T.d__law_share (ok__law_share T) hr rfl (pa_cons (pe_op op_add (pv 5) pe_int) (pa_cons (pe_op op_add (pv 4) pe_int) pa_nil))) pa_nil)))) pa_nil)))))))))))), ?_⟩
  obtain ⟨i1, ⟨n, p, q, r, s1, k, ha⟩, n', p', q', r', s2, k', hb⟩ := hok i l hm
  have gm := hg _ (List.mem_of_getElem? hm)
  have ga := hg _ (List.mem_of_getElem? ha)
  have gb := hg _ (List.mem_of_getElem? hb)
  have hl2 := fdiv_bounds (p := l) (q := 2) (by decide)
  obtain ⟨gl1, gl2⟩ := id gm
  have ej : t - (b - l.fdiv 2) = t - b + l.fdiv 2 := by omega
  have e1 : k + (t - b + l.fdiv 2 - l.fdiv 2) = k + t - b := by omega
  have e2 : t - b + l.fdiv 2 - l.fdiv 2 = t - b := by omega
  have el : mixedF ms i (t - (b - l.fdiv 2)) = [⟨n, picF p q r s1 (k + t - b), lowP (l - (t - b + l.fdiv 2)) (l + 1), lowQ (l - (t - b + l.fdiv 2)) (l + 1)⟩, ⟨n', picF p' q' r' s2 (t - b), lowP (t - b + l.fdiv 2 + 1) (l + 1), lowQ (t - b + l.fdiv 2 + 1) (l + 1)⟩] := by
    unfold mixedF; rw [hm, ha, hb, ej]; dsimp only; rw [e1, e2]
  rw [el] at kk
  obtain ⟨vm, hvm, Im⟩ := his.get' hm
  obtain ⟨va, hva, Ia⟩ := his.get' ha
  obtain ⟨vb, hvb, Ib⟩ := his.get' hb
  obtain ⟨zm, rfl, hzm⟩ := id Im
  have am : atI xs (i : Int) = some (.ref zm) := atI_nat hvm
  have aa : atI xs ((i : Int) - 1) = some va := by
    have e : (i : Int) - 1 = ((i - 1 : Nat) : Int) := by omega
    rw [e]; exact atI_nat hva
  have ab : atI xs ((i : Int) + 1) = some vb := by
    have e : (i : Int) + 1 = ((i + 1 : Nat) : Int) := by omega
    rw [e]; exact atI_nat hvb
  have hS := SqL.of (K := K) hz
  obtain ⟨za, xa, ya, rfl, hza, hxa, hya⟩ := id Ia
  obtain ⟨zb, xb, yb, rfl, hzb, hxb, hyb⟩ := id Ib
  refine ⟨_, rfl, _, rfl, z, _, _, _, rfl, rfl, hS, am, zm, _, _, _, rfl, rfl, SqT.of hzm, at1, ?_⟩
  refine ⟨_, rfl, _, rfl, _, _, rfl, rfl, _, rfl, _, _, rfl, rfl, cdB (by decide) (by decide), _, _, rfl, rfl, ?_⟩
  refine ⟨_, rfl, _, rfl, _, _, rfl, rfl, z, _, _, _, rfl, rfl, hS, aa, ?_⟩
  refine ⟨_, rfl, _, rfl, _, _, rfl, rfl, z, _, _, _, rfl, rfl, hS, ab, ?_⟩
  have a1 : atI [V.str "clip", .str n, .ref xa, .ref ya, .int k] 1 = some (.str n) := rfl
  have a4 : atI [V.str "clip", .str n, .ref xa, .ref ya, .int k] (-1) = some (.int k) := rfl
  have b1 : atI [V.str "clip", .str n', .ref xb, .ref yb, .int k'] 1 = some (.str n') := rfl
  obtain ⟨ga1, ga2, ga3, ga4, ga5, ga6, ga7⟩ := id ga
  obtain ⟨gb1, gb2, gb3, gb4, gb5, gb6, gb7⟩ := id gb
  refine ⟨_, rfl, _, rfl, _, rfl, za, _, _, _, rfl, rfl, SqT.of hza, a4, _, rfl, _, _, rfl, rfl, _, rfl, _, _, rfl, rfl, .ref za, n, p, q, r, s1, k, _, rfl, Ia, ga1, ga2, ga3, ga4, ga5, ga6, ?_⟩
  refine ⟨_, rfl, _, rfl, _, rfl, _, _, rfl, rfl, .ref zb, n', p', q', r', s2, k', _, rfl, Ib, gb1, gb2, gb3, gb4, gb5, gb6, ?_⟩
  refine ⟨_, rfl, za, _, _, _, rfl, rfl, SqT.of hza, a1, _, rfl, _, rfl, _, rfl, _, _, rfl, rfl, _, rfl, _, _, rfl, rfl, _, _, rfl, by omega, by omega, by omega, fun sx H1 w1 _ hsx => ?_⟩
  refine ⟨(by show 3 ≤ sizeLine; decide), fun t1' ht1 => ⟨(by show 1 ≤ sizeLine; decide), fun l1 hl1 => ?_⟩⟩
  have w2 := same_new ht1 (.tup [.str n, .int (picF p q r s1 (k + t - b)), .ref sx])
  have w3 := same_new hl1 (.lst [.ref t1'])
  have w13 := (w1.trans w2).trans w3
  have hl1' : (upd (upd H1 t1' (.tup [.str n, .int (picF p q r s1 (k + t - b)), .ref sx])) l1 (.lst [.ref t1'])) l1 = some (.lst [.ref t1']) := upd_same
  have ht1' := w3 _ _ (upd_same (H := H1) (a := t1') (o := .tup [.str n, .int (picF p q r s1 (k + t - b)), .ref sx]))
  have hsx' := w3 _ _ (w2 _ _ hsx)
  generalize upd (upd H1 t1' (.tup [.str n, .int (picF p q r s1 (k + t - b)), .ref sx])) l1 (.lst [.ref t1']) = H3 at w13 hl1' ht1' hsx' ⊢
  refine ⟨_, rfl, _, rfl, zb, _, _, _, rfl, rfl, SqT.of (w13 _ _ hzb), b1, _, rfl, _, rfl, _, _, rfl, rfl, _, rfl, _, _, rfl, rfl, _, _, rfl, by omega, by omega, by omega, fun sy H4 w4 _ hsy => ?_⟩
  refine ⟨(by show 3 ≤ sizeLine; decide), fun t2' ht2 => ⟨(by show 1 ≤ sizeLine; decide), fun l2 hl2' => ?_⟩⟩
  have w5 := same_new ht2 (.tup [.str n', .int (picF p' q' r' s2 (t - b)), .ref sy])
  have w6 := same_new hl2' (.lst [.ref t2'])
  have w46 := (w4.trans w5).trans w6
  refine ⟨l1, l2, _, _, rfl, rfl, w46 _ _ hl1', upd_same, (by show 2 ≤ sizeLine; decide), fun y hy => ?_⟩
  have w7 := same_new hy (.lst ([V.ref t1'] ++ [.ref t2']))
  have wall := w13.trans (w46.trans w7)
  refine kk y _ wall ((w13.trans w46).free hy) ⟨_, upd_same, ⟨t1', sx, rfl, w7 _ _ (w46 _ _ ht1'), SqT.of (w7 _ _ (w46 _ _ hsx'))⟩, ⟨t2', sy, rfl, w7 _ _ (w6 _ _ upd_same), SqT.of (w7 _ _ (w6 _ _ (w5 _ _ hsy)))⟩, trivial⟩
def dueF (ws : List Im) : Int → Nat → List Im → Int → List Te → List Te
  | _, _, [], _, pl => pl
  | b, i, .mix l :: ms, t, pl => if b - l.fdiv 2 ≤ t ∧ t < b + (l - l.fdiv 2) then mixedF ws i (t - (b - l.fdiv 2)) else dueF ws b (i + 1) ms t pl
  | b, i, .clip n p q r s l :: ms, t, pl => dueF ws (b + l) (i + 1) ms t (if b ≤ t ∧ t < b + l then [⟨n, picF p q r s (t - b), 1, 1⟩] else pl)
  | b, i, .nest _ _ l :: ms, t, pl => dueF ws (b + l) (i + 1) ms t pl
  | b, i, .gap l :: ms, t, pl => dueF ws (b + l) (i + 1) ms t pl
theorem Im.sm_mo {m : Im} (h : m.sm) : 0 ≤ m.mo := by
  cases m with
  | clip n p q r s l => have := h.2.2.2.2.2.2; show 0 ≤ l; omega
  | nest n b l => exact h.elim
  | gap l => have h : 1 ≤ l := h; show 0 ≤ l; omega
  | mix l => exact Int.le_refl _
theorem item_later : ∀ {b : Int} {i : Nat} {ms : List Im} {t : Int}, t < b → (∀ m ∈ ms, m.sm) → itemF b i ms t = none
  | _, _, [], _, _, _ => rfl
  | b, i, m :: ms, t, h, hg => by
    have := Im.sm_mo (hg m (by simp))
    rw [itemF, if_neg (by omega)]
    exact item_later (by omega) fun x hx => hg x (by simp [hx])
def restF (f : Str → Int → List Te) (ws : List Im) (b : Int) (i : Nat) (r : List Im) (t : Int) (pl : List Te) : List Te :=
  match mixF b i r t with
  | some (k, j) => mixedF ws k j
  | none => match itemF b i r t with
    | none => pl
    | some (k, d) => match ws[k]? with
      | some (.clip n p q r s _) => [⟨n, picF p q r s d, 1, 1⟩]
      | some (.nest nm b _) => f nm (b + d)
      | _ => []
theorem due_rest (f : Str → Int → List Te) (ws : List Im) : ∀ (b : Int) (i : Nat) (r : List Im) (t : Int) (pl : List Te), r = ws.drop i → (∀ m ∈ r, m.sm) → (b ≤ t → pl = []) → dueF ws b i r t pl = restF f ws b i r t pl
  | _, _, [], _, _, _, _, _ => rfl
  | b, i, m :: r, t, pl, hd, hg, hp => by
    have hm : ws[i]? = some m := by
      have := congrArg (fun l => l[0]?) hd
      simpa using this.symm
    have hd' : r = ws.drop (i + 1) := by
      have := congrArg List.tail hd
      simpa using this
    have hg' : ∀ m ∈ r, m.sm := fun x hx => hg x (by simp [hx])
    have g0 := Im.sm_mo (hg m (by simp))
    cases m with
    | nest n b' l =>
      have h : (Im.nest n b' l).sm := hg _ (by simp)
      exact h.elim
    | mix l =>
      have ih := due_rest f ws b (i + 1) r t pl hd' hg' hp
      rw [dueF]
      unfold restF
      rw [mixF]
      by_cases c : b - l.fdiv 2 ≤ t ∧ t < b + (l - l.fdiv 2)
      · rw [if_pos c, if_pos c]
      · rw [if_neg c, if_neg c, ih]
        unfold restF
        have e : itemF b i (.mix l :: r) t = itemF b (i + 1) r t := by
          rw [itemF, if_neg (by show ¬ (b ≤ t ∧ t < b + 0); omega)]
          show itemF (b + 0) (i + 1) r t = _
          rw [Int.add_zero]
        rw [e]
    | clip n p q r' s l =>
      have g0 : 0 ≤ l := g0
      rw [dueF]
      unfold restF
      have em : mixF b i (.clip n p q r' s l :: r) t = mixF (b + l) (i + 1) r t := rfl
      rw [em]
      by_cases c : b ≤ t ∧ t < b + l
      · have ih := due_rest f ws (b + l) (i + 1) r t [⟨n, picF p q r' s (t - b), 1, 1⟩] hd' hg' (fun h => absurd h (by omega))
        rw [if_pos c, ih]
        unfold restF
        have e : itemF b i (.clip n p q r' s l :: r) t = some (i, t - b) := if_pos c
        rw [e, item_later c.2 hg']
        simp only [hm]
      · have ih := due_rest f ws (b + l) (i + 1) r t pl hd' hg' (fun h => hp (by omega))
        rw [if_neg c, ih]
        unfold restF
        have e : itemF b i (.clip n p q r' s l :: r) t = itemF (b + l) (i + 1) r t := if_neg c
        rw [e]
    | gap l =>
      have g0 : 0 ≤ l := g0
      have ih := due_rest f ws (b + l) (i + 1) r t pl hd' hg' (fun h => hp (by omega))
      rw [dueF, ih]
      unfold restF
      have em : mixF b i (.gap l :: r) t = mixF (b + l) (i + 1) r t := rfl
      rw [em]
      by_cases c : b ≤ t ∧ t < b + l
      · have e : itemF b i (.gap l :: r) t = some (i, t - b) := if_pos c
        rw [e, item_later c.2 hg', hp c.1]
        simp only [hm]
      · have e : itemF b i (.gap l :: r) t = itemF (b + l) (i + 1) r t := if_neg c
        rw [e]
theorem due_told (f : Str → Int → List Te) {ws : List Im} (t : Int) (hg : ∀ m ∈ ws, m.sm) : dueF ws 0 0 ws t [] = toldOn f ws t := by
  rw [due_rest f ws 0 0 ws t [] rfl hg fun _ => rfl]
  rfl
def sp__law_due (K : PySem.W.Frag) : Sp := fun vs H Q _ => ∃ (z : Addr) (ms : List Im) (t : Int), vs = [.ref z, .int t] ∧ Tr H z ms ∧ MixOk ms ∧ (∀ m ∈ ms, m.sm) ∧ ms.length ≤ 300 ∧
  ∀ (y : Addr) (H' : Hp), Same H H' → H y = none → TL K H' y (dueF ms 0 0 ms t []) → Q (.ref y) H'
theorem ok__law_due (T : Tx K mg a) : FnOk P w K mg base CX0 3 a.a__law_due a.f__law_due ["_law_track_here", "_law_moment"] (sp__law_due K) := by
  refine T.d__law_due.F.ok sc__law_due (fun vs H Q E h => ?_) (fun cdv A outer s H vs Q E hr h => ?_)
  · obtain ⟨z, ms, t, rfl, _⟩ := h
    rfl
  obtain ⟨z, ms, t, rfl, hTr, hmx, hsm, hml, kk⟩ := h
  obtain ⟨xs, hz, his⟩ := id hTr
  refine ⟨_, (pss_cons (ps_set (i := 2) sc__law_due.nd rfl (Or.inl rfl) pe_int)
      (pss_cons (ps_set (i := 3) sc__law_due.nd rfl (Or.inl rfl) (pe_lst pa_nil))
      (pss_cons (ps_for PassesOwn.never rfl (pi_range1 rfl T.b_range (pa_cons (pe_callB call_len_seq rfl T.b_len rfl (pa_cons (pv 0) pa_nil)) pa_nil)) (pg_name (i := 4) sc__law_due.nd rfl (Or.inl rfl)) (pss_cons (ps_set (i := 5) sc__law_due.nd rfl (Or.inl rfl) (pe_ix ix_list (pv 0) (pv 4) (fun _ _ => rfl)))
      (pss_one (ps_if (pt_cmpR op_eq (pe_ix ix_tup (pv 5) pe_int (fun _ _ => rfl)) pe_str (nomark _)) (pss_one (ps_if (pt_cut (PW.pt (pw_and (pt_cmpR op_le (pe_op op_sub (pv 2) (pe_op op_fdivB (pe_ix ix_tup (pv 5) pe_int (fun _ _ => rfl)) pe_int)) (pv 1) (nomark _)) (pw_and1 (pt_cmpR op_lt (pv 1) (pe_op op_sub (pe_op op_add (pv 2) (pe_ix ix_tup (pv 5) pe_int (fun _ _ => rfl))) (pe_op op_fdivB (pe_ix ix_tup (pv 5) pe_int (fun _ _ => rfl)) pe_int)) (nomark _)))))) (pss_one (ps_ret (pe_def T.d__law_mixed (ok__law_mixed T) hr rfl (pa_cons (pv 0) (pa_cons (pv 4) (pa_cons (pv 2) (pa_cons (pv 1) pa_nil))))))) pss_nil)) (pss_cons (ps_join (ps_if (pt_cut (PW.pt (pw_and (pt_cmpR op_le (pv 2) (pv 1) (nomark _)) (pw_and (pt_cmpR op_lt (pv 1) (pe_op op_add (pv 2) (pe_ix ix_tup (pv 5) (pe_un un_neg pe_int) (fun _ _ => rfl))) (nomark _)) (pw_and1 (pt_cmpR op_eq (pe_ix ix_tup (pv 5) pe_int (fun _ _ => rfl)) pe_str (nomark _))))))) (pss_one (ps_set (i := 3) sc__law_due.nd rfl (Or.inl rfl) (pe_lst (pa_cons (pe_tup (pa_cons (pe_ix ix_tup (pv 5) pe_int (fun _ _ => rfl)) (pa_cons (pe_def T.d__law_picture (ok__law_picture T) hr rfl (pa_cons (pv 5) (pa_cons (pe_op op_sub (pv 1) (pv 2)) pa_nil))) (pa_cons (pe_tup (pa_cons pe_int (pa_cons pe_int pa_nil))) pa_nil)))) pa_nil)))) pss_nil))
      (pss_one (ps_set (i := 2) sc__law_due.nd rfl (Or.inl rfl) (pe_op op_add (pv 2) (pe_ix ix_tup (pv 5) (pe_un un_neg pe_int) (fun _ _ => rfl))))))))))
      (pss_one (ps_ret (pv 3)))))), ?_⟩
  have hxl := his.len
  refine ⟨(by show 0 ≤ sizeLine; decide), fun y0 hy0 => ?_⟩
  have w0 := same_new hy0 (.lst [])
  refine ⟨_, rfl, z, _, rfl, .inl (SqL.of (w0 _ _ hz)), _, rfl, by omega, by omega, for_range (n := ((xs.length : Nat) : Int).toNat) (fun i σ H' => ∃ (b : Int) (pl : List Te) (y : Addr) (o1 o2 : Option V), σ = [some (.ref z), some (.int t), some (.int b), some (.ref y), o1, o2] ∧ Same H H' ∧ H y = none ∧ TL K H' y pl ∧ dueF ms b i (ms.drop i) t pl = dueF ms 0 0 ms t [])
    ⟨0, [], y0, none, none, rfl, w0, hy0, ⟨[], upd_same, trivial⟩, rfl⟩ ?_ ?_⟩
  · rintro i σ H' hi ⟨b, pl, y, o1, o2, rfl, e, hyf, hyl, hap⟩
    have hi' : i < ms.length := by omega
    obtain ⟨m, hm⟩ : ∃ m, ms[i]? = some m := ⟨_, List.getElem?_eq_getElem hi'⟩
    obtain ⟨v, hv, hIx⟩ := his.get' hm
    have hI := hIx.ts (ts_same e)
    obtain ⟨zi, xi, rfl, hzi, h0, h1⟩ := hI.opn
    have ai : atI xs (0 + (i : Int)) = some (.ref zi) := by rw [Int.zero_add]; exact atI_nat hv
    rw [drop_cons hm] at hap
    refine ⟨_, rfl, _, rfl, z, _, _, _, rfl, rfl, SqL.of (e _ _ hz), ai, ?_⟩
    refine ⟨_, rfl, zi, xi, _, _, rfl, rfl, SqT.of hzi, h0, rfl, _, rfl, ite2 (fun c => ?_) (fun c => ?_)⟩
    · obtain ⟨l, rfl⟩ := w_mix (by simpa using c)
      obtain ⟨z2, e3, hz2⟩ := id hI
      cases e3
      rw [dueF] at hap
      have hl2 := fdiv_bounds (p := l) (q := 2) (by decide)
      refine ⟨fun c H'' => H'' = H' ∧ c = decide (b - l.fdiv 2 ≤ t ∧ t < b + (l - l.fdiv 2)), ?_, ?_⟩
      · refine ⟨_, rfl, _, rfl, zi, _, _, _, rfl, rfl, SqT.of hz2, at1, _, _, rfl, rfl, cdB (by decide) (by decide), _, _, rfl, rfl, _, rfl, _, _, rfl, rfl, _, rfl, ite2 (fun c1 => ?_) (fun c1 => ?_)⟩
        · have c1 : b - l.fdiv 2 ≤ t := by simpa using c1
          refine ⟨_, rfl, _, rfl, _, rfl, zi, _, _, _, rfl, rfl, SqT.of hz2, at1, _, _, rfl, rfl, _, rfl, zi, _, _, _, rfl, rfl, SqT.of hz2, at1, _, _, rfl, rfl, cdB (by decide) (by decide), _, _, rfl, rfl, _, _, rfl, rfl, _, rfl, rfl, ?_⟩
          rw [decide_eq_decide]
          omega
        · have c1 : ¬ b - l.fdiv 2 ≤ t := by simpa using c1
          exact ⟨rfl, (decide_eq_false fun q => c1 q.1).symm⟩
      · rintro c2 H'' ⟨rfl, rfl⟩
        refine ite2 (fun c3 => ?_) (fun c3 => ?_)
        · have c3 : b - l.fdiv 2 ≤ t ∧ t < b + (l - l.fdiv 2) := by simpa using c3
          rw [if_pos c3] at hap
          refine ⟨_, rfl, _, rfl, _, rfl, _, rfl, z, ms, i, b, t, l, congrArg (fun j => [V.ref z, .int j, .int b, .int t]) (Int.zero_add _), hTr.same e, hmx, hsm, hm, c3.1, c3.2, fun y2 H2 e2 hy2 ht => kk y2 H2 (e.trans e2) (e.free hy2) (by rw [← hap]; exact ht)⟩
        · have c3 : ¬ (b - l.fdiv 2 ≤ t ∧ t < b + (l - l.fdiv 2)) := by simpa using c3
          rw [if_neg c3] at hap
          exact ⟨b, pl, y, _, _, rfl, e, hyf, hyl, hap⟩
    · have hw : m.wd ≠ "mix" := by simpa using c
      have gm := hsm m (List.mem_of_getElem? hm)
      refine ⟨fun σ' H'' => ∃ (pl' : List Te) (y' : Addr), σ' = [some (.ref z), some (.int t), some (.int b), some (.ref y'), some (.int (0 + (i : Int))), some (.ref zi)] ∧ Same H' H'' ∧ H y' = none ∧ TL K H'' y' pl' ∧ dueF ms (b + m.l) (i + 1) (ms.drop (i + 1)) t pl' = dueF ms 0 0 ms t [], ?_, ?_⟩
      · refine ⟨fun c H'' => H'' = H' ∧ (c = true → m.wd = "clip" ∧ b ≤ t ∧ t < b + m.l) ∧ (c = false → ¬ (m.wd = "clip" ∧ b ≤ t ∧ t < b + m.l)), ?_, ?_⟩
        · refine ⟨_, rfl, _, rfl, _, _, rfl, rfl, _, rfl, ite2 (fun c1 => ?_) (fun c1 => ?_)⟩
          · have c1 : b ≤ t := by simpa using c1
            refine ⟨_, rfl, _, rfl, _, rfl, _, rfl, zi, xi, _, _, rfl, rfl, SqT.of hzi, h1, _, _, rfl, rfl, _, _, rfl, rfl, _, rfl, ite2 (fun c2 => ?_) (fun c2 => ?_)⟩
            · have c2 : t < b + m.l := by simpa using c2
              refine ⟨_, rfl, zi, xi, _, _, rfl, rfl, SqT.of hzi, h0, rfl, _, rfl, rfl, fun q => ⟨by simpa using q, c1, c2⟩, fun q r => ?_⟩
              exact absurd r.1 (by simpa using q)
            · have c2 : ¬ t < b + m.l := by simpa using c2
              exact ⟨rfl, (fun q => nomatch q), fun _ r => c2 r.2.2⟩
          · have c1 : ¬ b ≤ t := by simpa using c1
            exact ⟨rfl, (fun q => nomatch q), fun _ r => c1 r.2.1⟩
        · rintro c2 H'' ⟨rfl, ct, cf⟩
          cases c2 with
          | false =>
            have hn := cf rfl
            refine iteF ⟨pl, y, rfl, Same.refl _, hyf, hyl, ?_⟩
            rw [← hap]
            cases m with
            | mix l => exact absurd rfl hw
            | nest n b' l => exact gm.elim
            | gap l => rfl
            | clip n p q r s1 l =>
              have hn' : ¬ (b ≤ t ∧ t < b + l) := fun q => hn ⟨rfl, q⟩
              rw [dueF, if_neg hn']
              rfl
          | true =>
            obtain ⟨hc, c1, c2⟩ := ct rfl
            cases m with
            | mix l => exact absurd rfl hw
            | nest n b' l => exact gm.elim
            | gap l => exact absurd (show ("gap" : Str) = "clip" from hc) (by decide +kernel)
            | clip n p q r s1 l =>
              have c2 : t < b + l := c2
              obtain ⟨z2, x2, y2, e3, hz2, hx2, hy2⟩ := id hI
              cases e3
              obtain ⟨ga1, ga2, ga3, ga4, ga5, ga6, ga7⟩ := id gm
              refine iteT ⟨_, rfl, zi, _, _, _, rfl, rfl, SqT.of hz2, at5_1, _, rfl, _, rfl, _, rfl, _, _, rfl, rfl, .ref zi, n, p, q, r, s1, l, _, rfl, hI, ga1, ga2, ga3, ga4, ga5, ga6, ?_⟩
              refine ⟨(by show 2 ≤ sizeLine; decide), fun sh hsh => ⟨(by show 3 ≤ sizeLine; decide), fun f hf => ⟨(by show 1 ≤ sizeLine; decide), fun y3 hy3 => ?_⟩⟩⟩
              have w3 := same_new hsh (.tup [.int 1, .int 1])
              have w4 := same_new hf (.tup [.str n, .int (picF p q r s1 (t - b)), .ref sh])
              have w5 := same_new hy3 (.lst [.ref f])
              refine ⟨[⟨n, picF p q r s1 (t - b), 1, 1⟩], y3, rfl, (w3.trans w4).trans w5, e.free ((w3.trans w4).free hy3), ⟨_, upd_same, ⟨f, sh, rfl, w5 _ _ upd_same, SqT.of (w5 _ _ (w4 _ _ upd_same))⟩, trivial⟩, ?_⟩
              rw [← hap, dueF, if_pos ⟨c1, c2⟩]
              rfl
      · rintro σ' H'' ⟨pl', y', rfl, e2, hyf', hyl', hap'⟩
        refine ⟨_, rfl, _, rfl, _, rfl, zi, xi, _, _, rfl, rfl, SqT.of (e2 _ _ hzi), h1, _, _, rfl, rfl, ?_⟩
        exact ⟨_, pl', y', _, _, rfl, e.trans e2, hyf', hyl', hap'⟩
  · rintro σ H' ⟨b, pl, y, o1, o2, rfl, e, hyf, hyl, hap⟩
    have e2 : ((xs.length : Nat) : Int).toNat = ms.length := by omega
    rw [e2, List.drop_length, dueF] at hap
    rw [← hap] at kk
    exact ⟨_, rfl, kk y H' e hyf hyl⟩
def sp__law_spans : Sp := sp_mix_spans
theorem ok__law_spans (T : Tx K mg a) : FnOk P w K mg base CX0 1 a.a__law_spans a.f__law_spans ["_law_track_here"] sp__law_spans := by
  refine T.d__law_spans.F.ok sc__law_spans (fun vs H Q E h => ?_) (fun cdv A outer s H vs Q E hr h => ?_)
  · obtain ⟨z, ms, rfl, _⟩ := h
    rfl
  obtain ⟨z, ms, rfl, ⟨xs, hz, his⟩, hl, kk⟩ := h
  refine ⟨_, (pss_cons (ps_set (i := 1) sc__law_spans.nd rfl (Or.inl rfl) (pe_lst pa_nil))
      (pss_cons (ps_set (i := 2) sc__law_spans.nd rfl (Or.inl rfl) pe_int)
      (pss_cons (ps_for PassesOwn.never rfl (pi_list (pv 0)) (pg_name (i := 3) sc__law_spans.nd rfl (Or.inl rfl)) (pss_one (ps_if (pt_cmpR op_eq (pe_ix ix_tup (pv 3) pe_int (fun _ _ => rfl)) pe_str (nomark _)) (pss_one (ps_expr (pe_bm PySem.F.plainAttrs_list PySem.F.slot_list_append PySem.F.type_list_append mt_append (pv 1) (pa_cons (pe_tup (pa_cons (pe_op op_sub (pv 2) (pe_op op_fdivB (pe_ix ix_tup (pv 3) pe_int (fun _ _ => rfl)) pe_int)) (pa_cons (pv 2) (pa_cons (pe_op op_sub (pe_op op_add (pv 2) (pe_ix ix_tup (pv 3) pe_int (fun _ _ => rfl))) (pe_op op_fdivB (pe_ix ix_tup (pv 3) pe_int (fun _ _ => rfl)) pe_int)) pa_nil)))) pa_nil)))) (pss_one (ps_set (i := 2) sc__law_spans.nd rfl (Or.inl rfl) (pe_op op_add (pv 2) (pe_ix ix_tup (pv 3) (pe_un un_neg pe_int) (fun _ _ => rfl))))))))
      (pss_one (ps_ret (pv 1)))))), ?_⟩
  refine ⟨(by show 0 ≤ sizeLine; decide), fun y hy => ?_⟩
  refine ⟨_, rfl, z, rfl, ⟨_, SqL.of ((same_new hy _) _ _ hz)⟩, for_list (K := K) (a := z) (xs := xs) (fun i σ H' => ∃ (b : Int) (as : List (Int × Int × Int)) (o : Option V) (us : List V), σ = [some (.ref z), some (.ref y), some (.int b), o] ∧ H' y = some (.lst us) ∧ SpAt H' as us ∧ as.length ≤ i ∧ as ++ spanF b (ms.drop i) = spanF 0 ms ∧ Same H H')
    ⟨0, [], none, [], rfl, upd_same, trivial, by simp, rfl, same_new hy _⟩ ?_ ?_ ?_⟩
  · rintro i σ H' hi ⟨b, as, o, us, rfl, _, _, _, _, e⟩
    exact SqL.of (e _ _ hz)
  · rintro i x σ H' hx ⟨b, as, o, us, rfl, hv, hsp, hal, hap, e⟩
    obtain ⟨m, hm, hIx⟩ := his.get hx
    have hI := hIx.ts (ts_same e)
    have hi : i < ms.length := (List.getElem?_eq_some_iff.mp hm).1
    rw [drop_cons hm] at hap
    obtain ⟨zi, xi, rfl, hzi, h0, h1⟩ := hI.opn
    refine ⟨_, rfl, zi, xi, _, _, rfl, rfl, SqT.of hzi, h0, rfl, _, rfl, ite2 (fun c => ?_) (fun c => ?_)⟩
    · obtain ⟨l, rfl⟩ := w_mix (by simpa using c)
      obtain ⟨z2, e2, hz2⟩ := id hI
      cases e2
      rw [spanF] at hap
      have ez : b + (l - l.fdiv 2) = b + l - l.fdiv 2 := by omega
      rw [ez] at hap
      refine ⟨_, rfl, .inl ⟨rfl, _, SqL.of hv⟩, _, rfl, _, rfl, zi, _, _, _, rfl, rfl, SqT.of hz2, at1, _, _, rfl, rfl, cdB (by decide) (by decide), _, _, rfl, rfl, _, rfl, _, rfl, _, rfl, zi, _, _, _, rfl, rfl, SqT.of hz2, at1, _, _, rfl, rfl, _, rfl, zi, _, _, _, rfl, rfl, SqT.of hz2, at1, _, _, rfl, rfl, cdB (by decide) (by decide), _, _, rfl, rfl, (by show 3 ≤ sizeLine; decide), fun g hg => ?_⟩
      have w1 := same_new hg (.tup [.int (b - l.fdiv 2), .int b, .int (b + l - l.fdiv 2)])
      refine ⟨y, _, _, rfl, rfl, w1 _ _ hv, small1000 (by rw [hsp.len]; omega), ?_⟩
      have t2 : TS (upd H' g (.tup [.int (b - l.fdiv 2), .int b, .int (b + l - l.fdiv 2)])) (upd (upd H' g (.tup [.int (b - l.fdiv 2), .int b, .int (b + l - l.fdiv 2)])) y (.lst (us ++ [.ref g]))) := ts_updL (w1 _ _ hv)
      refine ⟨b, as ++ [(b - l.fdiv 2, b, b + l - l.fdiv 2)], some (.ref zi), us ++ [.ref g], rfl, upd_same, ((hsp.ts (ts_same w1)).app (.one upd_same)).ts t2, by simp; omega, ?_, same_updN (e.trans w1) hy⟩
      rw [← hap]; simp
    · have hne : m.wd ≠ "mix" := by simpa using c
      rw [spanF_other hne, mo_l hne] at hap
      exact ⟨_, rfl, _, rfl, _, rfl, zi, xi, _, _, rfl, rfl, SqT.of hzi, h1, _, _, rfl, rfl, _, as, _, us, rfl, hv, hsp, by omega, hap, e⟩
  · rintro σ H' ⟨b, as, o, us, rfl, hv, hsp, hal, hap, e⟩
    rw [his.len, List.drop_length, spanF, List.append_nil] at hap
    rw [hap] at hsp
    exact ⟨_, rfl, kk y us H' e hy hv hsp⟩
def spD (x : Int × Int × Int) : D := .tup [.leaf (.int x.1), .leaf (.int x.2.1), .leaf (.int x.2.2)]
theorem SpAt.rep {H : Hp} : ∀ {ss : List (Int × Int × Int)} {vs : List V}, SpAt H ss vs → Reps K H (ss.map spD) vs
  | [], [], _ => by unfold List.map Reps; trivial
  | (x, y, z) :: _, _ :: _, ⟨⟨p, h1, h2⟩, r⟩ => by
    unfold List.map Reps
    subst h1
    exact ⟨rep_tupF (K := K) h2 rfl, r.rep⟩
  | [], _ :: _, h => h.elim
  | (_, _, _) :: _, [], h => h.elim
theorem sp_self : ∀ ss : List (Int × Int × Int), eqDs (ss.map spD) (ss.map spD) = true
  | [] => by simp [eqDs]
  | (x, y, z) :: r => by
    unfold List.map eqDs
    rw [sp_self r]
    simp [spD, eqD, eqDs, eqV]
theorem sp_dep : ∀ ss : List (Int × Int × Int), deps (ss.map spD) ≤ 3
  | [] => by simp [deps]
  | (x, y, z) :: r => by
    have h1 := sp_dep r
    unfold List.map deps
    have h2 : dep (spD (x, y, z)) ≤ 3 := by simp [spD, dep, deps]
    omega
theorem spEq {H : Hp} {x y : Addr} {ss : List (Int × Int × Int)} {us vs : List V} {Q : VK} (n : Bool) (h1 : H x = some (.lst us)) (h2 : H y = some (.lst vs)) (s1 : SpAt H ss us) (s2 : SpAt H ss vs) (q : Q (.bl (!n)) H) : rEqR K n (.ref x) (.ref y) H Q := by
  have e : eqD (.lst (ss.map spD)) (.lst (ss.map spD)) = true := by unfold eqD; exact sp_self ss
  refine ⟨.lst (ss.map spD), .lst (ss.map spD), ?_, ?_, rfl, by have := sp_dep ss; unfold dep; omega, ?_⟩
  · unfold Rep; exact ⟨x, us, rfl, SqL.of h1, s1.rep⟩
  · unfold Rep; exact ⟨y, vs, rfl, SqL.of h2, s2.rep⟩
  · rw [e]
    cases n <;> exact q
def rl32 : Rls := fun n => if n = "a" then some 1100 else none
/-- a track as the law draws it -/
structure Trk (ms : List Im) : Prop where
  len : ms.length ≤ 20
  sm : ∀ m ∈ ms, m.sm
  nice : ∀ tn, ∀ m ∈ ms, NiceI rl32 tn m ∧ m.g
  one : oneF 0 ms = ms
  mix : MixOk ms
  fit : MixFit rl32 ms
  ls : ∀ m ∈ ms, m.l ≤ 100
def sp__law_track (K : PySem.W.Frag) : Sp := fun vs H Q _ => ∃ (z : Addr) (ns : List Int), vs = [.ref z] ∧ SqL K H z (ns.map V.int) ∧ ns.length ≤ 63 ∧ ∀ (y : Addr) (ms : List Im) (H' : Hp), Same H H' → H y = none → Tr H' y ms → Trk ms → Q (.ref y) H'

/-- a clip as the law draws it -/
def ClipC (p r s k : Int) : Prop := 500 ≤ p ∧ p ≤ 598 ∧ -4 ≤ r ∧ r ≤ 4 ∧ (s = 1 ∨ s = 3 ∧ ¬ r.fmod 3 = 0) ∧ 1 ≤ k ∧ k ≤ 20
/-- clips end to end, mixes between them: what is taken at the begin, and behind the end -/
inductive Run : Int → List Im → Int → Prop where
  | nil (a : Int) : Run a [] a
  | clip {a a' p r s k : Int} {ms : List Im} (c : ClipC p r s k) (h : a ≤ k) (t : Run 0 ms a') : Run a (.clip "a" p 1 r s k :: ms) a'
  | mix {a a' p r s k l : Int} {ms : List Im} (c : ClipC p r s k) (l1 : 1 ≤ l) (l8 : l ≤ 8) (h : a + l.fdiv 2 ≤ k) (t : Run (l - l.fdiv 2) ms a') : Run a (.clip "a" p 1 r s k :: .mix l :: ms) a'
theorem Run.app {a a' : Int} {ms : List Im} (h : Run a ms a') : ∀ {a'' : Int} {ms' : List Im}, Run a' ms' a'' → Run a (ms ++ ms') a'' := by
  induction h with
  | nil a => intro _ _ h; exact h
  | clip c h t ih => intro _ _ h'; exact .clip c h (ih h')
  | mix c l1 l8 h t ih => intro _ _ h'; exact .mix c l1 l8 h (ih h')
def hdm : List Im → Int
  | .mix l :: _ => l.fdiv 2
  | _ => 0
theorem Run.head {a a' : Int} {ms : List Im} (h : Run a ms a') (n : a ≠ a') : ∃ p r s k ms', ms = .clip "a" p 1 r s k :: ms' ∧ ClipC p r s k ∧ a + hdm ms' ≤ k := by
  cases h with
  | nil => exact absurd rfl n
  | clip c h t =>
    refine ⟨_, _, _, _, _, rfl, c, ?_⟩
    cases t with
    | nil => simpa [hdm] using h
    | clip => simpa [hdm] using h
    | mix => simpa [hdm] using h
  | mix c l1 l8 h t => exact ⟨_, _, _, _, _, rfl, c, by simpa [hdm] using h⟩
theorem ClipC.inr {p r s k m : Int} (c : ClipC p r s k) (h0 : -30 ≤ m) (h1 : m ≤ 30) : InR (Vk p 1 r s m) (1 * s) 1100 := by
  obtain ⟨p0, p1, r0, r1, hs, _, _⟩ := c
  have b1 : -120 ≤ m * r ∧ m * r ≤ 120 := by
    have : r = -4 ∨ r = -3 ∨ r = -2 ∨ r = -1 ∨ r = 0 ∨ r = 1 ∨ r = 2 ∨ r = 3 ∨ r = 4 := by omega
    rcases this with rfl | rfl | rfl | rfl | rfl | rfl | rfl | rfl | rfl <;> omega
  unfold Vk
  generalize m * r = x at b1
  rcases hs with rfl | ⟨rfl, _⟩
  · constructor <;> omega
  · constructor <;> omega
theorem ClipC.gcd {p r s k : Int} (c : ClipC p r s k) : Int.gcd r s = 1 ∧ 0 < s ∧ s ≤ 3 := by
  obtain ⟨p0, p1, r0, r1, hs, _, _⟩ := c
  rcases hs with rfl | ⟨rfl, h⟩
  · exact ⟨Int.gcd_one_right _, by decide, by decide⟩
  · refine ⟨?_, by decide, by decide⟩
    have : r = -4 ∨ r = -3 ∨ r = -2 ∨ r = -1 ∨ r = 0 ∨ r = 1 ∨ r = 2 ∨ r = 3 ∨ r = 4 := by omega
    rcases this with rfl | rfl | rfl | rfl | rfl | rfl | rfl | rfl | rfl <;> first | decide | exact absurd (by decide) h
theorem sm_pow {i : Int} {n : Nat} (h : i.natAbs < 2 ^ 20) (hn : 20 ≤ n := by decide) : i.natAbs < 2 ^ n := Nat.lt_of_lt_of_le h (Nat.pow_le_pow_right (by decide) hn)
theorem ClipC.good {p r s k : Int} (c : ClipC p r s k) : Good 110 p 1 ∧ Good 110 r s := by
  obtain ⟨g, s0, s1⟩ := c.gcd
  obtain ⟨p0, p1, r0, r1, hs, _, _⟩ := c
  exact ⟨⟨by decide, Int.gcd_one_right _, sm_pow (by omega), sm_pow (by decide)⟩, ⟨s0, g, sm_pow (by omega), sm_pow (by omega)⟩⟩
theorem te_at (pre : List Im) (x : Im) (ms : List Im) : teF (pre ++ x :: ms) pre.length = hdm ms := by
  unfold teF
  rw [List.getElem?_append_right (by omega)]
  have e : pre.length + 1 - pre.length = 1 := by omega
  rw [e]
  cases ms with
  | nil => rfl
  | cons m r => cases m <;> rfl
theorem get_at (pre : List Im) (x : Im) (ms : List Im) : (pre ++ x :: ms)[pre.length]? = some x := by
  rw [List.getElem?_append_right (by omega)]
  simp
theorem tb_at (pre : List Im) (x : Im) (y : List Im) : tbF ((pre ++ [x]) ++ y) (pre ++ [x]).length = match x with | .mix l => l - l.fdiv 2 | _ => 0 := by
  unfold tbF
  rw [List.length_append, if_neg (by simp)]
  have e : pre.length + [x].length - 1 = pre.length := by simp
  rw [e, List.append_assoc, List.singleton_append, get_at]
  cases x <;> rfl
theorem rl_a : rl32 "a" = some 1100 := if_pos rfl
theorem Run.fit {a a' : Int} {ms : List Im} (h : Run a ms a') : a' = 0 → ∀ pre : List Im, (∀ x, tbF (pre ++ x) pre.length = a) → ∀ i l, pre.length ≤ i → (pre ++ ms)[i]? = some (.mix l) → FitAt rl32 (pre ++ ms) i l := by
  induction h with
  | nil a =>
    intro _ pre _ i l hi h
    rw [List.append_nil, List.getElem?_eq_none hi] at h
    cases h
  | @clip a a' p r s k ms c hk t ih =>
    intro h0 pre hp i l hi h
    by_cases e : i = pre.length
    · rw [e, get_at] at h; cases h
    · have e2 : pre ++ .clip "a" p 1 r s k :: ms = (pre ++ [.clip "a" p 1 r s k]) ++ ms := by simp
      rw [e2] at h ⊢
      exact ih h0 (pre ++ [.clip "a" p 1 r s k]) (fun x => tb_at pre _ x) i l (by simp; omega) h
  | @mix a a' p r s k l' ms c l1 l8 hk t ih =>
    intro h0 pre hp i l hi h
    by_cases e : i = pre.length
    · rw [e, get_at] at h; cases h
    have e2 : pre ++ .clip "a" p 1 r s k :: .mix l' :: ms = (pre ++ [.clip "a" p 1 r s k]) ++ .mix l' :: ms := by simp
    have el : (pre ++ [Im.clip "a" p 1 r s k]).length = pre.length + 1 := by simp
    by_cases e3 : i = pre.length + 1
    · have hl : l' = l := by
        rw [e2, e3, ← el, get_at] at h
        exact Im.mix.inj (Option.some.inj h)
      subst hl
      subst h0
      have hl2 := fdiv_bounds (p := l') (q := 2) (by decide)
      obtain ⟨p', r', s', k', ms', e4, c', hk'⟩ := t.head (by omega)
      subst e4
      obtain ⟨g1, g2⟩ := c.good
      obtain ⟨g3, g4⟩ := c'.good
      obtain ⟨_, _, _, _, _, k1, k2⟩ := id c
      refine ⟨"a", p, 1, r, s, k, "a", p', 1, r', s', k', 1100, 1100, by omega, ?_, ?_, rl_a, rl_a, sm_pow (by decide), sm_pow (by decide), g1, g2, g3, g4, sm_pow (by omega), c.inr (by decide) (by decide), c'.inr (by decide) (by decide), by omega, fun j j0 j1 => c.inr (by omega) (by omega), fun j j0 j1 => c'.inr (by omega) (by omega), ?_, ?_⟩
      · have e5 : i - 1 = pre.length := by omega
        rw [e5, get_at]
      · have e5 : pre ++ .clip "a" p 1 r s k :: .mix l' :: .clip "a" p' 1 r' s' k' :: ms' = (pre ++ [.clip "a" p 1 r s k, .mix l']) ++ .clip "a" p' 1 r' s' k' :: ms' := by simp
        have e6 : i + 1 = (pre ++ [Im.clip "a" p 1 r s k, .mix l']).length := by simp; omega
        rw [e5, e6, get_at]
      · have e5 : i - 1 = pre.length := by omega
        rw [e5, hp]
        omega
      · have e5 : pre ++ .clip "a" p 1 r s k :: .mix l' :: .clip "a" p' 1 r' s' k' :: ms' = (pre ++ [.clip "a" p 1 r s k, .mix l']) ++ .clip "a" p' 1 r' s' k' :: ms' := by simp
        have e6 : i + 1 = (pre ++ [Im.clip "a" p 1 r s k, .mix l']).length := by simp; omega
        rw [e5, e6, te_at]
        omega
    · have e5 : pre ++ .clip "a" p 1 r s k :: .mix l' :: ms = ((pre ++ [.clip "a" p 1 r s k]) ++ [.mix l']) ++ ms := by simp
      rw [e5] at h ⊢
      exact ih h0 _ (fun x => tb_at (pre ++ [.clip "a" p 1 r s k]) (.mix l') x) i l (by simp; omega) h
theorem Run.items {a a' : Int} {ms : List Im} (h : Run a ms a') : ∀ m ∈ ms, (∃ p r s k, m = .clip "a" p 1 r s k ∧ ClipC p r s k) ∨ ∃ l, m = .mix l ∧ 1 ≤ l ∧ l ≤ 8 := by
  induction h with
  | nil => intro m hm; cases hm
  | clip c hk t ih =>
    intro m hm
    rcases List.mem_cons.mp hm with rfl | hm
    · exact .inl ⟨_, _, _, _, rfl, c⟩
    · exact ih m hm
  | mix c l1 l8 hk t ih =>
    intro m hm
    rcases List.mem_cons.mp hm with rfl | hm
    · exact .inl ⟨_, _, _, _, rfl, c⟩
    · rcases List.mem_cons.mp hm with rfl | hm
      · exact .inr ⟨_, rfl, l1, l8⟩
      · exact ih m hm
theorem Run.one {a a' : Int} {ms : List Im} (h : Run a ms a') : oneF 0 ms = ms := by
  induction h with
  | nil => rfl
  | clip c hk t ih => rw [oneF, if_neg (by decide), ih]
  | mix c l1 l8 hk t ih => rw [oneF, if_neg (by decide), oneF, if_neg (by decide), ih]
theorem ClipC.nice {p r s k : Int} (c : ClipC p r s k) (tn : Str → Prop) : (Im.clip "a" p 1 r s k).sm ∧ NiceI rl32 tn (.clip "a" p 1 r s k) ∧ (Im.clip "a" p 1 r s k).g ∧ k ≤ 100 := by
  have i0 := c.inr (m := 0) (by decide) (by decide)
  obtain ⟨g, s0, s1⟩ := c.gcd
  obtain ⟨p0, p1, r0, r1, hs, k1, k2⟩ := id c
  have i1 := c.inr (m := k - 1) (by omega) (by omega)
  refine ⟨⟨by omega, by omega, by decide, by decide, s0, by omega, k1⟩, ⟨1100, rl_a, by decide +kernel, by decide +kernel, ?_, Int.gcd_one_right _, g, k1, sm_pow (by omega), i0, i1⟩, ⟨by decide, s0, sm_pow (by omega), sm_pow (by decide), sm_pow (by omega), sm_pow (by omega), k1, ?_⟩, by omega⟩
  · exact ⟨by decide, s0, sm_pow (by omega), sm_pow (by decide), sm_pow (by omega), sm_pow (by omega)⟩
  · have : (20 : Int) < 2 ^ 400 := by decide
    omega
theorem trk_of {pre body : List Im} (hp : pre = [] ∨ ∃ g, pre = [.gap g] ∧ 1 ≤ g ∧ g ≤ 5) (h : Run 0 body 0) (ne : body ≠ []) (hl : body.length ≤ 12) : Trk (pre ++ body) := by
  have tb0 : ∀ x, tbF (pre ++ x) pre.length = 0 := by
    intro x
    rcases hp with rfl | ⟨g, rfl, _⟩
    · rfl
    · exact tb_at [] (.gap g) x
  have hpl : pre.length ≤ 1 := by rcases hp with rfl | ⟨g, rfl, _⟩ <;> simp
  have fit : ∀ i l, (pre ++ body)[i]? = some (.mix l) → FitAt rl32 (pre ++ body) i l := by
    intro i l hi
    by_cases c : pre.length ≤ i
    · exact h.fit rfl pre tb0 i l c hi
    · rcases hp with rfl | ⟨g, rfl, _⟩
      · simp at c
      · have : i = 0 := by simp at c; omega
        subst this
        simp at hi
  have it : ∀ tn, ∀ m ∈ pre ++ body, m.sm ∧ NiceI rl32 tn m ∧ m.g ∧ m.l ≤ 100 := by
    intro tn m hm
    rcases List.mem_append.mp hm with hm | hm
    · rcases hp with rfl | ⟨g, rfl, g1, g5⟩
      · cases hm
      · obtain rfl := List.mem_singleton.mp hm
        exact ⟨g1, g1, g1, by show g ≤ 100; omega⟩
    · rcases h.items m hm with ⟨p, r, s, k, rfl, c⟩ | ⟨l, rfl, l1, l8⟩
      · exact c.nice tn
      · exact ⟨⟨l1, by omega⟩, l1, ⟨l1, by omega⟩, by show l ≤ 100; omega⟩
  refine ⟨by simp; omega, fun m hm => (it (fun _ => True) m hm).1, fun tn m hm => ⟨(it tn m hm).2.1, (it tn m hm).2.2.1⟩, ?_, ?_, fit, fun m hm => (it (fun _ => True) m hm).2.2.2⟩
  · rcases hp with rfl | ⟨g, rfl, g1, g5⟩
    · exact h.one
    · have := h.one
      cases h with
      | nil => exact absurd rfl ne
      | clip c hk t =>
        rw [oneF, if_neg (by decide)] at this
        show oneF 0 (.gap g :: _ :: _) = .gap g :: _ :: _
        rw [oneF, oneF, if_pos (by omega), (List.cons.inj this).2, Int.zero_add]
      | mix c l1 l8 hk t =>
        rw [oneF, if_neg (by decide)] at this
        show oneF 0 (.gap g :: _ :: _) = .gap g :: _ :: _
        rw [oneF, oneF, if_pos (by omega), (List.cons.inj this).2, Int.zero_add]
  · intro i l hi
    obtain ⟨n, p, q, r, s, k, n', p', q', r', s', k', N, N', i1, ha, hb, _⟩ := fit i l hi
    exact ⟨i1, ⟨n, p, q, r, s, k, ha⟩, n', p', q', r', s', k', hb⟩
/-- the track under way, and the numbers that are left -/
structure WS (H H' : Hp) (y zx : Addr) (ms : List Im) (n : Nat) : Prop where
  e : Same H H'
  t : Tr H' y ms
  ne : y ≠ zx
  x : ∃ ys : List Int, H' zx = some (.lst (ys.map V.int)) ∧ n ≤ ys.length
  hy : H y = none
  hz : H zx = none
theorem WS.mono {H H' : Hp} {y zx : Addr} {ms : List Im} {n m : Nat} (h : WS H H' y zx ms n) (l : m ≤ n) : WS H H' y zx ms m := ⟨h.e, h.t, h.ne, let ⟨ys, a, b⟩ := h.x; ⟨ys, a, by omega⟩, h.hy, h.hz⟩
theorem WS.new {H H' : Hp} {y zx p : Addr} {ms : List Im} {n : Nat} {o : HO} (h : WS H H' y zx ms n) (hp : H' p = none) : WS H (upd H' p o) y zx ms n :=
  have w := same_new hp o
  ⟨h.e.trans w, h.t.same w, h.ne, let ⟨ys, a, b⟩ := h.x; ⟨ys, w _ _ a, b⟩, h.hy, h.hz⟩
theorem WS.ty {H H' : Hp} {y zx : Addr} {ms : List Im} {n : Nat} (h : WS H H' y zx ms n) : ∃ xs, SqL K H' zx xs := let ⟨_, a, _⟩ := h.x; ⟨_, SqL.of a⟩
theorem WS.tyY {H H' : Hp} {y zx : Addr} {ms : List Im} {n : Nat} (h : WS H H' y zx ms n) : ∃ xs, SqL K H' y xs := let ⟨_, a, _⟩ := h.t; ⟨_, SqL.of a⟩
theorem unsnoc' {xs : List Int} {n : Nat} (h : n + 1 ≤ xs.length) : ∃ ys x, xs = ys ++ [x] ∧ n ≤ ys.length := by
  have hne : xs ≠ [] := by intro q; rw [q] at h; simp at h
  exact ⟨xs.dropLast, xs.getLast hne, (List.dropLast_concat_getLast hne).symm, by rw [List.length_dropLast]; omega⟩
theorem WS.pop {H H' : Hp} {y zx : Addr} {ms : List Im} {n : Nat} {Q : VK} (h : WS H H' y zx ms (n + 1)) (q : ∀ (x : Int) (H'' : Hp), WS H H'' y zx ms n → TS H' H'' → Q (.int x) H'') : rPop (.ref zx) [] H' Q := by
  obtain ⟨xs, hx, hl⟩ := h.x
  obtain ⟨ys, x, rfl, hl'⟩ := unsnoc' hl
  refine ⟨zx, _, .int x, rfl, rfl, hx, ?_, ?_⟩
  · rw [List.map_append, List.length_append, List.length_map]
    simp
  · have e : ((ys ++ [x]).map V.int).dropLast = ys.map V.int := by rw [List.map_append]; simp
    rw [e]
    exact q x _ ⟨same_updN h.e h.hz, h.t.updL hx h.ne, h.ne, ⟨ys, upd_same, hl'⟩, h.hy, h.hz⟩ (ts_updL hx)
theorem IsIs.snoc {H : Hp} : ∀ {ms : List Im} {vs : List V} {m : Im} {v : V}, IsIs H ms vs → IsI H m v → IsIs H (ms ++ [m]) (vs ++ [v])
  | [], [], _, _, _, h => ⟨h, trivial⟩
  | _ :: _, _ :: _, _, _, h, h' => ⟨h.1, IsIs.snoc h.2 h'⟩
  | [], _ :: _, _, _, h, _ => h.elim
  | _ :: _, [], _, _, h, _ => h.elim
theorem WS.snoc {H H' : Hp} {y zx : Addr} {ms : List Im} {n : Nat} {m : Im} {v : V} {vs : List V} (h : WS H H' y zx ms n) (hv : H' y = some (.lst vs)) (his : IsIs H' ms vs) (hI : IsI H' m v) : WS H (upd H' y (.lst (vs ++ [v]))) y zx (ms ++ [m]) n := by
  refine ⟨same_updN h.e h.hy, ⟨_, upd_same, (his.snoc hI).ts (ts_updL hv)⟩, h.ne, ?_, h.hy, h.hz⟩
  obtain ⟨ys, a, b⟩ := h.x
  exact ⟨ys, by rw [upd_ne h.ne.symm]; exact a, b⟩
theorem ok__law_track (T : Tx K mg a) : FnOk P w K mg base CX0 3 a.a__law_track a.f__law_track ["_law_script"] (sp__law_track K) := by
  refine T.d__law_track.F.ok sc__law_track (fun vs H Q E h => ?_) (fun cdv A outer s H vs Q E hr h => ?_)
  · obtain ⟨z, ns, rfl, _⟩ := h
    rfl
  obtain ⟨z, ns, rfl, hS, hlen, kk⟩ := h
  refine ⟨_, (pss_cons (ps_set (i := 1) sc__law_track.nd rfl (Or.inl rfl) (pe_lst pa_nil))
      (pss_cons (ps_set (i := 2) sc__law_track.nd rfl (Or.inl rfl) pe_int)
      (pss_cons (ps_set (i := 3) sc__law_track.nd rfl (Or.inl rfl) (pe_def T.d__law_stream (ok__law_stream T) hr rfl (pa_cons (pe_def T.d__law_cell_at (ok__law_cell_at T) hr rfl (pa_cons (pv 0) (pa_cons pe_int pa_nil))) (pa_cons pe_int pa_nil))))
      (pss_cons (ps_join (ps_if (pt_cmpR op_eq (pe_op op_modN (pe_op op_fdivB (pe_bm0 PySem.F.plainAttrs_list PySem.F.slot_list_pop PySem.F.type_list_pop mt_pop (pv 3)) pe_int) pe_int) pe_int (nomark _)) (pss_one (ps_expr (pe_bm PySem.F.plainAttrs_list PySem.F.slot_list_append PySem.F.type_list_append mt_append (pv 1) (pa_cons (pe_tup (pa_cons pe_str (pa_cons (pe_op op_add pe_int (pe_op op_modN (pe_op op_fdivB (pe_bm0 PySem.F.plainAttrs_list PySem.F.slot_list_pop PySem.F.type_list_pop mt_pop (pv 3)) pe_int) pe_int)) pa_nil))) pa_nil)))) pss_nil))
      (pss_cons (ps_set (i := 4) sc__law_track.nd rfl (Or.inl rfl) (pe_op op_add pe_int (pe_op op_modN (pe_op op_fdivB (pe_bm0 PySem.F.plainAttrs_list PySem.F.slot_list_pop PySem.F.type_list_pop mt_pop (pv 3)) pe_int) pe_int)))
      (pss_cons (ps_for PassesOwn.never rfl (pi_range1 rfl T.b_range (pa_cons (pv 4) pa_nil)) (pg_name (i := 5) sc__law_track.nd rfl (Or.inl rfl)) (pss_cons (ps_set (i := 6) sc__law_track.nd rfl (Or.inl rfl) (pe_op op_add pe_int (pe_op op_modN (pe_op op_fdivB (pe_bm0 PySem.F.plainAttrs_list PySem.F.slot_list_pop PySem.F.type_list_pop mt_pop (pv 3)) pe_int) pe_int)))
      (pss_cons (ps_join (ps_if (PW.pt (pw_or (pt_cmpR op_eq (pe_op op_modN (pe_op op_fdivB (pe_bm0 PySem.F.plainAttrs_list PySem.F.slot_list_pop PySem.F.type_list_pop mt_pop (pv 3)) pe_int) pe_int) pe_int (nomark _)) (pw_or1 (pt_cmpR op_eq (pv 5) (pe_op op_sub (pv 4) pe_int) (nomark _))))) (pss_one (ps_set (i := 6) sc__law_track.nd rfl (Or.inl rfl) pe_int)) pss_nil))
      (pss_cons (ps_set (i := 7) sc__law_track.nd rfl (Or.inl rfl) (pe_op op_add (pe_callB (call_max2 rfl) rfl T.b_max rfl (pa_cons pe_int (pa_cons (pe_op op_add (pv 2) (pe_op op_fdivB (pv 6) pe_int)) pa_nil))) (pe_op op_modN (pe_op op_fdivB (pe_bm0 PySem.F.plainAttrs_list PySem.F.slot_list_pop PySem.F.type_list_pop mt_pop (pv 3)) pe_int) pe_int)))
      (pss_cons (ps_set (i := 8) sc__law_track.nd rfl (Or.inl rfl) (pe_tup (pa_cons (pe_op op_sub (pe_op op_modN (pe_op op_fdivB (pe_bm0 PySem.F.plainAttrs_list PySem.F.slot_list_pop PySem.F.type_list_pop mt_pop (pv 3)) pe_int) pe_int) pe_int) (pa_cons pe_int pa_nil))))
      (pss_cons (ps_join (ps_if (PW.pt (pw_and (pt_cmpR op_ne (pe_op op_modN (pe_ix ix_tup (pv 8) pe_int (fun _ _ => rfl)) pe_int) pe_int (nomark _)) (pw_and1 (pt_cmpR op_eq (pe_op op_modN (pe_op op_fdivB (pe_bm0 PySem.F.plainAttrs_list PySem.F.slot_list_pop PySem.F.type_list_pop mt_pop (pv 3)) pe_int) pe_int) pe_int (nomark _))))) (pss_one (ps_set (i := 8) sc__law_track.nd rfl (Or.inl rfl) (pe_tup (pa_cons (pe_ix ix_tup (pv 8) pe_int (fun _ _ => rfl)) (pa_cons pe_int pa_nil))))) pss_nil))
      (pss_cons (ps_expr (pe_bm PySem.F.plainAttrs_list PySem.F.slot_list_append PySem.F.type_list_append mt_append (pv 1) (pa_cons (pe_tup (pa_cons pe_str (pa_cons pe_str (pa_cons (pe_tup (pa_cons (pe_op op_add pe_int (pe_op op_modN (pe_bm0 PySem.F.plainAttrs_list PySem.F.slot_list_pop PySem.F.type_list_pop mt_pop (pv 3)) pe_int)) (pa_cons pe_int pa_nil))) (pa_cons (pv 8) (pa_cons (pv 7) pa_nil)))))) pa_nil)))
      (pss_cons (ps_join (ps_if (pt_cmpR op_gt (pv 6) pe_int (nomark _)) (pss_one (ps_expr (pe_bm PySem.F.plainAttrs_list PySem.F.slot_list_append PySem.F.type_list_append mt_append (pv 1) (pa_cons (pe_tup (pa_cons pe_str (pa_cons (pv 6) pa_nil))) pa_nil)))) pss_nil))
      (pss_one (ps_set (i := 2) sc__law_track.nd rfl (Or.inl rfl) (pe_op op_sub (pv 6) (pe_op op_fdivB (pv 6) pe_int))))))))))))
      (pss_one (ps_ret (pv 1))))))))), ?_⟩
  refine ⟨(by show 0 ≤ sizeLine; decide), fun y hy => ?_⟩
  have w0 := same_new hy (.lst [])
  refine ⟨_, rfl, z, ns, 0, rfl, Same.seq w0 hS, hlen, by decide, fun c => ?_⟩
  refine ⟨c, 60, rfl, by decide, by decide, fun zx xs H1 e1 hzx hx hxl _ => ?_⟩
  have W1 : WS H H1 y zx [] 60 := ⟨w0.trans e1, ⟨[], e1 _ _ upd_same, trivial⟩, ne_of_none upd_same hzx, ⟨xs, hx, by rw [hxl]; decide⟩, hy, w0.free hzx⟩
  clear hx hxl e1 hzx
  refine ⟨fun σ' H' => ∃ pre, σ' = [some (.ref z), some (.ref y), some (.int 0), some (.ref zx), none, none, none, none, none] ∧ WS H H' y zx pre 58 ∧ (pre = [] ∨ ∃ g, pre = [.gap g] ∧ 1 ≤ g ∧ g ≤ 5), ?_, ?_⟩
  · refine ⟨_, rfl, .inl ⟨rfl, W1.ty⟩, W1.pop (n := 59) fun x0 H2 W2 t2 => ?_⟩
    refine ⟨_, _, rfl, rfl, cdB (by decide) (by decide), _, _, rfl, rfl, nz, rfl, _, rfl, ite2 (fun _ => ?_) (fun _ => ?_)⟩
    · refine ⟨_, rfl, .inl ⟨rfl, W2.tyY⟩, _, rfl, .inl ⟨rfl, W2.ty⟩, W2.pop (n := 58) fun x1 H3 W3 t3 => ?_⟩
      have f := fm (x1.fdiv 3) (show (0 : Int) < 5 by decide)
      refine ⟨_, _, rfl, rfl, cdB (by decide) (by decide), _, _, rfl, rfl, nz, _, _, rfl, rfl, (by show 2 ≤ sizeLine; decide), fun g hg => ?_⟩
      have W4 := W3.new (o := .tup [.str "gap", .int (1 + (x1.fdiv 3).fmod 5)]) hg
      obtain ⟨vs, hv, his⟩ := W4.t
      refine ⟨y, vs, _, rfl, rfl, hv, small1000 (by rw [his.len]; simp), ?_⟩
      exact ⟨[.gap (1 + (x1.fdiv 3).fmod 5)], rfl, W4.snoc hv his (isG upd_same), .inr ⟨_, rfl, by omega, by omega⟩⟩
    · exact ⟨[], rfl, W2.mono (by decide), .inl rfl⟩
  rintro σ' H2 ⟨pre, rfl, W2, hpre⟩
  refine ⟨_, rfl, .inl ⟨rfl, W2.ty⟩, W2.pop (n := 57) fun x2 H3 W3 t3 => ?_⟩
  have f2 := fm (x2.fdiv 3) (show (0 : Int) < 4 by decide)
  refine ⟨_, _, rfl, rfl, cdB (by decide) (by decide), _, _, rfl, rfl, nz, _, _, rfl, rfl, ?_⟩
  generalize (x2.fdiv 3).fmod 4 = x2 at f2 ⊢
  have hpl : pre.length ≤ 1 := by rcases hpre with rfl | ⟨g, rfl, _⟩ <;> simp
  refine ⟨_, rfl, _, rfl, by omega, by omega, for_range (n := (2 + x2).toNat) (fun i σ H' => ∃ (body : List Im) (ah : Int) (o1 o2 o3 o4 : Option V), σ = [some (.ref z), some (.ref y), some (.int ah), some (.ref zx), some (.int (2 + x2)), o1, o2, o3, o4] ∧ WS H H' y zx (pre ++ body) (57 - 6 * i) ∧ Run 0 body ah ∧ body.length ≤ 2 * i ∧ (1 ≤ i → body ≠ []) ∧ ((i : Int) = 2 + x2 → ah = 0) ∧ 0 ≤ ah ∧ ah ≤ 4) ⟨[], 0, none, none, none, none, rfl, by rw [List.append_nil]; exact W3, .nil 0, by simp, fun h => absurd h (by decide), fun _ => rfl, by decide, by decide⟩ ?_ ?_⟩
  · rintro i σ H4 hi ⟨body, ah, o1, o2, o3, o4, rfl, W4, hR, hbl, hbn, _, ah0, ah4⟩
    have hi5 : i < 5 := by omega
    obtain ⟨n, hn⟩ : ∃ n, 57 - 6 * i = n + 6 := ⟨57 - 6 * i - 6, by omega⟩
    have hn' : 57 - 6 * (i + 1) = n := by omega
    rw [hn] at W4
    rw [hn']
    refine ⟨_, rfl, .inl ⟨rfl, W4.ty⟩, W4.pop (n := n + 5) fun x3 H5 W5 t5 => ?_⟩
    have f3 := fm (x3.fdiv 3) (show (0 : Int) < 8 by decide)
    refine ⟨_, _, rfl, rfl, cdB (by decide) (by decide), _, _, rfl, rfl, nz, _, _, rfl, rfl, ?_⟩
    generalize (x3.fdiv 3).fmod 8 = x3 at f3 ⊢
    refine ⟨fun σ' H' => ∃ mx : Int, σ' = [some (.ref z), some (.ref y), some (.int ah), some (.ref zx), some (.int (2 + x2)), some (.int (0 + (i : Int))), some (.int mx), o3, o4] ∧ WS H H' y zx (pre ++ body) (n + 4) ∧ 0 ≤ mx ∧ mx ≤ 8 ∧ ((i : Int) + 1 = 2 + x2 → mx = 0), ?_, ?_⟩
    · refine ⟨_, rfl, .inl ⟨rfl, W5.ty⟩, W5.pop (n := n + 4) fun x4 H6 W6 t6 => ?_⟩
      refine ⟨_, _, rfl, rfl, cdB (by decide) (by decide), _, _, rfl, rfl, nz, rfl, _, rfl, ite2 (fun _ => ?_) (fun _ => ?_)⟩
      · exact iteT ⟨0, rfl, W6, by decide, by decide, fun _ => rfl⟩
      · refine ⟨_, rfl, _, rfl, _, _, rfl, rfl, rfl, _, rfl, ite2 (fun c => ?_) (fun c => ?_)⟩
        · exact ⟨0, rfl, W6, by decide, by decide, fun _ => rfl⟩
        · have c : ¬ (0 + (i : Int)) = 2 + x2 - 1 := by simpa using c
          exact ⟨1 + x3, rfl, W6, by omega, by omega, fun h => absurd h (by omega)⟩
    rintro σ' H6 ⟨mx, rfl, W6, mx0, mx8, hmx⟩
    have hm2 := fdiv_bounds (p := mx) (q := 2) (by decide)
    refine ⟨_, rfl, _, rfl, _, _, rfl, rfl, cdB (by decide) (by decide), _, _, rfl, rfl, _, _, rfl, _, rfl, .inl ⟨rfl, W6.ty⟩, W6.pop (n := n + 3) fun x5 H7 W7 t7 => ?_⟩
    have f5 := fm (x5.fdiv 3) (show (0 : Int) < 4 by decide)
    refine ⟨_, _, rfl, rfl, cdB (by decide) (by decide), _, _, rfl, rfl, nz, _, _, rfl, rfl, ?_⟩
    generalize (x5.fdiv 3).fmod 4 = x5 at f5 ⊢
    obtain ⟨len, hlen'⟩ : ∃ len, len = (if ah + mx.fdiv 2 > 1 then ah + mx.fdiv 2 else 1) + x5 := ⟨_, rfl⟩
    have hl1 : ah + mx.fdiv 2 ≤ len ∧ 1 ≤ len ∧ len ≤ 20 := by rw [hlen']; split <;> omega
    dsimp only
    rw [← hlen']
    clear hlen'
    refine ⟨_, rfl, .inl ⟨rfl, W7.ty⟩, W7.pop (n := n + 2) fun x6 H8 W8 t8 => ?_⟩
    have f6 := fm (x6.fdiv 3) (show (0 : Int) < 9 by decide)
    refine ⟨_, _, rfl, rfl, cdB (by decide) (by decide), _, _, rfl, rfl, nz, _, _, rfl, rfl, ?_⟩
    obtain ⟨r, hr'⟩ : ∃ r, r = (x6.fdiv 3).fmod 9 - 4 := ⟨_, rfl⟩
    dsimp only
    rw [← hr']
    have r0 : -4 ≤ r ∧ r ≤ 4 := by omega
    clear hr' f6
    refine ⟨(by show 2 ≤ sizeLine; decide), fun st hst => ?_⟩
    have W9 := W8.new (o := .tup [.int r, .int 1]) hst
    have s9 : (upd H8 st (.tup [.int r, .int 1])) st = some (.tup [.int r, .int 1]) := upd_same
    generalize upd H8 st (.tup [.int r, .int 1]) = H9 at W9 s9 ⊢
    refine ⟨fun σ' H' => ∃ (sx : Int) (st' : Addr), σ' = [some (.ref z), some (.ref y), some (.int ah), some (.ref zx), some (.int (2 + x2)), some (.int (0 + (i : Int))), some (.int mx), some (.int len), some (.ref st')] ∧ WS H H' y zx (pre ++ body) (n + 1) ∧ H' st' = some (.tup [.int r, .int sx]) ∧ (sx = 1 ∨ sx = 3 ∧ ¬ r.fmod 3 = 0), ?_, ?_⟩
    · refine ⟨_, rfl, st, _, _, _, rfl, rfl, SqT.of s9, at0, _, _, rfl, rfl, nz, rfl, _, rfl, ite2 (fun c => ?_) (fun c => ?_)⟩
      · have c : ¬ r.fmod 3 = 0 := by simpa using c
        refine ⟨_, rfl, .inl ⟨rfl, W9.ty⟩, W9.pop (n := n + 1) fun x7 H10 W10 t10 => ?_⟩
        refine ⟨_, _, rfl, rfl, cdB (by decide) (by decide), _, _, rfl, rfl, nz, rfl, _, rfl, ite2 (fun _ => ?_) (fun _ => ?_)⟩
        · refine ⟨_, rfl, st, _, _, _, rfl, rfl, SqT.of (t10 _ _ s9), at0, (by show 2 ≤ sizeLine; decide), fun st2 hst2 => ?_⟩
          exact ⟨3, st2, rfl, W10.new hst2, upd_same, .inr ⟨rfl, c⟩⟩
        · exact ⟨1, st, rfl, W10, t10 _ _ s9, .inl rfl⟩
      · exact iteF ⟨1, st, rfl, W9.mono (by omega), s9, .inl rfl⟩
    rintro σ' H10 ⟨sx, st', rfl, W10, s10, hsx⟩
    refine ⟨_, rfl, .inl ⟨rfl, W10.tyY⟩, _, rfl, .inl ⟨rfl, W10.ty⟩, W10.pop (n := n) fun x8 H11 W11 t11 => ?_⟩
    have f8 := fm x8 (show (0 : Int) < 99 by decide)
    refine ⟨_, _, rfl, rfl, nz, _, _, rfl, rfl, (by show 2 ≤ sizeLine; decide), fun pt hpt => ⟨_, rfl, _, rfl, (by show 5 ≤ sizeLine; decide), fun cl hcl => ?_⟩⟩
    obtain ⟨p, hp'⟩ : ∃ p, p = 500 + x8.fmod 99 := ⟨_, rfl⟩
    dsimp only at hcl ⊢
    rw [← hp'] at hcl ⊢
    have p0 : 500 ≤ p ∧ p ≤ 598 := by omega
    clear hp' f8
    have w12 := same_new hpt (.tup [.int p, .int 1])
    have w13 := same_new hcl (.tup [.str "clip", .str "a", .ref pt, .ref st', .int len])
    have W13 := (W11.new (o := .tup [.int p, .int 1]) hpt).new (o := .tup [.str "clip", .str "a", .ref pt, .ref st', .int len]) hcl
    have i13 : IsI (upd (upd H11 pt (.tup [.int p, .int 1])) cl (.tup [.str "clip", .str "a", .ref pt, .ref st', .int len])) (.clip "a" p 1 r sx len) (.ref cl) := isC upd_same (w13 _ _ upd_same) (w13 _ _ (w12 _ _ (t11 _ _ s10)))
    generalize upd (upd H11 pt (.tup [.int p, .int 1])) cl (.tup [.str "clip", .str "a", .ref pt, .ref st', .int len]) = H13 at W13 i13 ⊢
    obtain ⟨vs, hv, his⟩ := W13.t
    refine ⟨y, vs, _, rfl, rfl, hv, small1000 (by rw [his.len, List.length_append]; omega), ?_⟩
    have W14 := W13.snoc hv his i13
    generalize upd H13 y (.lst (vs ++ [V.ref cl])) = H14 at W14 ⊢
    have cC : ClipC p r sx len := ⟨p0.1, p0.2, r0.1, r0.2, hsx, hl1.2.1, hl1.2.2⟩
    refine ⟨fun σ' H' => ∃ body' : List Im, σ' = [some (.ref z), some (.ref y), some (.int ah), some (.ref zx), some (.int (2 + x2)), some (.int (0 + (i : Int))), some (.int mx), some (.int len), some (.ref st')] ∧ WS H H' y zx (pre ++ body') n ∧ Run 0 body' (mx - mx.fdiv 2) ∧ body'.length ≤ 2 * (i + 1) ∧ body' ≠ [], ?_, ?_⟩
    · refine ⟨_, rfl, _, _, rfl, rfl, _, rfl, ite2 (fun c => ?_) (fun c => ?_)⟩
      · have c : 0 < mx := by simpa using c
        refine ⟨_, rfl, .inl ⟨rfl, W14.tyY⟩, _, rfl, (by show 2 ≤ sizeLine; decide), fun mt hmt => ?_⟩
        have W15 := W14.new (o := .tup [.str "mix", .int mx]) hmt
        obtain ⟨vs2, hv2, his2⟩ := W15.t
        refine ⟨y, vs2, _, rfl, rfl, hv2, small1000 (by rw [his2.len]; simp; omega), ?_⟩
        have W16 := W15.snoc hv2 his2 (isM upd_same)
        refine ⟨body ++ [.clip "a" p 1 r sx len, .mix mx], rfl, ?_, hR.app (.mix cC (by omega) mx8 hl1.1 (.nil _)), by simp; omega, by simp⟩
        have ea : pre ++ (body ++ [.clip "a" p 1 r sx len, .mix mx]) = ((pre ++ body) ++ [.clip "a" p 1 r sx len]) ++ [.mix mx] := by simp
        rw [ea]
        exact W16
      · have c : ¬ 0 < mx := by simpa using c
        have e0 : mx = 0 := by omega
        have e1 : mx - mx.fdiv 2 = 0 := by omega
        refine ⟨body ++ [.clip "a" p 1 r sx len], rfl, ?_, ?_, by simp; omega, by simp⟩
        · rw [← List.append_assoc]; exact W14
        · rw [e1]; exact hR.app (.clip cC (by omega) (.nil 0))
    rintro σ' H15 ⟨body', rfl, W15, hR', hbl', hbn'⟩
    refine ⟨_, rfl, _, rfl, _, _, rfl, rfl, cdB (by decide) (by decide), _, _, rfl, rfl, ?_⟩
    refine ⟨body', mx - mx.fdiv 2, _, _, _, _, rfl, W15, hR', hbl', fun _ => hbn', fun h => ?_, by omega, by omega⟩
    have := hmx (by omega)
    omega
  · rintro σ H4 ⟨body, ah, o1, o2, o3, o4, rfl, W4, hR, hbl, hbn, hah, _, _⟩
    have e0 := hah (by omega)
    subst e0
    exact ⟨_, rfl, kk y (pre ++ body) H4 W4.e W4.hy W4.t (trk_of hpre hR (hbn (by omega)) (by omega))⟩

theorem sm_nests : ∀ {ms : List Im}, (∀ m ∈ ms, m.sm) → nestN ms = []
  | [], _ => rfl
  | m :: ms, h => by
    have ih := sm_nests fun x hx => h x (List.mem_cons_of_mem _ hx)
    have hm := h m (by simp)
    cases m with
    | nest => exact hm.elim
    | clip => exact ih
    | gap => exact ih
    | mix => exact ih
def ar32 : List (Key × V) := [(Sum.inr "a", .int 1100)]
theorem rok32 : RlOk ar32 := by
  intro p hp
  have e := List.mem_singleton.mp hp
  exact ⟨"a", 1100, e, by decide +kernel, by decide +kernel, by decide, by decide⟩
theorem rls32 (n : Str) (N : Int) (h : rl32 n = some N) : valV ar32 (Sum.inr n) = some (.int N) := by
  unfold rl32 at h
  by_cases c : n = "a"
  · rw [if_pos c] at h
    cases h
    subst c
    exact valV_pos rfl
  · rw [if_neg c] at h; cases h
theorem good32 {H : Hp} {rz re td tt tl ti hd : Addr} {ms : List Im} (hK : Trk ms) (h1 : H rz = some (.tup [.ref re, .ref td])) (h2 : H re = some (.dK ar32)) (h3 : H td = some (.dK [(Sum.inr "top", .ref tt)])) (ne : re ≠ td) (h4 : H tt = some (.tup [.ref tl, .ref ti])) (h5 : H tl = some (.lst [.ref hd])) (h6 : H ti = some (.lst [])) (hT : Tr H hd ms) : GoodRoom H rz re td ar32 [(Sum.inr "top", .ref tt)] rl32 [("top", [ms], [])] fun _ => 0 := by
  have len := hK.len
  refine ⟨h1, .inl h2, .inl h3, ne, rok32, by decide, rls32, ⟨rfl, ⟨tt, tl, ti, _, rfl, h4, h5, ⟨⟨hd, rfl, hT⟩, trivial⟩, h6⟩, trivial⟩, ?_, (by show 1 ≤ 100; decide), ?_, ?_, ?_, ?_⟩
  · exact (by decide +kernel : [("top" : Str)].Nodup)
  · intro t ht
    obtain rfl := List.mem_singleton.mp ht
    exact ⟨(by decide +kernel : nameB "top" = true), (by decide +kernel : ("top" : Str).length ≤ 1000)⟩
  · intro t ht
    obtain rfl := List.mem_singleton.mp ht
    refine ⟨(by show 1 ≤ 1; decide), (by show 1 ≤ 8; decide), fun x hx => ?_, trivial⟩
    obtain rfl := List.mem_singleton.mp hx
    exact ⟨by omega, hK.nice _, hK.one, hK.mix, hK.fit⟩
  · intro t ht
    obtain rfl := List.mem_singleton.mp ht
    refine ⟨(by show 1 ≤ 8; decide), fun x hx => ?_⟩
    obtain rfl := List.mem_singleton.mp hx
    omega
  · intro t ht
    obtain rfl := List.mem_singleton.mp ht
    refine ⟨(by show 0 < 6; decide), fun n hn => ?_⟩
    have e : nestT [ms] = [] := by
      unfold nestT
      simp [sm_nests hK.sm]
    have hn : n ∈ nestT [ms] := hn
    rw [e] at hn
    cases hn
theorem sum_ls : ∀ {ms : List Im}, (∀ m ∈ ms, m.sm) → (∀ m ∈ ms, m.l ≤ 100) → 0 ≤ (ms.map Im.l).sum ∧ (ms.map Im.l).sum ≤ 100 * ms.length
  | [], _, _ => by simp
  | m :: ms, h1, h2 => by
    obtain ⟨a, b⟩ := sum_ls (fun x hx => h1 x (List.mem_cons_of_mem _ hx)) fun x hx => h2 x (List.mem_cons_of_mem _ hx)
    have hm := h1 m (by simp)
    have hl := h2 m (by simp)
    have h0 : 0 ≤ m.l := by
      cases m with
      | nest => exact hm.elim
      | clip n p q r s l => have := hm.2.2.2.2.2.2; show 0 ≤ l; omega
      | gap l => have hm : 1 ≤ l := hm; show 0 ≤ l; omega
      | mix l => have := hm.1; show 0 ≤ l; omega
    rw [List.map_cons, List.sum_cons, List.length_cons]
    omega
theorem ok_law (T : Tx K mg a) : FnOk P w K mg base CX0 16 a.a_law a.f_law ["_law_script"] (spLaw K) := by
  refine T.d_law.F.ok sc_law (fun vs H Q E h => ?_) (fun cdv A outer s H vs Q E hr h => ?_)
  · obtain ⟨a, ns, rfl, _⟩ := h
    rfl
  obtain ⟨z, ns, rfl, hS, hlen, kk⟩ := h
  have hu := hr.units
  have hu1 := hu_of hr
  have hr8 := hr.mono (show 2 * 0 + 8 ≤ 15 by decide)
  refine ⟨_, (pss_cons (ps_set (i := 1) sc_law.nd rfl (Or.inl rfl) (pe_def T.d__law_track (ok__law_track T) hr rfl (pa_cons (pv 0) pa_nil)))
      (pss_cons (ps_set (i := 2) sc_law.nd rfl (Or.inl rfl) (pe_callTy call_list_of rfl T.b_list rfl (pa_cons (pv 1) pa_nil)))
      (pss_cons (ps_set (i := 3) sc_law.nd rfl (Or.inl rfl) (pe_tup (pa_cons (pe_disp (pps_cons pe_str pe_int pps_nil) rfl rfl (by simp) (by decide)) (pa_cons (pe_disp (pps_cons pe_str (pe_tup (pa_cons (pe_lst (pa_cons (pv 2) pa_nil)) (pa_cons (pe_lst pa_nil) pa_nil))) pps_nil) rfl rfl (by simp) (by decide)) pa_nil))))
      (pss_cons (ps_set (i := 4) sc_law.nd rfl (Or.inl rfl) (pe_def T.d_mix_spans (ok_mix_spans T) hr rfl (pa_cons (pv 2) pa_nil)))
      (pss_cons (ps_if (PW.pt (pw_or (pt_cmp (pc_notN (pe_def T.d_check_room (ok_check_room T) hr rfl (pa_cons (pv 3) pa_nil)))) (pw_or (pt_not (pt_val (pe_callB call_isinst rfl T.b_isinstance rfl (pa_cons (pv 4) (pa_cons (pe_ty rfl T.b_list rfl) pa_nil))))) (pw_or1 (pt_cmpR (op_neR hu) (pv 4) (pe_def T.d__law_spans (ok__law_spans T) hr rfl (pa_cons (pv 1) pa_nil)) (nomark _)))))) (pss_one (ps_ret pe_bl)) pss_nil)
      (pss_cons (ps_expr (pe_bm PySem.F.plainAttrs_list PySem.F.slot_list_append PySem.F.type_list_append mt_append (pv 4) (pa_cons (pe_tup (pa_cons pe_int (pa_cons pe_int (pa_cons pe_int pa_nil)))) pa_nil)))
      (pss_cons (ps_for PassesOwn.never rfl (pi_range1 rfl T.b_range (pa_cons (pe_op op_add (pe_callB (call_sumL rfl) rfl T.b_sum rfl (pa_cons (pe_comp [] [] rfl (pi_list (pv 1)) (fun _ _ _ _ => (pe_ix (ixK_tup (K := K) rfl) (pv 0) (pe_un un_neg pe_int) (fun _ _ => rfl)))) pa_nil)) pe_int) pa_nil)) (pg_name (i := 5) sc_law.nd rfl (Or.inl rfl)) (pss_one (ps_if (pt_cmpR (op_neR hu) (pe_def T.d_told_on (ok_told T 0).2 hr8 rfl (pa_cons (pv 2) (pa_cons (pv 5) (pa_cons (pv 3) pa_nil))) (Nat.le_refl _)) (pe_def T.d__law_due (ok__law_due T) hr rfl (pa_cons (pv 1) (pa_cons (pv 5) pa_nil))) (nomark _)) (pss_one (ps_ret pe_bl)) pss_nil)))
      (pss_one (ps_ret (pe_and (pe_cmpR (op_eqR hu) (pv 2) (pv 1) (nomark _)) (pe_one (pe_cmpR (op_eqR hu) (pe_def T.d_mix_spans (ok_mix_spans T) hr rfl (pa_cons (pv 2) pa_nil)) (pe_def T.d__law_spans (ok__law_spans T) hr rfl (pa_cons (pv 1) pa_nil)) (nomark _))))))))))))), ?_⟩
  refine ⟨_, rfl, z, ns, rfl, hS, hlen, fun y ms H1 e1 hy hT hK => ?_⟩
  obtain ⟨xs, hyl, his⟩ := id hT
  refine ⟨_, rfl, y, xs, rfl, .inl (SqL.of hyl), fun hd hhd => ?_⟩
  have w1 := same_new hhd (.lst xs)
  have hT2 : Tr (upd H1 hd (.lst xs)) hd ms := ⟨xs, upd_same, his.ts (ts_same w1)⟩
  have hTy := hT.same w1
  have nyd : y ≠ hd := ne_of_none hyl hhd
  generalize upd H1 hd (.lst xs) = H2 at w1 hT2 hTy ⊢
  refine fun re hre => ⟨upd_same, ar32, rfl, by decide, ?_⟩
  have E1 : upd (upd H2 re (.dK [])) re (.dK (mergeK [] ar32)) = upd H2 re (.dK ar32) := by rw [upd_upd]; rfl
  rw [E1]
  have w2 := same_new hre (.dK ar32)
  have hre3 : (upd H2 re (.dK ar32)) re = some (.dK ar32) := upd_same
  have hT3 := hT2.same w2
  have hTy3 := hTy.same w2
  have e3 := (e1.trans w1).trans w2
  have hre0 : H1 re = none := w1.free hre
  generalize upd H2 re (.dK ar32) = H3 at w2 hre3 hT3 hTy3 e3 ⊢
  refine fun td htd => ⟨_, rfl, (by show 1 ≤ sizeLine; decide), fun tl htl => ⟨(by show 0 ≤ sizeLine; decide), fun ti hti => ⟨(by show 2 ≤ sizeLine; decide), fun tt htt => ?_⟩⟩⟩
  have v1 := same_new htd (.dK [])
  have v2 := same_new htl (.lst [.ref hd])
  have v3 := same_new hti (.lst [])
  have v4 := same_new htt (.tup [.ref tl, .ref ti])
  have q1 := (v2.trans (v3.trans v4)) _ _ (upd_same (H := H3) (a := td) (o := .dK []))
  refine ⟨q1, [(Sum.inr "top", .ref tt)], rfl, (by show 1 ≤ 15; decide), (by show 2 ≤ sizeLine; decide), fun rz hrz => ?_⟩
  have q2 := (v3.trans v4) _ _ (upd_same (a := tl) (o := .lst [.ref hd]) (H := upd H3 td (.dK [])))
  have q3 := v4 _ _ (upd_same (a := ti) (o := .lst []) (H := upd (upd H3 td (.dK [])) tl (.lst [.ref hd])))
  have q4 := (upd_same (a := tt) (o := .tup [.ref tl, .ref ti]) (H := upd (upd (upd H3 td (.dK [])) tl (.lst [.ref hd])) ti (.lst [])))
  have v5 := same_updN (o := .dK (mergeK [] [(Sum.inr "top", V.ref tt)])) (v1.trans (v2.trans (v3.trans v4))) htd
  generalize upd (upd (upd (upd H3 td (.dK [])) tl (.lst [.ref hd])) ti (.lst [])) tt (.tup [.ref tl, .ref ti]) = H4 at q1 q2 q3 q4 v5 hrz ⊢
  have n1 : tl ≠ td := by rintro rfl; rw [q1] at q2; cases q2
  have n2 : ti ≠ td := by rintro rfl; rw [q1] at q3; cases q3
  have n3 : tt ≠ td := by rintro rfl; rw [q1] at q4; cases q4
  have r1 : (upd H4 td (.dK (mergeK [] [(Sum.inr "top", V.ref tt)]))) td = some (.dK [(Sum.inr "top", .ref tt)]) := upd_same
  have r2 : (upd H4 td (.dK (mergeK [] [(Sum.inr "top", V.ref tt)]))) tl = _ := (upd_ne n1).trans q2
  have r3 : (upd H4 td (.dK (mergeK [] [(Sum.inr "top", V.ref tt)]))) ti = _ := (upd_ne n2).trans q3
  have r4 : (upd H4 td (.dK (mergeK [] [(Sum.inr "top", V.ref tt)]))) tt = _ := (upd_ne n3).trans q4
  have ntd : re ≠ td := ne_of_none hre3 htd
  generalize upd H4 td (.dK (mergeK [] [(Sum.inr "top", V.ref tt)])) = H5 at v5 r1 r2 r3 r4 hrz ⊢
  have v6 := same_new hrz (.tup [.ref re, .ref td])
  have r0 : (upd H5 rz (.tup [.ref re, .ref td])) rz = some (.tup [.ref re, .ref td]) := upd_same
  generalize upd H5 rz (.tup [.ref re, .ref td]) = H6 at v6 r0 ⊢
  have v36 := v5.trans v6
  have hd6 := hT3.same v36
  have hy6 := hTy3.same v36
  have hl300 : ms.length ≤ 300 := by have := hK.len; omega
  refine ⟨_, rfl, hd, ms, rfl, hd6, hl300, fun sp us H7 e7 hsp0 hsp hus => ?_⟩
  refine ⟨_, rfl, rz, re, td, ar32, _, rl32, _, _, rfl, good32 hK (e7 _ _ r0) (e7 _ _ (v36 _ _ hre3)) ((v6.trans e7) _ _ r1) ntd ((v6.trans e7) _ _ r4) ((v6.trans e7) _ _ r2) ((v6.trans e7) _ _ r3) (hd6.same e7), fun H8 sb8 hre8 htd8 _ => ?_⟩
  have N7r : NoSq H7 re := NoSq.rd (.inl (e7 _ _ (v36 _ _ hre3)))
  have N7t : NoSq H7 td := NoSq.rd (.inl ((v6.trans e7) _ _ r1))
  have ts8 : TS H7 H8 := fun b ys hb => sb8 b _ (N7r.t hb) (N7t.t hb) hb
  have ls8 : ∀ (b : Addr) (ys : List V), H7 b = some (.lst ys) → H8 b = some (.lst ys) := fun b ys hb => sb8 b _ (N7r.l hb) (N7t.l hb) hb
  have tr8 : ∀ (b : Addr) (x : List Im), Tr H7 b x → Tr H8 b x := fun b x ⟨vs, h1, h2⟩ => ⟨vs, ls8 _ _ h1, h2.ts ts8⟩
  have hd8 := tr8 _ _ (hd6.same e7)
  have hy8 := tr8 _ _ (hy6.same e7)
  have sp8 := ls8 _ _ hsp
  have us8 := hus.ts ts8
  refine ⟨_, rfl, iteF ?_⟩
  refine ⟨_, rfl, _, _, _, true, rfl, .lst sp8, ⟨_, .inl ⟨rfl, rfl⟩⟩, true, rfl, iteF ?_⟩
  refine ⟨_, rfl, _, rfl, y, ms, rfl, hy8, hl300, fun sp2 us2 H9 e9 _ hsp2 hus2 => spEq true (e9 _ _ sp8) hsp2 (us8.ts (ts_same e9)) hus2 ⟨_, rfl, iteF ?_⟩⟩
  refine ⟨_, rfl, .inl ⟨rfl, _, SqL.of (e9 _ _ sp8)⟩, (by show 3 ≤ sizeLine; decide), fun g hg => ?_⟩
  have w9 := same_new hg (.tup [.int 0, .int 0, .int 0])
  have e99 := e9.trans w9
  have ulen : us.length ≤ 300 := by
    have h1 := hus.len
    have h2 := spanF_len 0 ms
    omega
  refine ⟨sp, us, _, rfl, rfl, e99 _ _ sp8, small1000 (by omega), ?_⟩
  have ndsp : hd ≠ sp := by obtain ⟨vs, q, _⟩ := hd6; exact ne_of_none q hsp0
  have nysp : y ≠ sp := by obtain ⟨vs, q, _⟩ := hy6; exact ne_of_none q hsp0
  have hd10 := (hd8.same e99).updL (ys := us ++ [V.ref g]) (e99 _ _ sp8) ndsp
  have hy10 := (hy8.same e99).updL (ys := us ++ [V.ref g]) (e99 _ _ sp8) nysp
  generalize upd (upd H9 g (.tup [.int 0, .int 0, .int 0])) sp (.lst (us ++ [V.ref g])) = H10 at hd10 hy10 ⊢
  obtain ⟨ys, hyl10, his10⟩ := id hy10
  have hyl' := his10.len
  have lenK := hK.len
  refine ⟨_, rfl, y, rfl, ⟨_, SqL.of hyl10⟩, comp_list (K := K) (a := y) (xs := ys) (fun i acc H' => H' = H10 ∧ acc = ((ms.take i).map Im.l).map V.int) ⟨rfl, rfl⟩ ?_ ?_ ?_⟩
  · rintro i acc H' hi ⟨rfl, rfl⟩
    exact ⟨SqL.of hyl10, small1000 (by simp; omega)⟩
  · rintro i x acc H' hi hx ⟨rfl, rfl⟩
    obtain ⟨m, hm, hI⟩ := his10.get hx
    obtain ⟨zi, xi, rfl, hzi, h0, h1⟩ := hI.opn
    refine ⟨_, rfl, _, rfl, zi, xi, _, _, rfl, rfl, SqT.of hzi, h1, Nxt.mk hi ⟨rfl, ?_⟩⟩
    rw [List.take_add_one, hm]
    simp
  · rintro acc H' ⟨rfl, rfl⟩ d hd'
    rw [hyl', List.take_length]
    have w11 := same_new hd' (.lst ((ms.map Im.l).map V.int))
    have hd11 := hd10.same w11
    have hy11 := hy10.same w11
    obtain ⟨s0, s1⟩ := sum_ls hK.sm hK.ls
    refine ⟨d, ms.map Im.l, rfl, SqL.of upd_same, ?_⟩
    generalize upd H' d (.lst ((ms.map Im.l).map V.int)) = H11 at hd11 hy11 ⊢
    generalize (ms.map Im.l).sum = S at s0 s1 ⊢
    refine ⟨_, _, rfl, rfl, _, rfl, by omega, by omega, for_range (n := (S + 2).toNat) (fun i σ H' => ∃ o : Option V, σ = [some (.ref z), some (.ref y), some (.ref hd), some (.ref rz), some (.ref sp), o] ∧ Same H11 H') ⟨none, rfl, Same.refl _⟩ ?_ ?_⟩
    · rintro i σ H12 hi ⟨o, rfl, e12⟩
      refine ⟨_, rfl, _, rfl, _, rfl, hd, rz, ms, 0 + i, fun _ => none, rfl, hd11.same e12, ⟨hl300, hK.mix, fun m hm => ⟨(hK.nice (fun _ => True) m hm).2, fun nm b l e => ?_⟩⟩, fun h => absurd rfl h, by omega, ?_, fun y1 H13 e13 hy1 htl => ?_⟩
      · subst e
        exact (hK.sm _ hm).elim
      · have : (2 : Int) ^ 60 + 5000 < 2 ^ 400 := by decide
        show 0 + (i : Int) + ((0 : Nat) : Int) * 2 ^ 61 + 2 ^ 60 < 2 ^ 400
        omega
      refine ⟨_, rfl, _, rfl, y, ms, 0 + i, rfl, (hy11.same e12).same e13, hK.mix, hK.sm, hl300, fun y2 H14 e14 hy2 htl2 => ?_⟩
      rw [due_told (toldAt (fun _ => none) 0) _ hK.sm] at htl2
      exact neTL (htl.same e14) htl2 ⟨_, rfl, iteF ⟨_, rfl, (e12.trans e13).trans e14⟩⟩
    · rintro σ H12 ⟨o, rfl, e12⟩
      refine ⟨_, rfl, _, rfl, eqTr (hd11.same e12) (hy11.same e12) ?_⟩
      refine ⟨true, rfl, iteT ⟨_, rfl, hd, ms, rfl, hd11.same e12, hl300, fun a1 u1 H13 e13 _ h1 p1 => ?_⟩⟩
      refine ⟨_, rfl, y, ms, rfl, (hy11.same e12).same e13, hl300, fun a2 u2 H14 e14 _ h2 p2 => ?_⟩
      exact spEq false (e14 _ _ h1) h2 (p1.ts (ts_same e14)) p2 (kk _)
end
theorem all_mk {l : PySem.W.OpenLaw} {w : World} {K : PySem.W.Frag} {h : Heap} {mg : Str → Option Value} {fa f0 f1 f2 f3 f4 f5 f6 f7 f8 f9 f10 f11 f12 f13 f14 f15 f16 f17 f18 f19 f20 f21 f22 f23 f24 f25 f26 f27 f28 f29 f30 f31 f32 f33 f34 f35 f36 f37 f38 f39 f40 f41 f42 f43 f44 f45 f46 f47 f48 f49 f50 f51 f52 f53 f54 f55 f56 f57 f58 f59 f60 f61 C0 C1 C2 C3 C4 nNOUGHT nWHOLE_SHARE : Addr} (X : K.In h) (G : h.Ns mainGlobals mg) (hfa : mg "law" = some (.ref fa))
    {od0 an0 od1 an1 od2 an2 od3 an3 od4 an4 od5 an5 od6 an6 od7 an7 od8 an8 od9 an9 od10 an10 od11 an11 od12 an12 od13 an13 od14 an14 od15 an15 od16 an16 od17 an17 od18 an18 od19 an19 od20 an20 od21 an21 od22 an22 od23 an23 od24 an24 od25 an25 od26 an26 od27 an27 od28 an28 od29 an29 od30 an30 od31 an31 od32 an32 od33 an33 od34 an34 od35 an35 od36 an36 od37 an37 od38 an38 od39 an39 od40 an40 od41 an41 od42 an42 od43 an43 od44 an44 od45 an45 od46 an46 od47 an47 od48 an48 od49 an49 od50 an50 od51 an51 od52 an52 od53 an53 od54 an54 od55 an55 od56 an56 od57 an57 od58 an58 od59 an59 od60 an60 od61 an61 odNOUGHT odWHOLE_SHARE : Option Addr} {sl0 sl1 sl2 sl3 sl4 sl5 sl6 sl7 sl8 sl9 sl10 sl11 sl12 sl13 sl14 sl15 sl16 sl17 sl18 sl19 sl20 sl21 sl22 sl23 sl24 sl25 sl26 sl27 sl28 sl29 sl30 sl31 sl32 sl33 sl34 sl35 sl36 sl37 sl38 sl39 sl40 sl41 sl42 sl43 sl44 sl45 sl46 sl47 sl48 sl49 sl50 sl51 sl52 sl53 sl54 sl55 sl56 sl57 sl58 sl59 sl60 sl61 slNOUGHT slWHOLE_SHARE : Array (Option Value)} {oc0 kV0 dc0 pm0 cd0 ct0 oc1 kV1 dc1 pm1 cd1 ct1 oc2 kV2 dc2 pm2 cd2 ct2 oc3 kV3 dc3 pm3 cd3 ct3 oc4 kV4 dc4 pm4 cd4 ct4 oc5 kV5 dc5 pm5 cd5 ct5 oc6 kV6 dc6 pm6 cd6 ct6 oc7 kV7 dc7 pm7 cd7 ct7 oc8 kV8 dc8 pm8 cd8 ct8 oc9 kV9 dc9 pm9 cd9 ct9 oc10 kV10 dc10 pm10 cd10 ct10 oc11 kV11 dc11 pm11 cd11 ct11 oc12 kV12 dc12 pm12 cd12 ct12 oc13 kV13 dc13 pm13 cd13 ct13 oc14 kV14 dc14 pm14 cd14 ct14 oc15 kV15 dc15 pm15 cd15 ct15 oc16 kV16 dc16 pm16 cd16 ct16 oc17 kV17 dc17 pm17 cd17 ct17 oc18 kV18 dc18 pm18 cd18 ct18 oc19 kV19 dc19 pm19 cd19 ct19 oc20 kV20 dc20 pm20 cd20 ct20 oc21 kV21 dc21 pm21 cd21 ct21 oc22 kV22 dc22 pm22 cd22 ct22 oc23 kV23 dc23 pm23 cd23 ct23 oc24 kV24 dc24 pm24 cd24 ct24 oc25 kV25 dc25 pm25 cd25 ct25 oc26 kV26 dc26 pm26 cd26 ct26 oc27 kV27 dc27 pm27 cd27 ct27 oc28 kV28 dc28 pm28 cd28 ct28 oc29 kV29 dc29 pm29 cd29 ct29 oc30 kV30 dc30 pm30 cd30 ct30 oc31 kV31 dc31 pm31 cd31 ct31 oc32 kV32 dc32 pm32 cd32 ct32 oc33 kV33 dc33 pm33 cd33 ct33 oc34 kV34 dc34 pm34 cd34 ct34 oc35 kV35 dc35 pm35 cd35 ct35 oc36 kV36 dc36 pm36 cd36 ct36 oc37 kV37 dc37 pm37 cd37 ct37 oc38 kV38 dc38 pm38 cd38 ct38 oc39 kV39 dc39 pm39 cd39 ct39 oc40 kV40 dc40 pm40 cd40 ct40 oc41 kV41 dc41 pm41 cd41 ct41 oc42 kV42 dc42 pm42 cd42 ct42 oc43 kV43 dc43 pm43 cd43 ct43 oc44 kV44 dc44 pm44 cd44 ct44 oc45 kV45 dc45 pm45 cd45 ct45 oc46 kV46 dc46 pm46 cd46 ct46 oc47 kV47 dc47 pm47 cd47 ct47 oc48 kV48 dc48 pm48 cd48 ct48 oc49 kV49 dc49 pm49 cd49 ct49 oc50 kV50 dc50 pm50 cd50 ct50 oc51 kV51 dc51 pm51 cd51 ct51 oc52 kV52 dc52 pm52 cd52 ct52 oc53 kV53 dc53 pm53 cd53 ct53 oc54 kV54 dc54 pm54 cd54 ct54 oc55 kV55 dc55 pm55 cd55 ct55 oc56 kV56 dc56 pm56 cd56 ct56 oc57 kV57 dc57 pm57 cd57 ct57 oc58 kV58 dc58 pm58 cd58 ct58 oc59 kV59 dc59 pm59 cd59 ct59 oc60 kV60 dc60 pm60 cd60 ct60 oc61 kV61 dc61 pm61 cd61 ct61 : Value} {tLETTERS tLONGEST_NAME tMOST_ROOM tNOUGHT_0 tNOUGHT_1 tMOST_PICTURES tMOST_TRACKS tMOST_DEEP tWHOLE_SHARE_0 tWHOLE_SHARE_1 : Tok} {nnNOUGHT nnWHOLE_SHARE : Nat}
    (a0 : PySem.W.nsIn K mainGlobals "is_whole" = some (some (.ref f0))) (l0 : K.lookup f0 = some ⟨oc0, od0, .func (PySem.W.fnOf "is_whole" "is_whole" (defArgs s_is_whole) (defBody s_is_whole) (defScope s_is_whole) .none kV0 dc0 pm0 an0 cd0 ct0), sl0⟩) (c0 : PySem.W.codeIn K cd0 "is_whole" = true) (k0 : PySem.W.keepIn K (.ref f0) = true)
    (a1 : PySem.W.nsIn K mainGlobals "common_divisor" = some (some (.ref f1))) (l1 : K.lookup f1 = some ⟨oc1, od1, .func (PySem.W.fnOf "common_divisor" "common_divisor" (defArgs s_common_divisor) (defBody s_common_divisor) (defScope s_common_divisor) .none kV1 dc1 pm1 an1 cd1 ct1), sl1⟩) (c1 : PySem.W.codeIn K cd1 "common_divisor" = true) (k1 : PySem.W.keepIn K (.ref f1) = true)
    (a2 : PySem.W.nsIn K mainGlobals "is_fraction" = some (some (.ref f2))) (l2 : K.lookup f2 = some ⟨oc2, od2, .func (PySem.W.fnOf "is_fraction" "is_fraction" (defArgs s_is_fraction) (defBody s_is_fraction) (defScope s_is_fraction) .none kV2 dc2 pm2 an2 cd2 ct2), sl2⟩) (c2 : PySem.W.codeIn K cd2 "is_fraction" = true) (k2 : PySem.W.keepIn K (.ref f2) = true)
    (a3 : PySem.W.nsIn K mainGlobals "fraction" = some (some (.ref f3))) (l3 : K.lookup f3 = some ⟨oc3, od3, .func (PySem.W.fnOf "fraction" "fraction" (defArgs s_fraction) (defBody s_fraction) (defScope s_fraction) .none kV3 dc3 pm3 an3 cd3 ct3), sl3⟩) (c3 : PySem.W.codeIn K cd3 "fraction" = true) (k3 : PySem.W.keepIn K (.ref f3) = true)
    (a4 : PySem.W.nsIn K mainGlobals "sum_of" = some (some (.ref f4))) (l4 : K.lookup f4 = some ⟨oc4, od4, .func (PySem.W.fnOf "sum_of" "sum_of" (defArgs s_sum_of) (defBody s_sum_of) (defScope s_sum_of) .none kV4 dc4 pm4 an4 cd4 ct4), sl4⟩) (c4 : PySem.W.codeIn K cd4 "sum_of" = true) (k4 : PySem.W.keepIn K (.ref f4) = true)
    (a5 : PySem.W.nsIn K mainGlobals "less_by" = some (some (.ref f5))) (l5 : K.lookup f5 = some ⟨oc5, od5, .func (PySem.W.fnOf "less_by" "less_by" (defArgs s_less_by) (defBody s_less_by) (defScope s_less_by) .none kV5 dc5 pm5 an5 cd5 ct5), sl5⟩) (c5 : PySem.W.codeIn K cd5 "less_by" = true) (k5 : PySem.W.keepIn K (.ref f5) = true)
    (a6 : PySem.W.nsIn K mainGlobals "times_of" = some (some (.ref f6))) (l6 : K.lookup f6 = some ⟨oc6, od6, .func (PySem.W.fnOf "times_of" "times_of" (defArgs s_times_of) (defBody s_times_of) (defScope s_times_of) .none kV6 dc6 pm6 an6 cd6 ct6), sl6⟩) (c6 : PySem.W.codeIn K cd6 "times_of" = true) (k6 : PySem.W.keepIn K (.ref f6) = true)
    (a7 : PySem.W.nsIn K mainGlobals "quotient" = some (some (.ref f7))) (l7 : K.lookup f7 = some ⟨oc7, od7, .func (PySem.W.fnOf "quotient" "quotient" (defArgs s_quotient) (defBody s_quotient) (defScope s_quotient) .none kV7 dc7 pm7 an7 cd7 ct7), sl7⟩) (c7 : PySem.W.codeIn K cd7 "quotient" = true) (k7 : PySem.W.keepIn K (.ref f7) = true)
    (a8 : PySem.W.nsIn K mainGlobals "is_before" = some (some (.ref f8))) (l8 : K.lookup f8 = some ⟨oc8, od8, .func (PySem.W.fnOf "is_before" "is_before" (defArgs s_is_before) (defBody s_is_before) (defScope s_is_before) .none kV8 dc8 pm8 an8 cd8 ct8), sl8⟩) (c8 : PySem.W.codeIn K cd8 "is_before" = true) (k8 : PySem.W.keepIn K (.ref f8) = true)
    (a9 : PySem.W.nsIn K mainGlobals "floor_of" = some (some (.ref f9))) (l9 : K.lookup f9 = some ⟨oc9, od9, .func (PySem.W.fnOf "floor_of" "floor_of" (defArgs s_floor_of) (defBody s_floor_of) (defScope s_floor_of) .none kV9 dc9 pm9 an9 cd9 ct9), sl9⟩) (c9 : PySem.W.codeIn K cd9 "floor_of" = true) (k9 : PySem.W.keepIn K (.ref f9) = true)
    (a10 : PySem.W.nsIn K mainGlobals "is_name" = some (some (.ref f10))) (l10 : K.lookup f10 = some ⟨oc10, od10, .func (PySem.W.fnOf "is_name" "is_name" (defArgs s_is_name) (defBody s_is_name) (defScope s_is_name) .none kV10 dc10 pm10 an10 cd10 ct10), sl10⟩) (c10 : PySem.W.codeIn K cd10 "is_name" = true) (k10 : PySem.W.keepIn K (.ref f10) = true)
    (a11 : PySem.W.nsIn K mainGlobals "has_clip_form" = some (some (.ref f11))) (l11 : K.lookup f11 = some ⟨oc11, od11, .func (PySem.W.fnOf "has_clip_form" "has_clip_form" (defArgs s_has_clip_form) (defBody s_has_clip_form) (defScope s_has_clip_form) .none kV11 dc11 pm11 an11 cd11 ct11), sl11⟩) (c11 : PySem.W.codeIn K cd11 "has_clip_form" = true) (k11 : PySem.W.keepIn K (.ref f11) = true)
    (a12 : PySem.W.nsIn K mainGlobals "place_at" = some (some (.ref f12))) (l12 : K.lookup f12 = some ⟨oc12, od12, .func (PySem.W.fnOf "place_at" "place_at" (defArgs s_place_at) (defBody s_place_at) (defScope s_place_at) .none kV12 dc12 pm12 an12 cd12 ct12), sl12⟩) (c12 : PySem.W.codeIn K cd12 "place_at" = true) (k12 : PySem.W.keepIn K (.ref f12) = true)
    (a13 : PySem.W.nsIn K mainGlobals "picture_at" = some (some (.ref f13))) (l13 : K.lookup f13 = some ⟨oc13, od13, .func (PySem.W.fnOf "picture_at" "picture_at" (defArgs s_picture_at) (defBody s_picture_at) (defScope s_picture_at) .none kV13 dc13 pm13 an13 cd13 ct13), sl13⟩) (c13 : PySem.W.codeIn K cd13 "picture_at" = true) (k13 : PySem.W.keepIn K (.ref f13) = true)
    (a14 : PySem.W.nsIn K mainGlobals "is_there" = some (some (.ref f14))) (l14 : K.lookup f14 = some ⟨oc14, od14, .func (PySem.W.fnOf "is_there" "is_there" (defArgs s_is_there) (defBody s_is_there) (defScope s_is_there) .none kV14 dc14 pm14 an14 cd14 ct14), sl14⟩) (c14 : PySem.W.codeIn K cd14 "is_there" = true) (k14 : PySem.W.keepIn K (.ref f14) = true)
    (a15 : PySem.W.nsIn K mainGlobals "check_clip" = some (some (.ref f15))) (l15 : K.lookup f15 = some ⟨oc15, od15, .func (PySem.W.fnOf "check_clip" "check_clip" (defArgs s_check_clip) (defBody s_check_clip) (defScope s_check_clip) .none kV15 dc15 pm15 an15 cd15 ct15), sl15⟩) (c15 : PySem.W.codeIn K cd15 "check_clip" = true) (k15 : PySem.W.keepIn K (.ref f15) = true)
    (a16 : PySem.W.nsIn K mainGlobals "moments_there" = some (some (.ref f16))) (l16 : K.lookup f16 = some ⟨oc16, od16, .func (PySem.W.fnOf "moments_there" "moments_there" (defArgs s_moments_there) (defBody s_moments_there) (defScope s_moments_there) .none kV16 dc16 pm16 an16 cd16 ct16), sl16⟩) (c16 : PySem.W.codeIn K cd16 "moments_there" = true) (k16 : PySem.W.keepIn K (.ref f16) = true)
    (a17 : PySem.W.nsIn K mainGlobals "head_room" = some (some (.ref f17))) (l17 : K.lookup f17 = some ⟨oc17, od17, .func (PySem.W.fnOf "head_room" "head_room" (defArgs s_head_room) (defBody s_head_room) (defScope s_head_room) .none kV17 dc17 pm17 an17 cd17 ct17), sl17⟩) (c17 : PySem.W.codeIn K cd17 "head_room" = true) (k17 : PySem.W.keepIn K (.ref f17) = true)
    (a18 : PySem.W.nsIn K mainGlobals "tail_room" = some (some (.ref f18))) (l18 : K.lookup f18 = some ⟨oc18, od18, .func (PySem.W.fnOf "tail_room" "tail_room" (defArgs s_tail_room) (defBody s_tail_room) (defScope s_tail_room) .none kV18 dc18 pm18 an18 cd18 ct18), sl18⟩) (c18 : PySem.W.codeIn K cd18 "tail_room" = true) (k18 : PySem.W.keepIn K (.ref f18) = true)
    (a19 : PySem.W.nsIn K mainGlobals "is_length" = some (some (.ref f19))) (l19 : K.lookup f19 = some ⟨oc19, od19, .func (PySem.W.fnOf "is_length" "is_length" (defArgs s_is_length) (defBody s_is_length) (defScope s_is_length) .none kV19 dc19 pm19 an19 cd19 ct19), sl19⟩) (c19 : PySem.W.codeIn K cd19 "is_length" = true) (k19 : PySem.W.keepIn K (.ref f19) = true)
    (a20 : PySem.W.nsIn K mainGlobals "has_nest_form" = some (some (.ref f20))) (l20 : K.lookup f20 = some ⟨oc20, od20, .func (PySem.W.fnOf "has_nest_form" "has_nest_form" (defArgs s_has_nest_form) (defBody s_has_nest_form) (defScope s_has_nest_form) .none kV20 dc20 pm20 an20 cd20 ct20), sl20⟩) (c20 : PySem.W.codeIn K cd20 "has_nest_form" = true) (k20 : PySem.W.keepIn K (.ref f20) = true)
    (a21 : PySem.W.nsIn K mainGlobals "has_gap_or_mix_form" = some (some (.ref f21))) (l21 : K.lookup f21 = some ⟨oc21, od21, .func (PySem.W.fnOf "has_gap_or_mix_form" "has_gap_or_mix_form" (defArgs s_has_gap_or_mix_form) (defBody s_has_gap_or_mix_form) (defScope s_has_gap_or_mix_form) .none kV21 dc21 pm21 an21 cd21 ct21), sl21⟩) (c21 : PySem.W.codeIn K cd21 "has_gap_or_mix_form" = true) (k21 : PySem.W.keepIn K (.ref f21) = true)
    (a22 : PySem.W.nsIn K mainGlobals "moments_of" = some (some (.ref f22))) (l22 : K.lookup f22 = some ⟨oc22, od22, .func (PySem.W.fnOf "moments_of" "moments_of" (defArgs s_moments_of) (defBody s_moments_of) (defScope s_moments_of) .none kV22 dc22 pm22 an22 cd22 ct22), sl22⟩) (c22 : PySem.W.codeIn K cd22 "moments_of" = true) (k22 : PySem.W.keepIn K (.ref f22) = true)
    (a23 : PySem.W.nsIn K mainGlobals "one_form" = some (some (.ref f23))) (l23 : K.lookup f23 = some ⟨oc23, od23, .func (PySem.W.fnOf "one_form" "one_form" (defArgs s_one_form) (defBody s_one_form) (defScope s_one_form) .none kV23 dc23 pm23 an23 cd23 ct23), sl23⟩) (c23 : PySem.W.codeIn K cd23 "one_form" = true) (k23 : PySem.W.keepIn K (.ref f23) = true)
    (a24 : PySem.W.nsIn K mainGlobals "item_at" = some (some (.ref f24))) (l24 : K.lookup f24 = some ⟨oc24, od24, .func (PySem.W.fnOf "item_at" "item_at" (defArgs s_item_at) (defBody s_item_at) (defScope s_item_at) .none kV24 dc24 pm24 an24 cd24 ct24), sl24⟩) (c24 : PySem.W.codeIn K cd24 "item_at" = true) (k24 : PySem.W.keepIn K (.ref f24) = true)
    (a25 : PySem.W.nsIn K mainGlobals "kind_at" = some (some (.ref f25))) (l25 : K.lookup f25 = some ⟨oc25, od25, .func (PySem.W.fnOf "kind_at" "kind_at" (defArgs s_kind_at) (defBody s_kind_at) (defScope s_kind_at) .none kV25 dc25 pm25 an25 cd25 ct25), sl25⟩) (c25 : PySem.W.codeIn K cd25 "kind_at" = true) (k25 : PySem.W.keepIn K (.ref f25) = true)
    (a26 : PySem.W.nsIn K mainGlobals "is_in_one_form" = some (some (.ref f26))) (l26 : K.lookup f26 = some ⟨oc26, od26, .func (PySem.W.fnOf "is_in_one_form" "is_in_one_form" (defArgs s_is_in_one_form) (defBody s_is_in_one_form) (defScope s_is_in_one_form) .none kV26 dc26 pm26 an26 cd26 ct26), sl26⟩) (c26 : PySem.W.codeIn K cd26 "is_in_one_form" = true) (k26 : PySem.W.keepIn K (.ref f26) = true)
    (a27 : PySem.W.nsIn K mainGlobals "place_ahead" = some (some (.ref f27))) (l27 : K.lookup f27 = some ⟨oc27, od27, .func (PySem.W.fnOf "place_ahead" "place_ahead" (defArgs s_place_ahead) (defBody s_place_ahead) (defScope s_place_ahead) .none kV27 dc27 pm27 an27 cd27 ct27), sl27⟩) (c27 : PySem.W.codeIn K cd27 "place_ahead" = true) (k27 : PySem.W.keepIn K (.ref f27) = true)
    (a28 : PySem.W.nsIn K mainGlobals "neighbours_at" = some (some (.ref f28))) (l28 : K.lookup f28 = some ⟨oc28, od28, .func (PySem.W.fnOf "neighbours_at" "neighbours_at" (defArgs s_neighbours_at) (defBody s_neighbours_at) (defScope s_neighbours_at) .none kV28 dc28 pm28 an28 cd28 ct28), sl28⟩) (c28 : PySem.W.codeIn K cd28 "neighbours_at" = true) (k28 : PySem.W.keepIn K (.ref f28) = true)
    (a29 : PySem.W.nsIn K mainGlobals "clips_at_border" = some (some (.ref f29))) (l29 : K.lookup f29 = some ⟨oc29, od29, .func (PySem.W.fnOf "clips_at_border" "clips_at_border" (defArgs s_clips_at_border) (defBody s_clips_at_border) (defScope s_clips_at_border) .none kV29 dc29 pm29 an29 cd29 ct29), sl29⟩) (c29 : PySem.W.codeIn K cd29 "clips_at_border" = true) (k29 : PySem.W.keepIn K (.ref f29) = true)
    (a30 : PySem.W.nsIn K mainGlobals "part_ahead" = some (some (.ref f30))) (l30 : K.lookup f30 = some ⟨oc30, od30, .func (PySem.W.fnOf "part_ahead" "part_ahead" (defArgs s_part_ahead) (defBody s_part_ahead) (defScope s_part_ahead) .none kV30 dc30 pm30 an30 cd30 ct30), sl30⟩) (c30 : PySem.W.codeIn K cd30 "part_ahead" = true) (k30 : PySem.W.keepIn K (.ref f30) = true)
    (a31 : PySem.W.nsIn K mainGlobals "part_behind" = some (some (.ref f31))) (l31 : K.lookup f31 = some ⟨oc31, od31, .func (PySem.W.fnOf "part_behind" "part_behind" (defArgs s_part_behind) (defBody s_part_behind) (defScope s_part_behind) .none kV31 dc31 pm31 an31 cd31 ct31), sl31⟩) (c31 : PySem.W.codeIn K cd31 "part_behind" = true) (k31 : PySem.W.keepIn K (.ref f31) = true)
    (a32 : PySem.W.nsIn K mainGlobals "mix_spans" = some (some (.ref f32))) (l32 : K.lookup f32 = some ⟨oc32, od32, .func (PySem.W.fnOf "mix_spans" "mix_spans" (defArgs s_mix_spans) (defBody s_mix_spans) (defScope s_mix_spans) .none kV32 dc32 pm32 an32 cd32 ct32), sl32⟩) (c32 : PySem.W.codeIn K cd32 "mix_spans" = true) (k32 : PySem.W.keepIn K (.ref f32) = true)
    (a33 : PySem.W.nsIn K mainGlobals "mix_shares" = some (some (.ref f33))) (l33 : K.lookup f33 = some ⟨oc33, od33, .func (PySem.W.fnOf "mix_shares" "mix_shares" (defArgs s_mix_shares) (defBody s_mix_shares) (defScope s_mix_shares) .none kV33 dc33 pm33 an33 cd33 ct33), sl33⟩) (c33 : PySem.W.codeIn K cd33 "mix_shares" = true) (k33 : PySem.W.keepIn K (.ref f33) = true)
    (a34 : PySem.W.nsIn K mainGlobals "mix_at" = some (some (.ref f34))) (l34 : K.lookup f34 = some ⟨oc34, od34, .func (PySem.W.fnOf "mix_at" "mix_at" (defArgs s_mix_at) (defBody s_mix_at) (defScope s_mix_at) .none kV34 dc34 pm34 an34 cd34 ct34), sl34⟩) (c34 : PySem.W.codeIn K cd34 "mix_at" = true) (k34 : PySem.W.keepIn K (.ref f34) = true)
    (a35 : PySem.W.nsIn K mainGlobals "told_in_mix" = some (some (.ref f35))) (l35 : K.lookup f35 = some ⟨oc35, od35, .func (PySem.W.fnOf "told_in_mix" "told_in_mix" (defArgs s_told_in_mix) (defBody s_told_in_mix) (defScope s_told_in_mix) .none kV35 dc35 pm35 an35 cd35 ct35), sl35⟩) (c35 : PySem.W.codeIn K cd35 "told_in_mix" = true) (k35 : PySem.W.keepIn K (.ref f35) = true)
    (a36 : PySem.W.nsIn K mainGlobals "taken_at_begin" = some (some (.ref f36))) (l36 : K.lookup f36 = some ⟨oc36, od36, .func (PySem.W.fnOf "taken_at_begin" "taken_at_begin" (defArgs s_taken_at_begin) (defBody s_taken_at_begin) (defScope s_taken_at_begin) .none kV36 dc36 pm36 an36 cd36 ct36), sl36⟩) (c36 : PySem.W.codeIn K cd36 "taken_at_begin" = true) (k36 : PySem.W.keepIn K (.ref f36) = true)
    (a37 : PySem.W.nsIn K mainGlobals "taken_at_end" = some (some (.ref f37))) (l37 : K.lookup f37 = some ⟨oc37, od37, .func (PySem.W.fnOf "taken_at_end" "taken_at_end" (defArgs s_taken_at_end) (defBody s_taken_at_end) (defScope s_taken_at_end) .none kV37 dc37 pm37 an37 cd37 ct37), sl37⟩) (c37 : PySem.W.codeIn K cd37 "taken_at_end" = true) (k37 : PySem.W.keepIn K (.ref f37) = true)
    (a38 : PySem.W.nsIn K mainGlobals "most_mix" = some (some (.ref f38))) (l38 : K.lookup f38 = some ⟨oc38, od38, .func (PySem.W.fnOf "most_mix" "most_mix" (defArgs s_most_mix) (defBody s_most_mix) (defScope s_most_mix) .none kV38 dc38 pm38 an38 cd38 ct38), sl38⟩) (c38 : PySem.W.codeIn K cd38 "most_mix" = true) (k38 : PySem.W.keepIn K (.ref f38) = true)
    (a39 : PySem.W.nsIn K mainGlobals "mixes_fit" = some (some (.ref f39))) (l39 : K.lookup f39 = some ⟨oc39, od39, .func (PySem.W.fnOf "mixes_fit" "mixes_fit" (defArgs s_mixes_fit) (defBody s_mixes_fit) (defScope s_mixes_fit) .none kV39 dc39 pm39 an39 cd39 ct39), sl39⟩) (c39 : PySem.W.codeIn K cd39 "mixes_fit" = true) (k39 : PySem.W.keepIn K (.ref f39) = true)
    (a40 : PySem.W.nsIn K mainGlobals "told_on" = some (some (.ref f40))) (l40 : K.lookup f40 = some ⟨oc40, od40, .func (PySem.W.fnOf "told_on" "told_on" (defArgs s_told_on) (defBody s_told_on) (defScope s_told_on) .none kV40 dc40 pm40 an40 cd40 ct40), sl40⟩) (c40 : PySem.W.codeIn K cd40 "told_on" = true) (k40 : PySem.W.keepIn K (.ref f40) = true)
    (a41 : PySem.W.nsIn K mainGlobals "told_at" = some (some (.ref f41))) (l41 : K.lookup f41 = some ⟨oc41, od41, .func (PySem.W.fnOf "told_at" "told_at" (defArgs s_told_at) (defBody s_told_at) (defScope s_told_at) .none kV41 dc41 pm41 an41 cd41 ct41), sl41⟩) (c41 : PySem.W.codeIn K cd41 "told_at" = true) (k41 : PySem.W.keepIn K (.ref f41) = true)
    (a42 : PySem.W.nsIn K mainGlobals "is_number_of_pictures" = some (some (.ref f42))) (l42 : K.lookup f42 = some ⟨oc42, od42, .func (PySem.W.fnOf "is_number_of_pictures" "is_number_of_pictures" (defArgs s_is_number_of_pictures) (defBody s_is_number_of_pictures) (defScope s_is_number_of_pictures) .none kV42 dc42 pm42 an42 cd42 ct42), sl42⟩) (c42 : PySem.W.codeIn K cd42 "is_number_of_pictures" = true) (k42 : PySem.W.keepIn K (.ref f42) = true)
    (a43 : PySem.W.nsIn K mainGlobals "check_reels" = some (some (.ref f43))) (l43 : K.lookup f43 = some ⟨oc43, od43, .func (PySem.W.fnOf "check_reels" "check_reels" (defArgs s_check_reels) (defBody s_check_reels) (defScope s_check_reels) .none kV43 dc43 pm43 an43 cd43 ct43), sl43⟩) (c43 : PySem.W.codeIn K cd43 "check_reels" = true) (k43 : PySem.W.keepIn K (.ref f43) = true)
    (a44 : PySem.W.nsIn K mainGlobals "check_clip_of_room" = some (some (.ref f44))) (l44 : K.lookup f44 = some ⟨oc44, od44, .func (PySem.W.fnOf "check_clip_of_room" "check_clip_of_room" (defArgs s_check_clip_of_room) (defBody s_check_clip_of_room) (defScope s_check_clip_of_room) .none kV44 dc44 pm44 an44 cd44 ct44), sl44⟩) (c44 : PySem.W.codeIn K cd44 "check_clip_of_room" = true) (k44 : PySem.W.keepIn K (.ref f44) = true)
    (a45 : PySem.W.nsIn K mainGlobals "check_item" = some (some (.ref f45))) (l45 : K.lookup f45 = some ⟨oc45, od45, .func (PySem.W.fnOf "check_item" "check_item" (defArgs s_check_item) (defBody s_check_item) (defScope s_check_item) .none kV45 dc45 pm45 an45 cd45 ct45), sl45⟩) (c45 : PySem.W.codeIn K cd45 "check_item" = true) (k45 : PySem.W.keepIn K (.ref f45) = true)
    (a46 : PySem.W.nsIn K mainGlobals "check_track" = some (some (.ref f46))) (l46 : K.lookup f46 = some ⟨oc46, od46, .func (PySem.W.fnOf "check_track" "check_track" (defArgs s_check_track) (defBody s_check_track) (defScope s_check_track) .none kV46 dc46 pm46 an46 cd46 ct46), sl46⟩) (c46 : PySem.W.codeIn K cd46 "check_track" = true) (k46 : PySem.W.keepIn K (.ref f46) = true)
    (a47 : PySem.W.nsIn K mainGlobals "is_tied" = some (some (.ref f47))) (l47 : K.lookup f47 = some ⟨oc47, od47, .func (PySem.W.fnOf "is_tied" "is_tied" (defArgs s_is_tied) (defBody s_is_tied) (defScope s_is_tied) .none kV47 dc47 pm47 an47 cd47 ct47), sl47⟩) (c47 : PySem.W.codeIn K cd47 "is_tied" = true) (k47 : PySem.W.keepIn K (.ref f47) = true)
    (a48 : PySem.W.nsIn K mainGlobals "check_table" = some (some (.ref f48))) (l48 : K.lookup f48 = some ⟨oc48, od48, .func (PySem.W.fnOf "check_table" "check_table" (defArgs s_check_table) (defBody s_check_table) (defScope s_check_table) .none kV48 dc48 pm48 an48 cd48 ct48), sl48⟩) (c48 : PySem.W.codeIn K cd48 "check_table" = true) (k48 : PySem.W.keepIn K (.ref f48) = true)
    (a49 : PySem.W.nsIn K mainGlobals "nested_in" = some (some (.ref f49))) (l49 : K.lookup f49 = some ⟨oc49, od49, .func (PySem.W.fnOf "nested_in" "nested_in" (defArgs s_nested_in) (defBody s_nested_in) (defScope s_nested_in) .none kV49 dc49 pm49 an49 cd49 ct49), sl49⟩) (c49 : PySem.W.codeIn K cd49 "nested_in" = true) (k49 : PySem.W.keepIn K (.ref f49) = true)
    (a50 : PySem.W.nsIn K mainGlobals "rests_upon" = some (some (.ref f50))) (l50 : K.lookup f50 = some ⟨oc50, od50, .func (PySem.W.fnOf "rests_upon" "rests_upon" (defArgs s_rests_upon) (defBody s_rests_upon) (defScope s_rests_upon) .none kV50 dc50 pm50 an50 cd50 ct50), sl50⟩) (c50 : PySem.W.codeIn K cd50 "rests_upon" = true) (k50 : PySem.W.keepIn K (.ref f50) = true)
    (a51 : PySem.W.nsIn K mainGlobals "check_depth" = some (some (.ref f51))) (l51 : K.lookup f51 = some ⟨oc51, od51, .func (PySem.W.fnOf "check_depth" "check_depth" (defArgs s_check_depth) (defBody s_check_depth) (defScope s_check_depth) .none kV51 dc51 pm51 an51 cd51 ct51), sl51⟩) (c51 : PySem.W.codeIn K cd51 "check_depth" = true) (k51 : PySem.W.keepIn K (.ref f51) = true)
    (a52 : PySem.W.nsIn K mainGlobals "check_room" = some (some (.ref f52))) (l52 : K.lookup f52 = some ⟨oc52, od52, .func (PySem.W.fnOf "check_room" "check_room" (defArgs s_check_room) (defBody s_check_room) (defScope s_check_room) .none kV52 dc52 pm52 an52 cd52 ct52), sl52⟩) (c52 : PySem.W.codeIn K cd52 "check_room" = true) (k52 : PySem.W.keepIn K (.ref f52) = true)
    (a53 : PySem.W.nsIn K mainGlobals "_law_cell_at" = some (some (.ref f53))) (l53 : K.lookup f53 = some ⟨oc53, od53, .func (PySem.W.fnOf "_law_cell_at" "_law_cell_at" (defArgs s__law_cell_at) (defBody s__law_cell_at) (defScope s__law_cell_at) .none kV53 dc53 pm53 an53 cd53 ct53), sl53⟩) (c53 : PySem.W.codeIn K cd53 "_law_cell_at" = true) (k53 : PySem.W.keepIn K (.ref f53) = true)
    (a54 : PySem.W.nsIn K mainGlobals "_law_stream" = some (some (.ref f54))) (l54 : K.lookup f54 = some ⟨oc54, od54, .func (PySem.W.fnOf "_law_stream" "_law_stream" (defArgs s__law_stream) (defBody s__law_stream) (defScope s__law_stream) .none kV54 dc54 pm54 an54 cd54 ct54), sl54⟩) (c54 : PySem.W.codeIn K cd54 "_law_stream" = true) (k54 : PySem.W.keepIn K (.ref f54) = true)
    (a55 : PySem.W.nsIn K mainGlobals "_law_track" = some (some (.ref f55))) (l55 : K.lookup f55 = some ⟨oc55, od55, .func (PySem.W.fnOf "_law_track" "_law_track" (defArgs s__law_track) (defBody s__law_track) (defScope s__law_track) .none kV55 dc55 pm55 an55 cd55 ct55), sl55⟩) (c55 : PySem.W.codeIn K cd55 "_law_track" = true) (k55 : PySem.W.keepIn K (.ref f55) = true)
    (a56 : PySem.W.nsIn K mainGlobals "_law_picture" = some (some (.ref f56))) (l56 : K.lookup f56 = some ⟨oc56, od56, .func (PySem.W.fnOf "_law_picture" "_law_picture" (defArgs s__law_picture) (defBody s__law_picture) (defScope s__law_picture) .none kV56 dc56 pm56 an56 cd56 ct56), sl56⟩) (c56 : PySem.W.codeIn K cd56 "_law_picture" = true) (k56 : PySem.W.keepIn K (.ref f56) = true)
    (a57 : PySem.W.nsIn K mainGlobals "_law_share" = some (some (.ref f57))) (l57 : K.lookup f57 = some ⟨oc57, od57, .func (PySem.W.fnOf "_law_share" "_law_share" (defArgs s__law_share) (defBody s__law_share) (defScope s__law_share) .none kV57 dc57 pm57 an57 cd57 ct57), sl57⟩) (c57 : PySem.W.codeIn K cd57 "_law_share" = true) (k57 : PySem.W.keepIn K (.ref f57) = true)
    (a58 : PySem.W.nsIn K mainGlobals "_law_mixed" = some (some (.ref f58))) (l58 : K.lookup f58 = some ⟨oc58, od58, .func (PySem.W.fnOf "_law_mixed" "_law_mixed" (defArgs s__law_mixed) (defBody s__law_mixed) (defScope s__law_mixed) .none kV58 dc58 pm58 an58 cd58 ct58), sl58⟩) (c58 : PySem.W.codeIn K cd58 "_law_mixed" = true) (k58 : PySem.W.keepIn K (.ref f58) = true)
    (a59 : PySem.W.nsIn K mainGlobals "_law_due" = some (some (.ref f59))) (l59 : K.lookup f59 = some ⟨oc59, od59, .func (PySem.W.fnOf "_law_due" "_law_due" (defArgs s__law_due) (defBody s__law_due) (defScope s__law_due) .none kV59 dc59 pm59 an59 cd59 ct59), sl59⟩) (c59 : PySem.W.codeIn K cd59 "_law_due" = true) (k59 : PySem.W.keepIn K (.ref f59) = true)
    (a60 : PySem.W.nsIn K mainGlobals "_law_spans" = some (some (.ref f60))) (l60 : K.lookup f60 = some ⟨oc60, od60, .func (PySem.W.fnOf "_law_spans" "_law_spans" (defArgs s__law_spans) (defBody s__law_spans) (defScope s__law_spans) .none kV60 dc60 pm60 an60 cd60 ct60), sl60⟩) (c60 : PySem.W.codeIn K cd60 "_law_spans" = true) (k60 : PySem.W.keepIn K (.ref f60) = true)
    (a61 : PySem.W.nsIn K mainGlobals "law" = some (some (.ref f61))) (l61 : K.lookup f61 = some ⟨oc61, od61, .func (PySem.W.fnOf "law" "law" (defArgs s_law) (defBody s_law) (defScope s_law) .none kV61 dc61 pm61 an61 cd61 ct61), sl61⟩) (c61 : PySem.W.codeIn K cd61 "law" = true) (k61 : PySem.W.keepIn K (.ref f61) = true)
    (xg0 : PySem.W.nsIn K mainGlobals "CutError" = some (some (.ref C0)))
    (xg1 : PySem.W.nsIn K mainGlobals "NoNumber" = some (some (.ref C1)))
    (xg2 : PySem.W.nsIn K mainGlobals "NoClip" = some (some (.ref C2)))
    (xg3 : PySem.W.nsIn K mainGlobals "NoPlace" = some (some (.ref C3)))
    (xg4 : PySem.W.nsIn K mainGlobals "NoRoom" = some (some (.ref C4)))
    (xz0 : PySem.W.nsIn K mainGlobals "isinstance" = some none)
    (xz1 : PySem.W.nsIn K mainGlobals "int" = some none)
    (xz2 : PySem.W.nsIn K mainGlobals "bool" = some none)
    (xz3 : PySem.W.nsIn K mainGlobals "abs" = some none)
    (xz4 : PySem.W.nsIn K mainGlobals "tuple" = some none)
    (xz5 : PySem.W.nsIn K mainGlobals "len" = some none)
    (xz6 : PySem.W.nsIn K mainGlobals "all" = some none)
    (xz7 : PySem.W.nsIn K mainGlobals "str" = some none)
    (xz8 : PySem.W.nsIn K mainGlobals "min" = some none)
    (xz9 : PySem.W.nsIn K mainGlobals "enumerate" = some none)
    (xz10 : PySem.W.nsIn K mainGlobals "zip" = some none)
    (xz11 : PySem.W.nsIn K mainGlobals "max" = some none)
    (xz12 : PySem.W.nsIn K mainGlobals "list" = some none)
    (xz13 : PySem.W.nsIn K mainGlobals "range" = some none)
    (xz14 : PySem.W.nsIn K mainGlobals "dict" = some none)
    (xz15 : PySem.W.nsIn K mainGlobals "sum" = some none)
    (xcLETTERS : PySem.W.nsIn K mainGlobals "LETTERS" = some (some (.str "abcdefghijklmnopqrstuvwxyz" tLETTERS)))
    (xcLONGEST_NAME : PySem.W.nsIn K mainGlobals "LONGEST_NAME" = some (some (.int 8 tLONGEST_NAME)))
    (xcMOST_ROOM : PySem.W.nsIn K mainGlobals "MOST_ROOM" = some (some (.int 1000000 tMOST_ROOM)))
    (xcNOUGHT : PySem.W.nsIn K mainGlobals "NOUGHT" = some (some (.ref nNOUGHT))) (xlNOUGHT : K.lookup nNOUGHT = some ⟨.type "tuple", odNOUGHT, .seq #[.int 0 tNOUGHT_0, .int 1 tNOUGHT_1] nnNOUGHT, slNOUGHT⟩)
    (xcMOST_PICTURES : PySem.W.nsIn K mainGlobals "MOST_PICTURES" = some (some (.int 1000000000 tMOST_PICTURES)))
    (xcMOST_TRACKS : PySem.W.nsIn K mainGlobals "MOST_TRACKS" = some (some (.int 8 tMOST_TRACKS)))
    (xcMOST_DEEP : PySem.W.nsIn K mainGlobals "MOST_DEEP" = some (some (.int 6 tMOST_DEEP)))
    (xcWHOLE_SHARE : PySem.W.nsIn K mainGlobals "WHOLE_SHARE" = some (some (.ref nWHOLE_SHARE))) (xlWHOLE_SHARE : K.lookup nWHOLE_SHARE = some ⟨.type "tuple", odWHOLE_SHARE, .seq #[.int 1 tWHOLE_SHARE_0, .int 1 tWHOLE_SHARE_1] nnWHOLE_SHARE, slWHOLE_SHARE⟩)
    : ∃ fd : FuncData, (∀ (s : Shared) (v : Value), BindsTo s fd ⟨[v], []⟩ [("_law_script", v)]) ∧ ∀ base : Heap, K.In base → base.Ns mainGlobals mg → FnOk l.prog w K mg base CX0 16 fa fd ["_law_script"] (spLaw K) := by
  have e := hfa.symm.trans (PySem.W.mg_of X G a61)
  obtain rfl : f61 = fa := by cases e; rfl
  have F0 := fun_mk (st := s_is_whole) l0 c0 k0
  have b0 := F0.binds (ps := ["x"]) fun _ _ _ _ _ _ us hl => match us, hl with | [_], _ => rfl
  have F1 := fun_mk (st := s_common_divisor) l1 c1 k1
  have b1 := F1.binds (ps := ["one", "other"]) fun _ _ _ _ _ _ us hl => match us, hl with | [_, _], _ => rfl
  have F2 := fun_mk (st := s_is_fraction) l2 c2 k2
  have b2 := F2.binds (ps := ["x"]) fun _ _ _ _ _ _ us hl => match us, hl with | [_], _ => rfl
  have F3 := fun_mk (st := s_fraction) l3 c3 k3
  have b3 := F3.binds (ps := ["top", "bottom"]) fun _ _ _ _ _ _ us hl => match us, hl with | [_, _], _ => rfl
  have F4 := fun_mk (st := s_sum_of) l4 c4 k4
  have b4 := F4.binds (ps := ["one", "other"]) fun _ _ _ _ _ _ us hl => match us, hl with | [_, _], _ => rfl
  have F5 := fun_mk (st := s_less_by) l5 c5 k5
  have b5 := F5.binds (ps := ["one", "other"]) fun _ _ _ _ _ _ us hl => match us, hl with | [_, _], _ => rfl
  have F6 := fun_mk (st := s_times_of) l6 c6 k6
  have b6 := F6.binds (ps := ["one", "other"]) fun _ _ _ _ _ _ us hl => match us, hl with | [_, _], _ => rfl
  have F7 := fun_mk (st := s_quotient) l7 c7 k7
  have b7 := F7.binds (ps := ["one", "other"]) fun _ _ _ _ _ _ us hl => match us, hl with | [_, _], _ => rfl
  have F8 := fun_mk (st := s_is_before) l8 c8 k8
  have b8 := F8.binds (ps := ["one", "other"]) fun _ _ _ _ _ _ us hl => match us, hl with | [_, _], _ => rfl
  have F9 := fun_mk (st := s_floor_of) l9 c9 k9
  have b9 := F9.binds (ps := ["one"]) fun _ _ _ _ _ _ us hl => match us, hl with | [_], _ => rfl
  have F10 := fun_mk (st := s_is_name) l10 c10 k10
  have b10 := F10.binds (ps := ["thing"]) fun _ _ _ _ _ _ us hl => match us, hl with | [_], _ => rfl
  have F11 := fun_mk (st := s_has_clip_form) l11 c11 k11
  have b11 := F11.binds (ps := ["item"]) fun _ _ _ _ _ _ us hl => match us, hl with | [_], _ => rfl
  have F12 := fun_mk (st := s_place_at) l12 c12 k12
  have b12 := F12.binds (ps := ["clip", "k"]) fun _ _ _ _ _ _ us hl => match us, hl with | [_, _], _ => rfl
  have F13 := fun_mk (st := s_picture_at) l13 c13 k13
  have b13 := F13.binds (ps := ["clip", "k"]) fun _ _ _ _ _ _ us hl => match us, hl with | [_, _], _ => rfl
  have F14 := fun_mk (st := s_is_there) l14 c14 k14
  have b14 := F14.binds (ps := ["picture", "many"]) fun _ _ _ _ _ _ us hl => match us, hl with | [_, _], _ => rfl
  have F15 := fun_mk (st := s_check_clip) l15 c15 k15
  have b15 := F15.binds (ps := ["item", "reels"]) fun _ _ _ _ _ _ us hl => match us, hl with | [_, _], _ => rfl
  have F16 := fun_mk (st := s_moments_there) l16 c16 k16
  have b16 := F16.binds (ps := ["first", "step", "many"]) fun _ _ _ _ _ _ us hl => match us, hl with | [_, _, _], _ => rfl
  have F17 := fun_mk (st := s_head_room) l17 c17 k17
  have b17 := F17.binds (ps := ["clip", "reels"]) fun _ _ _ _ _ _ us hl => match us, hl with | [_, _], _ => rfl
  have F18 := fun_mk (st := s_tail_room) l18 c18 k18
  have b18 := F18.binds (ps := ["clip", "reels"]) fun _ _ _ _ _ _ us hl => match us, hl with | [_, _], _ => rfl
  have F19 := fun_mk (st := s_is_length) l19 c19 k19
  have b19 := F19.binds (ps := ["thing"]) fun _ _ _ _ _ _ us hl => match us, hl with | [_], _ => rfl
  have F20 := fun_mk (st := s_has_nest_form) l20 c20 k20
  have b20 := F20.binds (ps := ["item"]) fun _ _ _ _ _ _ us hl => match us, hl with | [_], _ => rfl
  have F21 := fun_mk (st := s_has_gap_or_mix_form) l21 c21 k21
  have b21 := F21.binds (ps := ["item"]) fun _ _ _ _ _ _ us hl => match us, hl with | [_], _ => rfl
  have F22 := fun_mk (st := s_moments_of) l22 c22 k22
  have b22 := F22.binds (ps := ["item"]) fun _ _ _ _ _ _ us hl => match us, hl with | [_], _ => rfl
  have F23 := fun_mk (st := s_one_form) l23 c23 k23
  have b23 := F23.binds (ps := ["some"]) fun _ _ _ _ _ _ us hl => match us, hl with | [_], _ => rfl
  have F24 := fun_mk (st := s_item_at) l24 c24 k24
  have b24 := F24.binds (ps := ["track", "moment"]) fun _ _ _ _ _ _ us hl => match us, hl with | [_, _], _ => rfl
  have F25 := fun_mk (st := s_kind_at) l25 c25 k25
  have b25 := F25.binds (ps := ["track", "place"]) fun _ _ _ _ _ _ us hl => match us, hl with | [_, _], _ => rfl
  have F26 := fun_mk (st := s_is_in_one_form) l26 c26 k26
  have b26 := F26.binds (ps := ["track"]) fun _ _ _ _ _ _ us hl => match us, hl with | [_], _ => rfl
  have F27 := fun_mk (st := s_place_ahead) l27 c27 k27
  have b27 := F27.binds (ps := ["track", "place"]) fun _ _ _ _ _ _ us hl => match us, hl with | [_, _], _ => rfl
  have F28 := fun_mk (st := s_neighbours_at) l28 c28 k28
  have b28 := F28.binds (ps := ["track", "moment"]) fun _ _ _ _ _ _ us hl => match us, hl with | [_, _], _ => rfl
  have F29 := fun_mk (st := s_clips_at_border) l29 c29 k29
  have b29 := F29.binds (ps := ["track", "moment"]) fun _ _ _ _ _ _ us hl => match us, hl with | [_, _], _ => rfl
  have F30 := fun_mk (st := s_part_ahead) l30 c30 k30
  have b30 := F30.binds (ps := ["length"]) fun _ _ _ _ _ _ us hl => match us, hl with | [_], _ => rfl
  have F31 := fun_mk (st := s_part_behind) l31 c31 k31
  have b31 := F31.binds (ps := ["length"]) fun _ _ _ _ _ _ us hl => match us, hl with | [_], _ => rfl
  have F32 := fun_mk (st := s_mix_spans) l32 c32 k32
  have b32 := F32.binds (ps := ["track"]) fun _ _ _ _ _ _ us hl => match us, hl with | [_], _ => rfl
  have F33 := fun_mk (st := s_mix_shares) l33 c33 k33
  have b33 := F33.binds (ps := ["length", "j"]) fun _ _ _ _ _ _ us hl => match us, hl with | [_, _], _ => rfl
  have F34 := fun_mk (st := s_mix_at) l34 c34 k34
  have b34 := F34.binds (ps := ["track", "moment"]) fun _ _ _ _ _ _ us hl => match us, hl with | [_, _], _ => rfl
  have F35 := fun_mk (st := s_told_in_mix) l35 c35 k35
  have b35 := F35.binds (ps := ["track", "place", "j"]) fun _ _ _ _ _ _ us hl => match us, hl with | [_, _, _], _ => rfl
  have F36 := fun_mk (st := s_taken_at_begin) l36 c36 k36
  have b36 := F36.binds (ps := ["track", "place"]) fun _ _ _ _ _ _ us hl => match us, hl with | [_, _], _ => rfl
  have F37 := fun_mk (st := s_taken_at_end) l37 c37 k37
  have b37 := F37.binds (ps := ["track", "place"]) fun _ _ _ _ _ _ us hl => match us, hl with | [_, _], _ => rfl
  have F38 := fun_mk (st := s_most_mix) l38 c38 k38
  have b38 := F38.binds (ps := ["track", "moment", "reels"]) fun _ _ _ _ _ _ us hl => match us, hl with | [_, _, _], _ => rfl
  have F39 := fun_mk (st := s_mixes_fit) l39 c39 k39
  have b39 := F39.binds (ps := ["track", "reels"]) fun _ _ _ _ _ _ us hl => match us, hl with | [_, _], _ => rfl
  have F40 := fun_mk (st := s_told_on) l40 c40 k40
  have b40 := F40.binds (ps := ["track", "moment", "room"]) fun _ _ _ _ _ _ us hl => match us, hl with | [_, _, _], _ => rfl
  have F41 := fun_mk (st := s_told_at) l41 c41 k41
  have b41 := F41.binds (ps := ["room", "name", "moment"]) fun _ _ _ _ _ _ us hl => match us, hl with | [_, _, _], _ => rfl
  have F42 := fun_mk (st := s_is_number_of_pictures) l42 c42 k42
  have b42 := F42.binds (ps := ["thing"]) fun _ _ _ _ _ _ us hl => match us, hl with | [_], _ => rfl
  have F43 := fun_mk (st := s_check_reels) l43 c43 k43
  have b43 := F43.binds (ps := ["reels"]) fun _ _ _ _ _ _ us hl => match us, hl with | [_], _ => rfl
  have F44 := fun_mk (st := s_check_clip_of_room) l44 c44 k44
  have b44 := F44.binds (ps := ["item", "reels"]) fun _ _ _ _ _ _ us hl => match us, hl with | [_, _], _ => rfl
  have F45 := fun_mk (st := s_check_item) l45 c45 k45
  have b45 := F45.binds (ps := ["item", "room"]) fun _ _ _ _ _ _ us hl => match us, hl with | [_, _], _ => rfl
  have F46 := fun_mk (st := s_check_track) l46 c46 k46
  have b46 := F46.binds (ps := ["track", "room"]) fun _ _ _ _ _ _ us hl => match us, hl with | [_, _], _ => rfl
  have F47 := fun_mk (st := s_is_tied) l47 c47 k47
  have b47 := F47.binds (ps := ["tied", "many"]) fun _ _ _ _ _ _ us hl => match us, hl with | [_, _], _ => rfl
  have F48 := fun_mk (st := s_check_table) l48 c48 k48
  have b48 := F48.binds (ps := ["table", "room"]) fun _ _ _ _ _ _ us hl => match us, hl with | [_, _], _ => rfl
  have F49 := fun_mk (st := s_nested_in) l49 c49 k49
  have b49 := F49.binds (ps := ["table"]) fun _ _ _ _ _ _ us hl => match us, hl with | [_], _ => rfl
  have F50 := fun_mk (st := s_rests_upon) l50 c50 k50
  have b50 := F50.binds (ps := ["table", "lower"]) fun _ _ _ _ _ _ us hl => match us, hl with | [_, _], _ => rfl
  have F51 := fun_mk (st := s_check_depth) l51 c51 k51
  have b51 := F51.binds (ps := ["tables"]) fun _ _ _ _ _ _ us hl => match us, hl with | [_], _ => rfl
  have F52 := fun_mk (st := s_check_room) l52 c52 k52
  have b52 := F52.binds (ps := ["room"]) fun _ _ _ _ _ _ us hl => match us, hl with | [_], _ => rfl
  have F53 := fun_mk (st := s__law_cell_at) l53 c53 k53
  have b53 := F53.binds (ps := ["_law_script", "_law_k"]) fun _ _ _ _ _ _ us hl => match us, hl with | [_, _], _ => rfl
  have F54 := fun_mk (st := s__law_stream) l54 c54 k54
  have b54 := F54.binds (ps := ["_law_cell", "_law_size"]) fun _ _ _ _ _ _ us hl => match us, hl with | [_, _], _ => rfl
  have F55 := fun_mk (st := s__law_track) l55 c55 k55
  have b55 := F55.binds (ps := ["_law_script"]) fun _ _ _ _ _ _ us hl => match us, hl with | [_], _ => rfl
  have F56 := fun_mk (st := s__law_picture) l56 c56 k56
  have b56 := F56.binds (ps := ["_law_clip", "_law_k"]) fun _ _ _ _ _ _ us hl => match us, hl with | [_, _], _ => rfl
  have F57 := fun_mk (st := s__law_share) l57 c57 k57
  have b57 := F57.binds (ps := ["_law_top", "_law_bottom"]) fun _ _ _ _ _ _ us hl => match us, hl with | [_, _], _ => rfl
  have F58 := fun_mk (st := s__law_mixed) l58 c58 k58
  have b58 := F58.binds (ps := ["_law_track_here", "_law_place", "_law_border", "_law_moment"]) fun _ _ _ _ _ _ us hl => match us, hl with | [_, _, _, _], _ => rfl
  have F59 := fun_mk (st := s__law_due) l59 c59 k59
  have b59 := F59.binds (ps := ["_law_track_here", "_law_moment"]) fun _ _ _ _ _ _ us hl => match us, hl with | [_, _], _ => rfl
  have F60 := fun_mk (st := s__law_spans) l60 c60 k60
  have b60 := F60.binds (ps := ["_law_track_here"]) fun _ _ _ _ _ _ us hl => match us, hl with | [_], _ => rfl
  have F61 := fun_mk (st := s_law) l61 c61 k61
  have b61 := F61.binds (ps := ["_law_script"]) fun _ _ _ _ _ _ us hl => match us, hl with | [_], _ => rfl
  have T : Tx K mg ⟨f0, _, f1, _, f2, _, f3, _, f4, _, f5, _, f6, _, f7, _, f8, _, f9, _, f10, _, f11, _, f12, _, f13, _, f14, _, f15, _, f16, _, f17, _, f18, _, f19, _, f20, _, f21, _, f22, _, f23, _, f24, _, f25, _, f26, _, f27, _, f28, _, f29, _, f30, _, f31, _, f32, _, f33, _, f34, _, f35, _, f36, _, f37, _, f38, _, f39, _, f40, _, f41, _, f42, _, f43, _, f44, _, f45, _, f46, _, f47, _, f48, _, f49, _, f50, _, f51, _, f52, _, f53, _, f54, _, f55, _, f56, _, f57, _, f58, _, f59, _, f60, _, f61, _, C0, C1, C2, C3, C4, tLETTERS, tLONGEST_NAME, tMOST_ROOM, nNOUGHT, tMOST_PICTURES, tMOST_TRACKS, tMOST_DEEP, nWHOLE_SHARE⟩ := ⟨⟨F0, b0, PySem.W.mg_of X G a0⟩, ⟨F1, b1, PySem.W.mg_of X G a1⟩, ⟨F2, b2, PySem.W.mg_of X G a2⟩, ⟨F3, b3, PySem.W.mg_of X G a3⟩, ⟨F4, b4, PySem.W.mg_of X G a4⟩, ⟨F5, b5, PySem.W.mg_of X G a5⟩, ⟨F6, b6, PySem.W.mg_of X G a6⟩, ⟨F7, b7, PySem.W.mg_of X G a7⟩, ⟨F8, b8, PySem.W.mg_of X G a8⟩, ⟨F9, b9, PySem.W.mg_of X G a9⟩, ⟨F10, b10, PySem.W.mg_of X G a10⟩, ⟨F11, b11, PySem.W.mg_of X G a11⟩, ⟨F12, b12, PySem.W.mg_of X G a12⟩, ⟨F13, b13, PySem.W.mg_of X G a13⟩, ⟨F14, b14, PySem.W.mg_of X G a14⟩, ⟨F15, b15, PySem.W.mg_of X G a15⟩, ⟨F16, b16, PySem.W.mg_of X G a16⟩, ⟨F17, b17, PySem.W.mg_of X G a17⟩, ⟨F18, b18, PySem.W.mg_of X G a18⟩, ⟨F19, b19, PySem.W.mg_of X G a19⟩, ⟨F20, b20, PySem.W.mg_of X G a20⟩, ⟨F21, b21, PySem.W.mg_of X G a21⟩, ⟨F22, b22, PySem.W.mg_of X G a22⟩, ⟨F23, b23, PySem.W.mg_of X G a23⟩, ⟨F24, b24, PySem.W.mg_of X G a24⟩, ⟨F25, b25, PySem.W.mg_of X G a25⟩, ⟨F26, b26, PySem.W.mg_of X G a26⟩, ⟨F27, b27, PySem.W.mg_of X G a27⟩, ⟨F28, b28, PySem.W.mg_of X G a28⟩, ⟨F29, b29, PySem.W.mg_of X G a29⟩, ⟨F30, b30, PySem.W.mg_of X G a30⟩, ⟨F31, b31, PySem.W.mg_of X G a31⟩, ⟨F32, b32, PySem.W.mg_of X G a32⟩, ⟨F33, b33, PySem.W.mg_of X G a33⟩, ⟨F34, b34, PySem.W.mg_of X G a34⟩, ⟨F35, b35, PySem.W.mg_of X G a35⟩, ⟨F36, b36, PySem.W.mg_of X G a36⟩, ⟨F37, b37, PySem.W.mg_of X G a37⟩, ⟨F38, b38, PySem.W.mg_of X G a38⟩, ⟨F39, b39, PySem.W.mg_of X G a39⟩, ⟨F40, b40, PySem.W.mg_of X G a40⟩, ⟨F41, b41, PySem.W.mg_of X G a41⟩, ⟨F42, b42, PySem.W.mg_of X G a42⟩, ⟨F43, b43, PySem.W.mg_of X G a43⟩, ⟨F44, b44, PySem.W.mg_of X G a44⟩, ⟨F45, b45, PySem.W.mg_of X G a45⟩, ⟨F46, b46, PySem.W.mg_of X G a46⟩, ⟨F47, b47, PySem.W.mg_of X G a47⟩, ⟨F48, b48, PySem.W.mg_of X G a48⟩, ⟨F49, b49, PySem.W.mg_of X G a49⟩, ⟨F50, b50, PySem.W.mg_of X G a50⟩, ⟨F51, b51, PySem.W.mg_of X G a51⟩, ⟨F52, b52, PySem.W.mg_of X G a52⟩, ⟨F53, b53, PySem.W.mg_of X G a53⟩, ⟨F54, b54, PySem.W.mg_of X G a54⟩, ⟨F55, b55, PySem.W.mg_of X G a55⟩, ⟨F56, b56, PySem.W.mg_of X G a56⟩, ⟨F57, b57, PySem.W.mg_of X G a57⟩, ⟨F58, b58, PySem.W.mg_of X G a58⟩, ⟨F59, b59, PySem.W.mg_of X G a59⟩, ⟨F60, b60, PySem.W.mg_of X G a60⟩, ⟨F61, b61, PySem.W.mg_of X G a61⟩, PySem.W.mg_of X G xg0, PySem.W.mg_of X G xg1, PySem.W.mg_of X G xg2, PySem.W.mg_of X G xg3, PySem.W.mg_of X G xg4, PySem.W.mg_none_of X G xz0, PySem.W.mg_none_of X G xz1, PySem.W.mg_none_of X G xz2, PySem.W.mg_none_of X G xz3, PySem.W.mg_none_of X G xz4, PySem.W.mg_none_of X G xz5, PySem.W.mg_none_of X G xz6, PySem.W.mg_none_of X G xz7, PySem.W.mg_none_of X G xz8, PySem.W.mg_none_of X G xz9, PySem.W.mg_none_of X G xz10, PySem.W.mg_none_of X G xz11, PySem.W.mg_none_of X G xz12, PySem.W.mg_none_of X G xz13, PySem.W.mg_none_of X G xz14, PySem.W.mg_none_of X G xz15, PySem.W.mg_of X G xcLETTERS, PySem.W.mg_of X G xcLONGEST_NAME, PySem.W.mg_of X G xcMOST_ROOM, PySem.W.mg_of X G xcNOUGHT, fun H => .inr ⟨_, _, _, xlNOUGHT, rfl, rfl, by show 2 ≤ sizeLine; decide, .cons ⟨_, rfl⟩ (.cons ⟨_, rfl⟩ (.nil))⟩, PySem.W.mg_of X G xcMOST_PICTURES, PySem.W.mg_of X G xcMOST_TRACKS, PySem.W.mg_of X G xcMOST_DEEP, PySem.W.mg_of X G xcWHOLE_SHARE, fun H => .inr ⟨_, _, _, xlWHOLE_SHARE, rfl, rfl, by show 2 ≤ sizeLine; decide, .cons ⟨_, rfl⟩ (.cons ⟨_, rfl⟩ (.nil))⟩⟩
  exact ⟨PySem.W.fnOf "law" "law" (defArgs s_law) (defBody s_law) (defScope s_law) .none kV61 dc61 pm61 an61 cd61 ct61, fun s v => .of_eq rfl, fun base _ _ => ok_law T⟩
theorem walk {l : PySem.W.OpenLaw} {q : Program} {loose : List Str} {XP : (Str → Option Value) → Heap → Prop} {YP : World → Heap → Prop} {d : DefRec} {K : Params → PySem.W.Frag} (hn : l.most = some 63) (hdf : d.params.defaults = [])
    (hY : ∀ (w : World) (h : Heap), YP w h → (K w.params).In h)
    (F : ∀ (w : World) (mg : Str → Option Value) (fa : Addr) (h : Heap), (K w.params).In h → h.Ns mainGlobals mg → mg d.name = some (.ref fa) →
      ∃ fd : FuncData, (∀ (s : Shared) (u : Value), BindsTo s fd ⟨[u], []⟩ [("_law_script", u)]) ∧ ∀ base : Heap, (K w.params).In base → base.Ns mainGlobals mg → FnOk l.prog w (K w.params) mg base CX0 16 fa fd ["_law_script"] (spLaw (K w.params))) :
    PySem.W.WalkO q loose XP YP l.row.toRowW d [] (fun f vs => PySem.call f vs) :=
  L2.walk_of (n := 63) (k := 16) (x := "_law_script") (CX := fun _ => CX0) (sp := fun w => spLaw (K w.params)) hn (by decide) hdf ⟨rfl, by decide, by decide⟩ hY F (fun _ _ a ns hl _ hS => ⟨a, ns, rfl, hS, hl, fun _ => rfl⟩) fun _ _ _ _ _ z => z
end Lw
def PySem.W.Fast.tw13167800554058561856 : Unit := ()
def PySem.W.Fast.tw4842676736349676770 : Unit := ()
def PySem.W.Fast.tw15082644193817842563 : Unit := ()
def PySem.W.Fast.tw15139038839431968805 : Unit := ()
def PySem.W.Fast.tw14651557343054422854 : Unit := ()
def PySem.W.Fast.tw10022541461414708808 : Unit := ()
def PySem.W.Fast.tw3309786224059882953 : Unit := ()
def PySem.W.Fast.tw4431468020038228745 : Unit := ()
def PySem.W.Fast.tw13731034207217639756 : Unit := ()
def PySem.W.Fast.tw6674821002619652492 : Unit := ()
def PySem.W.Fast.tw10421548806253063052 : Unit := ()
def PySem.W.Fast.tw2461560698773895629 : Unit := ()
def PySem.W.Fast.tw17671652418769013645 : Unit := ()
def PySem.W.Fast.tw10572431007786798734 : Unit := ()
def PySem.W.Fast.tw4040952116013480751 : Unit := ()
def PySem.W.Fast.tw17148421964268648500 : Unit := ()
def PySem.W.Fast.tw15900307351869930772 : Unit := ()
def PySem.W.Fast.tw3642254162781878485 : Unit := ()
def PySem.W.Fast.tw11865792236882094613 : Unit := ()
def PySem.W.Fast.tw17150114955791654167 : Unit := ()
def PySem.W.Fast.tw15477935471751130616 : Unit := ()
def PySem.W.Fast.tw14818608082158154521 : Unit := ()
def PySem.W.Fast.tw11765140876036420091 : Unit := ()
def PySem.W.Fast.tw13279595068478231901 : Unit := ()
def PySem.W.Fast.tw614010137091132829 : Unit := ()
def PySem.W.Fast.tw4370025727957910861 : Unit := ()
open PySem PySem.W PyProof.Rows
set_option maxRecDepth 100000 in
set_option maxHeartbeats 0 in
theorem PySem.Challenge.cw_reelcut_k32_mixes_told_holds : PySem.Challenge.rw_reelcut_k32_mixes_told.Holds := by
  w_on; o_law; k_head; (case hw => w_witness2)
  k_fill
  refine Lw.walk (l := PySem.Challenge.rw_reelcut_k32_mixes_told) rfl rfl (fun w h Y => PySem.W.kIn_of Y) ?F
  case F =>
    intro w mg fa h KX G hmg
    refine' Lw.all_mk KX G hmg ?a0 ?l0 ?c0 ?k0 ?a1 ?l1 ?c1 ?k1 ?a2 ?l2 ?c2 ?k2 ?a3 ?l3 ?c3 ?k3 ?a4 ?l4 ?c4 ?k4 ?a5 ?l5 ?c5 ?k5 ?a6 ?l6 ?c6 ?k6 ?a7 ?l7 ?c7 ?k7 ?a8 ?l8 ?c8 ?k8 ?a9 ?l9 ?c9 ?k9 ?a10 ?l10 ?c10 ?k10 ?a11 ?l11 ?c11 ?k11 ?a12 ?l12 ?c12 ?k12 ?a13 ?l13 ?c13 ?k13 ?a14 ?l14 ?c14 ?k14 ?a15 ?l15 ?c15 ?k15 ?a16 ?l16 ?c16 ?k16 ?a17 ?l17 ?c17 ?k17 ?a18 ?l18 ?c18 ?k18 ?a19 ?l19 ?c19 ?k19 ?a20 ?l20 ?c20 ?k20 ?a21 ?l21 ?c21 ?k21 ?a22 ?l22 ?c22 ?k22 ?a23 ?l23 ?c23 ?k23 ?a24 ?l24 ?c24 ?k24 ?a25 ?l25 ?c25 ?k25 ?a26 ?l26 ?c26 ?k26 ?a27 ?l27 ?c27 ?k27 ?a28 ?l28 ?c28 ?k28 ?a29 ?l29 ?c29 ?k29 ?a30 ?l30 ?c30 ?k30 ?a31 ?l31 ?c31 ?k31 ?a32 ?l32 ?c32 ?k32 ?a33 ?l33 ?c33 ?k33 ?a34 ?l34 ?c34 ?k34 ?a35 ?l35 ?c35 ?k35 ?a36 ?l36 ?c36 ?k36 ?a37 ?l37 ?c37 ?k37 ?a38 ?l38 ?c38 ?k38 ?a39 ?l39 ?c39 ?k39 ?a40 ?l40 ?c40 ?k40 ?a41 ?l41 ?c41 ?k41 ?a42 ?l42 ?c42 ?k42 ?a43 ?l43 ?c43 ?k43 ?a44 ?l44 ?c44 ?k44 ?a45 ?l45 ?c45 ?k45 ?a46 ?l46 ?c46 ?k46 ?a47 ?l47 ?c47 ?k47 ?a48 ?l48 ?c48 ?k48 ?a49 ?l49 ?c49 ?k49 ?a50 ?l50 ?c50 ?k50 ?a51 ?l51 ?c51 ?k51 ?a52 ?l52 ?c52 ?k52 ?a53 ?l53 ?c53 ?k53 ?a54 ?l54 ?c54 ?k54 ?a55 ?l55 ?c55 ?k55 ?a56 ?l56 ?c56 ?k56 ?a57 ?l57 ?c57 ?k57 ?a58 ?l58 ?c58 ?k58 ?a59 ?l59 ?c59 ?k59 ?a60 ?l60 ?c60 ?k60 ?a61 ?l61 ?c61 ?k61 ?xg0 ?xg1 ?xg2 ?xg3 ?xg4 ?xz0 ?xz1 ?xz2 ?xz3 ?xz4 ?xz5 ?xz6 ?xz7 ?xz8 ?xz9 ?xz10 ?xz11 ?xz12 ?xz13 ?xz14 ?xz15 ?xcLETTERS ?xcLONGEST_NAME ?xcMOST_ROOM ?xcNOUGHT ?xlNOUGHT ?xcMOST_PICTURES ?xcMOST_TRACKS ?xcMOST_DEEP ?xcWHOLE_SHARE ?xlWHOLE_SHARE
    (case a0 => k_is)
    (case l0 => k_is)
    (case c0 => k_is)
    (case k0 => k_is)
    (case a1 => k_is)
    (case l1 => k_is)
    (case c1 => k_is)
    (case k1 => k_is)
    (case a2 => k_is)
    (case l2 => k_is)
    (case c2 => k_is)
    (case k2 => k_is)
    (case a3 => k_is)
    (case l3 => k_is)
    (case c3 => k_is)
    (case k3 => k_is)
    (case a4 => k_is)
    (case l4 => k_is)
    (case c4 => k_is)
    (case k4 => k_is)
    (case a5 => k_is)
    (case l5 => k_is)
    (case c5 => k_is)
    (case k5 => k_is)
    (case a6 => k_is)
    (case l6 => k_is)
    (case c6 => k_is)
    (case k6 => k_is)
    (case a7 => k_is)
    (case l7 => k_is)
    (case c7 => k_is)
    (case k7 => k_is)
    (case a8 => k_is)
    (case l8 => k_is)
    (case c8 => k_is)
    (case k8 => k_is)
    (case a9 => k_is)
    (case l9 => k_is)
    (case c9 => k_is)
    (case k9 => k_is)
    (case a10 => k_is)
    (case l10 => k_is)
    (case c10 => k_is)
    (case k10 => k_is)
    (case a11 => k_is)
    (case l11 => k_is)
    (case c11 => k_is)
    (case k11 => k_is)
    (case a12 => k_is)
    (case l12 => k_is)
    (case c12 => k_is)
    (case k12 => k_is)
    (case a13 => k_is)
    (case l13 => k_is)
    (case c13 => k_is)
    (case k13 => k_is)
    (case a14 => k_is)
    (case l14 => k_is)
    (case c14 => k_is)
    (case k14 => k_is)
    (case a15 => k_is)
    (case l15 => k_is)
    (case c15 => k_is)
    (case k15 => k_is)
    (case a16 => k_is)
    (case l16 => k_is)
    (case c16 => k_is)
    (case k16 => k_is)
    (case a17 => k_is)
    (case l17 => k_is)
    (case c17 => k_is)
    (case k17 => k_is)
    (case a18 => k_is)
    (case l18 => k_is)
    (case c18 => k_is)
    (case k18 => k_is)
    (case a19 => k_is)
    (case l19 => k_is)
    (case c19 => k_is)
    (case k19 => k_is)
    (case a20 => k_is)
    (case l20 => k_is)
    (case c20 => k_is)
    (case k20 => k_is)
    (case a21 => k_is)
    (case l21 => k_is)
    (case c21 => k_is)
    (case k21 => k_is)
    (case a22 => k_is)
    (case l22 => k_is)
    (case c22 => k_is)
    (case k22 => k_is)
    (case a23 => k_is)
    (case l23 => k_is)
    (case c23 => k_is)
    (case k23 => k_is)
    (case a24 => k_is)
    (case l24 => k_is)
    (case c24 => k_is)
    (case k24 => k_is)
    (case a25 => k_is)
    (case l25 => k_is)
    (case c25 => k_is)
    (case k25 => k_is)
    (case a26 => k_is)
    (case l26 => k_is)
    (case c26 => k_is)
    (case k26 => k_is)
    (case a27 => k_is)
    (case l27 => k_is)
    (case c27 => k_is)
    (case k27 => k_is)
    (case a28 => k_is)
    (case l28 => k_is)
    (case c28 => k_is)
    (case k28 => k_is)
    (case a29 => k_is)
    (case l29 => k_is)
    (case c29 => k_is)
    (case k29 => k_is)
    (case a30 => k_is)
    (case l30 => k_is)
    (case c30 => k_is)
    (case k30 => k_is)
    (case a31 => k_is)
    (case l31 => k_is)
    (case c31 => k_is)
    (case k31 => k_is)
    (case a32 => k_is)
    (case l32 => k_is)
    (case c32 => k_is)
    (case k32 => k_is)
    (case a33 => k_is)
    (case l33 => k_is)
    (case c33 => k_is)
    (case k33 => k_is)
    (case a34 => k_is)
    (case l34 => k_is)
    (case c34 => k_is)
    (case k34 => k_is)
    (case a35 => k_is)
    (case l35 => k_is)
    (case c35 => k_is)
    (case k35 => k_is)
    (case a36 => k_is)
    (case l36 => k_is)
    (case c36 => k_is)
    (case k36 => k_is)
    (case a37 => k_is)
    (case l37 => k_is)
    (case c37 => k_is)
    (case k37 => k_is)
    (case a38 => k_is)
    (case l38 => k_is)
    (case c38 => k_is)
    (case k38 => k_is)
    (case a39 => k_is)
    (case l39 => k_is)
    (case c39 => k_is)
    (case k39 => k_is)
    (case a40 => k_is)
    (case l40 => k_is)
    (case c40 => k_is)
    (case k40 => k_is)
    (case a41 => k_is)
    (case l41 => k_is)
    (case c41 => k_is)
    (case k41 => k_is)
    (case a42 => k_is)
    (case l42 => k_is)
    (case c42 => k_is)
    (case k42 => k_is)
    (case a43 => k_is)
    (case l43 => k_is)
    (case c43 => k_is)
    (case k43 => k_is)
    (case a44 => k_is)
    (case l44 => k_is)
    (case c44 => k_is)
    (case k44 => k_is)
    (case a45 => k_is)
    (case l45 => k_is)
    (case c45 => k_is)
    (case k45 => k_is)
    (case a46 => k_is)
    (case l46 => k_is)
    (case c46 => k_is)
    (case k46 => k_is)
    (case a47 => k_is)
    (case l47 => k_is)
    (case c47 => k_is)
    (case k47 => k_is)
    (case a48 => k_is)
    (case l48 => k_is)
    (case c48 => k_is)
    (case k48 => k_is)
    (case a49 => k_is)
    (case l49 => k_is)
    (case c49 => k_is)
    (case k49 => k_is)
    (case a50 => k_is)
    (case l50 => k_is)
    (case c50 => k_is)
    (case k50 => k_is)
    (case a51 => k_is)
    (case l51 => k_is)
    (case c51 => k_is)
    (case k51 => k_is)
    (case a52 => k_is)
    (case l52 => k_is)
    (case c52 => k_is)
    (case k52 => k_is)
    (case a53 => k_is)
    (case l53 => k_is)
    (case c53 => k_is)
    (case k53 => k_is)
    (case a54 => k_is)
    (case l54 => k_is)
    (case c54 => k_is)
    (case k54 => k_is)
    (case a55 => k_is)
    (case l55 => k_is)
    (case c55 => k_is)
    (case k55 => k_is)
    (case a56 => k_is)
    (case l56 => k_is)
    (case c56 => k_is)
    (case k56 => k_is)
    (case a57 => k_is)
    (case l57 => k_is)
    (case c57 => k_is)
    (case k57 => k_is)
    (case a58 => k_is)
    (case l58 => k_is)
    (case c58 => k_is)
    (case k58 => k_is)
    (case a59 => k_is)
    (case l59 => k_is)
    (case c59 => k_is)
    (case k59 => k_is)
    (case a60 => k_is)
    (case l60 => k_is)
    (case c60 => k_is)
    (case k60 => k_is)
    (case a61 => k_is)
    (case l61 => k_is)
    (case c61 => k_is)
    (case k61 => k_is)
    (case xg0 => k_is)
    (case xg1 => k_is)
    (case xg2 => k_is)
    (case xg3 => k_is)
    (case xg4 => k_is)
    (case xz0 => k_is)
    (case xz1 => k_is)
    (case xz2 => k_is)
    (case xz3 => k_is)
    (case xz4 => k_is)
    (case xz5 => k_is)
    (case xz6 => k_is)
    (case xz7 => k_is)
    (case xz8 => k_is)
    (case xz9 => k_is)
    (case xz10 => k_is)
    (case xz11 => k_is)
    (case xz12 => k_is)
    (case xz13 => k_is)
    (case xz14 => k_is)
    (case xz15 => k_is)
    (case xcLETTERS => k_is)
    (case xcLONGEST_NAME => k_is)
    (case xcMOST_ROOM => k_is)
    (case xcNOUGHT => k_is)
    (case xlNOUGHT => k_is)
    (case xcMOST_PICTURES => k_is)
    (case xcMOST_TRACKS => k_is)
    (case xcMOST_DEEP => k_is)
    (case xcWHOLE_SHARE => k_is)
    (case xlWHOLE_SHARE => k_is)

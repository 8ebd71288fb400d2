import PyProof.Rows.All
import Wide.All
import OpenK.AllK
import Wide.FinOn
import Lean
import PyProof.EqAt
import PyProof.EqKinds
import PyProof.TupleCall
import PyProof.StrLawsTight
import KE.KIntText
import KE.KxPart
import PySem.Challenge.RW_reelcut_k47_tied_tracks
set_option Elab.async false
set_option linter.all false
set_option maxRecDepth 100000
namespace L2
open PySem PySem.Spec PyProof.Rows
abbrev Key := Sum Int Str
def qGs : Key → Value → Bool
  | .inl k, v => Value.isInt k v
  | .inr x, v => Value.isStrOf x v
def qOj (w : World) : Key → Int
  | .inl k => hashInt k
  | .inr x => hashStr w x
theorem jM : ∀ {k : Key} {v : Value}, qGs k v = true → (∃ i t, k = Sum.inl i ∧ v = Value.int i t) ∨ (∃ x t, k = Sum.inr x ∧ v = Value.str x t)
  | .inl i, v, h => by
    obtain ⟨t, e⟩ := Value.isInt_shape (k := i) (v := v) h
    exact .inl ⟨i, t, rfl, e⟩
  | .inr x, v, h => by
    obtain ⟨t, e⟩ := Value.isStrOf_shape (x := x) (v := v) h
    exact .inr ⟨x, t, rfl, e⟩
theorem qIb (i : Int) (t : Tok) : qGs (.inl i) (.int i t) = true := by simp [qGs, Value.isInt]
theorem qG7 (x : Str) (t : Tok) : qGs (.inr x) (.str x t) = true := by simp [qGs, Value.isStrOf]
theorem qMs (a b : Int) : decide ((Sum.inl a : Key) = Sum.inl b) = (a == b) := by
  by_cases e : a = b
  · subst e; simp
  · have h : ¬ (Sum.inl a : Key) = Sum.inl b := fun q => e (Sum.inl.inj q)
    rw [decide_eq_false h]
    exact (beq_eq_false_iff_ne.mpr e).symm
theorem qLr (a b : Str) : decide ((Sum.inr a : Key) = Sum.inr b) = decide (a = b) := by
  by_cases e : a = b
  · subst e; simp
  · have h : ¬ (Sum.inr a : Key) = Sum.inr b := fun q => e (Sum.inr.inj q)
    rw [decide_eq_false h, decide_eq_false e]
theorem qMu (a : Int) (b : Str) : decide ((Sum.inl a : Key) = Sum.inr b) = false := decide_eq_false (fun q => nomatch q)
theorem qL3 (a : Str) (b : Int) : decide ((Sum.inr a : Key) = Sum.inl b) = false := decide_eq_false (fun q => nomatch q)
def xI (prog : Program) (w : World) : PySem.KeyKind prog w Key where
  is := qGs
  hash := qOj w
  inj := fun v a b ha hb => by
    rcases jM ha with ⟨i, t, rfl, rfl⟩ | ⟨x, t, rfl, rfl⟩
    · rcases jM hb with ⟨j, u, rfl, e⟩ | ⟨y, u, rfl, e⟩
      · injection e with e1 _; rw [e1]
      · exact nomatch e
    · rcases jM hb with ⟨j, u, rfl, e⟩ | ⟨y, u, rfl, e⟩
      · exact nomatch e
      · injection e with e1 _; rw [e1]
  byValue := fun k v h => by
    rcases jM h with ⟨i, t, rfl, rfl⟩ | ⟨x, t, rfl, rfl⟩ <;> rfl
  pyHash := fun hv h => by
    rcases jM hv with ⟨i, t, rfl, rfl⟩ | ⟨x, t, rfl, rfl⟩
    · exact wpAny_pyHash_int h
    · exact wpAny_pyHash_str h
  eqBool := fun hu hv h => by
    rcases jM hu with ⟨i, t, rfl, rfl⟩ | ⟨x, t, rfl, rfl⟩
    · rcases jM hv with ⟨j, u, rfl, rfl⟩ | ⟨y, u, rfl, rfl⟩
      · rw [qMs] at h; exact wpAny_eqBool_int h
      · rw [qMu] at h; exact SeqAt.EqAt.int_str i t y u _ _ _ _ h
    · rcases jM hv with ⟨j, u, rfl, rfl⟩ | ⟨y, u, rfl, rfl⟩
      · rw [qL3] at h; exact SeqAt.EqAt.str_int x t j u _ _ _ _ h
      · rw [qLr] at h; exact wpAny_eqBool_str h
  «strs» := fun k x t v h => by
    rcases jM h with ⟨i, u, rfl, e⟩ | ⟨y, u, rfl, e⟩
    · exact nomatch e
    · injection e with e1 _
      subst e1
      cases v <;> rfl
theorem qEg (prog : Program) (w : World) (i : Int) (t : Tok) : (xI prog w).is (.inl i) (.int i t) = true := qIb i t
theorem qFb (prog : Program) (w : World) (x : Str) (t : Tok) : (xI prog w).is (.inr x) (.str x t) = true := qG7 x t
end L2
namespace L2
open PySem PySem.Spec PyProof.Rows
inductive V where
  | non | bl (b : Bool) | int (i : Int) | str (x : Str) | byt (b : Array UInt8) | flt (b : UInt64) | ref (a : Addr) | ty (n : String)
  deriving DecidableEq
def RelV : V → Value → Prop
  | .non, u => u = Value.none
  | .bl b, u => u = Value.bool b
  | .int i, u => ∃ t, u = Value.int i t
  | .str x, u => ∃ t, u = Value.str x t
  | .byt b, u => ∃ t, u = Value.bytes b t
  | .flt b, u => ∃ t, u = Value.float b t
  | .ref a, u => u = Value.ref a
  | .ty n, u => u = Value.type n
abbrev Vals : List V → List Value → Prop := Paired RelV
theorem Vals.length {xs : List V} {us : List Value} (r : Vals xs us) : xs.length = us.length := Paired.length r
theorem Vals.get : ∀ {xs : List V} {us : List Value} {i : Nat} {x : V}, Vals xs us → xs[i]? = some x → ∃ u, us[i]? = some u ∧ RelV x u
  | _, _, _, _, .nil, e => by simp at e
  | _, _, 0, _, .cons r _, e => by simp at e; subst e; exact ⟨_, rfl, r⟩
  | _, _, i + 1, x, .cons _ t, e => by
    obtain ⟨u, h1, h2⟩ := Vals.get (i := i) (x := x) t (by simpa using e)
    exact ⟨u, by simpa using h1, h2⟩
theorem Vals.set {x : V} {u : Value} (r : RelV x u) : ∀ {xs : List V} {us : List Value} (i : Nat), Vals xs us → Vals (xs.set i x) (us.set i u)
  | _, _, _, .nil => .nil
  | _, _, 0, .cons _ t => .cons r t
  | _, _, i + 1, .cons q t => .cons q (Vals.set r i t)
theorem Vals.append : ∀ {xs ys : List V} {us ws : List Value}, Vals xs us → Vals ys ws → Vals (xs ++ ys) (us ++ ws)
  | _, _, _, _, .nil, s => s
  | _, _, _, _, .cons r t, s => .cons r (Vals.append t s)
theorem Vals.take : ∀ {xs : List V} {us : List Value} (n : Nat), Vals xs us → Vals (xs.take n) (us.take n)
  | _, _, 0, _ => .nil
  | _, _, _ + 1, .nil => .nil
  | _, _, n + 1, .cons r t => .cons r (Vals.take n t)
theorem Vals.drop : ∀ {xs : List V} {us : List Value} (n : Nat), Vals xs us → Vals (xs.drop n) (us.drop n)
  | _, _, 0, r => r
  | _, _, _ + 1, .nil => .nil
  | _, _, n + 1, .cons _ t => Vals.drop n t
def RelO : Option V → Option Value → Prop
  | some v, some u => RelV v u
  | none, none => True
  | _, _ => False
def KV {κ : Type} : List (κ × V) → List (κ × Value) → Prop := Paired fun (p : κ × V) (q : κ × Value) => p.1 = q.1 ∧ RelV p.2 q.2
def kV : Key → V
  | .inl i => .int i
  | .inr x => .str x
inductive HO where
  | lst (xs : List V)
  | tup (xs : List V)
  | dK (kvs : List (Key × V)) | dT (kvs : List (List Key × V))
  | set (S : Int → Bool) (n : Nat)
  | ins (C dx : Addr) (fs : List (Str × V))
  | own (x : Addr)
  | xd (fs : List (Str × V))
  | met (f x : Addr)
  | rng (lo hi : Int)
  | frz (o : Obj) (u : HO)
  | tbl (ps : Array Value)
  | ext (φ : Heap → Prop)
abbrev Hp := Addr → Option HO
def upd (H : Hp) (a : Addr) (o : HO) : Hp := fun b => if b = a then some o else H b
theorem qD {H : Hp} {a : Addr} {o : HO} : upd H a o a = some o := by unfold upd; rw [if_pos rfl]
theorem qY {H : Hp} {a b : Addr} {o : HO} (h : b ≠ a) : upd H a o b = H b := by unfold upd; rw [if_neg h]
theorem qE4 {H : Hp} {a : Addr} {o u : HO} : upd (upd H a o) a u = upd H a u := by
  funext b; unfold upd; split <;> rfl
theorem qCr {H : Hp} {a b : Addr} {o u : HO} (h : H a = some o) (h' : H b = some u) (d : o ≠ u) : a ≠ b := by
  intro e; subst e; rw [h] at h'; exact d (Option.some.inj h')
theorem qR {H : Hp} {a b : Addr} {o : HO} (h : H a = some o) (h' : H b = none) : a ≠ b := by
  intro e; subst e; rw [h] at h'; cases h'
section
variable (P : Program) (w : World)
def ObjOk (H : Hp) (h : Heap) (a : Addr) : HO → Prop
  | .lst xs => xs.length ≤ sizeLine ∧ ∃ (its : List Value) (n : Nat), Vals xs its ∧ h.get? a = some { cls := .type "list", data := .seq its.toArray n }
  | .tup xs => xs.length ≤ sizeLine ∧ ∃ its : List Value, Vals xs its ∧ IsTup h a its.toArray
  | .dK kvs => kvs.length ≤ sizeLine ∧ (a == sysModules) = false ∧ ∃ vs, KV kvs vs ∧ h.DictOf (xI P w) a vs
  | .dT kvs => kvs.length ≤ sizeLine ∧ (a == sysModules) = false ∧ ∃ xs : List (List Key × Addr × Value),
      Paired (fun (p : List Key × V) (q : List Key × Addr × Value) => p.1 = q.1 ∧ H q.2.1 = some (.tup (p.1.map kV)) ∧ RelV p.2 q.2.2) kvs xs ∧
      ∃ o es ep, h.get? a = some o ∧ o.ExactDict ∧ o.data = .dict es ep ∧ es.toList = xs.map (entryOfKey (tupleKind (xI P w))) ∧ (xs.map (·.1)).Nodup
  | .set S n => h.SetOf (intKind P w) a S n
  | .ins C dx fs => H dx = some (.own a) ∧ fs.length ≤ 1000 ∧ dx ≠ a ∧ h.get? a = some (PySem.W.instObj C dx) ∧
      ∃ mA, h.Ns1 dx mA ∧ (∀ f, RelO (fs.lookup f) (mA f)) ∧ PySem.Within mA (fs.map (·.1))
  | .own _ => ∃ o, h.get? a = some o
  | .xd fs => ∃ mA, h.Ns1 a mA ∧ ∀ f, RelO (fs.lookup f) (mA f)
  | .rng lo hi => ∃ t u v, h.get? a = some { cls := .type "range", data := .fields #[.int lo t, .int hi u, .int 1 v] }
  | .frz o u => h.get? a = some o ∧ ObjOk H h a u
  | .tbl ps => h.get? a = some { cls := .none, data := .fields ps }
  | .met f x => h.get? a = some (PySem.W.methodObj (.ref f) (.ref x))
  | .ext φ => φ h ∧ (∃ o, h.get? a = some o) ∧ ∀ h1 h2 : Heap, φ h1 → (∀ o, h1.get? a = some o → h2.get? a = some o) → φ h2
def HOk (H : Hp) (h : Heap) : Prop := ∀ a o, H a = some o → ObjOk P w H h a o
end
section
variable {P : Program} {w : World} {H H' : Hp} {h h' : Heap} {a : Addr} {o : HO}
theorem ObjOk.lt (x : ObjOk P w H h a o) : a < h.objs.size := by
  cases o with
  | lst xs => obtain ⟨_, _, _, _, e⟩ := x; exact Heap.lt_size e
  | tup xs => obtain ⟨_, _, _, p⟩ := x; exact p.lt
  | dK kvs => obtain ⟨_, _, _, _, o, _, _, e, _⟩ := x; exact Heap.lt_size e
  | dT kvs => obtain ⟨_, _, _, _, o, _, _, e, _⟩ := x; exact Heap.lt_size e
  | set S n => obtain ⟨o, _, _, _, e, _⟩ := x; exact Heap.lt_size e
  | ins C dx fs => obtain ⟨_, _, _, e, _⟩ := x; exact Heap.lt_size e
  | own y => obtain ⟨_, e⟩ := x; exact Heap.lt_size e
  | xd fs => obtain ⟨_, ⟨_, _, _, e, _⟩, _⟩ := x; exact Heap.lt_size e
  | rng lo hi => obtain ⟨_, _, _, e⟩ := x; exact Heap.lt_size e
  | frz ob u => obtain ⟨e, _⟩ := x; exact Heap.lt_size e
  | tbl ps => exact Heap.lt_size (show h.get? a = some _ from x)
  | met f y => exact Heap.lt_size (show h.get? a = some _ from x)
  | ext φ => obtain ⟨_, ⟨_, e⟩, _⟩ := x; exact Heap.lt_size e
theorem Paired.mapP {α β : Type} {F G : α → β → Prop} : ∀ {l₁ : List α} {l₂ : List β}, Paired F l₁ l₂ → (∀ a b, F a b → G a b) → Paired G l₁ l₂
  | _, _, .nil, _ => .nil
  | _, _, .cons r t, f => .cons (f _ _ r) (Paired.mapP t f)
theorem ObjOk.stay (x : ObjOk P w H h a o) (k : ∀ b u, (b = a ∨ H b = some (.own a)) → h.get? b = some u → h'.get? b = some u)
    (ho : ∀ b, H b = some (.own a) → H' b = some (.own a)) (ht : ∀ b xs, H b = some (.tup xs) → H' b = some (.tup xs)) : ObjOk P w H' h' a o := by
  induction o with
  | lst xs => obtain ⟨z, its, n, r, e⟩ := x; exact ⟨z, its, n, r, k _ _ (.inl rfl) e⟩
  | tup xs => obtain ⟨z, its, r, ob, e, c⟩ := x; exact ⟨z, its, r, ob, k _ _ (.inl rfl) e, c⟩
  | dK kvs => obtain ⟨z, y, vs, r, ob, es, ep, e, c⟩ := x; exact ⟨z, y, vs, r, ob, es, ep, k _ _ (.inl rfl) e, c⟩
  | dT kvs =>
    obtain ⟨z, y, xs, r, ob, es, ep, e, c⟩ := x
    exact ⟨z, y, xs, Paired.mapP r fun p q z => ⟨z.1, ht _ _ z.2.1, z.2.2⟩, ob, es, ep, k _ _ (.inl rfl) e, c⟩
  | set S n => obtain ⟨ob, es, ep, t, e, c⟩ := x; exact ⟨ob, es, ep, t, k _ _ (.inl rfl) e, c⟩
  | ins C dx fs =>
    obtain ⟨d, z, ne, e, mA, ⟨od, es, ep, e2, c⟩, r⟩ := x
    exact ⟨ho _ d, z, ne, k _ _ (.inl rfl) e, mA, ⟨od, es, ep, k _ _ (.inr d) e2, c⟩, r⟩
  | own y => obtain ⟨ob, e⟩ := x; exact ⟨ob, k _ _ (.inl rfl) e⟩
  | xd fs => obtain ⟨mA, ⟨od, es, ep, e, c⟩, r⟩ := x; exact ⟨mA, ⟨od, es, ep, k _ _ (.inl rfl) e, c⟩, r⟩
  | rng lo hi => obtain ⟨t, u, v, e⟩ := x; exact ⟨t, u, v, k _ _ (.inl rfl) e⟩
  | frz ob u ih => obtain ⟨e, q⟩ := x; exact ⟨k _ _ (.inl rfl) e, ih q⟩
  | tbl ps =>
    have e : h.get? a = some { cls := .none, data := .fields ps } := x
    show h'.get? a = some { cls := .none, data := .fields ps }
    exact k a _ (.inl rfl) e
  | met f y =>
    have e : h.get? a = some (PySem.W.methodObj (.ref f) (.ref y)) := x
    show h'.get? a = some (PySem.W.methodObj (.ref f) (.ref y))
    exact k a _ (.inl rfl) e
  | ext φ => obtain ⟨p, ⟨o, e⟩, st⟩ := x; exact ⟨st _ _ p fun o q => k _ _ (.inl rfl) q, ⟨o, k _ _ (.inl rfl) e⟩, st⟩
theorem HOk.lt (x : HOk P w H h) (e : H a = some o) : a < h.objs.size := (x a o e).lt
theorem HOk.fresh (x : HOk P w H h) (e : h.objs.size ≤ a) : H a = none := by
  cases q : H a with
  | none => rfl
  | some u => exact absurd (Nat.lt_of_lt_of_le (x.lt q) e) (Nat.lt_irrefl _)
theorem HOk.kept (x : HOk P w H h) (k : ∀ b u, h.get? b = some u → h'.get? b = some u) : HOk P w H h' := fun a o e =>
  (x a o e).stay (fun b u _ q => k b u q) (fun _ q => q) fun _ _ q => q
theorem HOk.laid (x : HOk P w H h) (k : ∀ b u, h.get? b = some u → h'.get? b = some u) (hp : h.objs.size ≤ a) (new : ObjOk P w (upd H a o) h' a o) : HOk P w (upd H a o) h' := fun b u e => by
  have hn := x.fresh hp
  by_cases hb : b = a
  · subst hb; rw [qD] at e; cases e; exact new
  · rw [qY hb] at e
    exact (x b u e).stay (fun c v _ q => k c v q) (fun c q => by rw [qY (qR q hn)]; exact q) fun c xs q => by rw [qY (qR q hn)]; exact q
end
def Rd (H : Hp) (a : Addr) (u : HO) : Prop := H a = some u ∨ ∃ o, H a = some (.frz o u)
theorem Rd.of {H : Hp} {a : Addr} {u : HO} (h : H a = some u) : Rd H a u := .inl h
theorem Rd.ok {P : Program} {w : World} {H : Hp} {h : Heap} {a : Addr} {u : HO} (r : Rd H a u) (x : HOk P w H h) : ObjOk P w H h a u := by
  rcases r with r | ⟨o, r⟩
  · exact x a u r
  · obtain ⟨_, q⟩ := x a _ r
    exact q
def Mut : Option HO → Prop
  | some (.lst _) => True
  | some (.dK _) => True
  | some (.dT _) => True
  | some (.set _ _) => True
  | some (.ins _ _ _) => True
  | some (.ext _) => True
  | _ => False
section
variable {P : Program} {w : World} {H : Hp} {h h' : Heap} {x e : Addr} {o' : HO}
theorem HOk.write (ok : HOk P w H h) (mu : Mut (H x)) (he : e = x ∨ H e = some (.own x)) (k : ∀ b u, b ≠ e → h.get? b = some u → h'.get? b = some u) (heo : ∃ u, h'.get? e = some u)
    (new : ObjOk P w (upd H x o') h' x o') : HOk P w (upd H x o') h' := fun b u q => by
  have nown : ∀ c y, H c = some (.own y) → c ≠ x := fun c y r z => by subst z; rw [r] at mu; exact mu
  have ntup : ∀ c xs, H c = some (.tup xs) → c ≠ x := fun c xs r z => by subst z; rw [r] at mu; exact mu
  by_cases hb : b = x
  · subst hb; rw [qD] at q; cases q; exact new
  · rw [qY hb] at q
    by_cases hbe : b = e
    · have q' : H b = some (.own x) := by
        rcases he with z | z
        · exact absurd (hbe.trans z) hb
        · rw [hbe]; exact z
      rw [q] at q'; cases q'
      obtain ⟨v, hv⟩ := heo
      exact ⟨v, by rw [hbe]; exact hv⟩
    · refine (ok b u q).stay (fun c v hc r => k c v ?_ r) (fun c r => by rw [qY (nown c b r)]; exact r) fun c xs r => by rw [qY (ntup c xs r)]; exact r
      rcases hc with rfl | hc
      · exact hbe
      · rintro rfl
        rcases he with z | z
        · exact nown c b hc z
        · rw [hc] at z; cases z; exact hb rfl
end
structure Un (fs ex : List Addr) (H H' : Hp) (h h' : Heap) : Prop where
  keep : ∀ b o, h.get? b = some o → H b = none → b ∉ fs → b ∉ ex → h'.get? b = some o
  slot : ∀ b o, h.get? b = some o → H b = none → b ∈ fs → b ∉ ex → ∃ sl, h'.get? b = some { o with slots := sl }
  free : ∀ b o, h.get? b = some o → H b = none → b ∉ ex → H' b = none
  there : ∀ b o, h.get? b = some o → b ∉ ex → ∃ o', h'.get? b = some o'
  tups : ∀ b xs, H b = some (.tup xs) → H' b = some (.tup xs)
  frzs : ∀ b o u, H b = some (.frz o u) → H' b = some (.frz o u)
  tbls : ∀ b ps, H b = some (.tbl ps) → ∃ more, H' b = some (.tbl (ps ++ more))
section
variable {fs fs' ex ex' : List Addr} {H H1 H2 : Hp} {h h1 h2 h' : Heap} {a x e : Addr} {o : HO}
theorem Un.any (u : Un fs ex H H1 h h1) {b : Addr} {ob : Obj} (q : h.get? b = some ob) (n : H b = none) (hx : b ∉ ex) : ∃ sl, h1.get? b = some { ob with slots := sl } := by
  by_cases hb : b ∈ fs
  · exact u.slot b ob q n hb hx
  · exact ⟨ob.slots, u.keep b ob q n hb hx⟩
theorem Un.trans (a : Un fs ex H H1 h h1) (b : Un fs ex H1 H2 h1 h2) : Un fs ex H H2 h h2 where
  keep := fun c ob q n hc hx => b.keep c ob (a.keep c ob q n hc hx) (a.free c ob q n hx) hc hx
  slot := fun c ob q n hc hx => by
    obtain ⟨sl, e1⟩ := a.slot c ob q n hc hx
    obtain ⟨sl', e2⟩ := b.slot c _ e1 (a.free c ob q n hx) hc hx
    exact ⟨sl', e2⟩
  free := fun c ob q n hx => by
    obtain ⟨o', e1⟩ := a.there c ob q hx
    exact b.free c o' e1 (a.free c ob q n hx) hx
  there := fun c ob q hx => by
    obtain ⟨o', e1⟩ := a.there c ob q hx
    exact b.there c o' e1 hx
  tups := fun c xs q => b.tups c xs (a.tups c xs q)
  frzs := fun c ob xs q => b.frzs c ob xs (a.frzs c ob xs q)
  tbls := fun c ps q => by
    obtain ⟨m1, e1⟩ := a.tbls c ps q
    obtain ⟨m2, e2⟩ := b.tbls c _ e1
    exact ⟨m1 ++ m2, by rw [e2, Array.append_assoc]⟩
theorem Un.kept (k : ∀ b u, h.get? b = some u → h'.get? b = some u) : Un fs ex H H h h' :=
  ⟨fun b ob q _ _ _ => k b ob q, fun b ob q _ _ _ => ⟨ob.slots, k b ob q⟩, fun _ _ _ n _ => n, fun b ob q _ => ⟨ob, k b ob q⟩, fun _ _ q => q, fun _ _ _ q => q, fun _ ps q => ⟨#[], by rw [q]; simp⟩⟩
theorem Un.refl : Un fs ex H H h h := Un.kept fun _ _ q => q
theorem Un.laid (k : ∀ b u, h.get? b = some u → h'.get? b = some u) (hp : h.objs.size ≤ a) (hn : H a = none) : Un fs ex H (upd H a o) h h' where
  keep := fun b u q _ _ _ => k b u q
  slot := fun b u q _ _ _ => ⟨u.slots, k b u q⟩
  free := fun b u q n _ => by rw [qY (Nat.ne_of_lt (Nat.lt_of_lt_of_le (Heap.lt_size q) hp))]; exact n
  there := fun b u q _ => ⟨u, k b u q⟩
  tups := fun b xs q => by rw [qY (qR q hn)]; exact q
  frzs := fun b u xs q => by rw [qY (qR q hn)]; exact q
  tbls := fun b ps q => ⟨#[], by rw [qY (qR q hn), q]; simp⟩
theorem Un.write (mu : Mut (H x)) (he : e = x ∨ H e = some (.own x)) (k : ∀ b u, b ≠ e → h.get? b = some u → h'.get? b = some u) (heo : ∃ u, h'.get? e = some u) : Un fs ex H (upd H x o) h h' := by
  have hx : ∀ b, H b = none → b ≠ x := fun b n z => by subst z; rw [n] at mu; exact mu
  have hb : ∀ b, H b = none → b ≠ e := fun b n z => by
    subst z
    rcases he with r | r
    · exact hx b n r
    · rw [n] at r; cases r
  have hm : ∀ b u, H b = some u → ¬ Mut (some u) → b ≠ x := fun b u q nm z => by subst z; rw [q] at mu; exact nm mu
  refine ⟨fun b u q n _ _ => k b u (hb b n) q, fun b u q n _ _ => ⟨u.slots, k b u (hb b n) q⟩, fun b u q n _ => by rw [qY (hx b n)]; exact n, fun b u q _ => ?_,
    fun b xs q => by rw [qY (hm b _ q fun z => z)]; exact q, fun b u xs q => by rw [qY (hm b _ q fun z => z)]; exact q, fun b ps q => ⟨#[], by rw [qY (hm b _ q fun z => z), q]; simp⟩⟩
  by_cases hbe : b = e
  · subst hbe; exact heo
  · exact ⟨u, k b u hbe q⟩
theorem Un.mono (u : Un fs ex H H1 h h1) (hs : ∀ b ∈ fs, b ∈ fs') (hx : ∀ b ∈ ex, b ∈ ex') : Un fs' ex' H H1 h h1 :=
  ⟨fun b ob q n hb he => u.keep b ob q n (fun z => hb (hs b z)) fun z => he (hx b z), fun _ _ q n _ he => u.any q n fun z => he (hx _ z), fun b ob q n he => u.free b ob q n fun z => he (hx b z), fun b ob q he => u.there b ob q fun z => he (hx b z), u.tups, u.frzs, u.tbls⟩
end
def trk (h : Heap) (H : Hp) : List Addr := (List.range h.objs.size).filter fun a => (H a).isSome
def qJg (h : Heap) (H : Hp) : Heap := PySem.W.hideAll h (trk h H)
theorem qH5 (h : Heap) (H : Hp) : (qJg h H).objs.size = h.objs.size := PySem.W.hideAll_size _ _
theorem qIu {h : Heap} {H : Hp} {b : Addr} {o : Obj} (e : h.get? b = some o) (n : H b = none) : (qJg h H).get? b = some o :=
  PySem.W.hideAll_get _ e fun hm => by
    have q : (H b).isSome = true := (List.mem_filter.mp hm).2
    rw [n] at q; simp at q
theorem qKr {h : Heap} {H : Hp} {b : Addr} {o : Obj} (e : (qJg h H).get? b = some o) : h.get? b = some o ∧ H b = none := by
  have e' : h.get? b = some o := PySem.W.of_hideAll (trk h H) e
  refine ⟨e', ?_⟩
  cases q : H b with
  | none => rfl
  | some x =>
    have hm : b ∈ trk h H := List.mem_filter.mpr ⟨List.mem_range.mpr (Heap.lt_size e'), by simp [q]⟩
    have z : (qJg h H).get? b = none := PySem.W.hideAll_none (trk h H) hm
    rw [z] at e; cases e
def qKl (g h : Heap) (L : Addr) : List (Addr × Obj) := (List.range h.objs.size).filterMap fun a => if a = L ∨ (g.get? a).isSome = true then none else (h.get? a).map fun o => (a, o)
def rest (g h : Heap) (L d : Addr) : List (Addr × Obj) := (qKl g h L).filter fun p => decide (p.1 ≠ d)
end L2
namespace L2
open PySem PySem.Spec PyProof.Rows
structure Mod (K : PySem.W.Frag) (mg : Str → Option Value) (base : Heap) : Prop where
  kin : K.In base
  glob : base.Ns mainGlobals mg
  blt : ∃ mb, base.Ns builtinsNs mb ∧ ∀ x : Str, x ≠ "__name__" → mb x = bootBuiltins x
  nolimit : base.NoLimit
structure Cx where
  prog : Program
  w : World
  K : PySem.W.Frag
  mg : Str → Option Value
  base : Heap
  A : Around
  N : List Str
  s₀ : Shared
  H₀ : Hp
  env : Env
  outer : List Env
  stack : List Env
  ex : List Addr
  fn : Str → Bool
  calm : Bool
  pn : List (Addr × Obj)
  xe : Value → Shared → Prop
def frs (l : List Env) : List Addr := l.filterMap (·.frame)
abbrev Cx.fs (X : Cx) : List Addr := frs X.outer
def Vis (sc : Scope) (x : Str) : Prop := sc.names.lookup x = some .local ∨ sc.names.lookup x = some .cell ∨ sc.names.lookup x = some .free
def Loc (sc : Scope) (x : Str) : Prop := sc.names.lookup x = some .local ∨ sc.names.lookup x = some .cell
def qO5 (env : Env) (h : Heap) (m : Str → Option Value) (x : Str) (u : Value) : Prop :=
  (env.kindOf x = some .local ∧ m x = some u) ∨ ((env.kindOf x = some .cell ∨ env.kindOf x = some .free) ∧ ∃ c, env.cells.lookup x = some c ∧ h.IsCell c (some u))
structure Cx.Ok (X : Cx) : Prop where
  mod : Mod X.K X.mg X.base
  kind : X.env.scope.kind = .function
  glob : X.env.globals = mainGlobals
  blt : X.env.builtins = builtinsNs
  above : X.s₀.heap.objs.size ≤ X.env.locals
  inj : ∀ x y c, X.env.cells.lookup x = some c → X.env.cells.lookup y = some c → x = y
  has : ∀ x, (X.env.kindOf x = some .cell ∨ X.env.kindOf x = some .free) → ∃ c, X.env.cells.lookup x = some c
  cab : ∀ x c, X.fn x = true → X.env.cells.lookup x = some c → X.s₀.heap.objs.size ≤ c
  hd : X.calm = true → X.A.handled = none
  frames : X.A.frames = some X.stack
  stk : X.stack = X.outer ∨ (X.stack = X.env :: X.outer ∧ X.env.frame = some X.env.locals)
  exf : ∀ b ∈ X.ex, b ≠ X.env.locals ∧ ∀ x c, X.env.cells.lookup x = some c → c ≠ b
  bs : ∀ b o, X.base.get? b = some o → X.s₀.heap.get? b = some o ∧ X.H₀ b = none
  bsz : X.base.objs.size ≤ X.s₀.heap.objs.size
  noex : ∀ b o, X.base.get? b = some o → b ∉ X.ex
  exfs : ∀ b ∈ X.ex, b ∉ X.fs
  funs : X.s₀.heap.FunFrames X.base X.outer
  frf : ∀ b ∈ X.fs, X.H₀ b = none
structure Inv (X : Cx) (pins : List (Addr × Obj)) (σ : List (Option V)) (H : Hp) (s : Shared) : Prop where
  ok : X.Ok
  os : s.os = X.s₀.os
  bare : AllBare s.gens
  base : Un X.fs X.ex X.H₀ H X.s₀.heap s.heap
  loc : ∃ m, s.heap.Ns X.env.locals m ∧ ∀ (i : Nat) (x : Str) (v : V), X.N[i]? = some x → σ[i]? = some (some v) → Vis X.env.scope x → ∃ u, RelV v u ∧ qO5 X.env s.heap m x u
  cell : ∀ x c, X.env.cells.lookup x = some c → ∃ v, s.heap.IsCell c v
  free : H X.env.locals = none
  freeC : ∀ x c, X.env.cells.lookup x = some c → H c = none
  pin : ∀ p ∈ X.pn ++ pins, s.heap.get? p.1 = some p.2 ∧ H p.1 = none ∧ p.1 ≠ X.env.locals ∧ p.1 ∉ X.fs ∧ ∀ v, p.2.data ≠ .cell v
  hok : HOk X.prog X.w H s.heap
  len : σ.length = X.N.length
section
variable {X : Cx} {pins : List (Addr × Obj)} {σ : List (Option V)} {H H' : Hp} {s : Shared} {h' : Heap}
theorem Cx.Ok.nofr (ok : X.Ok) {b : Addr} {o : Obj} (e : X.base.get? b = some o) : b ∉ X.fs := fun hb => by
  have := (ok.funs.mem hb).1
  rw [e] at this; cases this
theorem Inv.bs (I : Inv X pins σ H s) : ∀ b o, X.base.get? b = some o → s.heap.get? b = some o ∧ H b = none := fun b o e =>
  ⟨I.base.keep b o (I.ok.bs b o e).1 (I.ok.bs b o e).2 (I.ok.nofr e) (I.ok.noex b o e), I.base.free b o (I.ok.bs b o e).1 (I.ok.bs b o e).2 (I.ok.noex b o e)⟩
theorem Inv.bk (I : Inv X pins σ H s) : ∀ b o, X.base.get? b = some o → s.heap.get? b = some o := fun b o e => (I.bs b o e).1
theorem Inv.mod (I : Inv X pins σ H s) : Mod X.K X.mg X.base := I.ok.mod
theorem Inv.kIn (I : Inv X pins σ H s) : X.K.In s.heap := I.ok.mod.kin.keeps I.bk
theorem Inv.nolimit (I : Inv X pins σ H s) : s.heap.NoLimit := I.ok.mod.nolimit.keeps I.bk
theorem Inv.fr (I : Inv X pins σ H s) : ∃ m, Fr X.base X.env.locals s.heap m :=
  let ⟨m, hn, _⟩ := I.loc
  ⟨m, hn, I.bk, Nat.le_trans I.ok.bsz I.ok.above⟩
theorem Inv.lt (I : Inv X pins σ H s) : X.env.locals < s.heap.objs.size := let ⟨_, hn, _⟩ := I.loc; hn.lt
theorem Inv.sz (I : Inv X pins σ H s) : X.s₀.heap.objs.size ≤ s.heap.objs.size := Nat.le_trans I.ok.above (Nat.le_of_lt I.lt)
theorem Inv.nofs (I : Inv X pins σ H s) {a : Addr} (h : s.heap.objs.size ≤ a) : a ∉ X.fs := fun hb => by
  obtain ⟨_, o, ho, _⟩ := I.ok.funs.mem hb
  exact absurd (Nat.lt_of_lt_of_le (Heap.lt_size ho) (Nat.le_trans I.sz h)) (Nat.lt_irrefl _)
theorem Inv.cne (I : Inv X pins σ H s) : ∀ x c, X.env.cells.lookup x = some c → c ≠ X.env.locals := fun x c e z => by
  obtain ⟨v, o, ho, hd⟩ := I.cell x c e
  obtain ⟨m, ⟨o', es, ep, ho', hd', _⟩, _⟩ := I.loc
  rw [z, ho'] at ho; cases ho; rw [hd'] at hd; cases hd
theorem Inv.funs (I : Inv X pins σ H s) : s.heap.FunFrames X.base X.outer := by
  have all : ∀ (l : List Env), (∀ b ∈ frs l, b ∈ X.fs) → X.s₀.heap.FunFrames X.base l → s.heap.FunFrames X.base l := by
    intro l
    induction l with
    | nil => intro _ _; trivial
    | cons env r ih =>
      intro hs hl
      obtain ⟨hk, ⟨L, o, hf, hn, ho, hd⟩, hr⟩ := hl
      have hL : L ∈ X.fs := hs L (by unfold frs; rw [List.filterMap_cons, hf]; exact List.mem_cons_self)
      obtain ⟨sl, e⟩ := I.base.slot L o ho (I.ok.frf L hL) hL fun z => I.ok.exfs L z hL
      exact ⟨hk, ⟨L, _, hf, hn, e, hd⟩, ih (fun b hb => hs b (by unfold frs; rw [List.filterMap_cons, hf]; exact List.mem_cons_of_mem _ hb)) hr⟩
  exact all X.outer (fun _ hb => hb) I.ok.funs
theorem Inv.stack (I : Inv X pins σ H s) : s.heap.FunFrames X.base X.stack := by
  rcases I.ok.stk with e | ⟨e, hf⟩
  · rw [e]; exact I.funs
  · rw [e]
    obtain ⟨m, hn, _⟩ := I.loc
    refine .cons (by rw [I.ok.kind]; decide) hf hn ?_ I.funs
    exact Heap.get?_none_of_le (Nat.le_trans I.ok.bsz I.ok.above)
theorem Inv.stkSub (I : Inv X pins σ H s) : ∀ b ∈ frs X.stack, b ∈ X.env.locals :: X.fs := fun b hb => by
  rcases I.ok.stk with e | ⟨e, hf⟩
  · rw [e] at hb; exact List.mem_cons_of_mem _ hb
  · rw [e] at hb
    unfold frs at hb
    rw [List.filterMap_cons, hf] at hb
    exact hb
theorem Inv.stkFree (I : Inv X pins σ H s) : ∀ b ∈ frs X.stack, H b = none := fun b hb => by
  rcases List.mem_cons.mp (I.stkSub b hb) with e | hb
  · rw [e]; exact I.free
  · obtain ⟨_, o, ho, _⟩ := I.ok.funs.mem hb
    exact I.base.free b o ho (I.ok.frf b hb) fun z => I.ok.exfs b z hb
theorem Inv.step {g' : Array GenState} {t' : Nat} {d' : Drawn} {ch : List Addr} (I : Inv X pins σ H s)
    (hch : ∀ b ∈ ch, (b ∈ X.ex ∨ X.s₀.heap.objs.size ≤ b) ∧ b ≠ X.env.locals ∧ (∀ x c, X.env.cells.lookup x = some c → c ≠ b) ∧ ∀ p ∈ X.pn ++ pins, p.1 ≠ b)
    (keep : ∀ b o, b ≠ X.env.locals → b ∉ X.fs → b ∉ ch → s.heap.get? b = some o → H b = none → h'.get? b = some o)
    (slot : ∀ b o, b ≠ X.env.locals → b ∈ X.fs → b ∉ ch → s.heap.get? b = some o → H b = none → ∃ sl, h'.get? b = some { o with slots := sl }) (free : ∀ b o, b ∉ ch → s.heap.get? b = some o → H b = none → H' b = none)
    (there : ∀ b o, b ∉ ch → s.heap.get? b = some o → ∃ o', h'.get? b = some o')
    (tups : ∀ b xs, H b = some (.tup xs) → H' b = some (.tup xs)) (frzs : ∀ b o u, H b = some (.frz o u) → H' b = some (.frz o u)) (tbls : ∀ b ps, H b = some (.tbl ps) → ∃ more, H' b = some (.tbl (ps ++ more)))
    (ns : ∀ m, s.heap.Ns X.env.locals m → h'.Ns X.env.locals m) (hok : HOk X.prog X.w H' h') (hg : AllBare g') :
    Inv X pins σ H' { s with heap := h', gens := g', drawn := d', toks := t' } := by
  have neL : ∀ b o, X.s₀.heap.get? b = some o → b ≠ X.env.locals := fun b o e => Nat.ne_of_lt (Nat.lt_of_lt_of_le (Heap.lt_size e) I.ok.above)
  have neC : ∀ b o, X.s₀.heap.get? b = some o → b ∉ X.ex → b ∉ ch := fun b o e hx hb => by
    rcases (hch b hb).1 with z | z
    · exact hx z
    · exact absurd (Nat.lt_of_lt_of_le (Heap.lt_size e) z) (Nat.lt_irrefl _)
  have cellK : ∀ x c, X.env.cells.lookup x = some c → ∀ v, s.heap.IsCell c v → h'.IsCell c v := fun x c e v ⟨o, ho, hd⟩ => by
    have nch : c ∉ ch := fun z => (hch c z).2.2.1 x c e rfl
    by_cases hc : c ∈ X.fs
    · obtain ⟨sl, q⟩ := slot c o (I.cne x c e) hc nch ho (I.freeC x c e)
      exact ⟨_, q, hd⟩
    · exact ⟨o, keep c o (I.cne x c e) hc nch ho (I.freeC x c e), hd⟩
  refine ⟨I.ok, I.os, hg, ⟨fun b o e n hb hx => ?_, fun b o e n hb hx => ?_, fun b o e n hx => ?_, fun b o e hx => ?_, fun b xs e => tups b xs (I.base.tups b xs e), fun b o xs e => frzs b o xs (I.base.frzs b o xs e), fun b ps e => ?_⟩, ?_, fun x c e => ?_, ?_, fun x c e => ?_, fun p hp => ?_, hok, I.len⟩
  · exact keep b o (neL b o e) hb (neC b o e hx) (I.base.keep b o e n hb hx) (I.base.free b o e n hx)
  · obtain ⟨sl, e1⟩ := I.base.slot b o e n hb hx
    obtain ⟨sl', e2⟩ := slot b _ (neL b o e) hb (neC b o e hx) e1 (I.base.free b o e n hx)
    exact ⟨sl', e2⟩
  · obtain ⟨o', e1⟩ := I.base.there b o e hx
    exact free b o' (neC b o e hx) e1 (I.base.free b o e n hx)
  · obtain ⟨o', e1⟩ := I.base.there b o e hx
    exact there b o' (neC b o e hx) e1
  · obtain ⟨m1, e1⟩ := I.base.tbls b ps e
    obtain ⟨m2, e2⟩ := tbls b _ e1
    exact ⟨m1 ++ m2, by rw [e2, Array.append_assoc]⟩
  · obtain ⟨m, hn, hl⟩ := I.loc
    refine ⟨m, ns m hn, fun i x v e1 e2 e3 => ?_⟩
    obtain ⟨u, r, l⟩ := hl i x v e1 e2 e3
    refine ⟨u, r, ?_⟩
    rcases l with l | ⟨k, c, e, z⟩
    · exact .inl l
    · exact .inr ⟨k, c, e, cellK x c e _ z⟩
  · obtain ⟨v, z⟩ := I.cell x c e
    exact ⟨v, cellK x c e v z⟩
  · obtain ⟨m, ⟨o, _, _, ho, _⟩, _⟩ := I.loc
    exact free _ o (fun z => (hch _ z).2.1 rfl) ho I.free
  · obtain ⟨v, o, ho, hd⟩ := I.cell x c e
    exact free c o (fun z => (hch c z).2.2.1 x c e rfl) ho (I.freeC x c e)
  · obtain ⟨e, n, ne, nf, d⟩ := I.pin p hp
    have nch : p.1 ∉ ch := fun z => (hch p.1 z).2.2.2 p hp rfl
    exact ⟨keep p.1 p.2 ne nf nch e n, free p.1 p.2 nch e n, ne, nf, d⟩
theorem Inv.un {t' : Nat} (I : Inv X pins σ H s) (u : Un X.fs [] H H' s.heap h') (hok : HOk X.prog X.w H' h') : Inv X pins σ H' { s with heap := h', toks := t' } := by
  obtain ⟨m, ⟨o, es, ep, ho, r⟩, _⟩ := id I.loc
  obtain ⟨sl, hL⟩ := u.any ho I.free (by simp)
  exact I.step (g' := s.gens) (d' := s.drawn) (ch := []) (fun _ z => nomatch z) (fun b o _ hb _ e n => u.keep b o e n hb (by simp)) (fun b o _ hb _ e n => u.slot b o e n hb (by simp)) (fun b o _ e n => u.free b o e n (by simp)) (fun b o _ e => u.there b o e (by simp)) u.tups u.frzs u.tbls (fun m' hm => by
    obtain ⟨o', es', ep', ho', r'⟩ := hm
    rw [ho] at ho'; cases ho'
    exact ⟨_, es', ep', hL, r'⟩) hok I.bare
theorem Inv.call {g' : Array GenState} {t' : Nat} {d' : Drawn} {ch : List Addr} (I : Inv X pins σ H s) (u : Un (frs X.stack) ch H H' s.heap h') (hok : HOk X.prog X.w H' h') (hg : AllBare g')
    (hch : ∀ b ∈ ch, (b ∈ X.ex ∨ X.s₀.heap.objs.size ≤ b) ∧ b ≠ X.env.locals ∧ (∀ x c, X.env.cells.lookup x = some c → c ≠ b) ∧ ∀ p ∈ X.pn ++ pins, p.1 ≠ b) :
    Inv X pins σ H' { s with heap := h', gens := g', drawn := d', toks := t' } := by
  obtain ⟨m, ⟨o, es, ep, ho, r⟩, _⟩ := id I.loc
  obtain ⟨sl, hL⟩ := u.any ho I.free fun z => (hch _ z).2.1 rfl
  exact I.step (ch := ch) hch (fun b o hL hb hc e n => u.keep b o e n (fun z => (List.mem_cons.mp (I.stkSub b z)).elim hL hb) hc) (fun b o _ _ hc e n => u.any e n hc) (fun b o hc e n => u.free b o e n hc) (fun b o hc e => u.there b o e hc) u.tups u.frzs u.tbls (fun m' hm => by
    obtain ⟨o', es', ep', ho', r'⟩ := hm
    rw [ho] at ho'; cases ho'
    exact ⟨_, es', ep', hL, r'⟩) hok hg
theorem Inv.turned {t' : Nat} {it : Addr} (I : Inv X pins σ H s) (k : ∀ b o, b ≠ it → s.heap.get? b = some o → h'.get? b = some o) (hn : H it = none) (hL : it ≠ X.env.locals)
    (h1 : it ∈ X.ex ∨ X.s₀.heap.objs.size ≤ it) (h2 : ∀ x c, X.env.cells.lookup x = some c → c ≠ it) (h3 : ∀ p ∈ X.pn ++ pins, p.1 ≠ it) : Inv X pins σ H { s with heap := h', toks := t' } := by
  have nit : ∀ b u, H b = some u → b ≠ it := fun b u e z => by rw [z, hn] at e; cases e
  refine I.step (g' := s.gens) (d' := s.drawn) (ch := [it]) (fun b hb => ?_) (fun b o _ _ hc e _ => k b o (fun z => hc (by simp [z])) e) (fun b o _ _ hc e _ => ⟨o.slots, k b o (fun z => hc (by simp [z])) e⟩) (fun _ _ _ _ n => n)
    (fun b o hc e => ⟨o, k b o (fun z => hc (by simp [z])) e⟩) (fun _ _ e => e) (fun _ _ _ e => e) (fun b ps e => ⟨#[], by rw [e]; simp⟩) (fun m hm => ?_) (fun b u e => ?_) I.bare
  · have e : b = it := by simpa using hb
    subst e
    exact ⟨h1, hL, h2, h3⟩
  · obtain ⟨o, es, ep, ho, r⟩ := hm
    exact ⟨o, es, ep, k _ o (Ne.symm hL) ho, r⟩
  · refine (I.hok b u e).stay (fun c v hc q => k c v ?_ q) (fun _ q => q) fun _ _ q => q
    rcases hc with z | z
    · rw [z]; exact nit b u e
    · exact nit c _ z
theorem Inv.tok (I : Inv X pins σ H s) (t : Nat) : Inv X pins σ H { s with toks := t } := I.un (h' := s.heap) (t' := t) Un.refl I.hok
theorem Inv.kept {t' : Nat} (I : Inv X pins σ H s) (k : ∀ b u, s.heap.get? b = some u → h'.get? b = some u) : Inv X pins σ H { s with heap := h', toks := t' } := I.un (Un.kept k) (I.hok.kept k)
theorem Inv.laid {a : Addr} {o : HO} {t' : Nat} (I : Inv X pins σ H s) (k : ∀ b u, s.heap.get? b = some u → h'.get? b = some u) (hp : s.heap.objs.size ≤ a) (new : ObjOk X.prog X.w (upd H a o) h' a o) :
    Inv X pins σ (upd H a o) { s with heap := h', toks := t' } := I.un (Un.laid k hp (I.hok.fresh hp)) (I.hok.laid k hp new)
theorem Inv.write {x e : Addr} {o : HO} {t' : Nat} (I : Inv X pins σ H s) (mu : Mut (H x)) (he : e = x ∨ H e = some (.own x)) (k : ∀ b u, b ≠ e → s.heap.get? b = some u → h'.get? b = some u) (heo : ∃ u, h'.get? e = some u)
    (new : ObjOk X.prog X.w (upd H x o) h' x o) : Inv X pins σ (upd H x o) { s with heap := h', toks := t' } := I.un (Un.write mu he k heo) (I.hok.write mu he k heo new)
theorem Inv.weak {σ' : List (Option V)} (I : Inv X pins σ H s) (hl : σ'.length = σ.length) (w : ∀ (i : Nat) v, σ'[i]? = some (some v) → σ[i]? = some (some v)) : Inv X pins σ' H s :=
  ⟨I.ok, I.os, I.bare, I.base, let ⟨m, hn, hl'⟩ := I.loc; ⟨m, hn, fun i x v e1 e2 e3 => hl' i x v e1 (w i v e2) e3⟩, I.cell, I.free, I.freeC, I.pin, I.hok, hl.trans I.len⟩
theorem Inv.pins_of {pins' : List (Addr × Obj)} (I : Inv X pins σ H s) (h : ∀ p ∈ pins', s.heap.get? p.1 = some p.2 ∧ H p.1 = none ∧ p.1 ≠ X.env.locals ∧ p.1 ∉ X.fs ∧ ∀ v, p.2.data ≠ .cell v) : Inv X pins' σ H s :=
  ⟨I.ok, I.os, I.bare, I.base, I.loc, I.cell, I.free, I.freeC, fun p hp => (List.mem_append.mp hp).elim (fun z => I.pin p (List.mem_append_left _ z)) (h p), I.hok, I.len⟩
theorem qBv {N : List Str} (hN : N.Nodup) {i j : Nat} {x : Str} (a : N[i]? = some x) (b : N[j]? = some x) : i = j := by
  obtain ⟨h1, e1⟩ := List.getElem?_eq_some_iff.mp a
  obtain ⟨h2, e2⟩ := List.getElem?_eq_some_iff.mp b
  exact (List.getElem_inj hN).mp (e1.trans e2.symm)
theorem qCu {M : Model} {A : Around} {E : Value → Shared → Prop} {i : Nat} {x : Str} {v : V} {u : Value} {Q : Unit → Shared → Prop} (I : Inv X pins σ H s) (hN : X.N.Nodup) (hi : X.N[i]? = some x) (hx : Loc X.env.scope x) (r : RelV v u)
    (h : ∀ s', Inv X pins (σ.set i (some v)) H s' → (∃ a, Heap.SameBut a s.heap s'.heap ∧ (a = X.env.locals ∨ X.env.cells.lookup x = some a)) → Q () s') (hf : X.fn x = true ∨ X.env.scope.names.lookup x = some .local := by first | exact .inl rfl | exact .inr rfl | assumption) : wpAny M A (storeName X.env x u) Q E s := by
  obtain ⟨m, hn, hl⟩ := id I.loc
  have hcls : (X.env.scope.kind == .class || (X.env.scope.kind == .module && X.env.locals != X.env.globals)) = false := by rw [I.ok.kind]; rfl
  have hiσ : i < σ.length := by rw [I.len]; exact (List.getElem?_eq_some_iff.mp hi).1
  have cne := I.cne
  have tracked : ∀ {a : Addr} {h' : Heap}, (∃ o, s.heap.get? a = some o ∧ H a = none) → Heap.SameBut a s.heap h' → HOk X.prog X.w H h' := fun {a h'} ha hs b ob e => by
    obtain ⟨_, _, hfree⟩ := ha
    refine (I.hok b ob e).stay (fun c w' hc q => (hs.2 c ?_).trans q) (fun _ q => q) fun _ _ q => q
    rintro rfl
    rcases hc with rfl | hc
    · rw [hfree] at e; cases e
    · rw [hfree] at hc; cases hc
  rcases hx with hk | hk
  · refine wpAny_storeName_local hk hn (fun h' hn' hs => ?_) hcls
    obtain ⟨oL, _, _, hoL, _⟩ := id hn
    refine h _ ⟨I.ok, I.os, I.bare, ⟨fun b o e n hb hx => ?_, fun b o e n hb hx => ?_, I.base.free, fun b o e hx => ?_, I.base.tups, I.base.frzs, I.base.tbls⟩, ⟨_, hn', fun j y v' e1 e2 e3 => ?_⟩, fun y c e => ?_, I.free, I.freeC, fun p hp => ?_, tracked ⟨oL, hoL, I.free⟩ hs, by simpa using I.len⟩ ⟨_, hs, .inl rfl⟩
    · exact (hs.2 b (Nat.ne_of_lt (Nat.lt_of_lt_of_le (Heap.lt_size e) I.ok.above))).trans (I.base.keep b o e n hb hx)
    · obtain ⟨sl, e1⟩ := I.base.slot b o e n hb hx
      exact ⟨sl, (hs.2 b (Nat.ne_of_lt (Nat.lt_of_lt_of_le (Heap.lt_size e) I.ok.above))).trans e1⟩
    · obtain ⟨o', e1⟩ := I.base.there b o e hx
      exact ⟨o', (hs.2 b (Nat.ne_of_lt (Nat.lt_of_lt_of_le (Heap.lt_size e) I.ok.above))).trans e1⟩
    · by_cases hj : j = i
      · subst hj
        rw [hi] at e1; cases e1
        rw [List.getElem?_set_self hiσ] at e2
        cases e2
        exact ⟨u, r, .inl ⟨hk, by simp⟩⟩
      · rw [List.getElem?_set_ne (Ne.symm hj)] at e2
        obtain ⟨u', r', q⟩ := hl j y v' e1 e2 e3
        refine ⟨u', r', ?_⟩
        rcases q with ⟨k, e⟩ | ⟨k, c, e, z⟩
        · refine .inl ⟨k, ?_⟩
          have : y ≠ x := fun e => hj (qBv hN e1 (e ▸ hi))
          simp [this, e]
        · exact .inr ⟨k, c, e, z.sameBut hs (cne y c e)⟩
    · obtain ⟨w', z⟩ := I.cell y c e
      exact ⟨w', z.sameBut hs (cne y c e)⟩
    · obtain ⟨e, n, ne, nf, d⟩ := I.pin p hp
      exact ⟨(hs.2 p.1 ne).trans e, n, ne, nf, d⟩
  · have hfn : X.fn x = true := by
      rcases hf with z | z
      · exact z
      · rw [z] at hk; cases hk
    obtain ⟨c, hc⟩ := I.ok.has x (.inl hk)
    obtain ⟨w', z⟩ := I.cell x c hc
    refine wpAny_storeName_cell I.ok.kind hk hc z (fun h' hc' hs => ?_)
    obtain ⟨oc, hoc, hocd⟩ := id z
    refine h { s with heap := h' } ⟨I.ok, I.os, I.bare, ⟨fun b o e n hb hx => ?_, fun b o e n hb hx => ?_, I.base.free, fun b o e hx => ?_, I.base.tups, I.base.frzs, I.base.tbls⟩, ⟨m, hn.sameBut hs (Ne.symm (cne x c hc)), fun j y v' e1 e2 e3 => ?_⟩, fun y c' e => ?_, I.free, I.freeC, fun p hp => ?_, tracked ⟨oc, hoc, I.freeC x c hc⟩ hs, by simpa using I.len⟩ ⟨c, hs, .inr hc⟩
    · exact (hs.2 b (Nat.ne_of_lt (Nat.lt_of_lt_of_le (Heap.lt_size e) (I.ok.cab x c hfn hc)))).trans (I.base.keep b o e n hb hx)
    · obtain ⟨sl, e1⟩ := I.base.slot b o e n hb hx
      exact ⟨sl, (hs.2 b (Nat.ne_of_lt (Nat.lt_of_lt_of_le (Heap.lt_size e) (I.ok.cab x c hfn hc)))).trans e1⟩
    · obtain ⟨o', e1⟩ := I.base.there b o e hx
      exact ⟨o', (hs.2 b (Nat.ne_of_lt (Nat.lt_of_lt_of_le (Heap.lt_size e) (I.ok.cab x c hfn hc)))).trans e1⟩
    · by_cases hj : j = i
      · subst hj
        rw [hi] at e1; cases e1
        rw [List.getElem?_set_self hiσ] at e2
        cases e2
        exact ⟨u, r, .inr ⟨.inl hk, c, hc, hc'⟩⟩
      · rw [List.getElem?_set_ne (Ne.symm hj)] at e2
        obtain ⟨u', r', q⟩ := hl j y v' e1 e2 e3
        refine ⟨u', r', ?_⟩
        rcases q with q | ⟨k, c', e, z'⟩
        · exact .inl q
        · refine .inr ⟨k, c', e, z'.sameBut hs ?_⟩
          rintro rfl
          exact hj (qBv hN e1 (I.ok.inj _ _ _ e hc ▸ hi))
    · by_cases hcc : c' = c
      · subst hcc; exact ⟨_, hc'⟩
      · obtain ⟨w2, z2⟩ := I.cell y c' e
        exact ⟨w2, z2.sameBut hs hcc⟩
    · obtain ⟨e, n, ne, nf, d⟩ := I.pin p hp
      refine ⟨(hs.2 p.1 ?_).trans e, n, ne, nf, d⟩
      intro q
      rw [q, hoc] at e
      have q' : oc = p.2 := Option.some.inj e
      exact d w' (by rw [← q']; exact hocd)
theorem xq {M : Model} {A : Around} {E : Value → Shared → Prop} {i : Nat} {x : Str} {v : V} {u : Value} {Q : Unit → Shared → Prop} (I : Inv X pins σ H s) (hN : X.N.Nodup) (hi : X.N[i]? = some x) (hx : Loc X.env.scope x) (r : RelV v u)
    (h : ∀ s', Inv X pins (σ.set i (some v)) H s' → Q () s') (hf : X.fn x = true ∨ X.env.scope.names.lookup x = some .local := by first | exact .inl rfl | exact .inr rfl | assumption) : wpAny M A (storeName X.env x u) Q E s :=
  qCu I hN hi hx r (fun s' I' _ => h s' I') hf
theorem Inv.call' {s' : Shared} {ch : List Addr} (I : Inv X pins σ H s) (ho : s'.os = s.os) (u : Un (frs X.stack) ch H H' s.heap s'.heap) (hok : HOk X.prog X.w H' s'.heap) (hg : AllBare s'.gens)
    (hch : ∀ b ∈ ch, (b ∈ X.ex ∨ X.s₀.heap.objs.size ≤ b) ∧ b ≠ X.env.locals ∧ (∀ x c, X.env.cells.lookup x = some c → c ≠ b) ∧ ∀ p ∈ X.pn ++ pins, p.1 ≠ b) : Inv X pins σ H' s' := by
  obtain ⟨h', g', d', t', o'⟩ := s'
  have e : o' = s.os := ho
  subst e
  exact I.call (g' := g') (t' := t') (d' := d') u hok hg hch
end
abbrev XK := Value → Option Addr → Hp → Prop
abbrev St := List (Option V)
abbrev VK := V → Hp → Prop
abbrev TE := St → Hp → VK → Prop
abbrev TT := St → Hp → (Bool → Hp → Prop) → Prop
abbrev TA := St → Hp → (List V → Hp → Prop) → Prop
structure qG2 where
  nx : St → Hp → Prop
  rt : VK
  bk : St → Hp → Prop := fun _ _ => False
  ct : St → Hp → Prop := fun _ _ => False
abbrev TS := qG2 → St → Hp → Prop
def EP (X : Cx) (pins : List (Addr × Obj)) (σ : St) (Q : VK) (u : Value) (s' : Shared) : Prop := ∃ v H', Inv X pins σ H' s' ∧ RelV v u ∧ Q v H'
def TP (X : Cx) (pins : List (Addr × Obj)) (σ : St) (Q : Bool → Hp → Prop) (b : Bool) (s' : Shared) : Prop := ∃ H', Inv X pins σ H' s' ∧ Q b H'
def AP (X : Cx) (pins : List (Addr × Obj)) (σ : St) (Q : List V → Hp → Prop) (us : List Value) (s' : Shared) : Prop := ∃ vs H', Inv X pins σ H' s' ∧ Vals vs us ∧ Q vs H'
def SP (X : Cx) (pins : List (Addr × Obj)) (D : qG2) (f : Flow) (s' : Shared) : Prop :=
  match f with
  | .next => ∃ σ' H', Inv X pins σ' H' s' ∧ D.nx σ' H'
  | .brk => ∃ σ' H', Inv X pins σ' H' s' ∧ D.bk σ' H'
  | .cont => ∃ σ' H', Inv X pins σ' H' s' ∧ D.ct σ' H'
  | .ret u => ∃ v σ' H', Inv X pins σ' H' s' ∧ RelV v u ∧ D.rt v H'
def PE (X : Cx) (e : Expr) (t : TE) : Prop :=
  ∀ (pins : List (Addr × Obj)) (s : Shared) (σ : St) (H : Hp) (Q : VK), Inv X pins σ H s → t σ H Q → wpAny (model X.prog X.w) X.A (eval e X.env) (EP X pins σ Q) X.xe s
def PT (X : Cx) (e : Expr) (t : TT) : Prop :=
  ∀ (pins : List (Addr × Obj)) (s : Shared) (σ : St) (H : Hp) (Q : Bool → Hp → Prop), Inv X pins σ H s → t σ H Q → wpAny (model X.prog X.w) X.A (isTrue e X.env (eval e X.env)) (TP X pins σ Q) X.xe s
def PW (X : Cx) (e : Expr) (t : TT) : Prop :=
  ∀ (whole : Sem Value) (pins : List (Addr × Obj)) (s : Shared) (σ : St) (H : Hp) (Q : Bool → Hp → Prop), Inv X pins σ H s → t σ H Q → wpAny (model X.prog X.w) X.A (isTrue e X.env whole) (TP X pins σ Q) X.xe s
theorem PW.pt {X : Cx} {e : Expr} {t : TT} (h : PW X e t) : PT X e t := h _
def PA (X : Cx) (es : List Expr) (t : TA) : Prop :=
  ∀ (pos : Pos) (pins : List (Addr × Obj)) (s : Shared) (σ : St) (H : Hp) (Q : List V → Hp → Prop), Inv X pins σ H s → t σ H Q → wpAny (model X.prog X.w) X.A (spliced (backTo pos (starEach es X.env))) (AP X pins σ Q) X.xe s
def PS (X : Cx) (st : Stmt) (t : TS) : Prop :=
  ∀ (pins : List (Addr × Obj)) (s : Shared) (σ : St) (H : Hp) (D : qG2), Inv X pins σ H s → t D σ H → wpAny (model X.prog X.w) X.A (exec st X.env) (SP X pins D) X.xe s
def PSs (X : Cx) (st : List Stmt) (t : TS) : Prop :=
  ∀ (pins : List (Addr × Obj)) (s : Shared) (σ : St) (H : Hp) (D : qG2), Inv X pins σ H s → t D σ H → wpAny (model X.prog X.w) X.A (execs st X.env) (SP X pins D) X.xe s
theorem thn {α : Type} {t : Sem α} {Q Q' : α → Shared → Prop} {M : Model} {A : Around} {E : Value → Shared → Prop} {s : Shared} (h : wpAny M A t Q E s) (hQ : ∀ a s, Q a s → Q' a s) : wpAny M A t Q' E s := wpAny_mono h hQ fun _ _ x => x
end L2
namespace L2
open PySem PySem.Spec PyProof.Rows
section
variable {X : Cx}
def qN4 (i : Nat) : TE := fun σ H Q => ∃ v, σ[i]? = some (some v) ∧ Q v H
def tC (v : V) : TE := fun _ H Q => Q v H
theorem qLu {i : Nat} {x : Str} {pos : Pos} (hN : X.N[i]? = some x) (hv : Vis X.env.scope x) (hd : (x == ("__debug__" : Str)) = false := by decide) (hcd : (x == ("__classdict__" : Str)) = false := by decide) : PE X (.Name x pos) (qN4 i) := by
  intro pins s σ H Q I h
  obtain ⟨v, e, h⟩ := h
  obtain ⟨m, hn, hl⟩ := I.loc
  obtain ⟨u, r, l⟩ := hl i x v hN e hv
  have fin : EP X pins σ Q u s := ⟨v, H, I, r, h⟩
  rcases l with ⟨hk, hm⟩ | ⟨hk, c, hc, hcell⟩
  · exact wpAny_Name (wpAny_loadName_local I.ok.kind hk hn hm fin) hd
  · rcases hk with hk | hk
    · exact wpAny_Name (wpAny_loadName_cell I.ok.kind hk hc hcell fin) hd
    · exact wpAny_Name (wpAny_loadName_free I.ok.kind hk hc hcell fin hcd) hd
theorem qB {i j pos} : PE X (.Constant (.int i) j pos) (tC (.int i)) := fun _ _ _ H _ I h => wpAny_Constant_int ⟨.int i, H, I.tok _, ⟨_, rfl⟩, h⟩
theorem vc {b j pos} : PE X (.Constant (.bool b) j pos) (tC (.bl b)) := fun _ _ _ H _ I h => Constant_bool ⟨.bl b, H, I, rfl, h⟩
theorem qCo {j pos} : PE X (.Constant .none j pos) (tC .non) := fun _ _ _ H _ I h => Constant_none ⟨.non, H, I, rfl, h⟩
theorem qX {x j pos} : PE X (.Constant (.str x) j pos) (tC (.str x)) := fun _ _ _ H _ I h => Calls.Constant_str ⟨.str x, H, I.tok _, ⟨_, rfl⟩, h⟩
def Gl (X : Cx) (x : Str) : Prop := X.env.kindOf x = some .globalImplicit
theorem kT {E : Value → Shared → Prop} {pins : List (Addr × Obj)} {s : Shared} {σ : St} {H : Hp} {x : Str} {u : Value} {pos : Pos} {Q : Value → Shared → Prop} (I : Inv X pins σ H s) (hg : Gl X x) (hm : X.mg x = some u) (h : Q u s)
    (hd : (x == ("__debug__" : Str)) = false := by decide) : wpAny (model X.prog X.w) X.A (eval (.Name x pos) X.env) Q E s :=
  Calls.Name_function_global I.ok.kind hg (Calls.loadGlobal_global (by rw [I.ok.glob]; exact I.mod.glob.keeps I.bk) hm h) hd
theorem qDk {E : Value → Shared → Prop} {pins : List (Addr × Obj)} {s : Shared} {σ : St} {H : Hp} {x : Str} {u : Value} {pos : Pos} {Q : Value → Shared → Prop} (I : Inv X pins σ H s) (hg : Gl X x) (hm : X.mg x = none) (hv : bootBuiltins x = some u) (h : Q u s)
    (hn : x ≠ "__name__" := by decide) (hd : (x == ("__debug__" : Str)) = false := by decide) : wpAny (model X.prog X.w) X.A (eval (.Name x pos) X.env) Q E s := by
  obtain ⟨mb, h1, h2⟩ := I.mod.blt
  exact Calls.Name_function_global I.ok.kind hg (Calls.loadGlobal_builtin (by rw [I.ok.glob]; exact I.mod.glob.keeps I.bk) hm (by rw [I.ok.blt]; exact h1.keeps I.bk) ((h2 x hn).trans hv) h) hd
theorem xS {x : Str} {v : V} {u : Value} {pos : Pos} (hg : Gl X x) (hm : X.mg x = some u) (r : RelV v u) (hd : (x == ("__debug__" : Str)) = false := by decide) : PE X (.Name x pos) (tC v) :=
  fun _ _ _ H _ I h => kT I hg hm ⟨v, H, I, r, h⟩ hd
theorem qLd {x : Str} {v : V} {u : Value} {pos : Pos} (hg : Gl X x) (hm : X.mg x = none) (hv : bootBuiltins x = some u) (r : RelV v u) (hn : x ≠ "__name__" := by decide) (hd : (x == ("__debug__" : Str)) = false := by decide) : PE X (.Name x pos) (tC v) :=
  fun _ _ _ H _ I h => qDk I hg hm hv ⟨v, H, I, r, h⟩ hn hd
variable {a b : Expr} {ta tb : TE} {pos : Pos}
def PC (X : Cx) (op : CmpOp) (a b : Expr) (t : TE) : Prop :=
  ∀ (pins : List (Addr × Obj)) (s : Shared) (σ : St) (H : Hp) (Q : VK), Inv X pins σ H s → t σ H Q →
    wpAny (model X.prog X.w) X.A (eval a X.env) (fun v s₁ => wpAny (model X.prog X.w) X.A (eval b X.env) (fun u s₂ => wpAny (model X.prog X.w) X.A (compareOp op v u) (EP X pins σ Q) X.xe s₂) X.xe s₁) X.xe s
theorem qFy (b : Expr) {op : CmpOp} (h : op ≠ .In) (h2 : op ≠ .NotIn) : behindInMarks op b = false := by
  have e1 : (op == CmpOp.In) = false := by cases op <;> first | rfl | exact absurd rfl h
  have e2 : (op == CmpOp.NotIn) = false := by cases op <;> first | rfl | exact absurd rfl h2
  cases b <;> simp [behindInMarks, e1, e2]
def qOp (ta : TE) : TE := fun σ H Q => ta σ H fun x H1 => Q (.bl (decide (x = .non))) H1
def qNz (ta : TE) : TE := fun σ H Q => ta σ H fun x H1 => Q (.bl (!decide (x = .non))) H1
theorem RelV.none_iff {x : V} {v : Value} (r : RelV x v) : (v == Value.none) = decide (x = .non) := by
  cases x with
  | non => cases r; rfl
  | bl _ => cases r; rfl
  | int _ => obtain ⟨t, rfl⟩ := r; rfl
  | str _ => obtain ⟨t, rfl⟩ := r; rfl
  | byt _ => obtain ⟨t, rfl⟩ := r; rfl
  | flt _ => obtain ⟨t, rfl⟩ := r; rfl
  | ref _ => cases r; rfl
  | ty _ => cases r; rfl
theorem qFl {j pos'} (ha : PE X a ta) : PC X .Is a (.Constant .none j pos') (qOp ta) := by
  intro pins s σ H Q I h
  refine thn (ha pins s σ H _ I h) fun v s1 ⟨x, H1, I1, r1, q1⟩ => ?_
  exact Constant_none (is_none_gen ⟨.bl _, H1, I1, by rw [r1.none_iff]; rfl, q1⟩)
theorem qJ8 {j pos'} (ha : PE X a ta) : PC X .IsNot a (.Constant .none j pos') (qNz ta) := by
  intro pins s σ H Q I h
  refine thn (ha pins s σ H _ I h) fun v s1 ⟨x, H1, I1, r1, q1⟩ => ?_
  exact Constant_none (isnot_none_gen ⟨.bl _, H1, I1, by rw [r1.none_iff]; rfl, q1⟩)
def tB (t : TE) : TT := fun σ H Q => t σ H fun x H1 => ∃ c, x = .bl c ∧ Q c H1
theorem qLv {op : CmpOp} {t : TE} (h : PC X op a b t) (h1 : behindInMarks op b = false := by first | exact qFy _ (by decide) (by decide) | rfl) : PE X (.Compare a [op] [b] pos) t := fun pins s σ H Q I hw => wpAny_Compare1 (h pins s σ H Q I hw) h1
theorem qD1 {op : CmpOp} {t : TE} (h : PC X op a b t) (h1 : behindInMarks op b = false := by first | exact qFy _ (by decide) (by decide) | rfl) : PT X (.Compare a [op] [b] pos) (tB t) := by
  intro pins s σ H Q I hw
  refine wpAny_isTrue_Compare1 (thn (h pins s σ H _ I hw) fun v s1 h1 => thn h1 fun u s2 h2 => thn h2 fun c s3 ⟨x, H1, I1, r1, q1⟩ => ?_) h1
  obtain ⟨d, rfl, q⟩ := q1
  cases r1
  exact wpAny_truthy_bool ⟨H1, I1, q⟩
theorem jP {e : Expr} {t : TE} (h : PE X e t) (he : ∀ whole, isTrue e X.env whole = (do let v ← whole; standAt e.pos; holding [v] (truthy v)) := by intro _; rfl) : PT X e (tB t) := by
  intro pins s σ H Q I hw
  refine isTrue_plain (thn (h pins s σ H _ I hw) fun v s1 ⟨x, H1, I1, r1, q1⟩ => ?_) (he _)
  obtain ⟨d, rfl, q⟩ := q1
  cases r1
  exact wpAny_truthy_bool ⟨H1, I1, q⟩
variable {tA tB' : TT} {rest : List Expr}
def qOt (t u : TT) : TT := fun σ H Q => t σ H fun c H1 => if c = true then u σ H1 Q else Q false H1
def tOr (t u : TT) : TT := fun σ H Q => t σ H fun c H1 => if c = true then Q true H1 else u σ H1 Q
def qOv (t : TT) : TT := fun σ H Q => t σ H fun c H1 => Q (!c) H1
theorem xl (ha : PT X a tA) : PW X (.BoolOp .And [a] pos) tA := by
  intro wh pins s σ H Q I h
  refine isTrue_and (thn (ha pins s σ H Q I h) fun c s1 e => ?_)
  cases c with
  | true => exact isTrue_and_nil e
  | false => exact e
theorem jc (ha : PT X a tA) : PW X (.BoolOp .Or [a] pos) tA := by
  intro wh pins s σ H Q I h
  refine isTrue_or (thn (ha pins s σ H Q I h) fun c s1 e => ?_)
  cases c with
  | false => exact isTrue_or_nil e
  | true => exact e
theorem zH (ha : PT X a tA) (hb : PW X (.BoolOp .And (b :: rest) pos) tB') : PW X (.BoolOp .And (a :: b :: rest) pos) (qOt tA tB') := by
  intro wh pins s σ H Q I h
  refine isTrue_and (thn (ha pins s σ H _ I h) fun c s1 ⟨H1, I1, q1⟩ => ?_)
  cases c with
  | true => exact hb wh pins s1 σ H1 Q I1 q1
  | false => exact ⟨H1, I1, q1⟩
theorem xh (ha : PT X a tA) (hb : PW X (.BoolOp .Or (b :: rest) pos) tB') : PW X (.BoolOp .Or (a :: b :: rest) pos) (tOr tA tB') := by
  intro wh pins s σ H Q I h
  refine isTrue_or (thn (ha pins s σ H _ I h) fun c s1 ⟨H1, I1, q1⟩ => ?_)
  cases c with
  | true => exact ⟨H1, I1, q1⟩
  | false => exact hb wh pins s1 σ H1 Q I1 q1
theorem jr (ha : PT X a tA) : PT X (.UnaryOp .Not a pos) (qOv tA) := by
  intro pins s σ H Q I h
  exact isTrue_not (ha pins s σ H (fun c H1 => Q (!c) H1) I h)
def qNu (ta tb : TE) : TE := fun σ H Q => ta σ H fun x H1 => ∃ c, x = .bl c ∧ if c = true then tb σ H1 Q else Q (.bl false) H1
def qN6 (ta : TE) : TE := fun σ H Q => ta σ H fun x H1 => ∃ c, x = .bl c ∧ Q (.bl (!c)) H1
theorem vi {op} {t : TE} (h : PE X a t) : PE X (.BoolOp op [a] pos) t := fun pins s σ H Q I hw => BoolOp_one (h pins s σ H Q I hw)
theorem kM (ha : PE X a ta) (hb : PE X (.BoolOp .And (b :: rest) pos) tb) : PE X (.BoolOp .And (a :: b :: rest) pos) (qNu ta tb) := by
  intro pins s σ H Q I h
  refine BoolOp_and (thn (ha pins s σ H _ I h) fun v s1 ⟨x, H1, I1, r1, q1⟩ => ?_)
  obtain ⟨c, rfl, q1⟩ := q1
  cases r1
  refine wpAny_truthy_bool ?_
  cases c with
  | true => exact hb pins s1 σ H1 Q I1 q1
  | false => exact ⟨.bl false, H1, I1, rfl, q1⟩
theorem qJq (ha : PE X a ta) : PE X (.UnaryOp .Not a pos) (qN6 ta) := by
  intro pins s σ H Q I h
  refine UnaryOp_ (thn (ha pins s σ H _ I h) fun v s1 ⟨x, H1, I1, r1, q1⟩ => ?_)
  obtain ⟨c, rfl, q1⟩ := q1
  cases r1
  exact not_of (wpAny_truthy_bool ⟨.bl (!c), H1, I1, rfl, q1⟩)
def tIf (t : TT) (ta tb : TE) : TE := fun σ H Q => t σ H fun c H1 => if c = true then ta σ H1 Q else tb σ H1 Q
theorem wI {c : Expr} (hc : PT X c tA) (ha : PE X a ta) (hb : PE X b tb) : PE X (.IfExp c a b pos) (tIf tA ta tb) := by
  intro pins s σ H Q I h
  refine wpAny_IfExp (thn (hc pins s σ H _ I h) fun d s1 ⟨H1, I1, q1⟩ => ?_)
  cases d with
  | true => exact ha pins s1 σ H1 Q I1 q1
  | false => exact hb pins s1 σ H1 Q I1 q1
end
end L2
namespace L2
open PySem PySem.Spec PyProof.Rows
def SqL (K : PySem.W.Frag) (H : Hp) (a : Addr) (xs : List V) : Prop :=
  Rd H a (.lst xs) ∨
    ∃ (o : Obj) (its : Array Value) (n : Nat), K.lookup a = some o ∧ o.cls = .type "list" ∧ o.dict = none ∧ o.data = .seq its n ∧ its.size ≤ sizeLine ∧ Vals xs its.toList
def SqT (K : PySem.W.Frag) (H : Hp) (a : Addr) (xs : List V) : Prop :=
  Rd H a (.tup xs) ∨
    ∃ (o : Obj) (its : Array Value) (n : Nat), K.lookup a = some o ∧ o.cls = .type "tuple" ∧ o.data = .seq its n ∧ its.size ≤ sizeLine ∧ Vals xs its.toList
def qO3 : Value → Option V
  | .none => some .non
  | .bool b => some (.bl b)
  | .int i _ => some (.int i)
  | .str x _ => some (.str x)
  | .bytes b _ => some (.byt b)
  | .float b _ => some (.flt b)
  | .ref a => some (.ref a)
  | .type n => some (.ty n)
  | _ => none
theorem RelV.abs {x : V} {u : Value} (r : RelV x u) : qO3 u = some x := by
  cases x with
  | non => cases r; rfl
  | bl _ => cases r; rfl
  | int _ => obtain ⟨t, rfl⟩ := r; rfl
  | str _ => obtain ⟨t, rfl⟩ := r; rfl
  | byt _ => obtain ⟨t, rfl⟩ := r; rfl
  | flt _ => obtain ⟨t, rfl⟩ := r; rfl
  | ref _ => cases r; rfl
  | ty _ => cases r; rfl
theorem RelV.inj {x y : V} {u : Value} (r : RelV x u) (q : RelV y u) : x = y := Option.some.inj (r.abs.symm.trans q.abs)
theorem Vals.inj : ∀ {xs ys : List V} {us : List Value}, Vals xs us → Vals ys us → xs = ys
  | _, _, _, .nil, .nil => rfl
  | _, _, _, .cons r t, .cons r' t' => by rw [r.inj r', Vals.inj t t']
section
variable {X : Cx} {pins : List (Addr × Obj)} {σ : St} {H : Hp} {s : Shared} {a : Addr} {xs ys : List V}
theorem SqL.of {K : PySem.W.Frag} (h : H a = some (.lst xs)) : SqL K H a xs := .inl (.inl h)
theorem SqT.of {K : PySem.W.Frag} (h : H a = some (.tup xs)) : SqT K H a xs := .inl (.inl h)
theorem Inv.list (I : Inv X pins σ H s) (h : SqL X.K H a xs) : ∃ its : List Value, Vals xs its ∧ PlainL s.heap a its.toArray ∧ xs.length ≤ sizeLine := by
  rcases h with h | ⟨o, its, n, hk, hc, hd, hs, hz, r⟩
  · obtain ⟨z, its, n, r, e⟩ := h.ok I.hok
    exact ⟨its, r, ⟨_, n, e, rfl, rfl, rfl⟩, z⟩
  · refine ⟨its.toList, r, ⟨o, n, I.kIn a o hk, hc, hd, by simpa using hs⟩, ?_⟩
    have e := r.length
    simp only [Array.length_toList] at e
    omega
theorem Inv.tuple (I : Inv X pins σ H s) (h : SqT X.K H a xs) : ∃ its : List Value, Vals xs its ∧ IsTup s.heap a its.toArray ∧ xs.length ≤ sizeLine := by
  rcases h with h | ⟨o, its, n, hk, hc, hs, hz, r⟩
  · obtain ⟨z, its, r, p⟩ := h.ok I.hok
    exact ⟨its, r, p, z⟩
  · refine ⟨its.toList, r, ⟨o, I.kIn a o hk, hc, n, by simpa using hs⟩, ?_⟩
    have e := r.length
    simp only [Array.length_toList] at e
    omega
theorem Inv.list_inj (I : Inv X pins σ H s) (h : SqL X.K H a xs) (h' : SqL X.K H a ys) : xs = ys := by
  obtain ⟨its, r, ⟨o, n, e, _, _, d⟩, _⟩ := I.list h
  obtain ⟨its', r', ⟨o', n', e', _, _, d'⟩, _⟩ := I.list h'
  rw [e] at e'; cases e'
  rw [d] at d'
  injection d' with d1 _
  have : its = its' := by simpa using congrArg Array.toList d1
  subst this
  exact r.inj r'
theorem Inv.tuple_inj (I : Inv X pins σ H s) (h : SqT X.K H a xs) (h' : SqT X.K H a ys) : xs = ys := by
  obtain ⟨its, r, ⟨o, e, _, n, d⟩, _⟩ := I.tuple h
  obtain ⟨its', r', ⟨o', e', _, n', d'⟩, _⟩ := I.tuple h'
  rw [e] at e'; cases e'
  rw [d] at d'
  injection d' with d1 _
  have : its = its' := by simpa using congrArg Array.toList d1
  subst this
  exact r.inj r'
end
abbrev Cx.wish (X : Cx) (E : Value → Shared → Prop) : Cx := { X with xe := E }
abbrev Cx.nox (X : Cx) : Cx := X.wish fun _ _ => False
theorem Cx.Ok.wish {X : Cx} (ok : X.Ok) (E : Value → Shared → Prop) : (X.wish E).Ok :=
  ⟨ok.mod, ok.kind, ok.glob, ok.blt, ok.above, ok.inj, ok.has, ok.cab, ok.hd, ok.frames, ok.stk, ok.exf, ok.bs, ok.bsz, ok.noex, ok.exfs, ok.funs, ok.frf⟩
theorem Cx.Ok.unwish {X : Cx} {E : Value → Shared → Prop} (ok : (X.wish E).Ok) : X.Ok :=
  ⟨ok.mod, ok.kind, ok.glob, ok.blt, ok.above, ok.inj, ok.has, ok.cab, ok.hd, ok.frames, ok.stk, ok.exf, ok.bs, ok.bsz, ok.noex, ok.exfs, ok.funs, ok.frf⟩
section
variable {X : Cx} {pins : List (Addr × Obj)} {σ : St} {H : Hp} {s : Shared} {E : Value → Shared → Prop}
theorem Inv.wish (I : Inv X pins σ H s) (E : Value → Shared → Prop) : Inv (X.wish E) pins σ H s := ⟨I.ok.wish E, I.os, I.bare, I.base, I.loc, I.cell, I.free, I.freeC, I.pin, I.hok, I.len⟩
theorem Inv.unwish (I : Inv (X.wish E) pins σ H s) : Inv X pins σ H s := ⟨I.ok.unwish, I.os, I.bare, I.base, I.loc, I.cell, I.free, I.freeC, I.pin, I.hok, I.len⟩
theorem SP.unwish {D : qG2} {f : Flow} {s' : Shared} (h : SP (X.wish E) pins D f s') : SP X pins D f s' := by
  cases f with
  | next => obtain ⟨σ', H', I, q⟩ := h; exact ⟨σ', H', I.unwish, q⟩
  | brk => obtain ⟨σ', H', I, q⟩ := h; exact ⟨σ', H', I.unwish, q⟩
  | cont => obtain ⟨σ', H', I, q⟩ := h; exact ⟨σ', H', I.unwish, q⟩
  | ret u => obtain ⟨v, σ', H', I, r, q⟩ := h; exact ⟨v, σ', H', I.unwish, r, q⟩
theorem PE.nox {e : Expr} {t : TE} (h : PE X.nox e t) : PE X e t := fun pins s σ H Q I hw =>
  wpAny_mono (h pins s σ H Q (I.wish _) hw) (fun _ _ ⟨v, H', I', r, q⟩ => ⟨v, H', I'.unwish, r, q⟩) fun _ _ z => False.elim z
theorem PT.nox {e : Expr} {t : TT} (h : PT X.nox e t) : PT X e t := fun pins s σ H Q I hw =>
  wpAny_mono (h pins s σ H Q (I.wish _) hw) (fun _ _ ⟨H', I', q⟩ => ⟨H', I'.unwish, q⟩) fun _ _ z => False.elim z
theorem PSs.nox {st : List Stmt} {t : TS} (h : PSs X.nox st t) : PSs X st t := fun pins s σ H D I hw =>
  wpAny_mono (h pins s σ H D (I.wish _) hw) (fun _ _ q => q.unwish) fun _ _ z => False.elim z
end
section
variable {X : Cx} {st : Stmt} {rest : List Stmt} {t u : TS} {e : Expr} {te : TE} {pos : Pos}
def qNt : TS := fun D σ H => D.nx σ H
def qOc (t u : TS) : TS := fun D σ H => t { D with nx := u D } σ H
theorem qS : PSs X [] qNt := fun _ _ σ H _ I h => wpAny_execs_nil ⟨σ, H, I, h⟩
theorem qF (h1 : PS X st t) (h2 : PSs X rest u) : PSs X (st :: rest) (qOc t u) := by
  intro pins s σ H D I h
  refine wpAny_execs_cons (thn (h1 pins s σ H { D with nx := u D } I h) fun f s1 q => ?_)
  cases f with
  | next =>
    obtain ⟨σ', H', I', q⟩ := q
    exact h2 pins s1 σ' H' D I' q
  | ret v => exact q
  | brk => exact q
  | cont => exact q
theorem qG (h1 : PS X st t) : PSs X [st] t := by
  intro pins s σ H D I h
  refine wpAny_execs_cons (thn (h1 pins s σ H D I h) fun f s1 q => ?_)
  cases f with
  | next => exact wpAny_execs_nil q
  | ret v => exact q
  | brk => exact q
  | cont => exact q
theorem Inv.quiet {pins : List (Addr × Obj)} {σ : St} {H : Hp} {s : Shared} (I : Inv X pins σ H s) : interactive X.env = false := by simp [interactive, I.ok.kind]
def qNx (te : TE) : TS := fun D σ H => te σ H fun _ H1 => D.nx σ H1
theorem jD (he : PE X e te) (hs : swapsWith e none pos.line X.env = pure false := by rfl) : PS X (.Expr e pos) (qNx te) := by
  intro pins s σ H D I h
  exact wpAny_Expr_any (thn (he pins s σ H _ I h) fun v s1 ⟨x, H1, I1, r1, q1⟩ => ⟨σ, H1, I1, q1⟩) I.quiet hs
def qO0 (te : TE) : TS := fun D σ H => te σ H D.rt
theorem qP (he : PE X e te) : PS X (.Return (some e) pos) (qO0 te) := by
  intro pins s σ H D I h
  exact wpAny_Return_some (thn (he pins s σ H _ I h) fun v s1 ⟨x, H1, I1, r1, q1⟩ => ⟨x, σ, H1, I1, r1, q1⟩)
def qO1 (c : TT) (t u : TS) : TS := fun D σ H => c σ H fun b H1 => if b = true then t D σ H1 else u D σ H1
theorem qh {c : Expr} {a b : List Stmt} {tc : TT} (hc : PT X c tc) (ha : PSs X a t) (hb : PSs X b u) : PS X (.If c a b pos) (qO1 tc t u) := by
  intro pins s σ H D I h
  refine wpAny_If (thn (hc pins s σ H _ I h) fun d s1 ⟨H1, I1, q1⟩ => ?_)
  cases d with
  | true => exact ha pins s1 σ H1 D I1 q1
  | false => exact hb pins s1 σ H1 D I1 q1
def qMo : TS := fun _ _ _ => False
theorem zh {sts : List Stmt} : PSs X sts qMo := fun _ _ _ _ _ _ h => h.elim
end
abbrev TG := V → St → Hp → (St → Hp → Prop) → Prop
abbrev TGs := List V → St → Hp → (St → Hp → Prop) → Prop
def PG (X : Cx) (target : Expr) (t : TG) : Prop :=
  ∀ (pins : List (Addr × Obj)) (s : Shared) (σ : St) (H : Hp) (v : V) (u : Value) (Q : St → Hp → Prop), Inv X pins σ H s → RelV v u → t v σ H Q →
    wpAny (model X.prog X.w) X.A (assign target X.env u) (fun _ s' => ∃ σ' H', Inv X pins σ' H' s' ∧ Q σ' H') X.xe s
def PGs (X : Cx) (ts : List Expr) (t : TGs) : Prop :=
  ∀ (pins : List (Addr × Obj)) (s : Shared) (σ : St) (H : Hp) (vs : List V) (us : List Value) (Q : St → Hp → Prop), Inv X pins σ H s → Vals vs us → t vs σ H Q →
    wpAny (model X.prog X.w) X.A (assignInOrder ((assignEach ts X.env).map (·.2)) us) (fun _ s' => ∃ σ' H', Inv X pins σ' H' s' ∧ Q σ' H') X.xe s
abbrev qNg := V → V → V → Hp → (Hp → Prop) → Prop
def qN9 (X : Cx) (t : qNg) : Prop :=
  ∀ (pins : List (Addr × Obj)) (s : Shared) (σ : St) (H : Hp) (o i v : V) (ov iv u : Value) (Q : Hp → Prop), Inv X pins σ H s → RelV o ov → RelV i iv → RelV v u → t o i v H Q →
    wpAny (model X.prog X.w) X.A (setItem ov iv u) (fun _ s' => ∃ H', Inv X pins σ H' s' ∧ Q H') X.xe s
section
variable {X : Cx} {pos : Pos}
def qK9 (i : Nat) : TG := fun v σ H Q => Q (σ.set i (some v)) H
theorem ja {i : Nat} {x : Str} (hN : X.N.Nodup) (hi : X.N[i]? = some x) (hx : Loc X.env.scope x) (hf : X.fn x = true ∨ X.env.scope.names.lookup x = some .local := by first | exact .inl rfl | exact .inr rfl | assumption) : PG X (.Name x pos) (qK9 i) := by
  intro pins s σ H v u Q I r h
  exact wpAny_assign_Name (xq I hN hi hx r (fun s' I' => ⟨_, H, I', h⟩) hf)
def qOi : TGs := fun vs σ H Q => vs = [] ∧ Q σ H
def qM8 (t : TG) (u : TGs) : TGs := fun vs σ H Q => ∃ v r, vs = v :: r ∧ t v σ H fun σ' H' => u r σ' H' Q
theorem qK8 : PGs X [] qOi := by
  intro pins s σ H vs us Q I r h
  obtain ⟨e, h⟩ := h
  subst e
  cases r
  exact assignInOrder_nil ⟨σ, H, I, h⟩
theorem qFv {e : Expr} {es : List Expr} {t : TG} {u : TGs} (h1 : PG X e t) (h2 : PGs X es u)
    (hs : (assignEach (e :: es) X.env).map (·.2) = assign e X.env :: (assignEach es X.env).map (·.2) := by rfl) : PGs X (e :: es) (qM8 t u) := by
  intro pins s σ H vs us Q I r h
  obtain ⟨v, vr, e1, h⟩ := h
  subst e1
  cases r with
  | cons r rr =>
    rw [hs]
    refine assignInOrder_cons (thn (h1 pins s σ H _ _ _ I r h) fun _ s1 ⟨σ1, H1, I1, q1⟩ => ?_)
    exact h2 pins s1 σ1 H1 _ _ Q I1 rr q1
def qOw (K : PySem.W.Frag) (n : Nat) (t : TGs) : TG := fun v σ H Q => ∃ a xs, v = .ref a ∧ SqT K H a xs ∧ xs.length = n ∧ t xs σ H Q
theorem qLp {es : List Expr} {k : Nat} {t : TGs} {n : Nat} (hc : X.calm = true) (h : PGs X es t)
    (hn : (assignEach es X.env).length = n := by rfl) (hst : (assignEach es X.env).findIdx? (·.1) = none := by rfl) : PG X (.Tuple es k pos) (qOw X.K n t) := by
  intro pins s σ H v u Q I r hw
  obtain ⟨a, xs, e1, hq, hl, hw⟩ := hw
  subst e1
  cases r
  obtain ⟨its, rv, ht, hz⟩ := I.tuple hq
  refine assign_Tuple_tuple (I.ok.hd hc) ht (by simp [hn, ← hl, rv.length]) hst fun h' hx => ?_
  have I1 : Inv X pins σ H { s with heap := h' } := I.kept (t' := s.toks) fun b o e => hx b o (Nat.ne_of_lt (Heap.lt_size e)) e
  exact h pins _ σ H xs _ Q I1 (by simpa using rv) hw
def qO7 (to ti : TE) (t : qNg) : TG := fun v σ H Q => to σ H fun o H1 => ti σ H1 fun i H2 => t o i v H2 fun H3 => Q σ H3
theorem qL8 {o i : Expr} {to ti : TE} {t : qNg} (ho : PE X o to) (hi : PE X i ti) (hs : qN9 X t)
    (ha : ∀ v, assign (.Subscript o i pos) X.env v = (do
      let ov ← holding [v] (eval o X.env)
      let iv ← holding [v, ov] (eval i X.env)
      standAt pos
      holding [v, ov, iv] (setItem ov iv v)
      release [v, ov, iv] []) := by intro _; rfl) : PG X (.Subscript o i pos) (qO7 to ti t) := by
  intro pins s σ H v u Q I r h
  rw [ha]
  refine wpAny_bind (wpAny_holding (thn (ho pins s σ H _ I h) fun ov s1 ⟨x, H1, I1, r1, q1⟩ => ?_))
  refine wpAny_bind (wpAny_holding (thn (hi pins s1 σ H1 _ I1 q1) fun iv s2 ⟨y, H2, I2, r2, q2⟩ => ?_))
  refine wpAny_bind (wpAny_standAt (wpAny_bind (wpAny_holding (thn (hs pins s2 σ H2 x y v ov iv u _ I2 r1 r2 r q2) fun _ s3 ⟨H3, I3, q3⟩ => ?_))))
  exact wpAny_release ⟨σ, H3, I3, q3⟩
def qM1 (te : TE) (g : TG) : TS := fun D σ H => te σ H fun x H1 => g x σ H1 D.nx
theorem qLw {tg e : Expr} {te : TE} {g : TG} (he : PE X e te) (hg : PG X tg g) (hs : swapsWithSole [tg] e pos.line X.env = pure false := by rfl) (hw : swappedStores [tg] e X.env = pure none := by rfl)
    (h1 : (assignEach [tg] X.env).map (·.2) = [assign tg X.env] := by rfl) : PS X (.Assign [tg] e pos) (qM1 te g) := by
  intro pins s σ H D I h
  refine wpAny_Assign_stores (thn (he pins s σ H _ I h) fun v s1 ⟨x, H1, I1, r1, q1⟩ => ?_) hs hw
  rw [h1]
  exact thn (hg pins s1 σ H1 x v _ I1 r1 q1) fun _ s2 q => q
theorem qV {i : Nat} {x : Str} {e : Expr} {te : TE} {pos' : Pos} (hN : X.N.Nodup) (hi : X.N[i]? = some x) (hx : Loc X.env.scope x) (he : PE X e te) (hs : swapsWith e (some (.Name x pos')) pos.line X.env = pure false := by rfl) (hf : X.fn x = true ∨ X.env.scope.names.lookup x = some .local := by first | exact .inl rfl | exact .inr rfl | assumption) :
    PS X (.Assign [.Name x pos'] e pos) (qM1 te (qK9 i)) := by
  intro pins s σ H D I h
  refine wpAny_Assign_Name (thn (he pins s σ H _ I h) fun v s1 ⟨y, H1, I1, r1, q1⟩ => ?_) hs
  exact xq I1 hN hi hx r1 (fun s2 I2 => ⟨_, H1, I2, q1⟩) hf
def qOm (i j : Nat) (ta : TA) : TS := fun D σ H => ta σ H fun vs H1 => ∃ v w, vs = [v, w] ∧ D.nx ((σ.set i (some v)).set j (some w)) H1
theorem qMn {i j : Nat} {x y : Str} {a b : Expr} {ta : TA} {px py pt : Pos} {kt k2 pt2} (hc : X.calm = true) (hN : X.N.Nodup) (hi : X.N[i]? = some x) (hj : X.N[j]? = some y) (hij : i ≠ j)
    (hx : X.env.scope.names.lookup x = some .local) (hy : X.env.scope.names.lookup y = some .local) (ha : PA X [a, b] ta)
    (hw : swappedStores [.Tuple [.Name x px, .Name y py] kt pt] (.Tuple [a, b] k2 pt2) X.env = pure (some [x, y]))
    (hs : swapsWithSole [.Tuple [.Name x px, .Name y py] kt pt] (.Tuple [a, b] k2 pt2) pos.line X.env = pure false := by rfl) :
    PS X (.Assign [.Tuple [.Name x px, .Name y py] kt pt] (.Tuple [a, b] k2 pt2) pos) (qOm i j ta) := by
  intro pins s σ H D I h
  rw [exec_Assign_arm]
  refine wpAny_bind (wpAny_standAt ?_)
  rw [hs]
  refine wpAny_bind (wpAny_pure ?_)
  rw [if_neg (by decide)]
  refine wpAny_bind (Tuple_ (thn (ha _ pins s σ H _ I h) fun us s1 ⟨vs, H1, I1, r1, q1⟩ => ?_))
  obtain ⟨v, w, e1, q1⟩ := q1
  subst e1
  obtain ⟨u1, u2, rfl, rv, rw'⟩ : ∃ u1 u2, us = [u1, u2] ∧ RelV v u1 ∧ RelV w u2 := by
    cases r1 with
    | cons p q =>
      cases q with
      | cons p' q' =>
        cases q'
        exact ⟨_, _, rfl, p, p'⟩
  refine wpAny_newObj_type ?_ (by show 2 ≤ sizeLine; decide)
  have I2 : Inv X pins σ H1 { s1 with heap := s1.heap.push { cls := .type "tuple", data := .seq [u1, u2].toArray } } := I1.kept (t' := s1.toks) fun b o e => Heap.get?_push_of_some _ e
  rw [hw]
  refine wpAny_bind (wpAny_pure ?_)
  show wpAny (model X.prog X.w) X.A (do rule "assign.swapped-stores"; let items ← unpackItems (.ref s1.heap.objs.size) 2 none; assignInOrder [fun v => bindName X.env y v, fun v => bindName X.env x v] items.reverse; pure Flow.next) _ _ _
  refine wpAny_bind (wpAny_rule (wpAny_bind (unpackItems_tuple (items := #[u1, u2]) (I.ok.hd hc) (IsTup.new s1.heap _) fun h' hx' => ?_)))
  have I3 := I2.kept (h' := h') (t' := s1.toks) fun b o e => hx' b o (Nat.ne_of_lt (Heap.lt_size e)) e
  show wpAny _ _ (assignInOrder [fun v => bindName X.env y v, fun v => bindName X.env x v] [u2, u1] >>= fun _ => pure Flow.next) _ _ _
  refine wpAny_bind (assignInOrder_cons (wpAny_bindName (xq I3 hN hj (.inl hy) rw' (fun s2 I4 => ?_) (.inr hy))))
  refine assignInOrder_cons (wpAny_bindName (xq I4 hN hi (.inl hx) rv (fun s3 I5 => assignInOrder_nil (wpAny_pure ?_)) (.inr hx)))
  rw [List.set_comm _ _ (Ne.symm hij)] at I5
  exact ⟨_, H1, I5, q1⟩
end
section
variable {X : Cx} {pos : Pos}
def qJ1 (c : TT) (tb : TS) : TS := fun D σ H => ∃ W : Nat → St → Hp → Prop, (∃ m, W m σ H) ∧ ∀ m σ H, W m σ H →
  c σ H fun b H1 => if b = true then ∃ N : St → Hp → Prop, (∀ σ' H', N σ' H' → ∃ m', m' < m ∧ W m' σ' H') ∧ tb { D with nx := N, ct := N, bk := D.nx } σ H1 else D.nx σ H1
theorem qF3 {c : Expr} {body : List Stmt} {tc : TT} {tb : TS} (hp : PassesOwn (model X.prog X.w) X.A X.env X.xe) (hc : PT X c tc) (hb : PSs X body tb) : PS X (.While c body [] pos) (qJ1 tc tb) := by
  intro pins s σ H D I h
  obtain ⟨W, ⟨m0, w0⟩, turn⟩ := h
  refine wpAny_While (codeAny_whileLoop (fun n s' => ∃ σ' H', Inv X pins σ' H' s' ∧ W n σ' H') ?_ m0 ⟨σ, H, I, w0⟩)
  rintro n s1 ⟨σ1, H1, I1, w1⟩
  refine wpAny_passesOwn hp (thn (hc pins s1 σ1 H1 _ I1 (turn n σ1 H1 w1)) fun b s2 ⟨H2, I2, q2⟩ => ?_)
  cases b with
  | true =>
    obtain ⟨N, hN, q2⟩ := q2
    rw [if_pos rfl]
    refine wpAny_passesOwn hp (thn (hb pins s2 σ1 H2 _ I2 q2) fun f s3 q3 => ?_)
    cases f with
    | next =>
      obtain ⟨σ3, H3, I3, n3⟩ := q3
      obtain ⟨m', hm, w3⟩ := hN σ3 H3 n3
      exact ⟨m', hm, σ3, H3, I3, w3⟩
    | cont =>
      obtain ⟨σ3, H3, I3, n3⟩ := q3
      obtain ⟨m', hm, w3⟩ := hN σ3 H3 n3
      exact ⟨m', hm, σ3, H3, I3, w3⟩
    | brk => exact q3
    | ret v => exact q3
  | false =>
    rw [if_neg Bool.false_ne_true]
    exact wpAny_execs_nil ⟨σ1, H2, I2, q2⟩
end
structure It where
  go : Nat → Hp → Prop
  yld : Nat → Hp → V → Hp → Prop
  stop : Nat → Hp → Prop
def qIj (X : Cx) (pins : List (Addr × Obj)) (H : Hp) (b : Addr) : Prop :=
  H b = none ∧ b ≠ X.env.locals ∧ b ∉ X.fs ∧ (b ∈ X.ex ∨ X.s₀.heap.objs.size ≤ b) ∧ (∀ x c, X.env.cells.lookup x = some c → c ≠ b) ∧ ∀ p ∈ X.pn ++ pins, p.1 ≠ b
theorem Inv.fpOk {X : Cx} {pins : List (Addr × Obj)} {σ : St} {H H' : Hp} {s : Shared} {b : Addr} (I : Inv X pins σ H s) (hb : s.heap.objs.size ≤ b) (hn : H' b = none) : qIj X pins H' b := by
  refine ⟨hn, Nat.ne_of_gt (Nat.lt_of_lt_of_le I.lt hb), I.nofs hb, .inr (Nat.le_trans I.sz hb), fun x c e z => ?_, fun p hp z => ?_⟩
  · obtain ⟨v, q⟩ := I.cell x c e
    exact absurd (Nat.lt_of_lt_of_le q.lt (by rw [z]; exact hb)) (Nat.lt_irrefl _)
  · exact absurd (Nat.lt_of_lt_of_le (Heap.lt_size (I.pin p hp).1) (by rw [z]; exact hb)) (Nat.lt_irrefl _)
structure qL5 (P : Program) (w : World) (K : PySem.W.Frag) (tg : Expr) (J : It) (fp : List Addr) (it : Addr) (tn : Nat → Heap → Prop) : Prop where
  mem : it ∈ fp
  obj : ∀ i h, tn i h → ∀ b ∈ fp, ∃ o, h.get? b = some o ∧ ∀ v, o.data ≠ .cell v
  keep : ∀ i h h', tn i h → (∀ b ∈ fp, ∀ o, h.get? b = some o → h'.get? b = some o) → tn i h'
  item : ∀ (X : Cx), X.prog = P → X.w = w → X.K = K → X.calm = true → ∀ (i : Nat) (pins : List (Addr × Obj)) (s : Shared) (σ : St) (H : Hp) (E : Value → Shared → Prop), Inv X pins σ H s → (∀ b ∈ fp, qIj X pins H b) → tn i s.heap → J.go i H →
    wpAny (model P w) X.A (pyNext (.ref it)) (fun r s1 => ∃ u, r = some u ∧
      wpAny (model P w) X.A (letOwnedTupleGo tg (.ref it) u) (fun _ s2 => ∃ x H', Inv X pins σ H' s2 ∧ RelV x u ∧ J.yld i H x H' ∧ tn (i + 1) s2.heap ∧ ∀ b ∈ fp, H' b = none) E s1) E s
  done : ∀ (X : Cx), X.prog = P → X.w = w → X.K = K → X.calm = true → ∀ (i : Nat) (pins : List (Addr × Obj)) (s : Shared) (σ : St) (H : Hp) (E : Value → Shared → Prop), Inv X pins σ H s → (∀ b ∈ fp, qIj X pins H b) → tn i s.heap → J.stop i H →
    wpAny (model P w) X.A (pyNext (.ref it)) (fun r s1 => r = none ∧ Inv X pins σ H s1) E s
  self : ∀ (A : Around) (i : Nat) (s : Shared) (Q : Value → Shared → Prop) (E : Value → Shared → Prop), tn i s.heap → Q (.ref it) s → wpAny (model P w) A (pyIter (.ref it)) Q E s
abbrev TI := St → Hp → (It → Hp → Prop) → Prop
def PIE (X : Cx) (pins : List (Addr × Obj)) (σ : St) (tg : Expr) (R : It → Hp → Prop) (itv : Value) (s2 : Shared) : Prop :=
  ∃ (it : Addr) (fp : List Addr) (tn : Nat → Heap → Prop) (J : It) (H' : Hp), itv = .ref it ∧ Inv X pins σ H' s2 ∧ qL5 X.prog X.w X.K tg J fp it tn ∧ tn 0 s2.heap ∧ (∀ b ∈ fp, qIj X pins H' b) ∧ R J H'
def PI (X : Cx) (tg iter : Expr) (wi : TI) : Prop :=
  ∀ (pins : List (Addr × Obj)) (s : Shared) (σ : St) (H : Hp) (R : It → Hp → Prop), Inv X pins σ H s → wi σ H R →
    wpAny (model X.prog X.w) X.A (eval iter X.env) (fun v s1 => wpAny (model X.prog X.w) X.A (pyIter v) (PIE X pins σ tg R) X.xe s1) X.xe s
theorem qKu {M : Model} {A : Around} {E : Value → Shared → Prop} {s : Shared} {tg : Expr} {it : Addr} {u : Value} {o : Obj} {n : String} {vs : Array Value} {Q : Unit → Shared → Prop} (ho : s.heap.get? it = some o) (hc : o.cls = .type n) (hd : o.data = .fields vs)
    (hn : ["enumerate", "zip", "dict_itemiterator", "dict_reverseitemiterator", "odict_iterator", "itertools.zip_longest", "itertools.pairwise"].contains n = false) (hQ : Q () s) : wpAny M A (letOwnedTupleGo tg (.ref it) u) Q E s := by
  unfold letOwnedTupleGo
  cases tg <;> first
    | exact wpAny_pure hQ
    | (cases u <;> first
        | exact wpAny_pure hQ
        | (refine wpAny_bind (wpAny_load ho ?_)
           rw [hc, hd]
           show wpAny M A (if (["enumerate", "zip", "dict_itemiterator", "dict_reverseitemiterator", "odict_iterator", "itertools.zip_longest", "itertools.pairwise"].contains n && vs[0]? == some (rawInt _)) = true then _ else _) Q E s
           rw [if_neg (by intro h; rw [hn, Bool.false_and] at h; cases h)]
           exact wpAny_pure hQ))
def Itl (K : PySem.W.Frag) (a : Addr) : It :=
  ⟨fun i H => ∃ xs x, SqL K H a xs ∧ xs[i]? = some x, fun i H x H' => H' = H ∧ ∀ xs, SqL K H a xs → xs[i]? = some x, fun i H => ∃ xs, SqL K H a xs ∧ xs.length ≤ i⟩
def Itr (lo : Int) (n : Nat) : It := ⟨fun i _ => i < n, fun i H x H' => H' = H ∧ x = .int (lo + i), fun i _ => n ≤ i⟩
theorem qG6 {P : Program} {w : World} {K : PySem.W.Frag} {tg : Expr} (a it : Addr) : qL5 P w K tg (Itl K a) [it] it (fun i h => h.IsListIter it a i) where
  mem := by simp
  obj := fun i h st b hb => by
    have e : b = it := by simpa using hb
    subst e
    obtain ⟨o, e, c, d⟩ := st
    exact ⟨o, e, fun v z => by rw [d] at z; cases z⟩
  keep := fun i h h' st k => st.at fun o e => k it (by simp) o e
  item := by
    intro X hP hw hK hc i pins s σ H E I hf st hg
    subst hP hw hK
    obtain ⟨xs, x, hq, hx⟩ := hg
    obtain ⟨its, rv, p, hz⟩ := I.list hq
    obtain ⟨u, hu, ru⟩ := rv.get hx
    obtain ⟨f0, f1, f2, f3, f4, f5⟩ := hf it (by simp)
    refine wpAny_pyNext_list_item st p.isList (x := u) (by simpa using hu) fun h' st' sb => ?_
    have I1 : Inv X pins σ H { s with heap := h' } := I.turned (t' := s.toks) (fun b o hb e => (sb.2 b hb).trans e) f0 f1 f3 f4 f5
    obtain ⟨o, e, c, d⟩ := id st'
    exact ⟨u, rfl, qKu (s := { s with heap := h' }) e c d (by decide) ⟨x, H, I1, ru, ⟨rfl, fun ys hy => by rw [I.list_inj hy hq]; exact hx⟩, st', fun b hb => (hf b hb).1⟩⟩
  done := by
    intro X hP hw hK hc i pins s σ H E I hf st hg
    subst hP hw hK
    obtain ⟨xs, hq, hx⟩ := hg
    obtain ⟨its, rv, p, hz⟩ := I.list hq
    obtain ⟨f0, f1, f2, f3, f4, f5⟩ := hf it (by simp)
    have hl := rv.length
    exact wpAny_pyNext_list_end (I.ok.hd hc) st p.isList (by simp; omega) fun h' eb => ⟨rfl, I.turned (t' := s.toks) (fun b o hb e => eb b o hb e) f0 f1 f3 f4 f5⟩
  self := fun _ _ _ _ _ st h => wpAny_pyIter_listiter st h
theorem qG0 {P : Program} {w : World} {K : PySem.W.Frag} {tg : Expr} (it : Addr) (lo : Int) (n : Nat) : qL5 P w K tg (Itr lo n) [it] it (fun i h => IsRangeIter h it (lo + (i : Nat) * 1) ((n : Int) - (i : Nat)) 1) where
  mem := by simp
  obj := fun i h st b hb => by
    have e : b = it := by simpa using hb
    subst e
    exact ⟨_, st, fun v z => by
      have z' : Data.fields _ = Data.cell v := z
      cases z'⟩
  keep := fun i h h' st k => k it (by simp) _ st
  item := by
    intro X hP hw hK hc i pins s σ H E I hf st hg
    subst hP hw hK
    obtain ⟨f0, f1, f2, f3, f4, f5⟩ := hf it (by simp)
    have W := Walks.range (prog := X.prog) (w := X.w) (I.ok.hd hc) it lo 1 n
    refine W.item i s _ _ hg st fun v h' tk hv st' kk => ?_
    obtain ⟨t, rfl⟩ := hv
    have I1 : Inv X pins σ H { s with heap := h', toks := tk } := I.turned (fun b o hb e => kk b o (by simpa using hb) e) f0 f1 f3 f4 f5
    refine ⟨_, rfl, qKu (s := { s with heap := h', toks := tk }) (n := "range_iterator") st' rfl rfl (by decide) ⟨.int (lo + i), H, I1, ⟨t, ?_⟩, ⟨rfl, rfl⟩, st', fun b hb => (hf b hb).1⟩⟩
    rw [Int.mul_one]
  done := by
    intro X hP hw hK hc i pins s σ H E I hf st hg
    subst hP hw hK
    obtain ⟨f0, f1, f2, f3, f4, f5⟩ := hf it (by simp)
    exact wpAny_pyNext_range_end (I.ok.hd hc) st (by have : n ≤ i := hg; omega) fun h' eb => ⟨rfl, I.turned (t' := s.toks) (fun b o hb e => eb b o hb e) f0 f1 f3 f4 f5⟩
  self := fun _ _ _ _ _ st h => wpAny_pyIter_rangeiter st h
end L2
namespace L2
open PySem PySem.Spec PyProof.Rows
section
variable {X : Cx} {tg : Expr}
def qNr (K : PySem.W.Frag) (tl : TE) : TI := fun σ H R => tl σ H fun x H1 => ∃ a, x = .ref a ∧ (∃ xs, SqL K H1 a xs) ∧ R (Itl K a) H1
theorem jZ {l : Expr} {tl : TE} (hl : PE X l tl) : PI X tg l (qNr X.K tl) := by
  intro pins s σ H R I h
  refine thn (hl pins s σ H _ I h) fun v s1 ⟨x, H1, I1, r1, q1⟩ => ?_
  obtain ⟨a, e, ⟨xs, hq⟩, q⟩ := q1
  subst e
  cases r1
  obtain ⟨its, rv, p, hz⟩ := I1.list hq
  refine wpAny_pyIter_list p.isList ?_
  refine ⟨s1.heap.objs.size, [s1.heap.objs.size], _, _, H1, rfl, I1.kept (t' := s1.toks) fun b o e => Heap.get?_push_of_some _ e, qG6 a _, ⟨_, Heap.get?_push_size _ rfl, rfl, rfl⟩, fun b hb => ?_, q⟩
  have e : b = s1.heap.objs.size := by simpa using hb
  subst e
  exact I1.fpOk (Nat.le_refl _) (I1.hok.fresh (Nat.le_refl _))
theorem qI6 {pins : List (Addr × Obj)} {σ : St} {H : Hp} {s : Shared} {R : It → Hp → Prop} {E : Value → Shared → Prop} {lo hi : Int} {t u v : Tok} {tk : Nat} (I : Inv X pins σ H s) (h1 : -(2 ^ 62) ≤ lo) (h2 : lo < 2 ^ 62) (h3 : -(2 ^ 62) ≤ hi) (h4 : hi < 2 ^ 62)
    (q : R (Itr lo (hi - lo).toNat) H) : wpAny (model X.prog X.w) X.A (pyIter (.ref s.heap.objs.size)) (PIE X pins σ tg R) E { s with heap := s.heap.push { cls := .type "range", data := .fields #[.int lo t, .int hi u, .int 1 v] }, toks := tk } := by
  refine wpAny_pyIter_range (IsRange.new ..) (small_one h1 h2 h3 h4) ?_
  have I1 : Inv X pins σ H { s with heap := s.heap.push { cls := .type "range", data := .fields #[.int lo t, .int hi u, .int 1 v] }, toks := tk } := I.kept fun b o e => Heap.get?_push_of_some _ e
  refine ⟨(s.heap.push { cls := .type "range", data := .fields #[.int lo t, .int hi u, .int 1 v] }).objs.size, [(s.heap.push { cls := .type "range", data := .fields #[.int lo t, .int hi u, .int 1 v] }).objs.size], _, _, H, rfl,
    I1.kept (t' := tk) fun b o e => Heap.get?_push_of_some _ e, qG0 _ lo (hi - lo).toNat, ?_, fun b hb => ?_, q⟩
  · have e1 : lo + ((0 : Nat) : Int) * 1 = lo := by simp
    have e2 : (((hi - lo).toNat : Nat) : Int) - ((0 : Nat) : Int) = Builtin.Range.rangeSize lo hi 1 := by rw [rangeSize_one]; split <;> omega
    show IsRangeIter _ _ (lo + ((0 : Nat) : Int) * 1) ((((hi - lo).toNat : Nat) : Int) - ((0 : Nat) : Int)) 1
    rw [e1, e2]
    exact Heap.get?_push_size _ rfl
  · have e : b = (s.heap.push { cls := .type "range", data := .fields #[.int lo t, .int hi u, .int 1 v] }).objs.size := by simpa using hb
    subst e
    exact I1.fpOk (Nat.le_refl _) (I1.hok.fresh (Nat.le_refl _))
def qMz (ta : TA) : TI := fun σ H R => ta σ H fun vs H1 => ∃ j : Int, vs = [.int j] ∧ -(2 ^ 62) ≤ j ∧ j < 2 ^ 62 ∧ R (Itr 0 j.toNat) H1
theorem zN {a : Expr} {ta : TA} {p pos : Pos} (hg : Gl X "range") (hm : X.mg "range" = none) (ha : PA X [a] ta) (hs : starEach [a] X.env = [(false, eval a X.env)] := by rfl) : PI X tg (.Call (.Name "range" p) [a] [] pos) (qMz ta) := by
  intro pins s σ H R I h
  refine Call_ (qDk I hg hm boot_range (PyProof.Rows.callWith_type1 (thn (ha pos pins s σ H _ I h) fun us s1 ⟨vs, H1, I1, r1, q1⟩ => ?_) hs rfl))
  obtain ⟨j, e, q1, q2, q⟩ := q1
  subst e
  cases r1 with
  | cons r rr =>
    cases rr
    obtain ⟨t, rfl⟩ := r
    exact call_range_1 (qI6 I1 (by omega) (by omega) q1 q2 (by simpa using q))
def qO2 (wi : TI) (g : TG) (tb : TS) : TS := fun D σ H => wi σ H fun J H1 => ∃ W : Nat → Nat → St → Hp → Prop, (∃ m, W 0 m σ H1) ∧ ∀ i m σ H, W i m σ H →
  (J.stop i H ∧ D.nx σ H) ∨ (J.go i H ∧ ∃ N : St → Hp → Prop, (∀ σ' H', N σ' H' → ∃ m', m' < m ∧ W (i + 1) m' σ' H') ∧ ∀ x H', J.yld i H x H' → g x σ H' fun σ2 H2 => tb { D with nx := N, ct := N, bk := D.nx } σ2 H2)
def qC6 (fp : List Addr) (h : Heap) : List (Addr × Obj) := fp.filterMap fun b => (h.get? b).map fun o => (b, o)
theorem kA {fp : List Addr} {h : Heap} {b : Addr} {o : Obj} (hb : b ∈ fp) (e : h.get? b = some o) : (b, o) ∈ qC6 fp h := List.mem_filterMap.mpr ⟨b, hb, by rw [e]; rfl⟩
theorem qHw {fp : List Addr} {h : Heap} {p : Addr × Obj} (hp : p ∈ qC6 fp h) : p.1 ∈ fp ∧ h.get? p.1 = some p.2 := by
  obtain ⟨b, hb, e⟩ := List.mem_filterMap.mp hp
  cases q : h.get? b with
  | none => rw [q] at e; cases e
  | some o =>
    rw [q] at e
    have e' : (b, o) = p := Option.some.inj e
    subst e'
    exact ⟨hb, q⟩
theorem Inv.pinned {pins : List (Addr × Obj)} {σ : St} {H : Hp} {s : Shared} {fp : List Addr} (I : Inv X pins σ H s) (hf : ∀ b ∈ fp, qIj X pins H b) (ho : ∀ b ∈ fp, ∃ o, s.heap.get? b = some o ∧ ∀ v, o.data ≠ .cell v) : Inv X (pins ++ qC6 fp s.heap) σ H s :=
  I.pins_of fun p hp => (List.mem_append.mp hp).elim (fun z => I.pin p (List.mem_append_right _ z)) fun z => by
    obtain ⟨hb, e⟩ := qHw z
    obtain ⟨f0, f1, f2, _⟩ := hf p.1 hb
    obtain ⟨o, e', d⟩ := ho p.1 hb
    rw [e] at e'; cases e'
    exact ⟨e, f0, f1, f2, d⟩
theorem Inv.unpinned {pins pl : List (Addr × Obj)} {σ : St} {H : Hp} {s : Shared} (I : Inv X (pins ++ pl) σ H s) : Inv X pins σ H s := I.pins_of fun p hp => I.pin p (List.mem_append_right _ (List.mem_append_left _ hp))
theorem xn {iter : Expr} {body : List Stmt} {wi : TI} {g : TG} {tb : TS} {pos : Pos} (hp : PassesOwn (model X.prog X.w) X.A X.env X.xe) (hc : X.calm = true) (hi : PI X tg iter wi) (hg : PG X tg g) (hb : PSs X body tb)
    (hs : ∀ x, foldedSetIterable iter X.env x = pure x := by intro _; rfl) : PS X (.For tg iter body [] pos) (qO2 wi g tb) := by
  intro pins s σ H D I h
  refine wpAny_For (thn (hi pins s σ H _ I h) fun v s1 h1 => thn h1 fun itv s2 h2 => ?_) hs
  obtain ⟨it, fp, tn, J, H2, e, I2, T, st2, f2, W, ⟨m0, w0⟩, turn⟩ := h2
  subst e
  have stat : ∀ {H' : Hp}, (∀ b ∈ fp, H' b = none) → ∀ b ∈ fp, qIj X pins H' b := fun hn b hb => ⟨hn b hb, (f2 b hb).2⟩
  refine codeAny_forLoop_any (fun n s' => ∃ i σ' H', Inv X pins σ' H' s' ∧ tn i s'.heap ∧ (∀ b ∈ fp, H' b = none) ∧ W i n σ' H') ?_ m0 ⟨0, σ, H2, I2, st2, fun b hb => (f2 b hb).1, w0⟩
  rintro n s3 ⟨i, σ3, H3, I3, st3, fr3, w3⟩
  rcases turn i n σ3 H3 w3 with ⟨stop, qn⟩ | ⟨go, N, hN, step⟩
  · refine wpAny_passesOwn hp (thn (T.done X rfl rfl rfl hc i pins s3 σ3 H3 X.xe I3 (stat fr3) st3 stop) fun r s4 ⟨hr, I4⟩ => ?_)
    subst hr
    exact wpAny_execs_nil ⟨σ3, H3, I4, qn⟩
  · refine wpAny_passesOwn hp (thn (T.item X rfl rfl rfl hc i pins s3 σ3 H3 X.xe I3 (stat fr3) st3 go) fun r s4 ⟨u, hr, h4⟩ => ?_)
    subst hr
    refine wpAny_passesOwn hp (thn h4 fun _ s5 ⟨x, H5, I5, r5, y5, st5, fr5⟩ => ?_)
    have I5' := I5.pinned (stat fr5) (T.obj _ _ st5)
    refine wpAny_passesOwn hp (thn (hg _ s5 σ3 H5 x u _ I5' r5 (step x H5 y5)) fun _ s6 ⟨σ6, H6, I6, q6⟩ => ?_)
    refine wpAny_passesOwn hp (thn (hb _ s6 σ6 H6 _ I6 q6) fun f s7 q7 => ?_)
    have again : ∀ {σ7 : St} {H7 : Hp}, Inv X (pins ++ qC6 fp s5.heap) σ7 H7 s7 → N σ7 H7 → ∃ m, m < n ∧ ∃ i σ' H', Inv X pins σ' H' s7 ∧ tn i s7.heap ∧ (∀ b ∈ fp, H' b = none) ∧ W i m σ' H' := fun {σ7 H7} I7 n7 => by
      obtain ⟨m', hm, w7⟩ := hN σ7 H7 n7
      refine ⟨m', hm, i + 1, σ7, H7, I7.unpinned, T.keep _ _ _ st5 fun b hb o e => (I7.pin (b, o) (List.mem_append_right _ (List.mem_append_right _ (kA hb e)))).1, fun b hb => ?_, w7⟩
      obtain ⟨o, e, d⟩ := T.obj _ _ st5 b hb
      exact (I7.pin (b, o) (List.mem_append_right _ (List.mem_append_right _ (kA hb e)))).2.1
    cases f with
    | next => obtain ⟨σ7, H7, I7, n7⟩ := q7; exact again I7 n7
    | cont => obtain ⟨σ7, H7, I7, n7⟩ := q7; exact again I7 n7
    | brk => obtain ⟨σ7, H7, I7, q7⟩ := q7; exact ⟨σ7, H7, I7.unpinned, q7⟩
    | ret v => obtain ⟨x7, σ7, H7, I7, r7, q7⟩ := q7; exact ⟨x7, σ7, H7, I7.unpinned, r7, q7⟩
end
theorem xZ {K : PySem.W.Frag} {a : Addr} {xs : List V} {g : TG} {tb : TS} {D : qG2} {σ : St} {H : Hp} (Pv : Nat → St → Hp → Prop) (h0 : Pv 0 σ H) (hl : ∀ i σ H, i ≤ xs.length → Pv i σ H → SqL K H a xs)
    (hs : ∀ i x σ H, xs[i]? = some x → Pv i σ H → g x σ H fun σ2 H2 => tb { D with nx := Pv (i + 1), ct := Pv (i + 1), bk := D.nx } σ2 H2) (hd : ∀ σ H, Pv xs.length σ H → D.nx σ H) :
    ∃ W : Nat → Nat → St → Hp → Prop, (∃ m, W 0 m σ H) ∧ ∀ i m σ H, W i m σ H →
      ((Itl K a).stop i H ∧ D.nx σ H) ∨ ((Itl K a).go i H ∧ ∃ N : St → Hp → Prop, (∀ σ' H', N σ' H' → ∃ m', m' < m ∧ W (i + 1) m' σ' H') ∧ ∀ x H', (Itl K a).yld i H x H' → g x σ H' fun σ2 H2 => tb { D with nx := N, ct := N, bk := D.nx } σ2 H2) := by
  refine ⟨fun i m σ H => m = xs.length - i ∧ i ≤ xs.length ∧ Pv i σ H, ⟨xs.length, by simp, Nat.zero_le _, h0⟩, ?_⟩
  rintro i m σ H ⟨rfl, hi, p⟩
  have q := hl i σ H hi p
  by_cases hlt : i < xs.length
  · refine .inr ⟨⟨xs, xs[i], q, by simp [hlt]⟩, Pv (i + 1), fun σ' H' p' => ⟨xs.length - (i + 1), by omega, rfl, hlt, p'⟩, fun x H' y => ?_⟩
    obtain ⟨e, y⟩ := y
    subst e
    exact hs i x σ _ (y xs q) p
  · have e : i = xs.length := by omega
    subst e
    exact .inl ⟨⟨xs, q, Nat.le_refl _⟩, hd σ H p⟩
theorem zz {lo : Int} {n : Nat} {g : TG} {tb : TS} {D : qG2} {σ : St} {H : Hp} (Pv : Nat → St → Hp → Prop) (h0 : Pv 0 σ H)
    (hs : ∀ i σ H, i < n → Pv i σ H → g (.int (lo + i)) σ H fun σ2 H2 => tb { D with nx := Pv (i + 1), ct := Pv (i + 1), bk := D.nx } σ2 H2) (hd : ∀ σ H, Pv n σ H → D.nx σ H) :
    ∃ W : Nat → Nat → St → Hp → Prop, (∃ m, W 0 m σ H) ∧ ∀ i m σ H, W i m σ H →
      ((Itr lo n).stop i H ∧ D.nx σ H) ∨ ((Itr lo n).go i H ∧ ∃ N : St → Hp → Prop, (∀ σ' H', N σ' H' → ∃ m', m' < m ∧ W (i + 1) m' σ' H') ∧ ∀ x H', (Itr lo n).yld i H x H' → g x σ H' fun σ2 H2 => tb { D with nx := N, ct := N, bk := D.nx } σ2 H2) := by
  refine ⟨fun i m σ H => m = n - i ∧ i ≤ n ∧ Pv i σ H, ⟨n, by simp, Nat.zero_le _, h0⟩, ?_⟩
  rintro i m σ H ⟨rfl, hi, p⟩
  by_cases hlt : i < n
  · refine .inr ⟨hlt, Pv (i + 1), fun σ' H' p' => ⟨n - (i + 1), by omega, rfl, hlt, p'⟩, fun x H' y => ?_⟩
    obtain ⟨e, y⟩ := y
    subst e y
    exact hs i σ _ hlt p
  · have e : i = n := by omega
    subst e
    exact .inl ⟨Nat.le_refl _, hd σ H p⟩
theorem qFu {c : TT} {tb : TS} {D : qG2} {σ : St} {H : Hp} (Pv : St → Hp → Prop) (μ : St → Hp → Nat) (h0 : Pv σ H)
    (hs : ∀ σ H, Pv σ H → c σ H fun b H1 => if b = true then tb { D with nx := fun σ' H' => Pv σ' H' ∧ μ σ' H' < μ σ H, ct := fun σ' H' => Pv σ' H' ∧ μ σ' H' < μ σ H, bk := D.nx } σ H1 else D.nx σ H1)
    (mono : ∀ σ H Q Q', (∀ b H1, Q b H1 → Q' b H1) → c σ H Q → c σ H Q') : qJ1 c tb D σ H := by
  refine ⟨fun m σ H => m = μ σ H ∧ Pv σ H, ⟨_, rfl, h0⟩, ?_⟩
  rintro m σ H ⟨rfl, p⟩
  refine mono σ H _ _ (fun b H1 q => ?_) (hs σ H p)
  cases b with
  | true => exact ⟨_, fun σ' H' ⟨p', l⟩ => ⟨_, l, rfl, p'⟩, q⟩
  | false => exact q
end L2
namespace L2
open PySem PySem.Spec PyProof.Rows
abbrev R2 := V → V → Hp → VK → Prop
def OpR (X : Cx) (f : Value → Value → Sem Value) (r : R2) : Prop :=
  ∀ (pins : List (Addr × Obj)) (s : Shared) (σ : St) (H : Hp) (x y : V) (v u : Value) (Q : VK), Inv X pins σ H s → RelV x v → RelV y u → r x y H Q →
    wpAny (model X.prog X.w) X.A (f v u) (EP X pins σ Q) X.xe s
def UnR (X : Cx) (f : Value → Sem Value) (r : V → Hp → VK → Prop) : Prop :=
  ∀ (pins : List (Addr × Obj)) (s : Shared) (σ : St) (H : Hp) (x : V) (v : Value) (Q : VK), Inv X pins σ H s → RelV x v → r x H Q →
    wpAny (model X.prog X.w) X.A (f v) (EP X pins σ Q) X.xe s
def CallR (X : Cx) (f : Value) (r : List V → Hp → VK → Prop) : Prop :=
  ∀ (pins : List (Addr × Obj)) (s : Shared) (σ : St) (H : Hp) (xs : List V) (us : List Value) (Q : VK), Inv X pins σ H s → Vals xs us → r xs H Q →
    wpAny (model X.prog X.w) X.A (call f us) (EP X pins σ Q) X.xe s
def tOp (r : R2) (ta tb : TE) : TE := fun σ H Q => ta σ H fun x H1 => tb σ H1 fun y H2 => r x y H2 Q
def tUn (r : V → Hp → VK → Prop) (ta : TE) : TE := fun σ H Q => ta σ H fun x H1 => r x H1 Q
def rI (C : Int → Int → Prop) (g : Int → Int → V) : R2 := fun x y H Q => ∃ i j, x = .int i ∧ y = .int j ∧ C i j ∧ Q (g i j) H
def rI0 (g : Int → Int → V) : R2 := fun x y H Q => ∃ i j, x = .int i ∧ y = .int j ∧ Q (g i j) H
def rU (g : Int → V) : V → Hp → VK → Prop := fun x H Q => ∃ i, x = .int i ∧ Q (g i) H
section
variable {X : Cx} {a b c : Expr} {ta tb tc : TE} {pos : Pos}
theorem qNk (ha : PE X a ta) (hb : PE X b tb) {pins : List (Addr × Obj)} {s : Shared} {σ : St} {H : Hp} {R : V → V → Hp → Prop} (I : Inv X pins σ H s)
    (h : ta σ H fun x H1 => tb σ H1 fun y H2 => R x y H2) {Q : Value → Shared → Prop} {f : Value → Value → Sem Value}
    (hf : ∀ v u s2 x y H2, Inv X pins σ H2 s2 → RelV x v → RelV y u → R x y H2 → wpAny (model X.prog X.w) X.A (f v u) Q X.xe s2) :
    wpAny (model X.prog X.w) X.A (eval a X.env) (fun v s₁ => wpAny (model X.prog X.w) X.A (eval b X.env) (fun u s₂ => wpAny (model X.prog X.w) X.A (f v u) Q X.xe s₂) X.xe s₁) X.xe s := by
  refine thn (ha pins s σ H _ I h) fun v s1 ⟨x, H1, I1, r1, q1⟩ => ?_
  refine thn (hb pins s1 σ H1 _ I1 q1) fun u s2 ⟨y, H2, I2, r2, q2⟩ => ?_
  exact hf v u s2 x y H2 I2 r1 r2 q2
theorem qO {op : Operator} {r : R2} (ho : OpR X (binaryOp op) r) (ha : PE X a ta) (hb : PE X b tb) : PE X (.BinOp a op b pos) (tOp r ta tb) := by
  intro pins s σ H Q I h
  exact wpAny_BinOp (qNk ha hb I h fun v u s2 x y H2 I2 rx ry q => ho pins s2 σ H2 x y v u Q I2 rx ry q)
theorem qAh {op : UnaryOp} {r : V → Hp → VK → Prop} (ho : UnR X (unaryOp op) r) (ha : PE X a ta) : PE X (.UnaryOp op a pos) (tUn r ta) := by
  intro pins s σ H Q I h
  exact UnaryOp_ (thn (ha pins s σ H _ I h) fun v s1 ⟨x, H1, I1, r1, q1⟩ => ho pins s1 σ H1 x v Q I1 r1 q1)
theorem opI {f : Value → Value → Sem Value} {C : Int → Int → Prop} {g : Int → Int → Int}
    (rule : ∀ (i j : Int) (t u : Tok) (s : Shared) (Q : Value → Shared → Prop) (E : Value → Shared → Prop), C i j → Q (.int (g i j) s.toks) { s with toks := s.toks + 1 } → wpAny (model X.prog X.w) X.A (f (.int i t) (.int j u)) Q E s) :
    OpR X f (rI C fun i j => .int (g i j)) := by
  intro pins s σ H x y v u Q I rx ry h
  obtain ⟨i, j, rfl, rfl, hc, q⟩ := h
  obtain ⟨t, rfl⟩ := rx
  obtain ⟨t', rfl⟩ := ry
  exact rule i j t t' s _ _ hc ⟨.int (g i j), H, I.tok _, ⟨_, rfl⟩, q⟩
theorem qOg {f : Value → Value → Sem Value} {g : Int → Int → Int}
    (rule : ∀ (i j : Int) (t u : Tok) (s : Shared) (Q : Value → Shared → Prop) (E : Value → Shared → Prop), Q (.int (g i j) s.toks) { s with toks := s.toks + 1 } → wpAny (model X.prog X.w) X.A (f (.int i t) (.int j u)) Q E s) :
    OpR X f (rI0 fun i j => .int (g i j)) := by
  intro pins s σ H x y v u Q I rx ry h
  obtain ⟨i, j, rfl, rfl, q⟩ := h
  obtain ⟨t, rfl⟩ := rx
  obtain ⟨t', rfl⟩ := ry
  exact rule i j t t' s _ _ ⟨.int (g i j), H, I.tok _, ⟨_, rfl⟩, q⟩
theorem qMw {f : Value → Value → Sem Value} {g : Int → Int → Bool}
    (rule : ∀ (i j : Int) (t u : Tok) (s : Shared) (Q : Value → Shared → Prop) (E : Value → Shared → Prop), Q (.bool (g i j)) s → wpAny (model X.prog X.w) X.A (f (.int i t) (.int j u)) Q E s) :
    OpR X f (rI0 fun i j => .bl (g i j)) := by
  intro pins s σ H x y v u Q I rx ry h
  obtain ⟨i, j, rfl, rfl, q⟩ := h
  obtain ⟨t, rfl⟩ := rx
  obtain ⟨t', rfl⟩ := ry
  exact rule i j t t' s _ _ ⟨.bl (g i j), H, I, rfl, q⟩
def qOb (i j : Int) : Prop := 0 ≤ j ∧ j ≤ 1000000 ∧ i.natAbs < 2 ^ 64
def CMul (i j : Int) : Prop := (-(2 ^ 64) < i ∧ i < 2 ^ 64) ∨ (-(2 ^ 64) < j ∧ j < 2 ^ 64)
theorem CMul.ok {i j : Int} (h : CMul i j) : IntMulOk i j := by
  rcases h with ⟨h1, h2⟩ | ⟨h1, h2⟩
  · exact .of_left (intBits_le_64 h1 h2)
  · exact .of_right (intBits_le_64 h1 h2)
theorem qp : OpR X (binaryOp .Add) (rI0 fun i j => .int (i + j)) := qOg fun _ _ _ _ _ _ _ q => add_int q
theorem jU : OpR X (binaryOp .Sub) (rI0 fun i j => .int (i - j)) := qOg fun _ _ _ _ _ _ _ q => sub_int q
theorem qj : OpR X (binaryOp .Mod) (rI (fun _ j => j ≠ 0) fun i j => .int (i.fmod j)) := opI fun _ _ _ _ _ _ _ hc q => mod_int' hc q
theorem qJ4 : OpR X (binaryOp .Pow) (rI qOb fun i j => .int (i ^ j.toNat)) := opI fun _ _ _ _ _ _ _ hc q => pow_int_small hc.1 hc.2.1 hc.2.2 q
theorem unI {f : Value → Sem Value} {g : Int → Int}
    (rule : ∀ (i : Int) (t : Tok) (s : Shared) (Q : Value → Shared → Prop) (E : Value → Shared → Prop), Q (.int (g i) s.toks) { s with toks := s.toks + 1 } → wpAny (model X.prog X.w) X.A (f (.int i t)) Q E s) :
    UnR X f (rU fun i => .int (g i)) := by
  intro pins s σ H x v Q I rx h
  obtain ⟨i, rfl, q⟩ := h
  obtain ⟨t, rfl⟩ := rx
  exact rule i t s _ _ ⟨.int (g i), H, I.tok _, ⟨_, rfl⟩, q⟩
theorem kO : UnR X (unaryOp .USub) (rU fun i => .int (-i)) := unI fun _ _ _ _ _ q => neg_int q
end
def qM5 : V → V → Bool
  | .non, .non => true | .non, .int _ => true | .int _, .non => true | .non, .bl _ => true | .bl _, .non => true | .non, .str _ => true | .str _, .non => true
  | .int _, .int _ => true | .bl _, .bl _ => true | .str _, .str _ => true | .byt _, .byt _ => true
  | .int _, .str _ => true | .str _, .int _ => true | .bl _, .str _ => true | .str _, .bl _ => true
  | _, _ => false
def rEq : R2 := fun x y H Q => qM5 x y = true ∧ Q (.bl (decide (x = y))) H
def rNe : R2 := fun x y H Q => qM5 x y = true ∧ Q (.bl (!decide (x = y))) H
theorem qHh {i j : Int} : decide (V.int i = V.int j) = (i == j) := by
  rw [Bool.eq_iff_iff]
  simp
theorem qJr {i j : Bool} : decide (V.bl i = V.bl j) = (i == j) := by
  rw [Bool.eq_iff_iff]
  simp
theorem qH8 {i j : Str} : decide (V.str i = V.str j) = (i == j) := by
  rw [Bool.eq_iff_iff]
  simp
theorem qH9 {i j : Array UInt8} : decide (V.byt i = V.byt j) = (i.toList == j.toList) := by
  rw [Bool.eq_iff_iff]
  cases i
  cases j
  simp
section
variable {X : Cx} {a b c : Expr} {ta tb tc : TE} {pos : Pos}
theorem qv {pins : List (Addr × Obj)} {σ : St} {H : Hp} {s : Shared} {Q : VK} {k k' : Bool} (I : Inv X pins σ H s) (q : Q (.bl k) H) (e : k = k') : EP X pins σ Q (.bool k') s := by
  subst e
  exact ⟨.bl k, H, I, rfl, q⟩
theorem xj : OpR X (compareOp .Eq) rEq := by
  intro pins s σ H x y v u Q I rx ry h
  obtain ⟨hs, q⟩ := h
  cases x with
  | non =>
    cases rx
    cases y with
    | non => cases ry; exact PySem.EqNone.eq_none_none (qv I q (by simp))
    | bl j => cases ry; exact PySem.EqNone.eq_none_bool (qv I q (by simp))
    | int j => obtain ⟨t', rfl⟩ := ry; exact PySem.EqNone.eq_none_int (qv I q (by simp))
    | str j => obtain ⟨t', rfl⟩ := ry; exact PySem.EqNone.eq_none_str (qv I q (by simp))
    | _ => exact absurd (show false = true from hs) Bool.false_ne_true
  | bl i =>
    cases rx
    cases y with
    | non => cases ry; exact PySem.EqNone.eq_bool_none (qv I q (by simp))
    | bl j => cases ry; exact eq_bool (qv I q qJr)
    | str j => obtain ⟨t', rfl⟩ := ry; exact PySem.EqMixed.eq_bool_str (qv I q (by simp))
    | _ => exact absurd (show false = true from hs) Bool.false_ne_true
  | int i =>
    obtain ⟨t, rfl⟩ := rx
    cases y with
    | non => cases ry; exact PySem.EqNone.eq_int_none (qv I q (by simp))
    | int j => obtain ⟨t', rfl⟩ := ry; exact eq_int (qv I q qHh)
    | str j => obtain ⟨t', rfl⟩ := ry; exact PySem.EqMixed.eq_int_str (qv I q (by simp))
    | _ => exact absurd (show false = true from hs) Bool.false_ne_true
  | str i =>
    obtain ⟨t, rfl⟩ := rx
    cases y with
    | non => cases ry; exact PySem.EqNone.eq_str_none (qv I q (by simp))
    | bl j => cases ry; exact PySem.EqMixed.eq_str_bool (qv I q (by simp))
    | int j => obtain ⟨t', rfl⟩ := ry; exact PySem.EqMixed.eq_str_int (qv I q (by simp))
    | str j => obtain ⟨t', rfl⟩ := ry; exact eq_str (qv I q qH8)
    | _ => exact absurd (show false = true from hs) Bool.false_ne_true
  | byt i =>
    obtain ⟨t, rfl⟩ := rx
    cases y with
    | byt j => obtain ⟨t', rfl⟩ := ry; exact PySem.W.eq_bytes (qv I q qH9)
    | _ => exact absurd (show false = true from hs) Bool.false_ne_true
  | _ => cases y <;> exact absurd (show false = true from hs) Bool.false_ne_true
theorem z8 : OpR X (compareOp .NotEq) rNe := by
  intro pins s σ H x y v u Q I rx ry h
  obtain ⟨hs, q⟩ := h
  cases x with
  | non =>
    cases rx
    cases y with
    | non => cases ry; exact PySem.EqNone.ne_none_none (qv I q (by simp))
    | bl j => cases ry; exact PySem.EqNone.ne_none_bool (qv I q (by simp))
    | int j => obtain ⟨t', rfl⟩ := ry; exact PySem.EqNone.ne_none_int (qv I q (by simp))
    | str j => obtain ⟨t', rfl⟩ := ry; exact PySem.EqNone.ne_none_str (qv I q (by simp))
    | _ => exact absurd (show false = true from hs) Bool.false_ne_true
  | bl i =>
    cases rx
    cases y with
    | non => cases ry; exact PySem.EqNone.ne_bool_none (qv I q (by simp))
    | bl j => cases ry; exact ne_bool (qv I q (congrArg not qJr))
    | str j => obtain ⟨t', rfl⟩ := ry; exact PySem.EqMixed.ne_bool_str (qv I q (by simp))
    | _ => exact absurd (show false = true from hs) Bool.false_ne_true
  | int i =>
    obtain ⟨t, rfl⟩ := rx
    cases y with
    | non => cases ry; exact PySem.EqNone.ne_int_none (qv I q (by simp))
    | int j => obtain ⟨t', rfl⟩ := ry; exact ne_int (qv I q (congrArg not qHh))
    | str j => obtain ⟨t', rfl⟩ := ry; exact PySem.EqMixed.ne_int_str (qv I q (by simp))
    | _ => exact absurd (show false = true from hs) Bool.false_ne_true
  | str i =>
    obtain ⟨t, rfl⟩ := rx
    cases y with
    | non => cases ry; exact PySem.EqNone.ne_str_none (qv I q (by simp))
    | bl j => cases ry; exact PySem.EqMixed.ne_str_bool (qv I q (by simp))
    | int j => obtain ⟨t', rfl⟩ := ry; exact PySem.EqMixed.ne_str_int (qv I q (by simp))
    | str j => obtain ⟨t', rfl⟩ := ry; exact ne_str (qv I q (congrArg not qH8))
    | _ => exact absurd (show false = true from hs) Bool.false_ne_true
  | byt i =>
    obtain ⟨t, rfl⟩ := rx
    cases y with
    | byt j => obtain ⟨t', rfl⟩ := ry; exact PySem.W.ne_bytes (qv I q (congrArg not qH9))
    | _ => exact absurd (show false = true from hs) Bool.false_ne_true
  | _ => cases y <;> exact absurd (show false = true from hs) Bool.false_ne_true
theorem kH : OpR X (compareOp .Lt) (rI0 fun i j => .bl (decide (i < j))) := qMw fun _ _ _ _ _ _ _ q => lt_int q
theorem qIm : OpR X (compareOp .LtE) (rI0 fun i j => .bl (decide (i ≤ j))) := qMw fun _ _ _ _ _ _ _ q => le_int q
theorem qBs : OpR X (compareOp .Gt) (rI0 fun i j => .bl (decide (j < i))) := qMw fun _ _ _ _ _ _ _ q => gt_int q
theorem qBw : OpR X (compareOp .GtE) (rI0 fun i j => .bl (decide (j ≤ i))) := qMw fun _ _ _ _ _ _ _ q => ge_int q
theorem OpR.or {f : Value → Value → Sem Value} {r r' : R2} (h : OpR X f r) (h' : OpR X f r') : OpR X f (fun x y H Q => r x y H Q ∨ r' x y H Q) := by
  intro pins s σ H x y v u Q I rx ry q
  rcases q with q | q
  · exact h pins s σ H x y v u Q I rx ry q
  · exact h' pins s σ H x y v u Q I rx ry q
theorem qU (b : Expr) {op : CmpOp} (h : op ≠ .In := by decide) (h2 : op ≠ .NotIn := by decide) : behindInMarks op b = false := by
  have e1 : (op == CmpOp.In) = false := by cases op <;> first | rfl | exact absurd rfl h
  have e2 : (op == CmpOp.NotIn) = false := by cases op <;> first | rfl | exact absurd rfl h2
  cases b <;> simp [behindInMarks, e1, e2]
theorem xm {op : CmpOp} {r : R2} (ho : OpR X (compareOp op) r) (ha : PE X a ta) (hb : PE X b tb) (hm : behindInMarks op b = false) : PE X (.Compare a [op] [b] pos) (tOp r ta tb) := by
  intro pins s σ H Q I h
  exact wpAny_Compare1 (qNk ha hb I h fun v u s2 x y H2 I2 rx ry q => ho pins s2 σ H2 x y v u Q I2 rx ry q) hm
def qNl (t : TE) : TT := fun σ H Q => t σ H fun x H' => ∃ k, x = .bl k ∧ Q k H'
theorem qL {op : CmpOp} {r : R2} (ho : OpR X (compareOp op) r) (ha : PE X a ta) (hb : PE X b tb) (hm : behindInMarks op b = false) : PT X (.Compare a [op] [b] pos) (qNl (tOp r ta tb)) := by
  intro pins s σ H Q I h
  refine wpAny_isTrue_Compare1 (thn (ha pins s σ H _ I h) fun v s1 ⟨x, H1, I1, r1, q1⟩ => thn (hb pins s1 σ H1 _ I1 q1) fun u s2 ⟨y, H2, I2, r2, q2⟩ =>
    thn (ho pins s2 σ H2 x y v u _ I2 r1 r2 q2) fun c s3 ⟨z, H3, I3, r3, k, e, q3⟩ => ?_) hm
  subst e
  cases r3
  exact wpAny_truthy_bool ⟨H3, I3, q3⟩
theorem qCz : (sizeLine : Nat) < 2 ^ 63 := by rw [sizeLine_eq]; decide
theorem qGx {x : V} {us : List Value} (r : Vals [x] us) : ∃ u, us = [u] ∧ RelV x u := by
  cases r with
  | cons r1 r2 => cases r2; exact ⟨_, rfl, r1⟩
theorem qLh {x y : V} {us : List Value} (r : Vals [x, y] us) : ∃ u w', us = [u, w'] ∧ RelV x u ∧ RelV y w' := by
  cases r with
  | cons r1 r2 =>
    cases r2 with
    | cons r3 r4 => cases r4; exact ⟨_, _, rfl, r1, r3⟩
theorem qBr : CallR X (.builtin "abs") (fun xs H Q => ∃ i, xs = [.int i] ∧ Q (.int (if i < 0 then -i else i)) H) := by
  intro pins s σ H xs us Q I r h
  obtain ⟨i, rfl, q⟩ := h
  obtain ⟨u, rfl, t, rfl⟩ := qGx r
  exact call_abs_int fun u tk => ⟨.int (if i < 0 then -i else i), H, I.tok _, ⟨_, rfl⟩, q⟩
theorem vI (hc : X.calm = true) : CallR X (.builtin "max") (fun xs H Q => ∃ i j, xs = [.int i, .int j] ∧ Q (.int (if j > i then j else i)) H) := by
  intro pins s σ H xs us Q I r h
  obtain ⟨i, j, rfl, q⟩ := h
  obtain ⟨u, w', rfl, ⟨t, rfl⟩, ⟨t', rfl⟩⟩ := qLh r
  refine max_two_ints (I.ok.hd hc) fun h' tk k => ⟨_, H, I.kept k, ?_, q⟩
  by_cases hj : j > i
  · rw [if_pos hj, if_pos hj]; exact ⟨_, rfl⟩
  · rw [if_neg hj, if_neg hj]; exact ⟨_, rfl⟩
theorem zn (hc : X.calm = true) : CallR X (.builtin "min") (fun xs H Q => ∃ i j, xs = [.int i, .int j] ∧ Q (.int (if j < i then j else i)) H) := by
  intro pins s σ H xs us Q I r h
  obtain ⟨i, j, rfl, q⟩ := h
  obtain ⟨u, w', rfl, ⟨t, rfl⟩, ⟨t', rfl⟩⟩ := qLh r
  refine min_two_ints (I.ok.hd hc) fun h' tk k => ⟨_, H, I.kept k, ?_, q⟩
  by_cases hj : j < i
  · rw [if_pos hj, if_pos hj]; exact ⟨_, rfl⟩
  · rw [if_neg hj, if_neg hj]; exact ⟨_, rfl⟩
end
end L2
namespace L2
open PySem PySem.Spec PyProof.Rows
structure ObjM (h : Heap) (x dx C : Addr) (mA : Str → Option Value) : Prop where
  obj : h.get? x = some (PySem.W.instObj C dx)
  ns : h.Ns1 dx mA
  ne : dx ≠ x
theorem qIh {h : Heap} {dx : Addr} {mA : Str → Option Value} (n : h.Ns1 dx mA) : ∃ od, h.get? dx = some od ∧ ∀ name, PySem.W.lookIn name od = some (mA name) := by
  obtain ⟨o, es, ep, ho, hd, hk, _, hm⟩ := n
  refine ⟨o, ho, fun name => ?_⟩
  have e := hm name
  unfold nsFind findBy at e
  rw [← Array.find?_toList] at e
  unfold PySem.W.lookIn
  rw [hd]
  dsimp only
  split
  · rename_i y q
    rw [q] at e
    exact congrArg some e
  · rename_i q
    rw [q] at e
    have a : es.toList.any (·.refKey) = false := by
      rw [List.any_eq_false]
      intro y hy
      obtain ⟨z, t, hkey⟩ := hk y (Array.mem_toList_iff.mp hy)
      simp [DictEntry.refKey, hkey]
    have a' : ¬ es.toList.any (·.refKey) = true := by rw [a]; exact Bool.false_ne_true
    rw [if_neg a']
    exact congrArg some e
theorem ObjM.look {h : Heap} {x dx C : Addr} {mA : Str → Option Value} (I : ObjM h x dx C mA) : ∃ od, PySem.W.InstAt h x (PySem.W.instObj C dx) C (some od) ∧ ∀ name, PySem.W.lookIn name od = some (mA name) :=
  let ⟨od, ho, hl⟩ := qIh I.ns
  ⟨od, ⟨I.obj, rfl, rfl, ho⟩, hl⟩
section
variable {prog : Program} {w : World} {A : Around} {E : Value → Shared → Prop} {s : Shared} {K : PySem.W.Frag} {x dx C f : Addr} {mA : Str → Option Value} {name : Str} {v : Value}
end
theorem RelO.some_of {v : V} {o : Option Value} (r : RelO (some v) o) : ∃ u, o = some u ∧ RelV v u := by
  cases o with
  | none => exact (show False from r).elim
  | some u => exact ⟨u, rfl, r⟩
section
variable {P : Program} {w : World} {H H' : Hp} {h h' : Heap} {a C dx : Addr} {fs fs' : List (Str × V)}
theorem qJ9 (hok : HOk P w H h) (e : H a = some (.ins C dx fs)) : ∃ mA, ObjM h a dx C mA ∧ (∀ f, RelO (fs.lookup f) (mA f)) ∧ PySem.Within mA (fs.map (·.1)) ∧ fs.length ≤ 1000 ∧ H dx = some (.own a) := by
  obtain ⟨d, z, ne, ob, mA, n, r, q⟩ := (show ObjOk P w H h a (.ins C dx fs) from hok a _ e)
  exact ⟨mA, ⟨ob, n, ne⟩, r, q, z, d⟩
end
structure Cls (K : PySem.W.Frag) (C : Addr) : Prop where
  pg : PySem.W.plainGet K C Str.empty = true
  hd : PySem.W.hasDictIn K C = true
  po : PySem.W.plainOver K C = true
  sa : PySem.W.findIn K (.ref C) "__setattr__" = some (some (.builtin "object.__setattr__"))
theorem Cls.get {K : PySem.W.Frag} {C : Addr} (c : Cls K C) (f : Str) : PySem.W.plainGet K C f = true := c.pg
structure Con (K : PySem.W.Frag) (C : Addr) (f : Str) (v : V) (u : Value) : Prop where
  at_ : PySem.W.findIn K (.ref C) f = some (some u)
  rel : RelV v u
  get : PySem.W.specialIn K u "__get__" = some none
  cp : PySem.W.copiedNames.contains f = false
structure Meth (K : PySem.W.Frag) (C : Addr) (m : Str) (f : Addr) : Prop where
  at_ : PySem.W.findIn K (.ref C) m = some (some (.ref f))
  fn : PySem.W.isFn K (.ref f) = true
  kp : PySem.W.keepIn K (.ref f) = true
section
variable {X : Cx} {pins : List (Addr × Obj)} {σ : St} {H : Hp} {s : Shared} {a C dx : Addr} {fs : List (Str × V)} {f : Str} {v : V} {A : Around} {E : Value → Shared → Prop}
theorem Inv.made (I : Inv X pins σ H s) : Inv X pins σ (upd (upd H s.heap.objs.size (.own (s.heap.objs.size + 1))) (s.heap.objs.size + 1) (.ins C s.heap.objs.size []))
    { s with heap := (s.heap.push PySem.W.emptyDict).push (PySem.W.instObj C s.heap.objs.size) } := by
  have e1 : (s.heap.push PySem.W.emptyDict).get? s.heap.objs.size = some PySem.W.emptyDict := Heap.get?_push_size s.heap rfl
  have e2 : ((s.heap.push PySem.W.emptyDict).push (PySem.W.instObj C s.heap.objs.size)).get? (s.heap.objs.size + 1) = some (PySem.W.instObj C s.heap.objs.size) := by
    have := Heap.get?_push_size (s.heap.push PySem.W.emptyDict) (o := PySem.W.instObj C s.heap.objs.size) rfl
    rwa [Heap.size_push] at this
  have e3 : (s.heap.push PySem.W.emptyDict).Ns s.heap.objs.size (fun _ => none) := ⟨PySem.W.emptyDict, #[], _, e1, rfl, (fun e he => absurd he (by simp)), fun _ => rfl⟩
  have I1 := I.laid (a := s.heap.objs.size) (o := .own (s.heap.objs.size + 1)) (h' := s.heap.push PySem.W.emptyDict) (t' := s.toks) (fun b u q => Heap.get?_push_of_some _ q) (Nat.le_refl _) ⟨_, e1⟩
  refine I1.laid (a := s.heap.objs.size + 1) (o := .ins C s.heap.objs.size []) (t' := s.toks) (fun b u q => Heap.get?_push_of_some _ q) (Nat.le_of_eq (Heap.size_push _ _)) ?_
  have ne : s.heap.objs.size ≠ s.heap.objs.size + 1 := Nat.ne_of_lt (Nat.lt_succ_self _)
  refine ⟨by rw [qY ne, qD], Nat.zero_le _, ne, e2, fun _ => none, (Heap.Ns1.of_empty e3).at fun o q => Heap.get?_push_of_some _ q, fun _ => True.intro, fun y hy => absurd rfl hy⟩
end
section
variable {X : Cx} {o e value : Expr} {f : Str} {pos pos' tpos : Pos} {ta tv : TE}
end
section
variable {X : Cx} {pins : List (Addr × Obj)} {σ : St} {H : Hp} {s : Shared} {A : Around} {E : Value → Shared → Prop} {Q : Value → Shared → Prop} {c : Value} {b : Bool}
inductive qA4 (K : PySem.W.Frag) (H : Hp) : V → Value → Prop where
  | non : qA4 K H .non (.type "NoneType")
  | bl (x : Bool) : qA4 K H (.bl x) (.type "bool")
  | int (i : Int) : qA4 K H (.int i) (.type "int")
  | str (x : Str) : qA4 K H (.str x) (.type "str")
  | flt (x : UInt64) : qA4 K H (.flt x) (.type "float")
  | lst {a : Addr} {xs : List V} (e : H a = some (.lst xs)) : qA4 K H (.ref a) (.type "list")
  | frz {a : Addr} {o : Obj} {xs : List V} (e : H a = some (.frz o (.lst xs))) : qA4 K H (.ref a) (.type "list")
  | tup {a : Addr} {xs : List V} (e : H a = some (.tup xs)) : qA4 K H (.ref a) (.type "tuple")
  | dK {a : Addr} {kvs : List (Key × V)} (e : H a = some (.dK kvs)) : qA4 K H (.ref a) (.type "dict")
  | dT {a : Addr} {kvs : List (List Key × V)} (e : H a = some (.dT kvs)) : qA4 K H (.ref a) (.type "dict")
  | ins {a C dx : Addr} {fs : List (Str × V)} (e : H a = some (.ins C dx fs)) (cl : Cls K C) (ha : PySem.W.findIn K (.ref C) "__class__" = some (some (.builtin "object.__class__")))
      (hn : PySem.W.specialIn K (.builtin "object.__class__") "__get__" = some (some (.builtin "getset_descriptor.__get__"))) (htk : PySem.W.takesIn K (.builtin "object.__class__") = some true)
      (hm : PySem.W.mroIn K C (.type "object") = some true) : qA4 K H (.ref a) (.ref C)
theorem qD5 {x : V} {u t : Value} (I : Inv X pins σ H s) (rx : RelV x u) (ty : qA4 X.K H x t) (e : PySem.W.kitOne X.K t c = some b) (h : ∀ tk, Q (.bool b) { s with toks := tk }) :
    wpAny (model X.prog X.w) A (call (.builtin "isinstance") [u, c]) Q E s := by
  cases ty with
  | non => cases (show u = Value.none from rx); exact PySem.W.kia_one PySem.W.kitx_none I.kIn True.intro e (fun z => nomatch z) h
  | bl y => cases (show u = Value.bool y from rx); exact PySem.W.kia_one PySem.W.kitx_bool I.kIn True.intro e (fun z => nomatch z) h
  | int i => obtain ⟨t, q⟩ := (show ∃ t, u = Value.int i t from rx); cases q; exact PySem.W.kia_one PySem.W.kitx_int I.kIn True.intro e (fun z => nomatch z) h
  | str y => obtain ⟨t, q⟩ := (show ∃ t, u = Value.str y t from rx); cases q; exact PySem.W.kia_one PySem.W.kitx_str I.kIn True.intro e (fun z => nomatch z) h
  | flt y => obtain ⟨t, q⟩ := (show ∃ t, u = Value.float y t from rx); cases q; exact PySem.W.kia_one PySem.W.kitx_float I.kIn True.intro e (fun z => nomatch z) h
  | @lst a xs ea =>
    cases (show u = Value.ref a from rx)
    obtain ⟨_, _, n, _, h1⟩ := (show ObjOk X.prog X.w H s.heap a (.lst xs) from I.hok a _ ea)
    exact PySem.W.kia_one PySem.W.kitx_list I.kIn ⟨_, h1, rfl⟩ e (fun z => nomatch z) h
  | @frz a ob xs ea =>
    cases (show u = Value.ref a from rx)
    obtain ⟨_, _, _, n, _, h1⟩ := (show ObjOk X.prog X.w H s.heap a (.frz ob (.lst xs)) from I.hok a _ ea)
    exact PySem.W.kia_one PySem.W.kitx_list I.kIn ⟨_, h1, rfl⟩ e (fun z => nomatch z) h
  | @tup a xs ea =>
    cases (show u = Value.ref a from rx)
    obtain ⟨_, _, _, p⟩ := (show ObjOk X.prog X.w H s.heap a (.tup xs) from I.hok a _ ea)
    obtain ⟨o, h1, h2, _⟩ := p
    exact PySem.W.kia_one PySem.W.kitx_tuple I.kIn ⟨o, h1, h2⟩ e (fun z => nomatch z) h
  | @dK a kvs ea =>
    cases (show u = Value.ref a from rx)
    obtain ⟨_, _, vs, _, p⟩ := (show ObjOk X.prog X.w H s.heap a (.dK kvs) from I.hok a _ ea)
    obtain ⟨o, es, ep, h1, h2, _⟩ := p
    exact PySem.W.kia_one PySem.W.kitx_dict I.kIn ⟨o, h1, h2.1⟩ e (fun z => nomatch z) h
  | @dT a kvs ea =>
    cases (show u = Value.ref a from rx)
    obtain ⟨_, _, xs, _, o, es, ep, h1, h2, _⟩ := (show ObjOk X.prog X.w H s.heap a (.dT kvs) from I.hok a _ ea)
    exact PySem.W.kia_one PySem.W.kitx_dict I.kIn ⟨o, h1, h2.1⟩ e (fun z => nomatch z) h
  | @ins a C dx fs ea cl ha hn htk hm =>
    cases (show u = Value.ref a from rx)
    obtain ⟨mA, O, _⟩ := qJ9 I.hok ea
    obtain ⟨od, J, _⟩ := O.look
    exact PySem.W.kia_one (PySem.W.kitx_own (cl.get _) cl.hd ha hn htk hm) I.kIn J e (fun z => nomatch z) h
end
end L2
namespace L2
open PySem PySem.Spec PyProof.Rows
structure Room (k : Nat) (A : Around) : Prop where
  hd : A.handled = none
  dp : A.depth + 3 * k + 5 < recursionLimit
  un : A.units + 16 * k + 200 < cLine
theorem Room.mono {j k : Nat} {A : Around} (r : Room k A) (h : j ≤ k) : Room j A := ⟨r.hd, by have := r.dp; omega, by have := r.un; omega⟩
theorem Room.deeper {k : Nat} {A : Around} (r : Room (k + 1) A) (env : Env) : Room k (A.deeper env) :=
  ⟨r.hd, by have := r.dp; show A.depth + 1 + 3 * k + 5 < _; omega, by have := r.un; show A.units + 3 + 16 * k + 200 < _; omega⟩
theorem Room.in1 {k : Nat} {A : Around} (r : Room (k + 1) A) : Room k A.in1 :=
  ⟨r.hd, by have := r.dp; show A.depth + 3 * k + 5 < _; omega, by have := r.un; show A.units + 1 + 16 * k + 200 < _; omega⟩
theorem qGm {A : Around} {C : Addr} {us : List Value} {kw : List (Str × Value)} : (A.under (.builtin "type.__call__" ⟨.ref C :: us, kw⟩)).depth = A.depth + 1 := by
  first | rfl | simp [Around.under, Code.weight, Code.isCreation, Code.isGuard, Code.isCaller, Code.frames, Code.isFrame, guardIds]
theorem qGg {A : Around} {C : Addr} {us : List Value} {kw : List (Str × Value)} : (A.under (.builtin "type.__call__" ⟨.ref C :: us, kw⟩)).units = A.units + 1 := by
  first | rfl | simp [Around.under, Code.cUnits, Code.frames, Code.isFrame]
theorem Room.make {k : Nat} {A : Around} (r : Room (k + 1) A) (C : Addr) (us : List Value) (kw : List (Str × Value)) : Room k (A.under (.builtin "type.__call__" ⟨.ref C :: us, kw⟩)) :=
  ⟨r.hd, by have := r.dp; rw [qGm]; omega, by have := r.un; rw [qGg]; omega⟩
theorem Room.depth {k : Nat} {A : Around} (r : Room k A) : A.depth < recursionLimit := by have := r.dp; omega
theorem Room.units {k : Nat} {A : Around} (r : Room k A) : A.units + 64 < cLine := by have := r.un; omega
theorem Room.units0 {k : Nat} {A : Around} (r : Room k A) : A.units < cLine := by have := r.un; omega
def qOr : TA := fun _ H Q => Q [] H
def qNq (ta : TE) (tr : TA) : TA := fun σ H Q => ta σ H fun x H1 => tr σ H1 fun xs H2 => Q (x :: xs) H2
section
variable {X : Cx} {e : Expr} {es : List Expr} {te : TE} {t : TA} {pos : Pos}
theorem qE : PA X [] qOr := fun _ _ _ _ H Q I h => Calls.spliced_nil ⟨[], H, I, .nil, h⟩
theorem qA (ha : PE X e te) (hr : PA X es t) (hs : starEach (e :: es) X.env = (false, eval e X.env) :: starEach es X.env := by rfl) : PA X (e :: es) (qNq te t) := by
  intro pos pins s σ H Q I h
  rw [hs]
  show wpAny _ _ (spliced ((false, eval e X.env) :: backTo pos (starEach es X.env))) _ _ s
  refine Calls.spliced_cons (thn (ha pins s σ H _ I h) fun u s1 ⟨x, H1, I1, r1, q1⟩ => ?_)
  exact thn (hr pos pins s1 σ H1 _ I1 q1) fun us s2 ⟨xs, H2, I2, r2, q2⟩ => ⟨x :: xs, H2, I2, .cons r1 r2, q2⟩
def qOo (t : TA) : TE := fun σ H Q => t σ H fun xs H1 => xs.length ≤ sizeLine ∧ ∀ p, H1 p = none → Q (.ref p) (upd H1 p (.tup xs))
def qOn (t : TA) : TE := fun σ H Q => t σ H fun xs H1 => xs.length ≤ sizeLine ∧ ∀ p, H1 p = none → Q (.ref p) (upd H1 p (.lst xs))
theorem ql {x1} (h : PA X es t) : PE X (.Tuple es x1 pos) (qOo t) := by
  intro pins s σ H Q I hq
  refine wpAny_Tuple_spliced (thn (h pos pins s σ H _ I hq) fun us s1 ⟨xs, H1, I1, r, z, q⟩ => ⟨by rw [← r.length]; exact z, ?_⟩)
  have hf : H1 s1.heap.objs.size = none := I1.hok.fresh (Nat.le_refl _)
  refine ⟨.ref s1.heap.objs.size, upd H1 s1.heap.objs.size (.tup xs), I1.laid (t' := s1.toks) (fun b u e => Heap.get?_push_of_some _ e) (Nat.le_refl _) ?_, rfl, q _ hf⟩
  exact ⟨z, us, r, ⟨_, Heap.get?_push_size _ rfl, rfl, _, rfl⟩⟩
theorem jI (h : PA X es t) : PE X (.List es pos) (qOn t) := by
  intro pins s σ H Q I hq
  refine wpAny_List_spliced (thn (h pos pins s σ H _ I hq) fun us s1 ⟨xs, H1, I1, r, z, q⟩ => ⟨by rw [← r.length]; exact z, ?_⟩)
  have hf : H1 s1.heap.objs.size = none := I1.hok.fresh (Nat.le_refl _)
  refine ⟨.ref s1.heap.objs.size, upd H1 s1.heap.objs.size (.lst xs), I1.laid (t' := s1.toks) (fun b u e => Heap.get?_push_of_some _ e) (Nat.le_refl _) ?_, rfl, q _ hf⟩
  exact ⟨z, us, 0, r, Heap.get?_push_size _ rfl⟩
end
abbrev Sp := List V → Hp → VK → XK → Prop
abbrev CXT := List Env → Hp → Shared → XK → Value → Shared → Prop
structure Env0 (P : Program) (w : World) (K : PySem.W.Frag) (mg : Str → Option Value) (base : Heap) (A : Around) (outer : List Env) (s : Shared) (H : Hp) : Prop where
  frames : A.frames = some outer
  mod : Mod K mg base
  bs : ∀ b o, base.get? b = some o → s.heap.get? b = some o ∧ H b = none
  bsz : base.objs.size ≤ s.heap.objs.size
  funs : s.heap.FunFrames base outer
  frf : ∀ b ∈ frs outer, H b = none
  hok : HOk P w H s.heap
  bare : AllBare s.gens
def CE (outer : List Env) (P : Program) (w : World) (H : Hp) (s : Shared) (Q : VK) (u : Value) (s' : Shared) : Prop :=
  ∃ v H', s'.os = s.os ∧ AllBare s'.gens ∧ Un (frs outer) [] H H' s.heap s'.heap ∧ HOk P w H' s'.heap ∧ RelV v u ∧ Q v H'
def CR (CX : CXT) (outer : List Env) (P : Program) (w : World) (H : Hp) (s : Shared) (Q : VK) (E : XK) (r : Result) (s' : Shared) : Prop :=
  match r with
  | .ok (.ret u) => CE outer P w H s Q u s'
  | .ok _ => False
  | .error e => CX outer H s E e s'
structure FnOk (P : Program) (w : World) (K : PySem.W.Frag) (mg : Str → Option Value) (base : Heap) (CX : CXT) (k : Nat) (f : Addr) (fd : FuncData) (ps : List Str) (sp : Sp) : Prop where
  len : ∀ vs H Q E, sp vs H Q E → vs.length = ps.length
  run : ∀ (A : Around) (outer : List Env) (s : Shared) (H : Hp) (args : Args) (us : List Value) (vs : List V) (Q : VK) (E : XK), Room k A → Env0 P w K mg base A outer s H → BindsTo s fd args (ps.zip us) → Vals vs us → sp vs H Q E →
    codeAny (model P w) A (.call (.ref f) args) (CR CX outer P w H s Q E) s
theorem FnOk.mono {P : Program} {w : World} {K : PySem.W.Frag} {mg : Str → Option Value} {base : Heap} {CX : CXT} {j k : Nat} {f : Addr} {fd : FuncData} {ps : List Str} {sp : Sp} (F : FnOk P w K mg base CX j f fd ps sp) (h : j ≤ k) :
    FnOk P w K mg base CX k f fd ps sp := ⟨F.len, fun A outer s H args us vs Q E hr => F.run A outer s H args us vs Q E (hr.mono h)⟩
theorem FnOk.imp {P : Program} {w : World} {K : PySem.W.Frag} {mg : Str → Option Value} {base : Heap} {CX : CXT} {k : Nat} {f : Addr} {fd : FuncData} {ps : List Str} {sp sp' : Sp} (F : FnOk P w K mg base CX k f fd ps sp)
    (h : ∀ vs H Q E, sp' vs H Q E → sp vs H Q E) : FnOk P w K mg base CX k f fd ps sp' :=
  ⟨fun vs H Q E q => F.len vs H Q E (h _ _ _ _ q), fun A outer s H args us vs Q E hr he hb hv hs => F.run A outer s H args us vs Q E hr he hb hv (h _ _ _ _ hs)⟩
theorem Env0.make {P : Program} {w : World} {K : PySem.W.Frag} {mg : Str → Option Value} {base : Heap} {A : Around} {outer : List Env} {s : Shared} {H : Hp} (e : Env0 P w K mg base A outer s H) (C : Addr) (us : List Value) (kw : List (Str × Value)) :
    Env0 P w K mg base (A.under (.builtin "type.__call__" ⟨.ref C :: us, kw⟩)) outer s H := ⟨by first | exact e.frames | (simpa [Around.under, Code.envs, Code.isFrame, pushEnvs] using e.frames), e.mod, e.bs, e.bsz, e.funs, e.frf, e.hok, e.bare⟩
theorem Env0.in1 {P : Program} {w : World} {K : PySem.W.Frag} {mg : Str → Option Value} {base : Heap} {A : Around} {outer : List Env} {s : Shared} {H : Hp} (e : Env0 P w K mg base A outer s H) :
    Env0 P w K mg base A.in1 outer s H := ⟨e.frames, e.mod, e.bs, e.bsz, e.funs, e.frf, e.hok, e.bare⟩
section
variable {X : Cx} {pins : List (Addr × Obj)} {σ : St} {H : Hp} {s s' : Shared}
theorem Inv.env0 (I : Inv X pins σ H s) : Env0 X.prog X.w X.K X.mg X.base X.A X.stack s H :=
  ⟨I.ok.frames, I.ok.mod, I.bs, Nat.le_trans I.ok.bsz I.sz, I.stack, I.stkFree, I.hok, I.bare⟩
theorem Inv.after {Q : VK} {u : Value} (I : Inv X pins σ H s) (h : CE X.stack X.prog X.w H s Q u s') : EP X pins σ Q u s' := by
  obtain ⟨v, H', os, bare, un, hok, r, q⟩ := h
  obtain ⟨hh, g, d, t, os'⟩ := s'
  obtain rfl : os' = s.os := os
  exact ⟨v, H', I.call (h' := hh) (g' := g) (d' := d) (t' := t) (ch := []) un hok bare (fun b z => absurd z (by simp)), r, q⟩
end
def qKg (sp : Sp) (dvs : List V) (E : XK) (t : TA) : TE := fun σ H Q => t σ H fun vs H1 => sp (vs ++ dvs) H1 Q E
def Binds (K : PySem.W.Frag) (fd : FuncData) (ps : List Str) (ds : List Value) : Prop :=
  ∀ (s : Shared) (us : List Value), K.In s.heap → (us ++ ds).length = ps.length → BindsTo s fd ⟨us, []⟩ (ps.zip (us ++ ds))
theorem Binds.all {K : PySem.W.Frag} {fd : FuncData} {ps : List Str} (h : ∀ us : List Value, us.length = ps.length → bindArgs fd ⟨us, []⟩ = pure (ps.zip us)) : Binds K fd ps [] := fun s us _ hl => by
  rw [List.append_nil] at hl ⊢
  exact .of_eq (h us hl)
def qF6 (CX : CXT) (X : Cx) (E : XK) : Prop := ∀ (pins : List (Addr × Obj)) (σ : St) (H : Hp) (s : Shared) (e : Value) (s' : Shared), Inv X pins σ H s → CX X.stack H s E e s' → X.xe e s'
section
variable {X : Cx} {CX : CXT} {k : Nat} {f C : Addr} {fd : FuncData} {ps : List Str} {sp : Sp} {dvs : List V} {ds : List Value} {E : XK} {x m : Str} {p pos apos : Pos} {e o : Expr} {es : List Expr} {ta : TE} {t : TA}
theorem qLy {pins : List (Addr × Obj)} {σ : St} {H : Hp} {s : Shared} {Q : VK} {us : List Value} {vs : List V} (F : FnOk X.prog X.w X.K X.mg X.base CX k f fd ps sp) (hr : Room k X.A) (hb : Binds X.K fd ps ds) (hd : Vals dvs ds) (hx : qF6 CX X E)
    (I : Inv X pins σ H s) (r : Vals vs us) (h : sp (vs ++ dvs) H Q E) : wpAny (model X.prog X.w) X.A (call (.ref f) us) (EP X pins σ Q) X.xe s := by
  have r2 : Vals (vs ++ dvs) (us ++ ds) := r.append hd
  have hl : (us ++ ds).length = ps.length := by rw [← r2.length]; exact F.len _ _ _ _ h
  refine wpAny_call (codeAny_mono (F.run X.A X.stack s H ⟨us, []⟩ (us ++ ds) (vs ++ dvs) Q E hr I.env0 (hb s us I.kIn hl) r2 h) fun r s' hq => ?_)
  cases r with
  | error e => exact hx pins σ H s e s' I hq
  | ok fl =>
    cases fl with
    | ret u => exact I.after hq
    | next => exact False.elim hq
    | brk => exact False.elim hq
    | cont => exact False.elim hq
theorem qHo (F : FnOk X.prog X.w X.K X.mg X.base CX k f fd ps sp) (hr : Room k X.A) (hg : Gl X x) (hm : X.mg x = some (.ref f)) (hk : PySem.W.keepIn X.K (.ref f) = true) (hb : Binds X.K fd ps ds) (hd : Vals dvs ds) (hx : qF6 CX X E)
    (ha : PA X (e :: es) t) (hdb : (x == ("__debug__" : Str)) = false := by decide) (he : starEach (e :: es) X.env = (false, eval e X.env) :: starEach es X.env := by rfl) (hpl : (backTo pos (starEach es X.env)).any (·.1) = false := by rfl) :
    PE X (.Call (.Name x p) (e :: es) [] pos) (qKg sp dvs E t) := by
  intro pins s σ H Q I h
  refine wpAny_Call_Name_kw (kT I hg hm ?_ hdb)
  refine PySem.W.callWith_K (h₀ := X.base) I.ok.mod.kin hk (thn (ha pos pins s σ H _ I h) fun us s1 ⟨vs, H1, I1, r, q⟩ => ⟨I1.kIn, ?_⟩) he hpl
  exact qLy F hr hb hd hx I1 r q
structure Mk (K : PySem.W.Frag) (C f : Addr) : Prop where
  makes : PySem.W.makesIn K C = true
  init : PySem.W.findIn K (.ref C) "__init__" = some (some (.ref f))
  fn : PySem.W.isFn K (.ref f) = true
  kp : PySem.W.keepIn K (.ref C) = true
end
section
variable {X : Cx} {CX : CXT} {k : Nat} {f C : Addr} {fd : FuncData} {ps ks : List Str} {sp : Sp} {E : XK} {x m : Str} {p pos apos kpos : Pos} {e o : Expr} {es : List Expr} {kws : List Keyword} {te ta : TE} {t tk : TA} {nm : Option Str}
structure KBinds (K : PySem.W.Frag) (fd : FuncData) (ps ks : List Str) (g : List Value → List Value → List Value) (gV : List V → List V → List V) : Prop where
  to : ∀ (s : Shared) (us ws : List Value), K.In s.heap → (g us ws).length = ps.length → BindsTo s fd ⟨us, ks.zip ws⟩ (ps.zip (g us ws))
  rel : ∀ {vs : List V} {us : List Value} {zs : List V} {ws : List Value}, Vals vs us → Vals zs ws → Vals (gV vs zs) (g us ws)
variable {g : List Value → List Value → List Value} {gV : List V → List V → List V}
end
structure qQ (N P : List Str) (sc : Scope) : Prop where
  kind : sc.kind = .function
  co : sc.isCoroutine = false
  gen : sc.isGenerator = false
  nd : N.Nodup
  pre : N.take P.length = P
  par : ∀ x ∈ P, sc.names.lookup x = some .local ∨ sc.names.lookup x = some .cell
  nofree : ∀ y ∈ sc.names, y.2 ≠ .free
theorem qCn {kindOf : Str → Option NameKind} {x : Str} : ∀ {binds : List (Str × Value)} {m : Str → Option Value}, (∀ v, (x, v) ∉ binds) → bindL kindOf binds m x = m x
  | [], _, _ => rfl
  | (n, v) :: r, m, h => by
    unfold bindL
    rw [qCn fun w hw => h w (List.mem_cons_of_mem _ hw)]
    split
    · have : x ≠ n := by rintro rfl; exact h v List.mem_cons_self
      simp [this]
    · rfl
theorem qEc {kindOf : Str → Option NameKind} {x : Str} : ∀ {binds : List (Str × Value)} {m : Str → Option Value}, (∀ v, (x, v) ∉ binds) → bindC kindOf binds m x = m x
  | [], _, _ => rfl
  | (n, v) :: r, m, h => by
    unfold bindC
    rw [qEc fun w hw => h w (List.mem_cons_of_mem _ hw)]
    split
    · rfl
    · have : x ≠ n := by rintro rfl; exact h v List.mem_cons_self
      simp [this]
theorem qEb {kindOf : Str → Option NameKind} {x : Str} {v : Value} : ∀ {P : List Str} {vs : List Value} {i : Nat} {m : Str → Option Value}, P.Nodup → P[i]? = some x → vs[i]? = some v → kindOf x = some .local →
    bindL kindOf (P.zip vs) m x = some v
  | [], _, _, _, _, h, _, _ => by simp at h
  | _ :: _, [], _, _, _, _, h, _ => by simp at h
  | p :: P, w :: vs, 0, m, nd, h1, h2, hk => by
    simp at h1 h2; subst h1; subst h2
    show bindL kindOf ((p, w) :: P.zip vs) m p = _
    unfold bindL
    rw [qCn fun v hv => (List.nodup_cons.mp nd).1 (List.of_mem_zip hv).1, if_pos hk]
    simp
  | p :: P, w :: vs, i + 1, m, nd, h1, h2, hk => by
    show bindL kindOf ((p, w) :: P.zip vs) m x = _
    unfold bindL
    exact qEb (i := i) (List.nodup_cons.mp nd).2 (by simpa using h1) (by simpa using h2) hk
theorem qDt {kindOf : Str → Option NameKind} {x : Str} {v : Value} : ∀ {P : List Str} {vs : List Value} {i : Nat} {m : Str → Option Value}, P.Nodup → P[i]? = some x → vs[i]? = some v → kindOf x ≠ some .local →
    bindC kindOf (P.zip vs) m x = some v
  | [], _, _, _, _, h, _, _ => by simp at h
  | _ :: _, [], _, _, _, _, h, _ => by simp at h
  | p :: P, w :: vs, 0, m, nd, h1, h2, hk => by
    simp at h1 h2; subst h1; subst h2
    show bindC kindOf ((p, w) :: P.zip vs) m p = _
    unfold bindC
    rw [qEc fun v hv => (List.nodup_cons.mp nd).1 (List.of_mem_zip hv).1, if_neg hk]
    simp
  | p :: P, w :: vs, i + 1, m, nd, h1, h2, hk => by
    show bindC kindOf ((p, w) :: P.zip vs) m x = _
    unfold bindC
    exact qDt (i := i) (List.nodup_cons.mp nd).2 (by simpa using h1) (by simpa using h2) hk
def start (N : List Str) (vs : List V) : St := vs.map some ++ List.replicate (N.length - vs.length) none
def qIi (CX : CXT) (P : Program) (w : World) (K : PySem.W.Frag) (mg : Str → Option Value) (base : Heap) (N : List Str) (qual : Str) (scope : Scope) (f : Addr) (cd : Value) (A : Around) (outer : List Env) (s : Shared) (H : Hp) (E : XK) : Cx where
  prog := P
  w := w
  K := K
  mg := mg
  base := base
  A := A.deeper (envOfC qual scope s.heap.objs.size f cd)
  N := N
  s₀ := s
  H₀ := H
  env := envOfC qual scope s.heap.objs.size f cd
  outer := outer
  stack := envOfC qual scope s.heap.objs.size f cd :: outer
  ex := []
  calm := true
  fn := fun _ => true
  pn := []
  xe := fun e s' => wpAny (model P w) (A.deeper (envOfC qual scope s.heap.objs.size f cd)) (leaving (envOfC qual scope s.heap.objs.size f cd) e) (fun _ s'' => CX outer H s E e s'') (fun e' s'' => CX outer H s E e' s'') s'
theorem qFw {sc : Scope} {n : Nat} {x : Str} (h : sc.names.lookup x = some .cell) : ∃ c, (cellsFrom n sc.names []).lookup x = some c := by
  have q := PySem.W.cellsFrom_some sc.names n [] (.inl h)
  exact Option.isSome_iff_exists.mp q
theorem qH4 {CX : CXT} {P : Program} {w : World} {K : PySem.W.Frag} {mg : Str → Option Value} {base : Heap} {N ps : List Str} {qual : Str} {scope : Scope} {f : Addr} {cd : Value} {A : Around} {outer : List Env} {s s1 : Shared} {H : Hp} {E : XK} {us : List Value} {vs : List V}
    (S : qQ N ps scope) (hd : A.handled = none) (e0 : Env0 P w K mg base A outer s H) (hl : vs.length = ps.length) (r : Vals vs us)
    (x : InCallC s s.heap.objs.size (bindL (envOfC qual scope s.heap.objs.size f cd).kindOf (ps.zip us) fun _ => none) (cellsFrom (s.heap.objs.size + 1) scope.names []) (bindC (envOfC qual scope s.heap.objs.size f cd).kindOf (ps.zip us) fun _ => none) s1) :
    Inv (qIi CX P w K mg base N qual scope f cd A outer s H E) [] (start N vs) H s1 := by
  have hpl : ps.length ≤ N.length := by have := congrArg List.length S.pre; rw [List.length_take] at this; omega
  obtain ⟨h1, tk, rfl, hk⟩ := x.done
  have noA : ∀ b : Addr, b ∉ (qIi CX P w K mg base N qual scope f cd A outer s H E).ex := fun b z => absurd (show b ∈ ([] : List Addr) from z) (by simp)
  refine ⟨⟨e0.mod, S.kind, rfl, rfl, Nat.le_refl _, fun y z c h1 h2 => ?_, fun y hy => ?_, fun y c _ h => ?_, fun _ => hd, Around.frames_deeper e0.frames, .inr ⟨rfl, rfl⟩, fun b z => absurd z (noA b), e0.bs, e0.bsz, fun b _ _ => noA b, fun b z => absurd z (noA b), e0.funs, e0.frf⟩,
    rfl, e0.bare, Un.kept hk, ⟨_, x.toInCall.ns, fun i y v h1 h2 h3 => ?_⟩, fun y c h => ⟨_, x.cell y c h⟩, e0.hok.fresh (Nat.le_refl _), fun y c h => ?_, fun p hp => absurd (show p ∈ ([] : List (Addr × Obj)) from hp) (by simp), e0.hok.kept hk, ?_⟩
  · exact name_of_addr x.apart (PySem.mem_of_lookup h1) (PySem.mem_of_lookup h2)
  · have hy : scope.names.lookup y = some .cell ∨ scope.names.lookup y = some .free := hy
    rcases hy with hy | hy
    · exact qFw hy
    · exact absurd rfl (S.nofree _ (PySem.mem_of_lookup hy))
  · exact Nat.le_of_lt (x.above y c (PySem.mem_of_lookup h))
  · have hi : i < vs.length := by
      unfold start at h2
      by_cases hi : i < vs.length
      · exact hi
      · rw [List.getElem?_append_right (by simpa using hi)] at h2
        rw [List.getElem?_replicate] at h2
        split at h2 <;> cases h2
    have ha : vs[i]? = some v := by
      unfold start at h2
      rw [List.getElem?_append_left (by simpa using hi), List.getElem?_map] at h2
      cases e : vs[i]? with
      | none => rw [e] at h2; cases h2
      | some a => rw [e] at h2; cases h2; rfl
    obtain ⟨u, hu, rv⟩ := r.get ha
    have hp : ps[i]? = some y := by
      rw [← S.pre, List.getElem?_take_of_lt (by omega)]; exact h1
    have ndP : ps.Nodup := by rw [← S.pre]; exact S.nd.sublist (List.take_sublist _ _)
    refine ⟨u, rv, ?_⟩
    rcases S.par y (List.mem_of_getElem? hp) with k | k
    · exact .inl ⟨k, qEb ndP hp hu k⟩
    · obtain ⟨c, e⟩ := qFw (n := s.heap.objs.size + 1) k
      refine .inr ⟨.inl k, c, e, ?_⟩
      have q := x.cell y c e
      rw [qDt ndP hp hu (by show scope.names.lookup y ≠ _; rw [k]; decide)] at q
      exact q
  · exact e0.hok.fresh (Nat.le_of_lt (x.above y c (PySem.mem_of_lookup h)))
  · unfold start
    show _ = N.length
    rw [List.length_append, List.length_map, List.length_replicate]
    omega
theorem qLs {CX : CXT} {P : Program} {w : World} {K : PySem.W.Frag} {mg : Str → Option Value} {base : Heap} {k : Nat} {f : Addr} {name qual : Str} {params : Arguments} {body : List Stmt} {scope : Scope} {dV kV doc pm cdv ct oc : Value} {an od : Option Addr}
    {osl : Array (Option Value)} {N ps : List Str} {sp : Sp} (lk : K.lookup f = some ⟨oc, od, .func (PySem.W.fnOf name qual params body scope dV kV doc pm an cdv ct), osl⟩) (hcd : PySem.W.codeIn K cdv qual = true) (S : qQ N ps scope)
    (len : ∀ vs H Q E, sp vs H Q E → vs.length = ps.length)
    (hbody : ∀ (A : Around) (outer : List Env) (s : Shared) (H : Hp) (vs : List V) (Q : VK) (E : XK), Room k (A.deeper (envOfC qual scope s.heap.objs.size f cdv)) → sp vs H Q E →
      ∃ t, PSs (qIi CX P w K mg base N qual scope f cdv A outer s H E) body t ∧ t { nx := fun _ H' => Q .non H', rt := Q } (start N vs) H) :
    FnOk P w K mg base CX (k + 1) f (PySem.W.fnOf name qual params body scope dV kV doc pm an cdv ct) ps sp := by
  refine ⟨len, fun A outer s H args us vs Q E hr e0 hb r hsp => ?_⟩
  have hl := len _ _ _ _ hsp
  have KX : K.In s.heap := e0.mod.kin.keeps fun b o e => (e0.bs b o e).1
  have lim : s.heap.NoLimit := e0.mod.nolimit.keeps fun b o e => (e0.bs b o e).1
  have hkind : ∀ y ∈ ps.zip us, scope.names.lookup y.1 = some .local ∨ (scope.names.lookup y.1 = some .cell ∧ ((cellsFrom (s.heap.objs.size + 1) scope.names []).lookup y.1).isSome = true) := fun ⟨n, v⟩ hy => by
    rcases S.par n (List.of_mem_zip hy).1 with q | q
    · exact .inl q
    · exact .inr ⟨q, PySem.W.cellsFrom_some _ _ _ (.inl q)⟩
  refine codeAny_call_function hr.depth (KX _ _ lk) rfl S.co S.gen rfl (PySem.W.codeRec_of KX hcd) (hb _ _ _ _ ?_)
  refine wpAny_newFunctionEnv_cells S.kind hkind fun env he s1 x => ?_
  subst he
  refine ⟨lim.keeps x.toInCall.keep, codeAny_func ?_⟩
  obtain ⟨t, ht, hq⟩ := hbody A outer s H vs Q E (hr.deeper _) hsp
  have I : Inv (qIi CX P w K mg base N qual scope f cdv A outer s H E) [] (start N vs) H s1 := qH4 S hr.hd e0 hl r x
  refine wpAny_mono (ht [] s1 (start N vs) H _ I hq) (fun fl s' hs => ?_) fun e s' hs => hs
  have fin : ∀ {σ' : St} {H' : Hp} {v : V} {u : Value}, Inv (qIi CX P w K mg base N qual scope f cdv A outer s H E) [] σ' H' s' → RelV v u → Q v H' → CE outer P w H s Q u s' :=
    fun {σ' H' v u} J rv q => ⟨v, H', J.os, J.bare, J.base, J.hok, rv, q⟩
  cases fl with
  | ret u =>
    obtain ⟨v, σ', H', J, rv, q⟩ := hs
    exact fin J rv q
  | next =>
    obtain ⟨σ', H', J, q⟩ := hs
    exact fin (v := V.non) (u := Value.none) J rfl q
  | brk =>
    obtain ⟨_, _, _, q⟩ := hs
    exact False.elim q
  | cont =>
    obtain ⟨_, _, _, q⟩ := hs
    exact False.elim q
end L2
namespace L2
open PySem PySem.Spec PyProof.Rows
section
variable {X : Cx} {x : Str} {p pos : Pos} {e : Expr} {es : List Expr} {t : TA} {id T : String} {r : List V → Hp → VK → Prop}
def tCB (r : List V → Hp → VK → Prop) (t : TA) : TE := fun σ H Q => t σ H fun vs H1 => r vs H1 Q
theorem qd (hc : CallR X (.builtin id) r) (hg : Gl X x) (hm : X.mg x = none) (hv : bootBuiltins x = some (.builtin id)) (ha : PA X (e :: es) t) (hn : x ≠ "__name__" := by decide) (hdb : (x == ("__debug__" : Str)) = false := by decide)
    (he : starEach (e :: es) X.env = (false, eval e X.env) :: starEach es X.env := by rfl) (hpl : (backTo pos (starEach es X.env)).any (·.1) = false := by rfl) : PE X (.Call (.Name x p) (e :: es) [] pos) (tCB r t) := by
  intro pins s σ H Q I h
  refine wpAny_Call_Name_kw (qDk I hg hm hv ?_ hn hdb)
  exact PyProof.Rows.callWith_builtin1 (thn (ha pos pins s σ H _ I h) fun us s1 ⟨vs, H1, I1, r1, q1⟩ => hc pins s1 σ H1 vs us Q I1 r1 q1) he hpl
theorem kx (hc : CallR X (.type T) r) (hg : Gl X x) (hm : X.mg x = none) (hv : bootBuiltins x = some (.type T)) (ha : PA X (e :: es) t) (hn : x ≠ "__name__" := by decide) (hdb : (x == ("__debug__" : Str)) = false := by decide)
    (he : starEach (e :: es) X.env = (false, eval e X.env) :: starEach es X.env := by rfl) (hpl : (backTo pos (starEach es X.env)).any (·.1) = false := by rfl) : PE X (.Call (.Name x p) (e :: es) [] pos) (tCB r t) := by
  intro pins s σ H Q I h
  refine wpAny_Call_Name_kw (qDk I hg hm hv ?_ hn hdb)
  exact PyProof.Rows.callWith_type1 (thn (ha pos pins s σ H _ I h) fun us s1 ⟨vs, H1, I1, r1, q1⟩ => hc pins s1 σ H1 vs us Q I1 r1 q1) he hpl
end
end L2
namespace HT
open PySem PyProof.Rows
section
open PySem.SeqAt
open PySem.AutoSeq1 (wpAny_loadPart')
open PySem.MeetsSeq PySem.MeetsSeq2 PySem.MeetsSeq3
end
section
variable {prog : Program} {w : World} {A : Around} {E : Value → Shared → Prop} {s : Shared}
theorem cat_tup {t b : Addr} {vs ws : List Value} {Q : Value → Shared → Prop} (ht : IsTup s.heap t vs.toArray) (hb : IsTup s.heap b ws.toArray) (hv : vs ≠ [])
    (h1 : ws = [] → Q (.ref t) s) (h2 : ws ≠ [] → Q (.ref s.heap.objs.size) { s with heap := s.heap.push { cls := .type "tuple", data := .seq (vs ++ ws).toArray } })
    (hsz : vs.length + ws.length ≤ sizeLine) : wpAny (model prog w) A (binaryOp .Add (.ref t) (.ref b)) Q E s := by
  obtain ⟨⟨cls, dd, data, sl⟩, ho, hc, n, hd⟩ := id ht
  obtain ⟨⟨cls2, dd2, data2, sl2⟩, ho2, hc2, n2, hd2⟩ := id hb
  simp only at hc hd hc2 hd2
  subst hc hd hc2 hd2
  have e : vs.toArray ++ ws.toArray = (vs ++ ws).toArray := by simp
  by_cases hw : ws = []
  · exact concat_meets ⟨_, ho, rfl⟩ ⟨_, ho2, rfl⟩ noFill_tuple_add seq_tuple_add PySem.F.slot_tuple_add PySem.F.entry_tuple_add (PySem.F.args_tuple_add_2 _ _)
      (tuple_addW1 t b vs.toArray ws.toArray n n2 dd dd2 sl sl2 (by simpa using hv) (by simp [hw])) ⟨ho, ho2, h1 hw⟩
  · refine concat_meets ⟨_, ho, rfl⟩ ⟨_, ho2, rfl⟩ noFill_tuple_add seq_tuple_add PySem.F.slot_tuple_add PySem.F.entry_tuple_add (PySem.F.args_tuple_add_2 _ _)
      (tuple_addW2 t b vs.toArray ws.toArray n n2 dd dd2 sl sl2 (by simpa using hv) (by simpa using hw) (by rw [List.size_toArray, List.size_toArray]; exact hsz)) ⟨ho, ho2, ?_⟩
    rw [e]
    exact h2 hw
def sIx (n d : Nat) : Option Int → Nat
  | none => d
  | some v => if v < 0 then (v + (n : Int)).toNat else min v.toNat n
theorem sIx_none (n d : Nat) : sIx n d none = d := rfl
theorem sIx_nat (n d k : Nat) : sIx n d (some (k : Int)) = min k n := by
  show (if (k : Int) < 0 then ((k : Int) + (n : Int)).toNat else min (k : Int).toNat n) = min k n
  rw [if_neg (by omega), Int.toNat_natCast]
theorem qL2 (n d : Nat) (hd : d ≤ n) (o : Option Int) : sIx n d o ≤ n := by
  cases o with
  | none => exact hd
  | some v =>
    show (if v < 0 then (v + (n : Int)).toNat else min v.toNat n) ≤ n
    by_cases hv : v < 0
    · rw [if_pos hv]; omega
    · rw [if_neg hv]; exact Nat.min_le_right _ _
theorem qHj (v : Int) (n d : Nat) : (if v < 0 then max (v + (n : Int)) 0 else min v (n : Int)) = ((sIx n d (some v) : Nat) : Int) := by
  show (if v < 0 then max (v + (n : Int)) 0 else min v (n : Int)) = (((if v < 0 then (v + (n : Int)).toNat else min v.toNat n) : Nat) : Int)
  by_cases hv : v < 0
  · simp only [if_pos hv]; omega
  · simp only [if_neg hv]; omega
theorem qGb (lo hi : Option Int) (n : Nat) : Builtin.Slice.sliceAdjust lo hi 1 (n : Int) = (((sIx n 0 lo : Nat) : Int), ((sIx n n hi : Nat) : Int)) := by
  have h1 : ¬ ((1 : Int) < 0) := by omega
  unfold Builtin.Slice.sliceAdjust
  simp only [h1, if_false]
  refine Prod.ext ?_ ?_
  · cases lo with
    | none => rfl
    | some v => exact qHj v n 0
  · cases hi with
    | none => rfl
    | some v => exact qHj v n n
theorem qGt (i j : Nat) : Builtin.Slice.slicePlaces (i : Int) (j : Int) 1 = j - i := by
  unfold Builtin.Slice.slicePlaces
  have h1 : (1 : Int) > 0 := by omega
  simp only [h1, if_true, Int.ediv_one]
  split <;> omega
theorem qA0 {v : Value} {o : Option Int} {Q : Option Int → Shared → Prop} (p : IsPart v o) (h : Q o s) : wpAny (model prog w) A (Builtin.Slice.slicePartIndex v) Q E s := by
  cases p with
  | none => exact slicePart_none h
  | int i t => exact slicePart_int h
theorem vw {sl : Addr} {vl vu : Value} {lo hi : Option Int} {n : Nat} {Q : Int × Int × Nat → Shared → Prop} (hs : s.heap.IsSliceOf sl vl vu .none) (pl : IsPart vl lo) (pu : IsPart vu hi)
    (h : Q (((sIx n 0 lo : Nat) : Int), 1, sIx n n hi - sIx n 0 lo) s) : wpAny (model prog w) A (Builtin.Slice.sliceApplied (.ref sl) (pure (n : Int))) Q E s := by
  obtain ⟨os, hos, hcs, hds⟩ := id hs
  unfold Builtin.Slice.sliceApplied Builtin.Slice.sliceFields
  refine wpAny_bind (wpAny_bind (wpAny_field hos hds (x := vl) rfl (wpAny_bind (wpAny_field hos hds (x := vu) rfl (wpAny_bind (wpAny_field hos hds (x := .none) rfl (wpAny_pure ?_)))))))
  refine wpAny_bind (slicePart_none ?_)
  show wpAny _ _ (if ((1 : Int) == 0) = true then _ else _) _ _ s
  rw [if_neg (by decide)]
  refine wpAny_bind (qA0 pl (wpAny_bind (qA0 pu (wpAny_bind (wpAny_pure ?_)))))
  show wpAny _ _ (match Builtin.Slice.sliceAdjust lo hi 1 (n : Int) with | (lo, hi) => pure (lo, (1 : Int), Builtin.Slice.slicePlaces lo hi 1)) _ _ s
  rw [qGb lo hi n]
  show wpAny _ _ (pure (((sIx n 0 lo : Nat) : Int), (1 : Int), Builtin.Slice.slicePlaces ((sIx n 0 lo : Nat) : Int) ((sIx n n hi : Nat) : Int) 1)) _ _ s
  rw [qGt]
  exact wpAny_pure h
theorem qJh (xs : Array Value) (i k : Nat) : ((List.range k).filterMap fun (m : Nat) => xs[((i : Int) + (m : Int) * 1).toNat]?).toArray = ((xs.toList.drop i).take k).toArray := by
  have e : (fun (m : Nat) => xs[((i : Int) + (m : Int) * 1).toNat]?) = fun m => xs[i + m]? := by
    funext m
    have : ((i : Int) + (m : Int) * 1).toNat = i + m := by omega
    rw [this]
  rw [e]
  have := pick_run xs i k
  rw [List.filterMap_map] at this
  have e2 : ((fun x => xs[x]?) ∘ fun x => i + x) = fun m => xs[i + m]? := rfl
  rw [e2] at this
  rw [this]
theorem getItem_tuple_cut {t sl : Addr} {items : Array Value} {vl vu : Value} {lo hi : Option Int} {Q : Value → Shared → Prop} (ht : IsTup s.heap t items) (hs : s.heap.IsSliceOf sl vl vu .none) (pl : IsPart vl lo) (pu : IsPart vu hi)
    (hw : ¬ (sIx items.size 0 lo = 0 ∧ sIx items.size items.size hi = items.size))
    (h : Q (.ref s.heap.objs.size) { s with heap := s.heap.push { cls := .type "tuple", data := .seq ((items.toList.drop (sIx items.size 0 lo)).take (sIx items.size items.size hi - sIx items.size 0 lo)).toArray } })
    (hsz : items.size ≤ sizeLine) : wpAny (model prog w) A (getItem (.ref t) (.ref sl)) Q E s := by
  have htake : sizeOk (.seq ((items.toList.drop (sIx items.size 0 lo)).take (sIx items.size items.size hi - sIx items.size 0 lo)).toArray) := by
    show ((items.toList.drop (sIx items.size 0 lo)).take (sIx items.size items.size hi - sIx items.size 0 lo)).toArray.size ≤ sizeLine
    rw [List.size_toArray, List.length_take, List.length_drop, Array.length_toList]
    omega
  have hj : sIx items.size items.size hi ≤ items.size := qL2 _ _ (Nat.le_refl _) hi
  obtain ⟨os, hos, hcs, hds⟩ := id hs
  have hTs : s.TypeIs (.ref sl) "slice" := ⟨os, hos, hcs⟩
  unfold getItem
  try with_reducible refine wpAny_holding ?_
  first | refine wpAny_bind (wpAny_pure ?_) | skip
  refine wpAny_bind (wpAny_sequenceKey ht.typeIs (by decide) ?_)
  refine wpAny_bind (wpAny_callSpecial?_slot (name := Str.ofString "__getitem__") ht.typeIs PyProof.Rows.slot_tuple_getitem
    (wpAny_call_entry PyProof.Rows.slot_tuple_getitem ht.typeIs entry_tuple_getitem ?_ (args_tuple_getitem _ _)))
  show wpAny _ _ (Builtin.Tuple.tupleItemsOf (.ref t) >>= _) _ _ s
  refine wpAny_bind (tupleItemsOf_ ht ?_)
  refine wpAny_bind (wpAny_typeOf hTs ?_)
  rw [if_pos (by decide)]
  refine wpAny_bind (vw hs pl pu ?_)
  have hno : ¬ ((((sIx items.size 0 lo : Nat) : Int) == 0 && (1 : Int) == 1 && (sIx items.size items.size hi - sIx items.size 0 lo) == items.size) = true) := by
    intro q
    rw [Bool.and_eq_true, Bool.and_eq_true] at q
    have q1 : ((sIx items.size 0 lo : Nat) : Int) = 0 := eq_of_beq q.1.1
    have q2 : sIx items.size items.size hi - sIx items.size 0 lo = items.size := eq_of_beq q.2
    exact hw ⟨by omega, by omega⟩
  show wpAny _ _ (if (((sIx items.size 0 lo : Nat) : Int) == 0 && (1 : Int) == 1 && (sIx items.size items.size hi - sIx items.size 0 lo) == items.size) = true then _ else _) _ _ s
  rw [if_neg hno, qJh]
  first
    | exact wpAny_bind (m := Builtin.Tuple.tupleExact _) (wpAny_newObj_type (wpAny_pure ⟨_, rfl, wpAny_pure h⟩) htake)
    | exact wpAny_bind (m := Builtin.Tuple.tupleExact _) (wpAny_newObj_type (wpAny_bind (wpAny_pure (wpAny_pure ⟨_, rfl, wpAny_pure h⟩))) htake)
    | exact wpAny_bind (wpAny_bind (m := Builtin.Tuple.tupleExact _) (wpAny_newObj_type (wpAny_pure (wpAny_pure ⟨_, rfl, wpAny_pure h⟩)) htake))
    | exact wpAny_bind (wpAny_bind (m := Builtin.Tuple.tupleExact _) (wpAny_newObj_type (wpAny_pure ⟨_, rfl, wpAny_pure h⟩) htake))
end
end HT
namespace L2
open PySem PySem.Spec PyProof.Rows
abbrev TO := St → Hp → (Option Int → Hp → Prop) → Prop
def PO (X : Cx) (e : Option Expr) (t : TO) : Prop :=
  ∀ (pins : List (Addr × Obj)) (s : Shared) (σ : St) (H : Hp) (Q : Option Int → Hp → Prop), Inv X pins σ H s → t σ H Q →
    wpAny (model X.prog X.w) X.A (evalPart e X.env) (fun u s' => ∃ o H', Inv X pins σ H' s' ∧ IsPart u o ∧ Q o H') X.xe s
def qLi : TO := fun _ H Q => Q none H
def qNo (t : TE) : TO := fun σ H Q => t σ H fun x H1 => ∃ i, x = .int i ∧ Q (some i) H1
section
variable {X : Cx} {e : Expr} {te : TE} {lo hi : Option Expr} {tl th : TO} {pos p2 : Pos}
theorem qE5 : PO X none qLi := by
  intro pins s σ H Q I h
  rw [evalPart_none]
  exact wpAny_pure ⟨none, H, I, .none, h⟩
theorem vJ (h : PE X e te) : PO X (some e) (qNo te) := by
  intro pins s σ H Q I hw
  rw [evalPart_some]
  refine thn (h pins s σ H _ I hw) fun u s1 ⟨x, H1, I1, r1, q1⟩ => ?_
  obtain ⟨i, rfl, q⟩ := q1
  obtain ⟨t, rfl⟩ := r1
  exact ⟨some i, H1, I1, .int i t, q⟩
def SlR (X : Cx) (r : V → Option Int → Option Int → Hp → VK → Prop) : Prop :=
  ∀ (pins : List (Addr × Obj)) (s : Shared) (σ : St) (H : Hp) (x : V) (v vl vu : Value) (lo hi : Option Int) (sl : Addr) (Q : VK), Inv X pins σ H s → RelV x v → s.heap.IsSliceOf sl vl vu .none → IsPart vl lo → IsPart vu hi → r x lo hi H Q →
    ∃ T id, typeLookup (.type T) "__getitem__" = pure (some (.builtin id)) ∧ s.TypeIs v T ∧ wpAny (model X.prog X.w) X.A (getItem v (.ref sl)) (EP X pins σ Q) X.xe s
theorem SlR.or {r r' : V → Option Int → Option Int → Hp → VK → Prop} (h : SlR X r) (h' : SlR X r') : SlR X (fun x lo hi H Q => r x lo hi H Q ∨ r' x lo hi H Q) := by
  intro pins s σ H x v vl vu lo hi sl Q I rx hs pl pu q
  rcases q with q | q
  · exact h pins s σ H x v vl vu lo hi sl Q I rx hs pl pu q
  · exact h' pins s σ H x v vl vu lo hi sl Q I rx hs pl pu q
def tSl (r : V → Option Int → Option Int → Hp → VK → Prop) (te : TE) (tl th : TO) : TE := fun σ H Q => te σ H fun x H1 => tl σ H1 fun l H2 => th σ H2 fun u H3 => r x l u H3 Q
theorem wL {r : V → Option Int → Option Int → Hp → VK → Prop} (hr : SlR X r) (he : PE X e te) (hl : PO X lo tl) (hu : PO X hi th) : PE X (.Subscript e (.Slice lo hi none p2) pos) (tSl r te tl th) := by
  intro pins s σ H Q I h
  refine Subscript_ (thn (he pins s σ H _ I h) fun v s1 ⟨x, H1, I1, r1, q1⟩ => ?_)
  refine wpAny_Slice (thn (hl pins s1 σ H1 _ I1 q1) fun vl s2 ⟨l, H2, I2, pl, q2⟩ => thn (hu pins s2 σ H2 _ I2 q2) fun vu s3 ⟨u, H3, I3, pu, q3⟩ => ?_)
  rw [evalPart_none]
  refine wpAny_pure ?_
  have I4 : Inv X pins σ H3 { s3 with heap := s3.heap.push { cls := .type "slice", data := .fields #[vl, vu, .none] } } := I3.kept (t' := s3.toks) fun b ob q => Heap.get?_push_of_some _ q
  obtain ⟨T, id, hT, ht, hg⟩ := hr pins { s3 with heap := s3.heap.push { cls := .type "slice", data := .fields #[vl, vu, .none] } } σ H3 x v vl vu l u s3.heap.objs.size Q I4 r1 (Heap.IsSliceOf.new ..) pl pu q3
  show wpAny (model X.prog X.w) X.A (subscriptTail e (.Slice lo hi none p2) v (.ref s3.heap.objs.size)) (EP X pins σ Q) X.xe { s3 with heap := s3.heap.push { cls := .type "slice", data := .fields #[vl, vu, .none] } }
  exact tail_any (ops := [.ref s3.heap.objs.size, v]) ht hT hg (by with_unfolding_all rfl)
def qEe (xs : List V) (lo hi : Option Int) : List V := (xs.drop (HT.sIx xs.length 0 lo)).take (HT.sIx xs.length xs.length hi - HT.sIx xs.length 0 lo)
theorem we (xs : List V) (lo hi : Option Int) : (qEe xs lo hi).length ≤ xs.length := by
  unfold qEe
  rw [List.length_take, List.length_drop]
  omega
def qOy (K : PySem.W.Frag) : V → Option Int → Option Int → Hp → VK → Prop := fun x lo hi H Q => ∃ a xs, x = .ref a ∧ SqT K H a xs ∧
  ¬ (HT.sIx xs.length 0 lo = 0 ∧ HT.sIx xs.length xs.length hi = xs.length) ∧ ∀ p, H p = none → Q (.ref p) (upd H p (.tup (qEe xs lo hi)))
theorem qL0 : SlR X (qOy X.K) := by
  intro pins s σ H x v vl vu lo hi sl Q I rx hs pl pu h
  obtain ⟨a, xs, rfl, hx, hw, q⟩ := h
  cases rx
  obtain ⟨its, r, ht, hz⟩ := I.tuple hx
  have hlen : its.toArray.size = xs.length := by rw [List.size_toArray]; exact r.length.symm
  refine ⟨"tuple", _, PyProof.Rows.slot_tuple_getitem.lookup, ht.typeIs, ?_⟩
  refine HT.getItem_tuple_cut ht hs pl pu (by rw [hlen]; exact hw) ?_ (by rw [hlen]; exact hz)
  rw [hlen]
  refine ⟨.ref s.heap.objs.size, _, I.laid (t' := s.toks) (o := .tup (qEe xs lo hi)) (fun b ob q => Heap.get?_push_of_some _ q) (Nat.le_refl _) ?_, rfl, q _ (I.hok.fresh (Nat.le_refl _))⟩
  exact ⟨Nat.le_trans (we xs lo hi) hz, _, (r.drop (HT.sIx xs.length 0 lo)).take (HT.sIx xs.length xs.length hi - HT.sIx xs.length 0 lo), IsTup.new _ _⟩
def qNd (K : PySem.W.Frag) : R2 := fun x y H Q => ∃ a b xs ys, x = .ref a ∧ y = .ref b ∧ SqT K H a xs ∧ SqT K H b ys ∧ xs ≠ [] ∧ xs.length + ys.length ≤ sizeLine ∧
  (ys = [] → Q (.ref a) H) ∧ (ys ≠ [] → ∀ p, H p = none → Q (.ref p) (upd H p (.tup (xs ++ ys))))
theorem Vals.nil_iff {xs : List V} {us : List Value} (r : Vals xs us) : us = [] ↔ xs = [] := by
  cases r with
  | nil => simp
  | cons _ _ => simp
theorem qKj : OpR X (binaryOp .Add) (qNd X.K) := by
  intro pins s σ H x y v u Q I rx ry h
  obtain ⟨a, b, xs, ys, rfl, rfl, ha, hb, hx, hz, q1, q2⟩ := h
  cases rx
  cases ry
  obtain ⟨its, r1, p1, _⟩ := I.tuple ha
  obtain ⟨its2, r2, p2, _⟩ := I.tuple hb
  refine HT.cat_tup p1 p2 (fun z => hx (r1.nil_iff.mp z)) (fun z => ⟨.ref a, H, I, rfl, q1 (r2.nil_iff.mp z)⟩) (fun z => ?_) (by rw [← r1.length, ← r2.length]; exact hz)
  refine ⟨.ref s.heap.objs.size, _, I.laid (t' := s.toks) (o := .tup (xs ++ ys)) (fun b ob q => Heap.get?_push_of_some _ q) (Nat.le_refl _) ?_, rfl, q2 (fun w => z (r2.nil_iff.mpr w)) _ (I.hok.fresh (Nat.le_refl _))⟩
  exact ⟨by rw [List.length_append]; exact hz, _, r1.append r2, IsTup.new _ _⟩
end
end L2
namespace L2
open PySem PySem.Spec PyProof.Rows
def ixN (n : Nat) (i : Int) : Option Nat := if 0 ≤ i then (if i < n then some i.toNat else none) else if -(n : Int) ≤ i then some (i + n).toNat else none
def atI {α : Type} (xs : List α) (i : Int) : Option α := (ixN xs.length i).bind fun j => xs[j]?
theorem qH3 {n : Nat} {i : Int} {j : Nat} (h : ixN n i = some j) : seqIndex? i n = some j ∧ j < n ∧ -(n : Int) ≤ i ∧ i < n := by
  unfold ixN at h
  by_cases h0 : 0 ≤ i
  · rw [if_pos h0] at h
    by_cases h1 : i < n
    · rw [if_pos h1] at h
      have e : i.toNat = j := Option.some.inj h
      exact ⟨by rw [seqIndex_of h0 h1, e], by omega, by omega, h1⟩
    · rw [if_neg h1] at h; cases h
  · rw [if_neg h0] at h
    by_cases h1 : -(n : Int) ≤ i
    · rw [if_pos h1] at h
      have e : (i + n).toNat = j := Option.some.inj h
      exact ⟨by rw [seqIndex_neg (by omega) h1, e], by omega, h1, by omega⟩
    · rw [if_neg h1] at h; cases h
theorem qHk {α : Type} {xs : List α} {i : Int} {v : α} (h : atI xs i = some v) : ∃ j, seqIndex? i xs.length = some j ∧ xs[j]? = some v ∧ j < xs.length ∧ -(xs.length : Int) ≤ i ∧ i < xs.length := by
  unfold atI at h
  cases e : ixN xs.length i with
  | none => rw [e] at h; cases h
  | some j =>
    rw [e] at h
    obtain ⟨h1, h2, h3, h4⟩ := qH3 e
    exact ⟨j, h1, h, h2, h3, h4⟩
theorem jb {α : Type} {xs : List α} {j : Nat} {v : α} (h : xs[j]? = some v) : atI xs (j : Int) = some v := by
  have hj : j < xs.length := (List.getElem?_eq_some_iff.mp h).1
  have e : ixN xs.length (j : Int) = some j := by
    unfold ixN
    rw [if_pos (by omega), if_pos (by omega)]; simp
  unfold atI; rw [e]; exact h
theorem qI9 {α : Type} (xs : List α) (v : α) : atI (xs ++ [v]) (-1) = some v := by
  have hl : (xs ++ [v]).length = xs.length + 1 := by simp
  have e : ixN (xs ++ [v]).length (-1) = some xs.length := by
    unfold ixN
    rw [hl, if_neg (by decide), if_pos (by omega)]
    congr 1
    omega
  unfold atI
  rw [e]
  show (xs ++ [v])[xs.length]? = some v
  simp
def qKy (b : Expr) : Prop := ∀ o i, subscripted b false o i = operate [o, i] (getItem o i)
def IxR (X : Cx) (r : R2) : Prop :=
  ∀ (value slice : Expr) (pins : List (Addr × Obj)) (s : Shared) (σ : St) (H : Hp) (x y : V) (v u : Value) (Q : VK), Inv X pins σ H s → RelV x v → RelV y u → r x y H Q →
    subscripted slice false v u = operate [v, u] (getItem v u) → wpAny (model X.prog X.w) X.A (subscriptTail value slice v u) (EP X pins σ Q) X.xe s
def MtR (X : Cx) (id : String) (r : V → List V → Hp → VK → Prop) : Prop :=
  ∀ (pins : List (Addr × Obj)) (s : Shared) (σ : St) (H : Hp) (x : V) (xs : List V) (v : Value) (us : List Value) (Q : VK), Inv X pins σ H s → RelV x v → Vals xs us → r x xs H Q →
    wpAny (model X.prog X.w) X.A (call (.builtin id) (v :: us)) (EP X pins σ Q) X.xe s
section
variable {X : Cx} {a b : Expr} {ta tb : TE} {pos : Pos}
theorem IxR.or {r r' : R2} (h : IxR X r) (h' : IxR X r') : IxR X (fun x y H Q => r x y H Q ∨ r' x y H Q) := by
  intro value slice pins s σ H x y v u Q I rx ry q hs
  rcases q with q | q
  · exact h value slice pins s σ H x y v u Q I rx ry q hs
  · exact h' value slice pins s σ H x y v u Q I rx ry q hs
theorem MtR.or {id : String} {r r' : V → List V → Hp → VK → Prop} (h : MtR X id r) (h' : MtR X id r') : MtR X id (fun x xs H Q => r x xs H Q ∨ r' x xs H Q) := by
  intro pins s σ H x xs v us Q I rx rs q
  rcases q with q | q
  · exact h pins s σ H x xs v us Q I rx rs q
  · exact h' pins s σ H x xs v us Q I rx rs q
theorem qJ {r : R2} (hr : IxR X r) (ha : PE X a ta) (hb : PE X b tb) (hs : qKy b) : PE X (.Subscript a b pos) (tOp r ta tb) := by
  intro pins s σ H Q I h
  exact Subscript_ (qNk ha hb I h fun v u s2 x y H2 I2 rx ry q => hr a b pins s2 σ H2 x y v u Q I2 rx ry q (hs _ _))
def qOd (K : PySem.W.Frag) : R2 := fun x y H Q => ∃ p xs i v, x = .ref p ∧ y = .int i ∧ SqL K H p xs ∧ atI xs i = some v ∧ Q v H
def qMx (K : PySem.W.Frag) : R2 := fun x y H Q => ∃ p xs i v, x = .ref p ∧ y = .int i ∧ SqT K H p xs ∧ atI xs i = some v ∧ Q v H
theorem jC : IxR X (qOd X.K) := by
  intro value slice pins s σ H x y v u Q I rx ry h hs
  obtain ⟨p, xs, i, z, rfl, rfl, hq, he, q⟩ := h
  cases rx
  obtain ⟨t, rfl⟩ := ry
  obtain ⟨its, r, pl, hz⟩ := I.list hq
  obtain ⟨j, h1, h2, h3, h4, h5⟩ := qHk he
  obtain ⟨w, ew, rw'⟩ := r.get h2
  have hl := r.length
  have hn := qCz
  have fin : EP X pins σ Q w s := ⟨z, H, I, rw', q⟩
  by_cases h0 : 0 ≤ i
  · have hj : i.toNat = j := by
      rw [seqIndex_of h0 h5] at h1
      exact Option.some.inj h1
    exact item_listR pl.isList h0 (by omega) (by rw [hj]; simpa using ew) fin hs
  · have hj : (i + (its.toArray.size : Int)).toNat = j := by
      rw [seqIndex_neg (by omega) h4] at h1
      rw [List.size_toArray, ← hl]
      exact Option.some.inj h1
    exact subscriptTail_builtinR (x := w) pl.isList.typeIs slot_list_getitem.lookup
      (wpAny_getItem_list_neg (Q := fun r s' => r = w ∧ EP X pins σ Q r s') pl.isList (by omega) (by rw [List.size_toArray] <;> omega) (by omega) (by rw [hj]; simpa using ew) ⟨rfl, fin⟩) hs
theorem qI : IxR X (qMx X.K) := by
  intro value slice pins s σ H x y v u Q I rx ry h hs
  obtain ⟨p, xs, i, z, rfl, rfl, hq, he, q⟩ := h
  cases rx
  obtain ⟨t, rfl⟩ := ry
  obtain ⟨its, r, pl, hz⟩ := I.tuple hq
  obtain ⟨j, h1, h2, h3, h4, h5⟩ := qHk he
  obtain ⟨w, ew, rw'⟩ := r.get h2
  have hl := r.length
  have hn := qCz
  have fin : EP X pins σ Q w s := ⟨z, H, I, rw', q⟩
  exact subscriptTail_builtinR (x := w) pl.typeIs slot_tuple_getitem.lookup
    (getItem_tuple (j := j) (Q := fun r s' => r = w ∧ EP X pins σ Q r s') pl (by omega) (by omega) (by rw [List.size_toArray, ← hl]; exact h1) (by simpa using ew) ⟨rfl, fin⟩) hs
theorem qGy (its : List Value) (n j : Nat) (u : Value) : Obj.mapSeq (·.setIfInBounds j u) { cls := .type "list", data := .seq its.toArray n } = { cls := .type "list", data := .seq (its.set j u).toArray n } := by
  simp [Obj.mapSeq]
theorem Inv.lst {pins : List (Addr × Obj)} {σ : St} {H : Hp} {s : Shared} {p : Addr} {xs : List V} (I : Inv X pins σ H s) (h : H p = some (.lst xs)) :
    ∃ (its : List Value) (n : Nat), Vals xs its ∧ s.heap.get? p = some { cls := .type "list", data := .seq its.toArray n } ∧ xs.length ≤ sizeLine := by
  obtain ⟨z, its, n, r, e⟩ := I.hok p _ h
  exact ⟨its, n, r, e, z⟩
theorem Inv.lstUpd {pins : List (Addr × Obj)} {σ : St} {H : Hp} {s : Shared} {p : Addr} {xs ys : List V} {its its' : List Value} {n n' : Nat} {f : Obj → Obj} (I : Inv X pins σ H s) (h : H p = some (.lst xs))
    (ho : s.heap.get? p = some { cls := .type "list", data := .seq its.toArray n }) (hf : f { cls := .type "list", data := .seq its.toArray n } = { cls := .type "list", data := .seq its'.toArray n' }) (r : Vals ys its') (hz : ys.length ≤ sizeLine) (t : Nat) :
    Inv X pins σ (upd H p (.lst ys)) { s with heap := s.heap.update p f, toks := t } := by
  have e : (s.heap.update p f).get? p = some { cls := .type "list", data := .seq its'.toArray n' } := by
    rw [Heap.get?_update_self f ho (by rw [hf] <;> rfl), hf]
  refine I.write (x := p) (e := p) (by rw [h]; trivial) (.inl rfl) (fun b u hb q => (Heap.get?_update_other _ _ (Ne.symm hb)).trans q) ⟨_, e⟩ ?_
  exact ⟨hz, its', n', r, e⟩
def qNm : V → V → V → Hp → (Hp → Prop) → Prop := fun o i v H Q => ∃ p xs k j, o = .ref p ∧ i = .int k ∧ H p = some (.lst xs) ∧ ixN xs.length k = some j ∧ Q (upd H p (.lst (xs.set j v)))
theorem qJc : qN9 X qNm := by
  intro pins s σ H o i v ov iv u Q I ro ri rv h
  obtain ⟨p, xs, k, j, rfl, rfl, hp, hj, q⟩ := h
  cases ro
  obtain ⟨t, rfl⟩ := ri
  obtain ⟨its, n, r, ho, hz⟩ := I.lst hp
  obtain ⟨h1, h2, h3, h4⟩ := qH3 hj
  have hl := r.length
  have hn := qCz
  have I' : Inv X pins σ (upd H p (.lst (xs.set j v))) { s with heap := s.heap.update p (Obj.mapSeq (·.setIfInBounds j u)) } :=
    I.lstUpd hp ho (qGy its n j u) (r.set rv j) (by rw [List.length_set]; exact hz) s.toks
  by_cases h0 : 0 ≤ k
  · have hk : k.toNat = j := by
      rw [seqIndex_of h0 h4] at h1
      exact Option.some.inj h1
    exact PySem.W.ki_setAt ho h0 (by omega) (by rw [List.size_toArray, ← hl]; exact h4) (by rw [hk]; exact ⟨_, I', q⟩)
  · have hk : (k + (its.toArray.size : Int)).toNat = j := by
      rw [seqIndex_neg (by omega) h3] at h1
      rw [List.size_toArray, ← hl]
      exact Option.some.inj h1
    exact PySem.W.ki_setBack ho (by omega) (by rw [List.size_toArray, ← hl]; exact h3) (by omega) (by rw [hk]; exact ⟨_, I', q⟩)
theorem qDc (lo hi : Option Int) (n : Nat) : (sliceBounds lo hi none n).1 = ((HT.sIx n 0 lo : Nat) : Int) ∧ (sliceBounds lo hi none n).2.1 = ((HT.sIx n n hi : Nat) : Int) ∧ (sliceBounds lo hi none n).2.2 = 1 := by
  refine ⟨?_, ?_, rfl⟩
  · cases lo with
    | none => simp [sliceBounds, HT.sIx]
    | some i =>
      simp only [sliceBounds, HT.sIx, Option.getD_none, show (1 : Int) > 0 by decide, if_true]
      by_cases h : i < 0
      · simp only [h, if_true] <;> omega
      · simp only [h, if_false] <;> omega
  · cases hi with
    | none => simp [sliceBounds, HT.sIx]
    | some i =>
      simp only [sliceBounds, HT.sIx, Option.getD_none, show (1 : Int) > 0 by decide, if_true]
      by_cases h : i < 0
      · simp only [h, if_true] <;> omega
      · simp only [h, if_false] <;> omega
theorem qBm (its : List Value) (lo hi : Option Int) : slicePick its.toArray lo hi none = ((its.drop (HT.sIx its.length 0 lo)).take (HT.sIx its.length its.length hi - HT.sIx its.length 0 lo)).toArray := by
  obtain ⟨h1, h2, h3⟩ := qDc lo hi its.toArray.size
  unfold slicePick
  rw [h1, h2, h3]
  simp only [sliceRange_one, pick_run, List.size_toArray] <;> rfl
def qOs (K : PySem.W.Frag) : V → Option Int → Option Int → Hp → VK → Prop := fun x lo hi H Q => ∃ a xs, x = .ref a ∧ SqL K H a xs ∧ ∀ p, H p = none → Q (.ref p) (upd H p (.lst (qEe xs lo hi)))
theorem qE1 : SlR X (qOs X.K) := by
  intro pins s σ H x v vl vu lo hi sl Q I rx hs pl pu h
  obtain ⟨a, xs, rfl, hx, q⟩ := h
  cases rx
  obtain ⟨its, r, ht, hz⟩ := I.list hx
  have hlen := r.length
  refine ⟨"list", _, slot_list_getitem.lookup, ht.isList.typeIs, ?_⟩
  refine wpAny_getItem_list_slice ht.isList hs pl pu .none (by simp) ?_ (by rw [List.size_toArray] <;> omega)
  rw [qBm, ← hlen]
  refine ⟨.ref s.heap.objs.size, _, I.laid (t' := s.toks) (o := .lst (qEe xs lo hi)) (fun b ob q => Heap.get?_push_of_some _ q) (Nat.le_refl _) ?_, rfl, q _ (I.hok.fresh (Nat.le_refl _))⟩
  exact ⟨Nat.le_trans (we xs lo hi) hz, _, 0, (r.drop (HT.sIx xs.length 0 lo)).take (HT.sIx xs.length xs.length hi - HT.sIx xs.length 0 lo), Heap.get?_push_size _ rfl⟩
def xc : V → Bool
  | .non => true
  | .bl _ => true
  | .int _ => true
  | .str _ => true
  | _ => false
def eqV : V → V → Bool
  | .non, .non => true
  | .bl a, .bl b => a == b
  | .bl a, .int b => (if a then 1 else 0) == b
  | .int a, .bl b => a == (if b then 1 else 0)
  | .int a, .int b => a == b
  | .str a, .str b => a == b
  | _, _ => false
theorem qD3 {A : Around} {s : Shared} {y x : V} {u v : Value} (ry : RelV y u) (rx : RelV x v) (fy : xc y = true) (fx : xc x = true) : SeqAt.EqAt A s u v (eqV y x) := by
  cases y with
  | non =>
    cases ry
    cases x with
    | non => cases rx; exact SeqAt.EqAt.same _
    | bl b => cases rx; exact SeqAt.EqAt.none_bool b
    | int b => obtain ⟨t, rfl⟩ := rx; exact SeqAt.EqAt.none_int b t
    | str b => obtain ⟨t, rfl⟩ := rx; exact SeqAt.EqAt.none_str b t
    | _ => exact absurd (show false = true from fx) Bool.false_ne_true
  | bl a =>
    cases ry
    cases x with
    | non => cases rx; exact SeqAt.EqAt.bool_none a
    | bl b => cases rx; exact SeqAt.EqAt.bool_bool a b
    | int b => obtain ⟨t, rfl⟩ := rx; exact SeqAt.EqAt.bool_int a b t
    | str b => obtain ⟨t, rfl⟩ := rx; exact SeqAt.EqAt.bool_str a b t
    | _ => exact absurd (show false = true from fx) Bool.false_ne_true
  | int a =>
    obtain ⟨t', rfl⟩ := ry
    cases x with
    | non => cases rx; exact SeqAt.EqAt.int_none a t'
    | bl b => cases rx; exact SeqAt.EqAt.int_bool a t' b
    | int b => obtain ⟨t, rfl⟩ := rx; exact SeqAt.EqAt.int_int a t' b t
    | str b => obtain ⟨t, rfl⟩ := rx; exact SeqAt.EqAt.int_str a t' b t
    | _ => exact absurd (show false = true from fx) Bool.false_ne_true
  | str a =>
    obtain ⟨t', rfl⟩ := ry
    cases x with
    | non => cases rx; exact SeqAt.EqAt.str_none a t'
    | bl b => cases rx; exact SeqAt.EqAt.str_bool a t' b
    | int b => obtain ⟨t, rfl⟩ := rx; exact SeqAt.EqAt.str_int a t' b t
    | str b => obtain ⟨t, rfl⟩ := rx; exact SeqAt.EqAt.str_str a t' b t
    | _ => exact absurd (show false = true from fx) Bool.false_ne_true
  | _ => exact absurd (show false = true from fy) Bool.false_ne_true
def eqU (x : V) (u : Value) : Bool := match u with
  | .none => eqV .non x
  | .bool b => eqV (.bl b) x
  | .int i _ => eqV (.int i) x
  | .str z _ => eqV (.str z) x
  | _ => false
theorem qJv {x y : V} {u : Value} (r : RelV y u) (f : xc y = true) : eqU x u = eqV y x := by
  cases y with
  | non => cases r; rfl
  | bl b => cases r; rfl
  | int i => obtain ⟨t, rfl⟩ := r; rfl
  | str z => obtain ⟨t, rfl⟩ := r; rfl
  | _ => exact absurd (show false = true from f) Bool.false_ne_true
theorem wT {x : V} : ∀ {xs : List V} {us : List Value}, Vals xs us → xs.all xc = true → us.any (eqU x) = xs.any fun y => eqV y x
  | _, _, .nil, _ => rfl
  | y :: xs, u :: us, .cons r t, f => by
    rw [List.all_cons, Bool.and_eq_true] at f
    rw [List.any_cons, List.any_cons, qJv r f.1, wT t f.2]
theorem vG {A : Around} {s : Shared} {x : V} {v : Value} (rx : RelV x v) (fx : xc x = true) : ∀ {xs : List V} {us : List Value}, Vals xs us → xs.all xc = true → ∀ u ∈ us, SeqAt.EqAt A s u v (eqU x u)
  | _, _, .nil, _ => fun u hu => by cases hu
  | y :: xs, u :: us, .cons r t, f => fun u' hu => by
    rw [List.all_cons, Bool.and_eq_true] at f
    rcases List.mem_cons.mp hu with rfl | hu
    · rw [qJv r f.1]; exact qD3 r rx f.1 fx
    · exact vG rx fx t f.2 u' hu
def inV (x : V) (xs : List V) : Bool := xs.any fun y => eqV y x
def rIn (K : PySem.W.Frag) (neg : Bool) : R2 := fun x y H Q => ∃ p xs, y = .ref p ∧ (SqL K H p xs ∨ SqT K H p xs) ∧ xc x = true ∧ xs.all xc = true ∧ Q (.bl (if neg then !inV x xs else inV x xs)) H
theorem jy : OpR X (compareOp .In) (rIn X.K false) := by
  intro pins s σ H x y v u Q I rx ry h
  obtain ⟨p, xs, rfl, hq, fx, fs, q⟩ := h
  cases ry
  rcases hq with hq | hq
  · obtain ⟨its, r, pl, hz⟩ := I.list hq
    refine SeqAt.in_listAt (eqU x) pl.isList (fun w hw => vG rx fx r fs w (by simpa using hw)) ⟨.bl _, H, I, rfl, ?_⟩
    rw [show its.toArray.any (eqU x) = its.any (eqU x) by simp, wT r fs]
    exact q
  · obtain ⟨its, r, pl, hz⟩ := I.tuple hq
    refine SeqAt.in_tupleAt (eqU x) pl (fun w hw => vG rx fx r fs w (by simpa using hw)) ⟨.bl _, H, I, rfl, ?_⟩
    rw [show its.toArray.any (eqU x) = its.any (eqU x) by simp, wT r fs]
    exact q
theorem zr : OpR X (compareOp .NotIn) (rIn X.K true) := by
  intro pins s σ H x y v u Q I rx ry h
  obtain ⟨p, xs, rfl, hq, fx, fs, q⟩ := h
  cases ry
  rcases hq with hq | hq
  · obtain ⟨its, r, pl, hz⟩ := I.list hq
    refine SeqAt.notIn_listAt (eqU x) pl.isList (fun w hw => vG rx fx r fs w (by simpa using hw)) ⟨.bl _, H, I, rfl, ?_⟩
    rw [show its.toArray.any (eqU x) = its.any (eqU x) by simp, wT r fs]
    exact q
  · obtain ⟨its, r, pl, hz⟩ := I.tuple hq
    refine SeqAt.notIn_tupleAt (eqU x) pl (fun w hw => vG rx fx r fs w (by simpa using hw)) ⟨.bl _, H, I, rfl, ?_⟩
    rw [show its.toArray.any (eqU x) = its.any (eqU x) by simp, wT r fs]
    exact q
theorem jY : CallR X (.builtin "len") (fun xs H Q => ∃ p ys, xs = [.ref p] ∧ (SqL X.K H p ys ∨ SqT X.K H p ys) ∧ Q (.int ys.length) H) := by
  intro pins s σ H xs us Q I r h
  obtain ⟨p, ys, rfl, hq, q⟩ := h
  obtain ⟨u, rfl, rx⟩ := qGx r
  cases rx
  have hn := qCz
  rcases hq with hq | hq
  · obtain ⟨its, r', pl, hz⟩ := I.list hq
    have hlen := r'.length
    exact Calls.call_len_list pl.isList (by simp only [List.size_toArray] <;> omega) ⟨.int ys.length, H, I.tok _, ⟨s.toks + 1, by rw [List.size_toArray, hlen]⟩, q⟩
  · obtain ⟨its, r', pl, hz⟩ := I.tuple hq
    have hlen := r'.length
    exact len_tuple pl (by simp only [List.size_toArray] <;> omega) ⟨.int ys.length, H, I.tok _, ⟨s.toks + 1, by rw [List.size_toArray, hlen]⟩, q⟩
theorem vn : CallR X (.builtin "len") (fun xs H Q => ∃ z, xs = [.str z] ∧ z.length ≤ sizeLine ∧ Q (.int z.length) H) := by
  intro pins s σ H xs us Q I r h
  obtain ⟨z, rfl, hz, q⟩ := h
  obtain ⟨u, rfl, t, rfl⟩ := qGx r
  have hn := qCz
  exact len_str (by omega) ⟨.int z.length, H, I.tok _, ⟨_, rfl⟩, q⟩
theorem CallR.or {f : Value} {r r' : List V → Hp → VK → Prop} (h : CallR X f r) (h' : CallR X f r') : CallR X f (fun xs H Q => r xs H Q ∨ r' xs H Q) := by
  intro pins s σ H xs us Q I rs q
  rcases q with q | q
  · exact h pins s σ H xs us Q I rs q
  · exact h' pins s σ H xs us Q I rs q
theorem z0 : CallR X (.type "list") (fun xs H Q => ∃ p ys, xs = [.ref p] ∧ (SqL X.K H p ys ∨ SqT X.K H p ys) ∧ ∀ l, H l = none → Q (.ref l) (upd H l (.lst ys))) := by
  intro pins s σ H xs us Q I r h
  obtain ⟨p, ys, rfl, hq, q⟩ := h
  obtain ⟨u, rfl, rx⟩ := qGx r
  cases rx
  have fin : ∀ (its : List Value), Vals ys its → ys.length ≤ sizeLine → ∀ (h' : Heap) (c' : Nat), (∀ b o', s.heap.get? b = some o' → h'.get? b = some o') →
      h'.get? s.heap.objs.size = some { cls := .type "list", dict := none, data := .seq its.toArray c', slots := #[] } → EP X pins σ Q (.ref s.heap.objs.size) { s with heap := h' } := fun its r' hz h' c' kp e =>
    ⟨.ref s.heap.objs.size, _, I.laid (t' := s.toks) kp (Nat.le_refl _) (show ObjOk X.prog X.w _ h' _ (.lst ys) from ⟨hz, its, c', r', e⟩), rfl, q _ (I.hok.fresh (Nat.le_refl _))⟩
  rcases hq with hq | hq
  · obtain ⟨its, r', pl, hz⟩ := I.list hq
    have hlen := r'.length
    obtain ⟨o, ho, hc, n, hd⟩ := pl.isList
    exact call_list_seq p (.inl rfl) ho hc hd (fun h' c' kp e => fin its r' hz h' c' kp e) (by simp only [List.size_toArray] <;> omega)
  · obtain ⟨its, r', pl, hz⟩ := I.tuple hq
    have hlen := r'.length
    obtain ⟨o, ho, hc, n, hd⟩ := pl
    exact call_list_seq p (.inr rfl) ho hc hd (fun h' c' kp e => fin its r' hz h' c' kp e) (by simp only [List.size_toArray] <;> omega)
def tyV (K : PySem.W.Frag) (T : String) (x : V) (H : Hp) : Prop := match x with
  | .str _ => T = "str"
  | .int _ => T = "int"
  | .ref p => (T = "list" ∧ ∃ xs, SqL K H p xs) ∨ (T = "tuple" ∧ ∃ o, K.lookup p = some o ∧ o.cls = .type "tuple" ∧ o.dict = none) ∨
      (T = "dict" ∧ ((∃ kvs, H p = some (.dK kvs)) ∨ ∃ kvs, H p = some (.dT kvs))) ∨ (T = "set" ∧ ∃ S n, H p = some (.set S n))
  | _ => False
theorem qJx {pins : List (Addr × Obj)} {σ : St} {H : Hp} {s : Shared} {T : String} {x : V} {v : Value} (I : Inv X pins σ H s) (r : RelV x v) (ty : tyV X.K T x H) :
    s.TypeIs v T ∧ ∀ a, v = .ref a → ∃ ob, s.heap.get? a = some ob ∧ ob.dict = none := by
  cases x with
  | str z =>
    obtain ⟨t, rfl⟩ := r
    cases (show T = "str" from ty)
    exact ⟨typeIs_str s z t, fun _ e => nomatch e⟩
  | int i =>
    obtain ⟨t, rfl⟩ := r
    cases (show T = "int" from ty)
    exact ⟨typeIs_int s i t, fun _ e => nomatch e⟩
  | ref p =>
    cases r
    rcases ty with ⟨rfl, xs, hq⟩ | ⟨rfl, o, hk, hc, hd⟩ | ⟨rfl, hk⟩ | ⟨rfl, S, n, hk⟩
    · obtain ⟨its, _, pl, _⟩ := I.list hq
      refine ⟨pl.isList.typeIs, fun a e => ?_⟩
      cases e
      obtain ⟨o, n, e, c, hd, _⟩ := pl
      exact ⟨o, e, hd⟩
    · refine ⟨⟨o, I.kIn p o hk, hc⟩, fun a e => ?_⟩
      cases e
      exact ⟨o, I.kIn _ o hk, hd⟩
    · have z : ∃ o, s.heap.get? p = some o ∧ o.ExactDict := by
        rcases hk with ⟨kvs, hk⟩ | ⟨kvs, hk⟩
        · obtain ⟨_, _, _, _, o, _, _, e, ex, _⟩ := I.hok p _ hk
          exact ⟨o, e, ex⟩
        · obtain ⟨_, _, _, _, o, _, _, e, ex, _⟩ := I.hok p _ hk
          exact ⟨o, e, ex⟩
      obtain ⟨o, e, ex⟩ := z
      refine ⟨⟨o, e, ex.1⟩, fun a e2 => ?_⟩
      cases e2
      exact ⟨o, e, ex.2.1⟩
    · obtain ⟨o, _, _, _, e, ex, _⟩ := I.hok p _ hk
      refine ⟨⟨o, e, ex.1⟩, fun a e2 => ?_⟩
      cases e2
      exact ⟨o, e, ex.2.1⟩
  | _ => exact False.elim ty
def qO4 (K : PySem.W.Frag) (T : String) (r : V → List V → Hp → VK → Prop) (to : TE) : TE := fun σ H Q => to σ H fun x H1 => tyV K T x H1 ∧ r x [] H1 Q
def tBM (K : PySem.W.Frag) (T : String) (r : V → List V → Hp → VK → Prop) (to : TE) (t : TA) : TE := fun σ H Q => to σ H fun x H1 => tyV K T x H1 ∧ t σ H1 fun xs H2 => r x xs H2 Q
variable {o e : Expr} {es : List Expr} {to : TE} {t : TA} {name : Str} {apos cpos : Pos} {T id : String} {r : V → List V → Hp → VK → Prop}
theorem ju (pa : PlainAttrs T) (slot : Slot T name id) (hty : typeOf (.builtin id) = pure (.type "method_descriptor")) (hm : MtR X id r) (ho : PE X o to)
    (hbase : attributeBase o name X.env (eval o X.env) = eval o X.env := by rfl) (hline : (apos.endLine == cpos.line) = true := by rfl) : PE X (.Call (.Attribute o name apos) [] [] cpos) (qO4 X.K T r to) := by
  intro pins s σ H Q I h
  refine wpAny_Call_method0_late hbase hline (thn (ho pins s σ H _ I h) fun v s1 ⟨x, H1, I1, r1, ty, q1⟩ => ?_)
  obtain ⟨h1, h2⟩ := qJx I1 r1 ty
  exact ⟨T, id, pa, slot, hty, h1, h2, Calls.callWith_builtin rfl (PySem.evalArgs_none (hm pins s1 σ H1 x [] v [] Q I1 r1 .nil q1))⟩
theorem kj (pa : PlainAttrs T) (slot : Slot T name id) (hty : typeOf (.builtin id) = pure (.type "method_descriptor")) (hm : MtR X id r) (ho : PE X o to) (ha : PA X (e :: es) t)
    (hbase : attributeBase o name X.env (eval o X.env) = eval o X.env := by rfl)
    (hfew : ((backTo cpos (starEach (e :: es) X.env)).all (fun x => !x.1) && (backToKw cpos (keywordEach [] X.env)).all (fun x => x.1.isSome)
      && decide ((e :: es).length + ([] : List Keyword).length + (if ([] : List Keyword).isEmpty then 0 else 1) < 30)) = true := by rfl)
    (hline : (apos.endLine == cpos.line) = true := by rfl) (hs : starEach (e :: es) X.env = (false, eval e X.env) :: starEach es X.env := by rfl) (hplain : (backTo cpos (starEach es X.env)).any (·.1) = false := by rfl) :
    PE X (.Call (.Attribute o name apos) (e :: es) [] cpos) (tBM X.K T r to t) := by
  intro pins s σ H Q I h
  refine wpAny_Call_method_late hbase hfew hline rfl (thn (ho pins s σ H _ I h) fun v s1 ⟨x, H1, I1, r1, ty, q1⟩ => ?_)
  obtain ⟨h1, h2⟩ := qJx I1 r1 ty
  refine ⟨T, id, pa, slot, hty, h1, h2, ?_⟩
  have hA := ha cpos pins s1 σ H1 _ I1 q1
  rw [hs] at hA ⊢
  refine Calls.callWith_builtin (by show (false || (backTo cpos (starEach es X.env)).any (·.1)) = false; rw [hplain] <;> rfl) (Calls.evalArgs_plain ?_)
  exact thn hA fun us s2 ⟨vs, H2, I2, r2, q2⟩ => hm pins s2 σ H2 x vs v us Q I2 r1 r2 q2
end
end L2
namespace L2
open PySem PySem.Spec PyProof.Rows
def MtM (X : Cx) (id : String) (r : V → List V → Hp → VK → Prop) : Prop :=
  ∀ (pins : List (Addr × Obj)) (s : Shared) (σ : St) (H : Hp) (x : V) (xs : List V) (v : Value) (us : List Value) (Q : VK), Inv X pins σ H s → RelV x v → Vals xs us → r x xs H Q →
    wpAny (model X.prog X.w) X.A (call (.builtin id) (v :: us)) (EP X pins σ Q) X.xe s
theorem Vals.one : ∀ {x : V} {us : List Value}, Vals [x] us → ∃ u, us = [u] ∧ RelV x u
  | _, _, .cons r .nil => ⟨_, rfl, r⟩
theorem Vals.two : ∀ {x y : V} {us : List Value}, Vals [x, y] us → ∃ u v, us = [u, v] ∧ RelV x u ∧ RelV y v
  | _, _, _, .cons r (.cons q .nil) => ⟨_, _, rfl, r, q⟩
theorem Vals.zero : ∀ {us : List Value}, Vals [] us → us = []
  | _, .nil => rfl
theorem Vals.dropLast {xs : List V} {us : List Value} (h : Vals xs us) : Vals xs.dropLast us.dropLast := by
  induction h with
  | nil => exact .nil
  | cons r t ih =>
    cases t with
    | nil => exact .nil
    | cons q t' => exact .cons r ih
theorem Vals.eraseIdx : ∀ {xs : List V} {us : List Value} (i : Nat), Vals xs us → Vals (xs.eraseIdx i) (us.eraseIdx i)
  | _, _, _, .nil => .nil
  | _, _, 0, .cons _ t => t
  | _, _, i + 1, .cons r t => .cons r (Vals.eraseIdx i t)
theorem Vals.reverse {xs : List V} {us : List Value} (h : Vals xs us) : Vals xs.reverse us.reverse := by
  induction h with
  | nil => exact .nil
  | cons r t ih => rw [List.reverse_cons, List.reverse_cons]; exact Vals.append ih (.cons r .nil)
theorem Vals.rep {xs : List V} {us : List Value} (h : Vals xs us) : ∀ k : Nat, Vals (List.replicate k xs).flatten (List.replicate k us).flatten
  | 0 => .nil
  | k + 1 => by
    rw [List.replicate_succ, List.replicate_succ, List.flatten_cons, List.flatten_cons]
    exact Vals.append h (Vals.rep h k)
theorem qGv {α : Type} (l : List α) : l.eraseIdx (l.length - 1) = l.dropLast := by
  induction l with
  | nil => rfl
  | cons a r ih =>
    cases r with
    | nil => rfl
    | cons b r =>
      have e : (a :: b :: r).length - 1 = ((b :: r).length - 1) + 1 := by
        have h1 : (a :: b :: r).length = r.length + 2 := rfl
        have h2 : (b :: r).length = r.length + 1 := rfl
        omega
      rw [e, List.eraseIdx_cons_succ, ih]
      all_goals rfl
section
variable {X : Cx} {pins : List (Addr × Obj)} {σ : St} {H : Hp} {s : Shared} {l b : Addr} {xs ys zs : List V}
theorem Inv.lset {its its' : List Value} {n : Nat} {f : Array Value → Array Value} {t' : Nat} (I : Inv X pins σ H s) (hH : H l = some (.lst xs))
    (e : s.heap.get? l = some { cls := .type "list", data := .seq its.toArray n }) (hf : f its.toArray = its'.toArray) (hv : Vals ys its') (hz : ys.length ≤ sizeLine) :
    Inv X pins σ (upd H l (.lst ys)) { s with heap := s.heap.update l (Obj.mapSeq f), toks := t' } := by
  have q := PySem.IsL.update e f
  rw [hf] at q
  refine I.write (x := l) (e := l) (by rw [hH]; exact trivial) (.inl rfl) (fun b' u hb hu => (Heap.get?_update_other s.heap (Obj.mapSeq f) (Ne.symm hb)).trans hu) ⟨_, q⟩ ?_
  exact ⟨hz, its', _, hv, q⟩
theorem Inv.lnew {its : List Value} {t' : Nat} (I : Inv X pins σ H s) (hv : Vals ys its) (hz : ys.length ≤ sizeLine) :
    Inv X pins σ (upd H s.heap.objs.size (.lst ys)) { s with heap := s.heap.push { cls := .type "list", data := .seq its.toArray }, toks := t' } :=
  I.laid (fun _ _ q => Heap.get?_push_of_some _ q) (Nat.le_refl _) ⟨hz, its, 0, hv, Heap.get?_push_size _ rfl⟩
theorem Inv.fresh (I : Inv X pins σ H s) : H s.heap.objs.size = none := I.hok.fresh (Nat.le_refl _)
theorem Inv.lstM (I : Inv X pins σ H s) (hH : H l = some (.lst xs)) : xs.length ≤ sizeLine ∧ ∃ (its : List Value) (n : Nat), Vals xs its ∧ xs.length = its.length ∧ s.heap.get? l = some { cls := .type "list", data := .seq its.toArray n } := by
  obtain ⟨z, its, n, r, e⟩ := I.hok l _ hH
  exact ⟨z, its, n, r, r.length, e⟩
end
section
variable {X : Cx}
def qKv : V → List V → Hp → VK → Prop := fun x vs H Q => ∃ l xs y, x = .ref l ∧ vs = [y] ∧ H l = some (.lst xs) ∧ xs.length < sizeLine ∧ Q .non (upd H l (.lst (xs ++ [y])))
theorem q9 : MtM X "list.append" qKv := by
  intro pins s σ H x vs v us Q I rx rv h
  obtain ⟨l, xs, y, rfl, rfl, hH, hz, q⟩ := h
  cases rx
  obtain ⟨u, rfl, ru⟩ := rv.one
  obtain ⟨z, its, n, r, hl, e⟩ := I.lstM hH
  refine call_meets F.slot_list_append ⟨_, e, rfl⟩ F.entry_list_append (F.args_list_append_2 _ _) (PySem.list_append l its.toArray n u (by rw [List.size_toArray]; omega)) ⟨e, ?_⟩
  refine ⟨.non, _, I.lset (its' := its ++ [u]) hH e (by simp) (r.append (.cons ru .nil)) ?_, rfl, q⟩
  rw [List.length_append, List.length_singleton]
  omega
def qOh : V → List V → Hp → VK → Prop := fun x vs H Q => ∃ l xs y, x = .ref l ∧ vs = [] ∧ H l = some (.lst xs) ∧ xs[xs.length - 1]? = some y ∧ Q y (upd H l (.lst xs.dropLast))
theorem j7 : MtM X "list.pop" qOh := by
  intro pins s σ H x vs v us Q I rx rv h
  obtain ⟨l, xs, y, rfl, rfl, hH, hy, q⟩ := h
  cases rx
  have hus := rv.zero
  subst hus
  obtain ⟨z, its, n, r, hl, e⟩ := I.lstM hH
  obtain ⟨u, hu, ru⟩ := r.get hy
  have hy' : its.toArray[its.toArray.size - 1]? = some u := by
    show its.toArray[its.length - 1]? = some u
    rw [← Array.getElem?_toList, ← hl]
    exact hu
  refine call_meets F.slot_list_pop ⟨_, e, rfl⟩ F.entry_list_pop (F.args_list_pop_1 _) (MeetsSeq.list_pop_last l its.toArray n u hy' (by rw [List.size_toArray]; omega)) ⟨e, ?_⟩
  refine ⟨y, _, I.lset (its' := its.dropLast) hH e ?_ r.dropLast ?_, ru, q⟩
  · show its.toArray.eraseIdxIfInBounds (its.toArray.size - 1) = its.dropLast.toArray
    rw [List.size_toArray, List.eraseIdxIfInBounds_toArray, qGv]
  · rw [List.length_dropLast]
    omega
def qL1 : V → List V → Hp → VK → Prop := fun x vs H Q => ∃ l xs, x = .ref l ∧ vs = [] ∧ H l = some (.lst xs) ∧ Q .non (upd H l (.lst []))
theorem qIq : MtM X "list.clear" qL1 := by
  intro pins s σ H x vs v us Q I rx rv h
  obtain ⟨l, xs, rfl, rfl, hH, q⟩ := h
  cases rx
  have hus := rv.zero
  subst hus
  obtain ⟨z, its, n, r, hl, e⟩ := I.lstM hH
  refine call_meets F.slot_list_clear ⟨_, e, rfl⟩ F.entry_list_clear (F.args_list_clear_1 _) (AutoSeq1.list_clear_list_0 l its.toArray n (by rw [List.size_toArray]; omega)) ⟨e, ?_⟩
  exact ⟨.non, _, I.lset (its' := []) (ys := []) hH e rfl .nil (Nat.zero_le _), rfl, q⟩
def qOu : R2 := fun x y H Q => ∃ l b xs zs, x = .ref l ∧ y = .ref b ∧ H l = some (.lst xs) ∧ H b = some (.lst zs) ∧ xs.length + zs.length ≤ sizeLine ∧ ∀ p, H p = none → Q (.ref p) (upd H p (.lst (xs ++ zs)))
theorem qAx : OpR X (binaryOp .Add) qOu := by
  intro pins s σ H x y v u Q I rx ry h
  obtain ⟨l, b, xs, zs, rfl, rfl, hH, hB, hz, q⟩ := h
  cases rx
  cases ry
  obtain ⟨z, its, n, r, hl, e⟩ := I.lstM hH
  obtain ⟨z2, its2, n2, r2, hl2, e2⟩ := I.lstM hB
  refine PySem.P.add_list e e2 ?_ (by rw [List.size_toArray, List.size_toArray]; omega)
  have ea : its.toArray ++ its2.toArray = (its ++ its2).toArray := by simp
  rw [ea]
  exact ⟨.ref _, _, I.lnew (t' := s.toks) (r.append r2) (by rw [List.length_append]; omega), rfl, q _ I.fresh⟩
end
section
variable {prog : Program} {w : World} {A : Around} {E : Value → Shared → Prop} {s : Shared}
end
section
variable {X : Cx}
end
end L2
namespace Att
open PySem PySem.W PySem.Calls PyProof.Rows
theorem wZ {P : Params} {h : Heap} : ∀ (ns : List Int) (vs : List Value), WellAll P h vs (ns.map WData.int) → IntsAre vs ns := by
  intro ns
  induction ns with
  | nil =>
    intro vs w
    rw [List.map_nil] at w
    cases w
    exact .nil
  | cons n ns ih =>
    intro vs w
    rw [List.map_cons] at w
    cases w with
    | cons a b =>
      cases a
      exact .cons _ _ (ih _ b)
theorem qHq {l : OpenLaw} {n : Nat} (hn : l.most = some n) {P : Params} {h : Heap} {args : List WData} {vals : List Value}
    (hpre : l.row.toRowW.claim.pre args = true) (hwl : WellAll P h vals args) :
    ∃ a vs ns, vals = [Value.ref a] ∧ args = [WData.list (ns.map WData.int)] ∧ h.get? a = some { cls := .type "list", data := .seq vs.toArray } ∧ IntsAre vs ns ∧ ns.length ≤ n := by
  have hsh : WShape.hasAll [] args [.list .int] = true := (pre_splitW hpre).1
  have hc : l.pre.holds [] { args := args } = true := (pre_splitW hpre).2
  obtain ⟨d, r, rfl, h1, h2⟩ := hasAllW_cons hsh
  obtain rfl := hasAllW_nil h2
  obtain ⟨xs, rfl, h3⟩ := hasW_list h1
  obtain ⟨ns, rfl⟩ := items_int h3
  have hlen : ns.length ≤ n := by
    unfold OpenLaw.pre at hc
    have h4 : (WTm.not (.lt (.lit (.int (n : Int))) (.len (.arg 0)))).holds [] { args := [.list (ns.map .int)] } = true := by
      have h4 := (holds_andW hc).1
      rw [hn] at h4
      exact h4
    have h5 := condW_of h4 (w_not (w_lt w_lit (w_len_list (w_arg rfl))))
    rw [List.length_map] at h5
    refine Nat.le_of_not_lt fun q => ?_
    have q' : (n : Int) < ((ns.length : Nat) : Int) := by omega
    first
      | (rw [decide_eq_true q'] at h5; exact absurd h5 (by decide))
      | (simp at h5; omega)
  cases hwl with
  | cons w1 w2 =>
    cases w2
    cases w1 with
    | list ho hall => exact ⟨_, _, ns, rfl, rfl, ho, wZ ns _ hall, hlen⟩
theorem qHb (l : OpenLaw) (args : List WData) : l.row.toRowW.claim.post args (.bool true) args = true :=
  postW_of (r := l.row.toRowW) (X := (true == true))
    (show WShape.has [] (.bool true) .bool = true by first | rfl | decide | simp [WShape.has, WShape.arms, WShape.armsAll])
    (show (WTm.eq .res (.lit (.bool true))).value [] { args := args, res := some (.bool true), after := args } = some (.bool (true == true)) from w_eq_bool (w_res rfl) w_lit) rfl
theorem attach_call {l : OpenLaw} {n : Nat} {q : Program} {loose : List Str} {XP : (Str → Option Value) → Heap → Prop} {YP : World → Heap → Prop} {d : DefRec}
    (hn : l.most = some n) (hdf : d.params.defaults = [])
    (call : ∀ (w : World) (s₀ s₁ : Shared) (mg mb : Str → Option Value) (fa : Addr) (o : Obj) (pm cd doc : Value) (a : Addr) (vs : List Value) (ns : List Int),
      Ground q loose [] XP w s₀ mg mb s₁.heap → YP w s₁.heap →
      s₁.heap.get? fa = some o → o.data = .func (docDef d.name d.params d.body d.scope pm cd doc) → s₁.heap.CodeRec cd d.name → mg d.name = some (.ref fa) →
      s₁.heap.get? a = some { cls := .type "list", data := .seq vs.toArray } → IntsAre vs ns → ns.length ≤ n → s₁.gens = #[] →
      codeAny (model l.prog w) callerA (.call (.ref fa) ⟨[.ref a], []⟩) (fun r s' => r = .ok (.ret (.bool true)) ∧ OldK s₁.heap s'.heap ∧ s'.os = s₁.os ∧ AllBare s'.gens) s₁) :
    WalkO q loose XP YP l.row.toRowW d [] (fun f vs => PySem.call f vs) := by
  intro w s₀ s₁ mg mb G Y fa o pm cd doc dV kV ho hd hcd hD hmg hg args vals as hpre hlay hrd hwl hlo
  obtain rfl : dV = .none := Dflts.none hD hdf
  obtain rfl : kV = .none := Dflts.noKw hD
  obtain ⟨a, vs, ns, rfl, rfl, hobj, hints, hlen⟩ := qHq hn hpre hwl
  refine enter_call (codeAny_mono (call w s₀ s₁ mg mb fa o pm cd doc a vs ns G Y ho (fd_plain hd) hcd hmg hobj hints hlen hg) fun r s' hq => ?_)
  obtain ⟨rfl, h2, h3, h4⟩ := hq
  exact ⟨.inl ⟨.bool true, .bool true, [], rfl, fun _ => rfl, .bool true, qHb l _, fun _ => ⟨List.Pairwise.nil, fun _ hm => (nomatch hm)⟩⟩, h2, h3, h4⟩
section
variable {prog : Program} {w : World} {A : Around} {E : Value → Shared → Prop} {s : Shared} {K : Frag}
def ledger (h : Heap) (L d : Addr) : List (Addr × Obj) := (List.range h.objs.size).filterMap fun a => if a = L ∨ a = d then none else (h.get? a).map fun o => (a, o)
end
end Att
namespace L2
open PySem PySem.Spec PyProof.Rows
theorem qCl : ∀ {vs : List Value} {ns : List Int}, IntsAre vs ns → Vals (ns.map V.int) vs
  | _, _, .nil => .nil
  | _, _, .cons n t h => .cons ⟨t, rfl⟩ (qCl h)
def qNh (H : Hp) : Prop := ∀ b, H b = none ∨ ∃ o xs, H b = some (.frz o (.lst xs))
theorem qI4 {P : Program} {w : World} {K : PySem.W.Frag} {mg mb : Str → Option Value} {CX : CXT} {k : Nat} {fa a : Addr} {fd : FuncData} {x : Str} {sp : Sp} {s₁ : Shared} {vs : List Value} {ns : List Int}
    (KX : K.In s₁.heap) (hns : s₁.heap.Ns mainGlobals mg) (hb : s₁.heap.Ns builtinsNs mb) (hbb : ∀ x : Str, x ≠ "__name__" → mb x = bootBuiltins x) (hlim : s₁.heap.NoLimit) (hg : s₁.gens = #[])
    (ha : s₁.heap.get? a = some { cls := .type "list", data := .seq vs.toArray }) (hi : IntsAre vs ns) (hl : ns.length ≤ sizeLine) (hr : Room k callerA)
    (F : ∀ base : Heap, K.In base → base.Ns mainGlobals mg → FnOk P w K mg base CX k fa fd [x] sp) (hbind : ∀ (s : Shared) (u : Value), BindsTo s fd ⟨[u], []⟩ [(x, u)])
    (hsp : ∀ H : Hp, qNh H → SqL K H a (ns.map V.int) → sp [.ref a] H (fun v _ => v = .bl true) fun _ _ _ => False)
    (hCX : ∀ H e s', CX [] H s₁ (fun _ _ _ => False) e s' → False) :
    codeAny (model P w) callerA (.call (.ref fa) ⟨[.ref a], []⟩) (fun r s' => r = .ok (.ret (.bool true)) ∧ OldK s₁.heap s'.heap ∧ s'.os = s₁.os ∧ AllBare s'.gens) s₁ := by
  have rv := qCl hi
  have lenV := hi.length
  have core : ∀ H : Hp, qNh H → SqL K H a (ns.map V.int) → HOk P w H s₁.heap → (∀ b, H b ≠ none → b = a) → (H a ≠ none → K.lookup a = none) →
      codeAny (model P w) callerA (.call (.ref fa) ⟨[.ref a], []⟩) (fun r s' => r = .ok (.ret (.bool true)) ∧ OldK s₁.heap s'.heap ∧ s'.os = s₁.os ∧ AllBare s'.gens) s₁ := by
    intro H hO hS hok hA hK
    have base_of : ∀ {b : Addr} {o : Obj}, s₁.heap.get? b = some o → H b = none → (qJg s₁.heap H).get? b = some o := fun e n => qIu e n
    have noA : ∀ {b : Addr} {o : Obj} {es : Array DictEntry} {ep : Nat}, s₁.heap.get? b = some o → o.data = .dict es ep → H b = none := fun {b o es ep} e d => by
      cases q : H b with
      | none => rfl
      | some u =>
        have e' : b = a := hA b (by rw [q]; simp)
        subst e'
        rw [ha] at e; cases e
        have d' : Data.seq vs.toArray _ = Data.dict es ep := d
        cases d'
    have nsK : ∀ {b : Addr} {m : Str → Option Value}, s₁.heap.Ns b m → (qJg s₁.heap H).Ns b m := fun {b m} ⟨o, es, ep, e, d, r⟩ => ⟨o, es, ep, base_of e (noA e d), d, r⟩
    have hKb : K.In (qJg s₁.heap H) := fun b o e => base_of (KX b o e) (by
      cases q : H b with
      | none => rfl
      | some u =>
        have e' : b = a := hA b (by rw [q]; simp)
        subst e'
        rw [hK (by rw [q]; simp)] at e; cases e)
    have hM : Mod K mg (qJg s₁.heap H) := ⟨hKb, nsK hns, ⟨mb, nsK hb, hbb⟩, let ⟨mc, h1, h2⟩ := hlim; ⟨mc, nsK h1, h2⟩⟩
    have e0 : Env0 P w K mg (qJg s₁.heap H) callerA [] s₁ H := ⟨rfl, hM, fun b o e => qKr e, Nat.le_of_eq (qH5 _ _), trivial, fun b hb => absurd (show b ∈ ([] : List Addr) from hb) (by simp), hok, .of_eq hg⟩
    refine codeAny_mono ((F _ hKb (nsK hns)).run callerA [] s₁ H ⟨[.ref a], []⟩ [.ref a] [.ref a] _ _ hr e0 (hbind s₁ (.ref a)) (.cons rfl .nil) (hsp H hO hS)) fun r s' h => ?_
    cases r with
    | error e => exact (hCX H e s' h).elim
    | ok fl =>
      cases fl with
      | next => exact False.elim h
      | brk => exact False.elim h
      | cont => exact False.elim h
      | ret u =>
        obtain ⟨v, H', os, bare, un, hok', r', q⟩ := h
        have q' : v = .bl true := q
        subst q'
        obtain rfl : u = Value.bool true := r'
        refine ⟨rfl, OldK.of_keep fun b o e => ?_, os, bare⟩
        cases q : H b with
        | none => exact un.keep b o e q (by intro z; exact absurd (show b ∈ ([] : List Addr) from z) (by simp)) (by simp)
        | some u =>
          rcases hO b with z | ⟨ob, xs, z⟩
          · rw [q] at z; cases z
          · have z2 := un.frzs b ob _ z
            obtain ⟨e1, _⟩ := hok b _ z
            obtain ⟨e2, _⟩ := hok' b _ z2
            rw [e] at e1; cases e1
            exact e2
  cases hk : K.lookup a with
  | some o =>
    have e := KX a o hk
    rw [ha] at e
    cases e
    refine core (fun _ => none) (fun _ => .inl rfl) (.inr ⟨_, vs.toArray, _, hk, rfl, rfl, rfl, by rw [List.size_toArray, lenV]; exact hl, by simpa using rv⟩) (fun b u z => by have z' : (none : Option HO) = some u := z; cases z') (fun b z => absurd rfl z) fun z => absurd rfl z
  | none =>
    refine core (fun b => if b = a then some (.frz { cls := .type "list", data := .seq vs.toArray } (.lst (ns.map V.int))) else none) (fun b => ?_) (.inl (.inr ⟨{ cls := .type "list", data := .seq vs.toArray }, if_pos rfl⟩)) (fun b u z => ?_) (fun b z => ?_) fun _ => hk
    · by_cases hb : b = a
      · exact .inr ⟨_, _, if_pos hb⟩
      · exact .inl (if_neg hb)
    · by_cases hb : b = a
      · have z' := (if_pos hb).symm.trans z
        cases z'
        subst hb
        exact ⟨ha, by rw [List.length_map]; exact hl, vs, _, rv, ha⟩
      · have z' := (if_neg hb).symm.trans z
        cases z'
    · by_cases hb : b = a
      · exact hb
      · exact absurd (if_neg hb) z
end L2
namespace L2
open PySem PySem.Spec PyProof.Rows
theorem walk_of {l : PySem.W.OpenLaw} {n k : Nat} {q : Program} {loose : List Str} {XP : (Str → Option Value) → Heap → Prop} {YP : World → Heap → Prop} {d : DefRec} {K : Params → PySem.W.Frag} {CX : World → CXT} {sp : World → Sp} {x : Str}
    (hn : l.most = some n) (hn2 : n ≤ sizeLine) (hdf : d.params.defaults = []) (hr : Room k callerA)
    (hY : ∀ (w : World) (h : Heap), YP w h → (K w.params).In h)
    (F : ∀ (w : World) (mg : Str → Option Value) (fa : Addr) (h : Heap), (K w.params).In h → h.Ns mainGlobals mg → mg d.name = some (.ref fa) →
      ∃ fd : FuncData, (∀ (s : Shared) (u : Value), BindsTo s fd ⟨[u], []⟩ [(x, u)]) ∧
        ∀ base : Heap, (K w.params).In base → base.Ns mainGlobals mg → FnOk l.prog w (K w.params) mg base (CX w) k fa fd [x] (sp w))
    (hsp : ∀ (w : World) (H : Hp) (a : Addr) (ns : List Int), ns.length ≤ n → qNh H → SqL (K w.params) H a (ns.map V.int) → sp w [.ref a] H (fun v _ => v = .bl true) fun _ _ _ => False)
    (hCX : ∀ (w : World) (H : Hp) (s : Shared) (e : Value) (s' : Shared), CX w [] H s (fun _ _ _ => False) e s' → False) :
    PySem.W.WalkO q loose XP YP l.row.toRowW d [] (fun f vs => PySem.call f vs) := by
  refine Att.attach_call hn hdf fun w s₀ s₁ mg mb fa o pm cd doc a vs ns G Y ho hd hcd hmg hobj hints hlen hg => ?_
  have KX := hY w _ Y
  obtain ⟨fd, hb, hF⟩ := F w mg fa _ KX G.T.g hmg
  exact qI4 KX G.T.g G.T.b G.T.builtins G.T.nolimit hg hobj hints (Nat.le_trans hlen hn2) hr hF hb (fun H hO hS => hsp w H a ns hlen hO hS) fun H e s' => hCX w H s₁ e s'
end L2
namespace L2
open PySem PySem.Spec PyProof.Rows
def qKk (s : Stmt) (j : Nat) : Stmt := match s with
  | .ClassDef _ _ _ body _ _ _ _ _ _ _ => body.getD j (.Pass ⟨0, 0, 0, 0⟩)
  | _ => .Pass ⟨0, 0, 0, 0⟩
def qM (s : Stmt) : Arguments := match s with
  | .FunctionDef _ a _ _ _ _ _ _ _ _ => a
  | _ => { posonlyargs := [], args := [], vararg := none, kwonlyargs := [], kw_defaults := [], kwarg := none, defaults := [] }
def qK (s : Stmt) : List Stmt := match s with
  | .FunctionDef _ _ b _ _ _ _ _ _ _ => b
  | _ => []
def qC (s : Stmt) : Scope := match s with
  | .FunctionDef _ _ _ _ _ _ sc _ _ _ => sc
  | _ => { kind := .function, names := [], isGenerator := false, isCoroutine := false }
abbrev CX0 : CXT := fun _ _ _ _ _ _ => False
abbrev E0 : XK := fun _ _ _ => False
theorem qNa {X : Cx} : qF6 CX0 X E0 := fun _ _ _ _ _ _ _ h => h.elim
structure Fun (K : PySem.W.Frag) (x qual : Str) (st : Stmt) (f : Addr) (fd : FuncData) : Prop where
  ex : ∃ (oc : Value) (od : Option Addr) (kV doc pm : Value) (an : Option Addr) (cdv ct : Value) (osl : Array (Option Value)),
    fd = PySem.W.fnOf x qual (qM st) (qK st) (qC st) .none kV doc pm an cdv ct ∧ K.lookup f = some ⟨oc, od, .func fd, osl⟩ ∧ PySem.W.codeIn K cdv qual = true
  kp : PySem.W.keepIn K (.ref f) = true
section
variable {P : Program} {w : World} {K : PySem.W.Frag} {mg : Str → Option Value} {base : Heap}
theorem Fun.ok {x qual : Str} {st : Stmt} {f : Addr} {fd : FuncData} {N ps : List Str} {k : Nat} {sp : Sp} (F : Fun K x qual st f fd) (S : qQ N ps (qC st)) (len : ∀ vs H Q E, sp vs H Q E → vs.length = ps.length)
    (hbody : ∀ (cdv : Value) (A : Around) (outer : List Env) (s : Shared) (H : Hp) (vs : List V) (Q : VK) (E : XK), Room k (A.deeper (envOfC qual (qC st) s.heap.objs.size f cdv)) → sp vs H Q E →
      ∃ t, PSs (qIi CX0 P w K mg base N qual (qC st) f cdv A outer s H E).nox (qK st) t ∧ t { nx := fun _ H' => Q .non H', rt := Q } (start N vs) H) : FnOk P w K mg base CX0 (k + 1) f fd ps sp := by
  obtain ⟨oc, od, kV, doc, pm, an, cdv, ct, osl, rfl, lk, hcd⟩ := F.ex
  refine qLs lk hcd S len fun A outer s H vs Q E hr hsp => ?_
  obtain ⟨t, h, q⟩ := hbody cdv A outer s H vs Q E hr hsp
  exact ⟨t, h.nox, q⟩
theorem Fun.binds {x qual : Str} {st : Stmt} {f : Addr} {fd : FuncData} {ps : List Str} (F : Fun K x qual st f fd)
    (h : ∀ (kV doc pm : Value) (an : Option Addr) (cdv ct : Value) (us : List Value), us.length = ps.length → bindArgs (PySem.W.fnOf x qual (qM st) (qK st) (qC st) .none kV doc pm an cdv ct) ⟨us, []⟩ = pure (ps.zip us)) : Binds K fd ps [] := by
  obtain ⟨oc, od, kV, doc, pm, an, cdv, ct, osl, rfl, lk, hcd⟩ := F.ex
  exact .all (h kV doc pm an cdv ct)
theorem qW {x qual : Str} {st : Stmt} {f : Addr} {oc : Value} {od an : Option Addr} {osl : Array (Option Value)} {kV doc pm cdv ct : Value} (l : K.lookup f = some ⟨oc, od, .func (PySem.W.fnOf x qual (qM st) (qK st) (qC st) .none kV doc pm an cdv ct), osl⟩)
    (c : PySem.W.codeIn K cdv qual = true) (k : PySem.W.keepIn K (.ref f) = true) : Fun K x qual st f (PySem.W.fnOf x qual (qM st) (qK st) (qC st) .none kV doc pm an cdv ct) := ⟨⟨oc, od, kV, doc, pm, an, cdv, ct, osl, rfl, l, c⟩, k⟩
end
theorem qLl {A : Around} {k : Nat} (hr : Room k A) : A.units + 1 < cLine := Nat.lt_of_le_of_lt (Nat.add_le_add_left (by decide : 1 ≤ 64) _) hr.units
theorem qc {n : Nat} (h : n ≤ 1000) : n < sizeLine := Nat.lt_of_le_of_lt h (by decide)
section
variable {X : Cx}
theorem pv (i : Nat) {x : Str} {pos : Pos} (hN : X.N[i]? = some x := by rfl) (hv : Vis X.env.scope x := by first | exact Or.inl rfl | exact Or.inr (Or.inl rfl) | exact Or.inr (Or.inr rfl)) (hd : (x == ("__debug__" : Str)) = false := by decide)
    (hcd : (x == ("__classdict__" : Str)) = false := by decide) : PE X (.Name x pos) (qN4 i) := qLu hN hv hd hcd
end
theorem qk {A B : Prop} (h : B) : if false = true then A else B := by
  rw [if_neg Bool.false_ne_true]
  exact h
theorem qr {A B : Prop} (h : A) : if true = true then A else B := by
  rw [if_pos rfl]
  exact h
theorem xo {c A B : Prop} [Decidable c] (h1 : c → A) (h2 : ¬ c → B) : if c then A else B := by
  by_cases h : c
  · rw [if_pos h]
    exact h1 h
  · rw [if_neg h]
    exact h2 h
theorem qHe {c A B : Prop} [Decidable c] (hc : c) (h : B) : if (!decide c) = true then A else B := by
  rw [decide_eq_true hc]
  exact qk h
def Same (H H' : Hp) : Prop := ∀ b o, H b = some o → H' b = some o
theorem Same.refl (H : Hp) : Same H H := fun _ _ h => h
theorem Same.trans {H H1 H2 : Hp} (a : Same H H1) (b : Same H1 H2) : Same H H2 := fun c o h => b c o (a c o h)
theorem Same.free {H H' : Hp} (e : Same H H') {l : Addr} (h : H' l = Option.none) : H l = Option.none := by
  cases q : H l with
  | none => rfl
  | some o =>
    rw [e l o q] at h
    cases h
theorem Same.seq {K : PySem.W.Frag} {H H' : Hp} {a : Addr} {xs : List V} (e : Same H H') (h : SqL K H a xs) : SqL K H' a xs := by
  rcases h with (h | ⟨o, h⟩) | h
  · exact .inl (.inl (e _ _ h))
  · exact .inl (.inr ⟨o, e _ _ h⟩)
  · exact .inr h
end L2
namespace L2
open PySem PySem.Spec PyProof.Rows
section
variable {κ : Type} [DecidableEq κ]
def qEf (kvs : List (κ × V)) (k : κ) : Option V := (kvs.find? fun kv => decide (kv.1 = k)).map (·.2)
def qF4 (kvs : List (κ × V)) (k : κ) (v : V) : List (κ × V) :=
  if (kvs.any fun kv => decide (kv.1 = k)) = true then kvs.map (fun kv => if kv.1 = k then (kv.1, v) else kv) else kvs ++ [(k, v)]
def qMe (kvs : List (κ × V)) (k : κ) : List (κ × V) := kvs.filter fun kv => decide (kv.1 ≠ k)
theorem qB0 {p : κ × V} {r : List (κ × V)} {k : κ} (e : p.1 = k) : qEf (p :: r) k = some p.2 := by simp [qEf, List.find?_cons, e]
theorem qCh {p : κ × V} {r : List (κ × V)} {k : κ} (e : ¬ p.1 = k) : qEf (p :: r) k = qEf r k := by simp [qEf, List.find?_cons, e]
theorem qFi (k : κ) : ∀ kvs : List (κ × V), (kvs.any fun kv => decide (kv.1 = k)) = (qEf kvs k).isSome
  | [] => rfl
  | p :: r => by
    rw [List.any_cons]
    by_cases e : p.1 = k
    · simp only [qB0 e, decide_eq_true e, Bool.true_or, Option.isSome_some]
    · rw [qCh e, decide_eq_false e, Bool.false_or]; exact qFi k r
theorem qEn (kvs : List (κ × V)) (k : κ) (v : V) : (qF4 kvs k v).length ≤ kvs.length + 1 := by
  unfold qF4
  split
  · rw [List.length_map]; omega
  · rw [List.length_append, List.length_cons, List.length_nil]; omega
theorem RelO.isSome_eq {o : Option V} {u : Option Value} (r : RelO o u) : o.isSome = u.isSome := by
  cases o with
  | none => cases u with
    | none => rfl
    | some _ => exact (show False from r).elim
  | some _ => cases u with
    | none => exact (show False from r).elim
    | some _ => rfl
theorem RelO.getD {o : Option V} {u : Option Value} {d : V} {d' : Value} (r : RelO o u) (rd : RelV d d') : RelV (o.getD d) (u.getD d') := by
  cases o with
  | none => cases u with
    | none => exact rd
    | some _ => exact (show False from r).elim
  | some _ => cases u with
    | none => exact (show False from r).elim
    | some _ => exact r
theorem KV.val {kvs : List (κ × V)} {vs : List (κ × Value)} (r : KV kvs vs) (k : κ) : RelO (qEf kvs k) (valueAt vs k) := by
  unfold KV at r
  induction r with
  | nil => exact True.intro
  | @cons p q ps qs h t ih =>
    obtain ⟨h1, h2⟩ := h
    by_cases e : p.1 = k
    · have e' : q.1 = k := h1.symm.trans e
      have b : valueAt (q :: qs) k = some q.2 := by simp [valueAt, List.find?_cons, e']
      rw [qB0 e, b]; exact h2
    · have e' : ¬ q.1 = k := fun z => e (h1.trans z)
      have b : valueAt (q :: qs) k = valueAt qs k := by simp [valueAt, List.find?_cons, e']
      rw [qCh e, b]; exact ih
theorem KV.any {kvs : List (κ × V)} {vs : List (κ × Value)} (r : KV kvs vs) (k : κ) : (kvs.any fun kv => decide (kv.1 = k)) = vs.any fun kv => decide (kv.1 = k) := by
  unfold KV at r
  induction r with
  | nil => rfl
  | cons h t ih => rw [List.any_cons, List.any_cons, ih, h.1]
theorem KV.repl {kvs : List (κ × V)} {vs : List (κ × Value)} (r : KV kvs vs) (k : κ) {y : V} {u : Value} (ry : RelV y u) :
    KV (kvs.map fun kv => if kv.1 = k then (kv.1, y) else kv) (vs.map fun kv => if kv.1 = k then (kv.1, u) else kv) := by
  unfold KV at r ⊢
  induction r with
  | nil => exact .nil
  | @cons p q ps qs h t ih =>
    rw [List.map_cons, List.map_cons]
    refine .cons ?_ ih
    obtain ⟨h1, h2⟩ := h
    by_cases e : p.1 = k
    · rw [if_pos e, if_pos (h1.symm.trans e)]; exact ⟨h1, ry⟩
    · rw [if_neg e, if_neg (fun z => e (h1.trans z))]; exact ⟨h1, h2⟩
theorem KV.put {kvs : List (κ × V)} {vs : List (κ × Value)} (r : KV kvs vs) (k : κ) {y : V} {u : Value} (ry : RelV y u) : KV (qF4 kvs k y) (stored vs k u) := by
  unfold qF4 stored
  rw [r.any k]
  by_cases e : (vs.any fun kv => decide (kv.1 = k)) = true
  · rw [if_pos e, if_pos e]; exact r.repl k ry
  · rw [if_neg e, if_neg e]; exact Paired.snoc r ⟨rfl, ry⟩
theorem KV.drop {kvs : List (κ × V)} {vs : List (κ × Value)} (r : KV kvs vs) (k : κ) : KV (qMe kvs k) (without vs k) := by
  unfold KV at r ⊢
  unfold qMe without
  induction r with
  | nil => exact .nil
  | @cons p q ps qs h t ih =>
    obtain ⟨h1, h2⟩ := h
    rw [List.filter_cons, List.filter_cons]
    by_cases e : p.1 = k
    · have a : ¬ decide (p.1 ≠ k) = true := by simp [e]
      have b : ¬ decide (q.1 ≠ k) = true := by simp [h1.symm.trans e]
      rw [if_neg a, if_neg b]; exact ih
    · have e' : ¬ q.1 = k := fun z => e (h1.trans z)
      have a : decide (p.1 ≠ k) = true := by simp [e]
      have b : decide (q.1 ≠ k) = true := by simp [e']
      rw [if_pos a, if_pos b]; exact .cons ⟨h1, h2⟩ ih
theorem KV.keys {kvs : List (κ × V)} {vs : List (κ × Value)} (r : KV kvs vs) : kvs.map (·.1) = vs.map (·.1) := by
  unfold KV at r
  induction r with
  | nil => rfl
  | cons h t ih => rw [List.map_cons, List.map_cons, ih, h.1]
theorem KV.length {kvs : List (κ × V)} {vs : List (κ × Value)} (r : KV kvs vs) : kvs.length = vs.length := Paired.length r
end
theorem qJj {P : Program} {w : World} {k : Key} {u : Value} (r : RelV (kV k) u) : (xI P w).is k u = true := by
  cases k with
  | inl i => obtain ⟨t, e⟩ := (show ∃ t, u = Value.int i t from r); subst e; exact qEg P w i t
  | inr x => obtain ⟨t, e⟩ := (show ∃ t, u = Value.str x t from r); subst e; exact qFb P w x t
theorem qC4 {P : Program} {w : World} : ∀ {ks : List Key} {us : List Value}, Vals (ks.map kV) us → ItemsAre (xI P w) ks us
  | [], _, r => by rw [List.map_nil] at r; cases r; exact .nil
  | k :: ks, _, r => by
    rw [List.map_cons] at r
    cases r with
    | cons h t => exact .cons (qJj h) (qC4 t)
abbrev KT (H : Hp) : List (List Key × V) → List (List Key × Addr × Value) → Prop := Paired fun p q => p.1 = q.1 ∧ H q.2.1 = some (.tup (p.1.map kV)) ∧ RelV p.2 q.2.2
theorem KT.val {H : Hp} {kvs : List (List Key × V)} {xs : List (List Key × Addr × Value)} (r : KT H kvs xs) (k : List Key) : RelO (qEf kvs k) ((atKey xs k).map (·.2)) := by
  induction r with
  | nil => exact True.intro
  | @cons p q ps qs h t ih =>
    obtain ⟨h1, _, h2⟩ := h
    by_cases e : p.1 = k
    · have e' : q.1 = k := h1.symm.trans e
      have b : atKey (q :: qs) k = some q.2 := by simp [atKey, List.find?_cons, e']
      rw [qB0 e, b]; exact h2
    · have e' : ¬ q.1 = k := fun z => e (h1.trans z)
      have b : atKey (q :: qs) k = atKey qs k := by simp [atKey, List.find?_cons, e']
      rw [qCh e, b]; exact ih
theorem KT.repl {H : Hp} {kvs : List (List Key × V)} {xs : List (List Key × Addr × Value)} (r : KT H kvs xs) (k : List Key) {y : V} {u : Value} (ry : RelV y u) :
    KT H (kvs.map fun kv => if kv.1 = k then (kv.1, y) else kv) (xs.map (putAt k u)) := by
  induction r with
  | nil => exact .nil
  | @cons p q ps qs h t ih =>
    rw [List.map_cons, List.map_cons]
    refine .cons ?_ ih
    obtain ⟨h1, h2, h3⟩ := h
    unfold putAt
    by_cases e : p.1 = k
    · rw [if_pos e, if_pos (h1.symm.trans e)]; exact ⟨h1, h2, ry⟩
    · rw [if_neg e, if_neg (fun z => e (h1.trans z))]; exact ⟨h1, h2, h3⟩
theorem KT.put {H : Hp} {kvs : List (List Key × V)} {xs : List (List Key × Addr × Value)} (r : KT H kvs xs) (k : List Key) {b : Addr} {y : V} {u : Value} (hb : H b = some (.tup (k.map kV))) (ry : RelV y u) :
    KT H (qF4 kvs k y) (storedH xs k b u) := by
  have e : (kvs.any fun kv => decide (kv.1 = k)) = (atKey xs k).isSome := by
    rw [qFi, (r.val k).isSome_eq, Option.isSome_map]
  unfold qF4 storedH
  rw [e]
  by_cases q : (atKey xs k).isSome = true
  · rw [if_pos q, if_pos q]; exact r.repl k ry
  · rw [if_neg q, if_neg q]; exact Paired.snoc r ⟨rfl, hb, ry⟩
theorem KT.keeps {H H' : Hp} {kvs : List (List Key × V)} {xs : List (List Key × Addr × Value)} (r : KT H kvs xs) (ht : ∀ b ys, H b = some (.tup ys) → H' b = some (.tup ys)) : KT H' kvs xs :=
  Paired.mapP r fun _ _ z => ⟨z.1, ht _ _ z.2.1, z.2.2⟩
section
variable {P : Program} {w : World} {H : Hp} {h : Heap} {a : Addr}
theorem qMj {u : HO} (ok : HOk P w H h) (e : Rd H a u) : ObjOk P w H h a u := e.ok ok
theorem qGa {kvs : List (Key × V)} (ok : HOk P w H h) (e : Rd H a (.dK kvs)) : kvs.length ≤ sizeLine ∧ (a == sysModules) = false ∧ ∃ vs, KV kvs vs ∧ h.DictOf (xI P w) a vs :=
  show ObjOk P w H h a (.dK kvs) from qMj ok e
theorem qNe {kvs : List (Key × V)} (ok : HOk P w H h) (e : H a = some (.dK kvs)) : kvs.length ≤ sizeLine ∧ (a == sysModules) = false ∧ ∃ vs, KV kvs vs ∧ h.DictOf (xI P w) a vs := qGa ok (.inl e)
theorem qH6 {ks : List Key} (ok : HOk P w H h) (e : H a = some (.tup (ks.map kV))) : (tupleKind (xI P w)).is h ks a := by
  obtain ⟨_, its, r, o, h1, h2, n, h3⟩ := (show ObjOk P w H h a (.tup (ks.map kV)) from ok a _ e)
  exact ⟨o, its.toArray, n, h1, h2, h3, by simpa using qC4 r⟩
theorem qKw {kvs : List (List Key × V)} (ok : HOk P w H h) (e : Rd H a (.dT kvs)) : kvs.length ≤ sizeLine ∧ (a == sysModules) = false ∧
    ∃ xs, KT H kvs xs ∧ h.DictOfH (tupleKind (xI P w)) a xs := by
  obtain ⟨z, y, xs, r, o, es, ep, h1, h2, h3, h4, h5⟩ := (show ObjOk P w H h a (.dT kvs) from qMj ok e)
  refine ⟨z, y, xs, r, o, es, ep, h1, h2, h3, h4, fun x hx => ?_, h5⟩
  have all : ∀ {l : List (List Key × V)} {m : List (List Key × Addr × Value)}, KT H l m → ∀ x ∈ m, (tupleKind (xI P w)).is h x.1 x.2.1 := by
    intro l m q
    induction q with
    | nil => intro x hx; exact nomatch hx
    | @cons p q ps qs hq t ih =>
      intro x hx
      rcases List.mem_cons.mp hx with e | hx
      · subst e
        exact qH6 ok (by rw [← hq.1]; exact hq.2.1)
      · exact ih x hx
  exact all r x hx
end
def DGet (H : Hp) (a : Addr) (y : V) (r : Option V) : Prop :=
  (∃ kvs k, Rd H a (.dK kvs) ∧ y = kV k ∧ r = qEf kvs k) ∨ ∃ kvs k b, Rd H a (.dT kvs) ∧ y = .ref b ∧ H b = some (.tup (k.map kV)) ∧ r = qEf kvs k
def DPut (H : Hp) (a : Addr) (y v : V) (H' : Hp) : Prop :=
  (∃ kvs k, H a = some (.dK kvs) ∧ y = kV k ∧ kvs.length < sizeLine ∧ H' = upd H a (.dK (qF4 kvs k v))) ∨
  ∃ kvs k b, H a = some (.dT kvs) ∧ y = .ref b ∧ H b = some (.tup (k.map kV)) ∧ kvs.length < sizeLine ∧ H' = upd H a (.dT (qF4 kvs k v))
theorem DGet.k {H : Hp} {a : Addr} {kvs : List (Key × V)} {k : Key} (e : H a = some (.dK kvs)) : DGet H a (kV k) (qEf kvs k) := .inl ⟨kvs, k, .inl e, rfl, rfl⟩
theorem DGet.t {H : Hp} {a b : Addr} {kvs : List (List Key × V)} {k : List Key} (e : H a = some (.dT kvs)) (eb : H b = some (.tup (k.map kV))) : DGet H a (.ref b) (qEf kvs k) := .inr ⟨kvs, k, b, .inl e, rfl, eb, rfl⟩
theorem DPut.k {H : Hp} {a : Addr} {kvs : List (Key × V)} {k : Key} {v : V} (e : H a = some (.dK kvs)) (hl : kvs.length < sizeLine) : DPut H a (kV k) v (upd H a (.dK (qF4 kvs k v))) := .inl ⟨kvs, k, e, rfl, hl, rfl⟩
theorem DPut.t {H : Hp} {a b : Addr} {kvs : List (List Key × V)} {k : List Key} {v : V} (e : H a = some (.dT kvs)) (eb : H b = some (.tup (k.map kV))) (hl : kvs.length < sizeLine) :
    DPut H a (.ref b) v (upd H a (.dT (qF4 kvs k v))) := .inr ⟨kvs, k, b, e, rfl, eb, hl, rfl⟩
section
variable {X : Cx} {pins : List (Addr × Obj)} {σ : St} {H : Hp} {s : Shared} {a : Addr} {y v : V} {u r : Value} {o : Option V} {A : Around} {E : Value → Shared → Prop}
theorem Inv.big (I : Inv X pins σ H s) : sysModules < s.heap.objs.size := by
  have h : mainGlobals < s.heap.objs.size := (I.mod.glob.keeps I.bk).lt
  exact Nat.lt_trans (by decide) h
theorem qHs {Q : Value → Shared → Prop} (hu : A.units + 1 < cLine) (I : Inv X pins σ H s) (g : DGet H a y (some v)) (ry : RelV y u) (h : ∀ w' s', Inv X pins σ H s' → RelV v w' → Q w' s') :
    wpAny (model X.prog X.w) A (getItem (.ref a) u) Q E s := by
  rcases g with ⟨kvs, k, e, ey, l⟩ | ⟨kvs, k, b, e, ey, eb, l⟩
  · subst ey
    obtain ⟨z, hd, vs, rel, dd⟩ := qGa I.hok e
    obtain ⟨w', hw, rw'⟩ := RelO.some_of (v := v) (o := valueAt vs k) (by rw [l]; exact rel.val k)
    exact wpAny_getItem_of (qJj ry) dd.mapOf hw (h w' _ (I.tok _) rw')
  · subst ey
    cases (show u = Value.ref b from ry)
    obtain ⟨z, hd, xs, rel, dd⟩ := qKw I.hok e
    obtain ⟨w', hw, rw'⟩ := RelO.some_of (v := v) (o := (atKey xs k).map (·.2)) (by rw [l]; exact rel.val k)
    obtain ⟨p, hp, hp2⟩ := Option.map_eq_some_iff.mp hw
    refine wpAny_getItem_heap (tupleKind_room_in1 hu) (qH6 I.hok eb) dd hp ?_
    rw [hp2]
    exact h w' _ (I.tok _) rw'
theorem qKc {Q : Value → Shared → Prop} (hu : A.units + 1 < cLine) (I : Inv X pins σ H s) (g : DGet H a y o) (ry : RelV y u) (h : ∀ s', Inv X pins σ H s' → Q (.bool (!o.isSome)) s') :
    wpAny (model X.prog X.w) A (compareOp .NotIn u (.ref a)) Q E s := by
  rcases g with ⟨kvs, k, e, ey, l⟩ | ⟨kvs, k, b, e, ey, eb, l⟩
  · subst ey
    obtain ⟨z, hd, vs, rel, dd⟩ := qGa I.hok e
    refine wpAny_notIn_of (qJj ry) hd dd.mapOf ?_
    rw [← (rel.val k).isSome_eq, ← l]
    exact h _ (I.tok _)
  · subst ey
    cases (show u = Value.ref b from ry)
    obtain ⟨z, hd, xs, rel, dd⟩ := qKw I.hok e
    refine wpAny_notIn_heap (tupleKind_room_in1 hu) (qH6 I.hok eb) hd dd ?_
    have q := (rel.val k).isSome_eq
    rw [Option.isSome_map] at q
    rw [← q, ← l]
    exact h _ (I.tok _)
theorem qLg {h' : Heap} {t' : Nat} {ob : HO} (I : Inv X pins σ H s) (mu : Mut (H a)) (hs : Heap.SameBut a s.heap h') (he : ∃ q, h'.get? a = some q) (new : ObjOk X.prog X.w (upd H a ob) h' a ob) :
    Inv X pins σ (upd H a ob) { s with heap := h', toks := t' } :=
  I.write (x := a) (e := a) mu (.inl rfl) (fun b q hb z => (hs.2 b hb).trans z) he new
theorem qMt {P : Program} {w : World} {H' : Hp} {h' : Heap} {kvs : List (Key × V)} {vs : List (Key × Value)} (z : kvs.length ≤ sizeLine) (hd : (a == sysModules) = false) (rel : KV kvs vs) (dd : h'.DictOf (xI P w) a vs) :
    ObjOk P w H' h' a (.dK kvs) := ⟨z, hd, vs, rel, dd⟩
end
section
variable {X : Cx} {pins : List (Addr × Obj)} {σ : St} {H : Hp} {s : Shared} {a : Addr} {kvs : List (Key × V)} {k : Key} {u : Value} {A : Around} {E : Value → Shared → Prop}
end
def qOe (i : Expr) : Prop := ∀ ov iv, subscripted i false ov iv = operate [ov, iv] (getItem ov iv)
theorem qK1 {prog : Program} {w : World} {A : Around} {E : Value → Shared → Prop} {s : Shared} {env : Env} {value slice : Expr} {pos : Pos} {T id : String} {Q : Value → Shared → Prop}
    (hl : typeLookup (.type T) "__getitem__" = pure (some (.builtin id))) (hs : qOe slice)
    (h : wpAny (model prog w) A (eval value env) (fun o s₁ => wpAny (model prog w) A (eval slice env) (fun i s₂ => s₂.TypeIs o T ∧ wpAny (model prog w) A (getItem o i) Q E s₂) E s₁) E s) :
    wpAny (model prog w) A (eval (.Subscript value slice pos) env) Q E s := by
  refine Subscript_ (wpAny_mono h (fun o s₁ h₁ => wpAny_mono h₁ (fun i s₂ h₂ => ?_) fun _ _ x => x) fun _ _ x => x)
  obtain ⟨hT, h₂⟩ := h₂
  unfold subscriptTail
  refine wpAny_bind ?_
  rw [getitemInPython_of_ne hT.not_modules]
  refine wpAny_bind (wpAny_specialOf hT hl ?_)
  have fin : wpAny (model prog w) A (subscripted slice false o i) (fun r s₃ => wpAny (model prog w) A (letTemporaryGo value o r >>= fun _ => pure r) Q E s₃) E s₂ := by
    rw [hs o i]
    exact wpAny_operating (wpAny_mono h₂ (fun r s₃ h₃ => wpAny_bind (wpAny_letTemporaryGo (wpAny_pure h₃))) fun _ _ x => x)
  first
    | exact wpAny_pure (wpAny_bind fin)
    | exact wpAny_bind (wpAny_pure (wpAny_bind fin))
    | exact wpAny_bind fin
theorem qFd {X : Cx} {pins : List (Addr × Obj)} {σ : St} {H : Hp} {s : Shared} {a : Addr} {y : V} {o : Option V} (I : Inv X pins σ H s) (g : DGet H a y o) : s.TypeIs (.ref a) "dict" := by
  rcases g with ⟨kvs, k, e, _, _⟩ | ⟨kvs, k, b, e, _, _, _⟩
  · obtain ⟨_, _, vs, _, dd⟩ := qGa I.hok e
    exact dd.typeIs
  · obtain ⟨_, _, xs, _, dd⟩ := qKw I.hok e
    exact dd.typeIs
def qNn (td ty : TE) : TE := fun σ H Q => td σ H fun x H1 => ty σ H1 fun y H2 => ∃ a v, x = .ref a ∧ DGet H2 a y (some v) ∧ Q v H2
def qK3 (ty td : TE) : TE := fun σ H Q => ty σ H fun y H1 => td σ H1 fun x H2 => ∃ a o, x = .ref a ∧ DGet H2 a y o ∧ Q (.bl (!o.isSome)) H2
section
variable {X : Cx} {o i e value : Expr} {pos pos' tpos : Pos} {td ty tv : TE}
theorem wf (hu : X.A.units + 1 < cLine) (ho : PE X o td) (hi : PE X i ty) (hs : qOe i) : PE X (.Subscript o i pos) (qNn td ty) := by
  intro pins s σ H Q I h
  refine qK1 PySem.F.slot_dict_getitem.lookup hs (thn (ho pins s σ H _ I h) fun u s1 ⟨x, H1, I1, rx, q1⟩ => thn (hi pins s1 σ H1 _ I1 q1) fun iv s2 ⟨y, H2, I2, ry, a, v, ex, g, q2⟩ => ?_)
  subst ex
  obtain rfl : u = Value.ref a := rx
  exact ⟨qFd I2 g, qHs hu I2 g ry fun w' s3 I3 rw' => ⟨v, H2, I3, rw', q2⟩⟩
theorem qIc (hu : X.A.units + 1 < cLine) (hi : PE X i ty) (ho : PE X o td) : PC X .NotIn i o (qK3 ty td) := by
  intro pins s σ H Q I h
  refine thn (hi pins s σ H _ I h) fun iv s1 ⟨y, H1, I1, ry, q1⟩ => thn (ho pins s1 σ H1 _ I1 q1) fun u s2 ⟨x, H2, I2, rx, a, ov, ex, g, q2⟩ => ?_
  subst ex
  obtain rfl : u = Value.ref a := rx
  exact qKc hu I2 g ry fun s3 I3 => ⟨.bl (!ov.isSome), H2, I3, rfl, q2⟩
end
theorem qIk {P : Program} {w : World} {H : Hp} (h : Heap) (hb : sysModules < h.objs.size) : ObjOk P w H (h.push { cls := .type "dict", data := .dict #[] }) h.objs.size (.dK []) :=
  ⟨Nat.zero_le _, beq_eq_false_iff_ne.mpr (Ne.symm (Nat.ne_of_lt hb)), [], .nil, Heap.DictOf.new h⟩
section
variable {X : Cx} {pos : Pos}
end
def qHn : List (TE × TE) → St → Hp → (List (V × V) → Hp → Prop) → Prop
  | [], _, H, Q => Q [] H
  | (tk, tv) :: r, σ, H, Q => tk σ H fun x H1 => tv σ H1 fun y H2 => qHn r σ H2 fun ps H3 => Q ((x, y) :: ps) H3
abbrev VV : List (V × V) → List (Value × Value) → Prop := Paired fun p q => RelV p.1 q.1 ∧ RelV p.2 q.2
def PPs (X : Cx) (pos : Pos) (keys : List (Option Expr)) (values : List Expr) (trs : List (TE × TE)) : Prop :=
  ∀ (pins : List (Addr × Obj)) (s : Shared) (σ : St) (H : Hp) (Q : List (V × V) → Hp → Prop), Inv X pins σ H s → qHn trs σ H Q →
    wpAny (model X.prog X.w) X.A (evalPairs (pairTrees keys values X.env pos)) (fun vs s' => ∃ ps H', Inv X pins σ H' s' ∧ VV ps vs ∧ Q ps H') X.xe s
theorem qK5 {X : Cx} {pos : Pos} : PPs X pos [] [] [] := fun pins s σ H Q I h => pairTrees_nil_walk ⟨[], H, I, .nil, h⟩
theorem qFs {X : Cx} {pos : Pos} {k v : Expr} {ks : List (Option Expr)} {vs : List Expr} {tk tv : TE} {trs : List (TE × TE)} (hk : PE X k tk) (hv : PE X v tv) (hr : PPs X pos ks vs trs) :
    PPs X pos (some k :: ks) (v :: vs) ((tk, tv) :: trs) := fun pins s σ H Q I h =>
  pairTrees_cons_walk (thn (hk pins s σ H _ I h) fun u s1 ⟨x, H1, I1, rx, q1⟩ => thn (hv pins s1 σ H1 _ I1 q1) fun w2 s2 ⟨y, H2, I2, ry, q2⟩ =>
    thn (hr pins s2 σ H2 _ I2 q2) fun ws s3 ⟨ps, H3, I3, rel, q3⟩ => ⟨(x, y) :: ps, H3, I3, .cons ⟨rx, ry⟩ rel, q3⟩)
def qAv (kvs more : List (Key × V)) : List (Key × V) := more.foldl (fun acc kv => qF4 acc kv.1 kv.2) kvs
theorem KV.merge : ∀ {more : List (Key × V)} {rs : List (Key × Value)} {kvs : List (Key × V)} {vs : List (Key × Value)}, KV more rs → KV kvs vs → KV (qAv kvs more) (merged vs rs) := by
  intro more rs kvs vs r
  unfold KV at r
  induction r generalizing kvs vs with
  | nil => intro q; exact q
  | @cons p q ps qs h t ih =>
    intro r0
    have e : KV (qF4 kvs p.1 p.2) (stored vs q.1 q.2) := by
      have := r0.put p.1 h.2
      rw [← h.1]; exact this
    exact ih e
theorem kn : ∀ (more kvs : List (Key × V)), (qAv kvs more).length ≤ kvs.length + more.length
  | [], kvs => by show kvs.length ≤ kvs.length + 0; omega
  | p :: r, kvs => by
    have h1 := kn r (qF4 kvs p.1 p.2)
    have h2 := qEn kvs p.1 p.2
    show (qAv (qF4 kvs p.1 p.2) r).length ≤ _
    rw [List.length_cons]; omega
theorem qA5 {P : Program} {w : World} : ∀ {kvs : List (Key × V)} {ws : List (Value × Value)}, VV (kvs.map fun kv => (kV kv.1, kv.2)) ws → ∃ rs, Carries (xI P w) ws rs ∧ KV kvs rs
  | [], _, r => by rw [List.map_nil] at r; cases r; exact ⟨[], True.intro, .nil⟩
  | p :: kvs, _, r => by
    rw [List.map_cons] at r
    cases r with
    | @cons a b as bs h t =>
      obtain ⟨rs, c, q⟩ := qA5 (P := P) (w := w) t
      obtain ⟨b1, b2⟩ := b
      exact ⟨(p.1, b2) :: rs, ⟨qJj h.1, rfl, c⟩, .cons ⟨rfl, h.2⟩ q⟩
def qM3 (trs : List (TE × TE)) : TE := fun σ H Q => ∀ p, H p = none → qHn trs σ (upd H p (.dK [])) fun ps H2 => H2 p = some (.dK []) ∧ ∃ kvs : List (Key × V), ps = kvs.map (fun kv => (kV kv.1, kv.2)) ∧ kvs.length ≤ 15 ∧ Q (.ref p) (upd H2 p (.dK (qAv [] kvs)))
theorem qKp {X : Cx} {pos : Pos} {keys : List (Option Expr)} {values : List Expr} {trs : List (TE × TE)} (h : PPs X pos keys values trs) (hall : keys.all (·.isSome) = true) (hl : keys.length = values.length) (h0 : keys ≠ [])
    (h15 : keys.length ≤ 15) : PE X (.Dict keys values pos) (qM3 trs) := by
  intro pins s σ H Q I q
  have hn := I.hok.fresh (Nat.le_refl s.heap.objs.size)
  have I1 := I.laid (a := s.heap.objs.size) (o := .dK []) (h' := s.heap.push { cls := .type "dict", data := .dict #[] }) (t' := s.toks) (fun _ _ q => Heap.get?_push_of_some _ q) (Nat.le_refl _) (qIk s.heap I.big)
  refine wpAny_Dict_walk (knd := xI X.prog X.w) hall hl h0 h15 (thn (h pins _ σ _ _ I1 (q _ hn)) fun ws s2 ⟨ps, H2, I2, rel, e, kvs, ep, lk, q2⟩ => ?_)
  subst ep
  obtain ⟨rs, c, rk⟩ := qA5 (P := X.prog) (w := X.w) rel
  obtain ⟨z, hd, vs0, r0, dd⟩ := qNe I2.hok e
  cases r0
  refine ⟨rs, c, dd, fun h' dd' hs => ⟨.ref s.heap.objs.size, _, ?_, rfl, q2⟩⟩
  have hz : (qAv [] kvs).length ≤ sizeLine := by
    have h1 := kn kvs []
    rw [List.length_nil] at h1
    rw [sizeLine_eq]; omega
  have he : ∃ q, h'.get? s.heap.objs.size = some q := let ⟨q, _, _, hq, _⟩ := dd'; ⟨q, hq⟩
  exact qLg I2 (by rw [e]; exact True.intro) hs he (qMt hz hd (rk.merge .nil) dd')
structure M1 (X : Cx) (o : Expr) (m : Str) (apos : Pos) (e : Expr) (cpos : Pos) : Prop where
  base : attributeBase o m X.env (eval o X.env) = eval o X.env
  few : ((backTo cpos (starEach [e] X.env)).all (fun x => !x.1) && (backToKw cpos (keywordEach [] X.env)).all (fun x => x.1.isSome)
    && decide (([e] : List Expr).length + ([] : List Keyword).length + (if ([] : List Keyword).isEmpty then 0 else 1) < 30)) = true
  line : (apos.endLine == cpos.line) = true
  trees : backTo cpos (starEach [e] X.env) = [(false, eval e X.env)]
structure M2 (X : Cx) (o : Expr) (m : Str) (apos : Pos) (e f : Expr) (cpos : Pos) : Prop where
  base : attributeBase o m X.env (eval o X.env) = eval o X.env
  few : ((backTo cpos (starEach [e, f] X.env)).all (fun x => !x.1) && (backToKw cpos (keywordEach [] X.env)).all (fun x => x.1.isSome)
    && decide (([e, f] : List Expr).length + ([] : List Keyword).length + (if ([] : List Keyword).isEmpty then 0 else 1) < 30)) = true
  line : (apos.endLine == cpos.line) = true
  trees : backTo cpos (starEach [e, f] X.env) = [(false, eval e X.env), (false, eval f X.env)]
section
variable {X : Cx} {pins : List (Addr × Obj)} {σ : St} {H : Hp} {s : Shared} {a : Addr} {y d : V} {u r : Value} {o : Option V} {A : Around} {E : Value → Shared → Prop}
end
section
variable {X : Cx} {o e f : Expr} {apos cpos : Pos} {td ty tx : TE}
end
section
variable {X : Cx} {pins : List (Addr × Obj)} {σ : St} {H : Hp} {s : Shared} {a : Addr} {kvs : List (Key × V)} {A : Around} {E : Value → Shared → Prop}
end
section
variable {X : Cx} {pins : List (Addr × Obj)} {σ : St} {H : Hp} {s : Shared} {a : Addr} {y : V} {u : Value} {A : Around} {E : Value → Shared → Prop}
end
end L2
namespace Att
open PySem PySem.W PySem.Calls PyProof.Rows
section
variable {prog : Program} {w : World} {A : Around} {E : Value → Shared → Prop} {s : Shared} {K : Frag}
end
end Att
namespace L2
open PySem PySem.Spec PyProof.Rows
end L2
namespace L2
open PySem PySem.Spec PyProof.Rows
end L2
namespace L2
open PySem PySem.Spec PyProof.Rows
section
variable {P : Program} {w : World} {K : PySem.W.Frag} {mg : Str → Option Value} {base : Heap}
end
section
variable {X : Cx}
end
section
variable {κ : Type} [DecidableEq κ]
end
end L2
namespace Mt
theorem qKf (a b : Int) : a.fmod b = a - b * a.fdiv b := by
  have := Int.fmod_add_mul_fdiv a b
  omega
theorem qF2 (a b : Int) : Int.gcd b (a.fmod b) = Int.gcd a b := by
  apply Nat.dvd_antisymm
  · refine Int.dvd_gcd ?_ (Int.gcd_dvd_left b (a.fmod b))
    have h1 : ((Int.gcd b (a.fmod b) : Nat) : Int) ∣ b := Int.gcd_dvd_left ..
    have h2 : ((Int.gcd b (a.fmod b) : Nat) : Int) ∣ a.fmod b := Int.gcd_dvd_right ..
    have h3 := Int.dvd_add h2 (Int.dvd_trans h1 (Int.dvd_mul_right b (a.fdiv b)))
    have e : a.fmod b + b * a.fdiv b = a := Int.fmod_add_mul_fdiv a b
    rwa [e] at h3
  · refine Int.dvd_gcd (Int.gcd_dvd_right ..) ?_
    rw [qKf]
    exact Int.dvd_sub (Int.gcd_dvd_left ..) (Int.dvd_trans (Int.gcd_dvd_right ..) (Int.dvd_mul_right ..))
theorem qHt (a b : Int) (h : b ≠ 0) : (a.fmod b).natAbs < b.natAbs := by
  rcases Int.lt_or_gt_of_ne h with h | h
  · have h1 := Int.fmod_lt_of_pos (-a) (show 0 < -b by omega)
    have h2 := Int.fmod_nonneg_of_pos (-a) (show 0 < -b by omega)
    rw [Int.neg_fmod_neg] at h1 h2
    omega
  · have h1 := Int.fmod_lt_of_pos a h
    have h2 := Int.fmod_nonneg_of_pos a h
    omega
def sg (t b : Int) : Int := if b < 0 then -((Int.gcd t b : Nat) : Int) else ((Int.gcd t b : Nat) : Int)
def xG (t b : Int) : Int := t.fdiv (sg t b)
def jW (t b : Int) : Int := b.fdiv (sg t b)
theorem vd {t b : Int} (h : b ≠ 0) : 0 < Int.gcd t b := by
  rcases Nat.eq_zero_or_pos (Int.gcd t b) with z | z
  · rw [Int.gcd_eq_zero_iff] at z
    exact absurd z.2 h
  · exact z
theorem qM0 {t b : Int} (h : b ≠ 0) : sg t b ≠ 0 := by
  have := vd (t := t) h
  unfold sg; split <;> omega
theorem qI7 (t b : Int) : sg t b ∣ t := by
  unfold sg; split
  · exact Int.neg_dvd.mpr (Int.gcd_dvd_left ..)
  · exact Int.gcd_dvd_left ..
theorem qIo (t b : Int) : sg t b ∣ b := by
  unfold sg; split
  · exact Int.neg_dvd.mpr (Int.gcd_dvd_right ..)
  · exact Int.gcd_dvd_right ..
theorem qFt (t b : Int) : (sg t b).natAbs = Int.gcd t b := by
  unfold sg; split <;> omega
theorem qI1 (t b : Int) : xG t b * sg t b = t := Int.fdiv_mul_cancel (qI7 t b)
theorem qHi (t b : Int) : jW t b * sg t b = b := Int.fdiv_mul_cancel (qIo t b)
theorem xU {t b : Int} (h : b ≠ 0) : 0 < jW t b := by
  have e := qHi t b
  have g := vd (t := t) h
  by_cases hb : b < 0
  · have s : sg t b = -((Int.gcd t b : Nat) : Int) := by unfold sg; rw [if_pos hb]
    rw [s] at e
    rcases Int.lt_trichotomy (jW t b) 0 with z | z | z
    · have := Int.mul_pos_of_neg_of_neg z (show -((Int.gcd t b : Nat) : Int) < 0 by omega)
      omega
    · rw [z] at e; omega
    · exact z
  · have s : sg t b = ((Int.gcd t b : Nat) : Int) := by unfold sg; rw [if_neg hb]
    rw [s] at e
    rcases Int.lt_trichotomy (jW t b) 0 with z | z | z
    · have := Int.mul_neg_of_neg_of_pos z (show 0 < ((Int.gcd t b : Nat) : Int) by omega)
      omega
    · rw [z] at e; omega
    · exact z
theorem qEw {t b : Int} (h : b ≠ 0) : Int.gcd (xG t b) (jW t b) = 1 := by
  have e := Int.gcd_mul_right (xG t b) (sg t b) (jW t b)
  rw [qI1, qHi, qFt] at e
  have g := vd (t := t) h
  have e' : 1 * Int.gcd t b = (xG t b).gcd (jW t b) * Int.gcd t b := by omega
  exact (Nat.eq_of_mul_eq_mul_right g e').symm
theorem zR (t b : Int) : xG t b * b = t * jW t b := by
  have e1 := qI1 t b
  have e2 := qHi t b
  calc xG t b * b = xG t b * (jW t b * sg t b) := by rw [e2]
    _ = (xG t b * sg t b) * jW t b := by rw [Int.mul_comm (jW t b), Int.mul_assoc]
    _ = t * jW t b := by rw [e1]
theorem wJ {t b : Int} (h : b ≠ 0) : (xG t b).natAbs ≤ t.natAbs := by
  have e := congrArg Int.natAbs (qI1 t b)
  rw [Int.natAbs_mul, qFt] at e
  have g := vd (t := t) h
  rw [← e]
  exact Nat.le_mul_of_pos_right _ g
theorem zW {t b : Int} (h : b ≠ 0) : (jW t b).natAbs ≤ b.natAbs := by
  have e := congrArg Int.natAbs (qHi t b)
  rw [Int.natAbs_mul, qFt] at e
  have g := vd (t := t) h
  have := Nat.le_mul_of_pos_right (jW t b).natAbs g
  omega
end Mt
namespace Mt
theorem qKo {p q p' q' : Int} (hq : 0 < q) (hq' : 0 < q') (g : Int.gcd p q = 1) (g' : Int.gcd p' q' = 1) (c : p * q' = p' * q) : p = p' ∧ q = q' := by
  have d1 : q ∣ q' := by
    have h : q ∣ p * q' := by rw [c]; exact Int.dvd_mul_left ..
    have n : q.natAbs ∣ p.natAbs * q'.natAbs := by
      have := Int.natAbs_dvd_natAbs.mpr h
      rwa [Int.natAbs_mul] at this
    have co : Nat.Coprime q.natAbs p.natAbs := by
      show Nat.gcd q.natAbs p.natAbs = 1
      rw [Nat.gcd_comm]; exact g
    exact Int.natAbs_dvd_natAbs.mp (Nat.Coprime.dvd_of_dvd_mul_left co n)
  have d2 : q' ∣ q := by
    have h : q' ∣ p' * q := by rw [← c]; exact Int.dvd_mul_left ..
    have n : q'.natAbs ∣ p'.natAbs * q.natAbs := by
      have := Int.natAbs_dvd_natAbs.mpr h
      rwa [Int.natAbs_mul] at this
    have co : Nat.Coprime q'.natAbs p'.natAbs := by
      show Nat.gcd q'.natAbs p'.natAbs = 1
      rw [Nat.gcd_comm]; exact g'
    exact Int.natAbs_dvd_natAbs.mp (Nat.Coprime.dvd_of_dvd_mul_left co n)
  have e : q = q' := by
    have h1 := Int.le_of_dvd hq' d1
    have h2 := Int.le_of_dvd hq d2
    omega
  subst e
  exact ⟨Int.eq_of_mul_eq_mul_right (by omega) c, rfl⟩
theorem qG3 {t b p q : Int} (h : b ≠ 0) (hq : 0 < q) (g : Int.gcd p q = 1) (c : p * b = t * q) : xG t b = p ∧ jW t b = q := by
  have e := zR t b
  have k : xG t b * q = p * jW t b := by
    have : (xG t b * q) * b = (p * jW t b) * b := by
      calc (xG t b * q) * b = (xG t b * b) * q := by rw [Int.mul_assoc, Int.mul_comm q b, ← Int.mul_assoc]
        _ = (t * jW t b) * q := by rw [e]
        _ = (t * q) * jW t b := by rw [Int.mul_assoc, Int.mul_comm (jW t b) q, ← Int.mul_assoc]
        _ = (p * b) * jW t b := by rw [c]
        _ = (p * jW t b) * b := by rw [Int.mul_assoc, Int.mul_comm b, ← Int.mul_assoc]
    exact Int.eq_of_mul_eq_mul_right h this
  exact qKo (xU h) hq (qEw h) g k
theorem qFr {p q : Int} (hq : 0 < q) (g : Int.gcd p q = 1) : xG p q = p ∧ jW p q = q := qG3 (by omega) hq g rfl
theorem jL {p q : Int} (hq : 0 < q) : p.fdiv q * q ≤ p ∧ p < (p.fdiv q + 1) * q := by
  have e := Int.fmod_add_mul_fdiv p q
  have h1 := Int.fmod_nonneg_of_pos p hq
  have h2 := Int.fmod_lt_of_pos p hq
  have c : q * p.fdiv q = p.fdiv q * q := Int.mul_comm ..
  have d : (p.fdiv q + 1) * q = p.fdiv q * q + q := by rw [Int.add_mul, Int.one_mul]
  omega
end Mt
namespace Mt
theorem vW {A B C D : Int} (hB : 0 < B) (hD : 0 < D) (h : A * D = C * B) : A.fdiv B = C.fdiv D := by
  obtain ⟨h1, h2⟩ := jL (p := A) hB
  obtain ⟨h3, h4⟩ := jL (p := C) hD
  generalize A.fdiv B = f at h1 h2 ⊢
  generalize C.fdiv D = g at h3 h4 ⊢
  have k1 : f * B * D ≤ A * D := Int.mul_le_mul_of_nonneg_right h1 (by omega)
  have k2 : C * B < (g + 1) * D * B := Int.mul_lt_mul_of_pos_right h4 hB
  have k3 : g * D * B ≤ C * B := Int.mul_le_mul_of_nonneg_right h3 (by omega)
  have k4 : A * D < (f + 1) * B * D := Int.mul_lt_mul_of_pos_right h2 hD
  have p := Int.mul_pos hB hD
  have e1 : f * (B * D) < (g + 1) * (B * D) := by grind
  have e2 : g * (B * D) < (f + 1) * (B * D) := by grind
  have := Int.lt_of_mul_lt_mul_right e1 (by omega)
  have := Int.lt_of_mul_lt_mul_right e2 (by omega)
  omega
def plP (p q r s k : Int) : Int := xG (p * s + k * r * q) (q * s)
def plQ (p q r s k : Int) : Int := jW (p * s + k * r * q) (q * s)
theorem qLo {p q r s k : Int} (hq : 0 < q) (hs : 0 < s) : 0 < plQ p q r s k := xU (Int.ne_of_gt (Int.mul_pos hq hs))
theorem qK0 {p q r s k : Int} (hq : 0 < q) (hs : 0 < s) : (plP p q r s k).natAbs ≤ (p * s + k * r * q).natAbs := wJ (Int.ne_of_gt (Int.mul_pos hq hs))
theorem qKa {p q r s k : Int} (hq : 0 < q) (hs : 0 < s) : (plQ p q r s k).natAbs ≤ (q * s).natAbs := zW (Int.ne_of_gt (Int.mul_pos hq hs))
end Mt
namespace Mt
def InR (N D m : Int) : Prop := 0 ≤ N ∧ N < m * D
theorem qFg {N D m : Int} (hD : 0 < D) : InR N D m ↔ (0 ≤ N.fdiv D ∧ N.fdiv D < m) := by
  obtain ⟨h1, h2⟩ := jL (p := N) hD
  generalize N.fdiv D = f at h1 h2 ⊢
  unfold InR
  constructor
  · rintro ⟨a, b⟩
    constructor
    · have : 0 * D < (f + 1) * D := by rw [Int.zero_mul]; omega
      have := Int.lt_of_mul_lt_mul_right this (by omega)
      omega
    · exact Int.lt_of_mul_lt_mul_right (a := D) (by omega) (by omega)
  · rintro ⟨a, b⟩
    constructor
    · have := Int.mul_nonneg a (by omega : 0 ≤ D)
      omega
    · have : (f + 1) * D ≤ m * D := Int.mul_le_mul_of_nonneg_right (by omega) (by omega)
      omega
theorem qHx {X Y E D m : Int} (hE : 0 < E) (hD : 0 < D) (h : X * D = Y * E) : InR X E m ↔ InR Y D m := by
  rw [qFg hE, qFg hD, vW hE hD h]
def vq (N R D m : Int) : Int :=
  if R = 0 then 1000000 else if ¬ (0 ≤ N.fdiv D ∧ N.fdiv D < m) then 0
  else if 1000000 < (if R < 0 then N.fdiv (-R) + 1 else -((N - m * D).fdiv R)) then 1000000 else (if R < 0 then N.fdiv (-R) + 1 else -((N - m * D).fdiv R))
end Mt
set_option maxHeartbeats 4000000
namespace L3
open PySem PySem.Spec PyProof.Rows L2
def CMulB (i j : Int) : Prop := CMul i j ∨ (i.natAbs < 2 ^ 60000 ∧ j.natAbs < 2 ^ 60000)
theorem km {i : Int} (h : i.natAbs < 2 ^ 60000) : Builtin.Int.intBits i ≤ 2 ^ 20 := by
  unfold Builtin.Int.intBits
  split
  · exact Nat.zero_le _
  · rename_i h0
    have hz : i.natAbs ≠ 0 := by
      intro z
      apply h0
      have : i = 0 := by omega
      rw [this]; rfl
    have := (Nat.log2_lt hz).mpr h
    have e : (2 : Nat) ^ 20 = 1048576 := by decide
    omega
theorem CMulB.ok {i j : Int} (h : CMulB i j) : IntMulOk i j := by
  rcases h with h | ⟨h1, h2⟩
  · exact h.ok
  · exact IntMulOk.of_bits (km h1) (km h2)
def CDivB (_ j : Int) : Prop := j ≠ 0 ∧ j.natAbs < 2 ^ 8000
theorem CDivB.ok {i j : Int} (h : CDivB i j) : Builtin.divisionGoesByPylong i j = false := by
  refine PyProof.noPylong_of_log2 ?_
  have hz : j.natAbs ≠ 0 := by have := h.1; omega
  have := (Nat.log2_lt hz).mpr h.2
  omega
section
variable {X : Cx}
theorem qo : OpR X (binaryOp .Mult) (rI CMulB fun i j => .int (i * j)) := opI fun _ _ _ _ _ _ _ hc q => mul_int q hc.ok
theorem qf : OpR X (binaryOp .FloorDiv) (rI CDivB fun i j => .int (i.fdiv j)) := opI fun _ _ _ _ _ _ _ hc q => floordiv_int hc.1 q (.inl hc.ok)
theorem jd : CallR X (.builtin "isinstance") (fun xs H Q => ∃ x c t b, xs = [x, c] ∧ qA4 X.K H x t ∧
    (∃ n, c = .ty n ∧ PySem.W.kitOne X.K t (.type n) = some b ∨ ∃ a, c = .ref a ∧ PySem.W.kitOne X.K t (.ref a) = some b) ∧ Q (.bl b) H) := by
  intro pins s σ H xs us Q I r h
  obtain ⟨x, c, t, b, rfl, ty, hk, q⟩ := h
  obtain ⟨u, u', rfl, rx, rc⟩ := qLh r
  obtain ⟨n, ⟨rfl, e⟩ | ⟨a, rfl, e⟩⟩ := hk
  · cases rc
    exact qD5 I rx ty e fun tk => ⟨.bl b, H, I.tok _, rfl, q⟩
  · cases rc
    exact qD5 I rx ty e fun tk => ⟨.bl b, H, I.tok _, rfl, q⟩
def qGf (xs ys : List V) : Bool := (List.range (min xs.length ys.length)).all (fun j => eqV (xs.getD j .non) (ys.getD j .non)) && xs.length == ys.length
theorem qAt {A : Around} {s : Shared} {xs ys : List V} {us ws : List Value} (r1 : Vals xs us) (r2 : Vals ys ws) (f1 : xs.all xc = true) (f2 : ys.all xc = true) :
    ∀ j (h1 : j < us.toArray.size) (h2 : j < ws.toArray.size), SeqAt.EqAt A s us.toArray[j] ws.toArray[j] (eqV (xs.getD j .non) (ys.getD j .non)) := by
  intro j h1 h2
  have l1 := r1.length
  have l2 := r2.length
  rw [List.size_toArray] at h1 h2
  have g1 : xs[j]? = some xs[j] := List.getElem?_eq_getElem (by omega)
  have g2 : ys[j]? = some ys[j] := List.getElem?_eq_getElem (by omega)
  obtain ⟨u, e1, q1⟩ := r1.get g1
  obtain ⟨w, e2, q2⟩ := r2.get g2
  have d1 : xs.getD j .non = xs[j] := by rw [List.getD_eq_getElem?_getD, g1]; rfl
  have d2 : ys.getD j .non = ys[j] := by rw [List.getD_eq_getElem?_getD, g2]; rfl
  have c1 : us.toArray[j] = u := by
    have := (List.getElem?_eq_some_iff.mp e1).2
    simpa using this
  have c2 : ws.toArray[j] = w := by
    have := (List.getElem?_eq_some_iff.mp e2).2
    simpa using this
  rw [d1, d2, c1, c2]
  exact qD3 q1 q2 (List.all_eq_true.mp f1 _ (List.getElem_mem _)) (List.all_eq_true.mp f2 _ (List.getElem_mem _))
def qOk (K : PySem.W.Frag) (neg : Bool) : R2 := fun x y H Q => ∃ p q xs ys, x = .ref p ∧ y = .ref q ∧ SqT K H p xs ∧ SqT K H q ys ∧ xs.all xc = true ∧ ys.all xc = true ∧ Q (.bl (if neg then !qGf xs ys else qGf xs ys)) H
theorem qMg (hu : X.A.units < cLine) : OpR X (compareOp .Eq) (qOk X.K false) := by
  intro pins s σ H x y v u Q I rx ry h
  obtain ⟨p, q, xs, ys, rfl, rfl, h1, h2, f1, f2, k⟩ := h
  cases rx; cases ry
  obtain ⟨us, r1, t1, _⟩ := I.tuple h1
  obtain ⟨ws, r2, t2, _⟩ := I.tuple h2
  have l1 : us.toArray.size = xs.length := by rw [List.size_toArray]; exact r1.length.symm
  have l2 : ws.toArray.size = ys.length := by rw [List.size_toArray]; exact r2.length.symm
  refine SeqAt.eq_tupleAt t1 t2 hu (qAt r1 r2 f1 f2) ?_
  rw [l1, l2]
  exact ⟨.bl (qGf xs ys), H, I, rfl, k⟩
end
end L3
set_option maxHeartbeats 4000000
namespace L3
open PySem PySem.Spec PyProof.Rows L2
def jA (X : Cx) (scope : Scope) (cl : List (Str × Addr)) (C : Addr) (N : List Str) (s : Shared) (H : Hp) (fp : List Addr) : Cx :=
  { X with N := N, s₀ := s, H₀ := H, env := compEnvC scope cl C X.env, outer := X.stack, stack := X.stack, ex := fp, fn := fun _ => false, pn := [] }
def kW (js : List Nat) (σ : L2.St) : L2.St := js.map fun j => (σ[j]?).join
def qB8 (js : List Nat) (te : TE) (σ : L2.St) (Q : VK) (J : It) (H1 : Hp) : Prop := ∃ W : Nat → Nat → List V → Hp → Prop, (∃ m, W 0 m [] H1) ∧ ∀ i m acc H2, W i m acc H2 →
  acc.length < sizeLine ∧ ((J.stop i H2 ∧ ∀ D, H2 D = none → Q (.ref D) (upd H2 D (.lst acc))) ∨
    (J.go i H2 ∧ ∀ x H3, J.yld i H2 x H3 → te (some x :: kW js σ) H3 fun v H4 => ∃ m', m' < m ∧ W (i + 1) m' (acc ++ [v]) H4))
def qKx (js : List Nat) (wi : TI) (te : TE) : TE := fun σ H Q => wi σ H (qB8 js te σ Q)
theorem qDm {X : Cx} {elt iter : Expr} {x : Str} {px : Pos} {scope : Scope} {cl : List (Str × Addr)} {pos : Pos} {wi : TI} {te : TE} (ys : List Str) (js : List Nat)
    (hcm : X.calm = true) (hi : PI X (.Name x px) iter wi) (he : ∀ C s H fp, PE (jA X scope cl C (x :: ys) s H fp).nox elt te)
    (hclos : closureFor scope X.env = pure cl := by rfl)
    (hcl : cl.map (fun p => X.env.cells.lookup p.1) = cl.map (fun p => some p.2) := by rfl)
    (hcell : (scope.names.all fun p => p.2 != .cell) = true := by rfl) (hkind : scope.kind = .function := by rfl)
    (hnames : (scope.names.all fun p => p.2 != .local || scope.names.lookup p.1 == some .local) = true := by rfl)
    (hx : scope.names.lookup x = some .local := by rfl)
    (hhas : ((relabel scope X.env).names.all fun p => (p.2 != .cell && p.2 != .free) || (cl.lookup p.1).isSome) = true := by rfl)
    (hnd : (x :: ys).Nodup := by decide)
    (hjs : js.map (fun j => X.N[j]?) = ys.map some := by rfl)
    (hys : (ys.all fun y => ((relabel scope X.env).names.lookup y == some .cell || (relabel scope X.env).names.lookup y == some .free) && (X.env.scope.names.lookup y == some .cell || X.env.scope.names.lookup y == some .free)) = true := by rfl)
    (hs : ∀ x, foldedSetIterable iter X.env x = pure x := by intro _; rfl)
    {pins : List (Addr × Obj)} {s : Shared} {σ : L2.St} {H : Hp} (R : V → Hp → Prop) (use : Option (Value → Sem Unit)) (Q : Value → Shared → Prop) (I : Inv X pins σ H s) (h : qKx js wi te σ H R)
    (fin : ∀ (v : V) (u : Value) (H' : Hp) (s' : Shared) (C : Addr), Inv X pins σ H' s' → RelV v u → R v H' → (∃ m, s'.heap.Ns C m) → H' C = none → C ≠ X.env.locals → X.s₀.heap.objs.size ≤ C → (∀ y c, X.env.cells.lookup y = some c → c ≠ C) → (∀ p ∈ X.pn ++ pins, p.1 ≠ C) →
      compPost (model X.prog X.w) X.A X.xe use Q u C (.ok .next) s') :
    wpAny (model X.prog X.w) X.A (comprehension (.ListComp elt [⟨.Name x px, iter, [], 0⟩] scope pos) scope X.env (firstIterPos [⟨.Name x px, iter, [], 0⟩] pos) (newList []) false (eval iter X.env) use) Q X.xe s := by
  have hcell' : ∀ y ∈ scope.names, y.2 ≠ .cell := fun y hy => by
    have := List.all_eq_true.mp hcell y hy
    simpa using this
  have hnm : ∀ y ∈ scope.names, y.2 = .local → scope.names.lookup y.1 = some .local := fun y hy e => by
    have := List.all_eq_true.mp hnames y hy
    rw [e] at this
    simpa using this
  have clX : ∀ y c, cl.lookup y = some c → X.env.cells.lookup y = some c := fun y c e => by
    have hm := PySem.mem_of_lookup e
    obtain ⟨k, hk, e2⟩ := List.mem_iff_getElem.mp hm
    have := congrArg (fun l => l[k]?) hcl
    simp only [List.getElem?_map, List.getElem?_eq_getElem hk, Option.map_some, e2] at this
    exact Option.some.inj this
  have has : ∀ y, ((relabel scope X.env).names.lookup y = some .cell ∨ (relabel scope X.env).names.lookup y = some .free) → ∃ c, cl.lookup y = some c := fun y hy => by
    have key : ∀ k : NameKind, (k = .cell ∨ k = .free) → (relabel scope X.env).names.lookup y = some k → ∃ c, cl.lookup y = some c := fun k hk e => by
      have := List.all_eq_true.mp hhas _ (PySem.mem_of_lookup e)
      rcases hk with rfl | rfl <;> exact Option.isSome_iff_exists.mp (by simpa using this)
    rcases hy with e | e
    · exact key _ (.inl rfl) e
    · exact key _ (.inr rfl) e
  refine wpAny_comprehension_free (use := use) rfl hs hclos hkind hnm (thn (hi pins s σ H _ I h) fun v s1 h1 => thn h1 fun itv s2 h2 => ?_)
  obtain ⟨it, fp, tn, J, H2, e, I2, T, st2, f2, W, ⟨m0, w0⟩, turn⟩ := h2
  subst e
  refine wpAny_newObj_type (wpAny_newFunctionEnv hcell' (by intro y hy; simp at hy) (fun h₁ hns hsb => ?_) hkind)
  dsimp only at hns hsb ⊢
  generalize hG : s2.heap.push { cls := .type "list", dict := none, data := .seq ([] : List Value).toArray } = G at hns hsb ⊢
  have szG : G.objs.size = s2.heap.objs.size + 1 := by rw [← hG, Heap.size_push]
  have inG : ∀ b o, s2.heap.get? b = some o → G.get? b = some o := fun b o e => hG ▸ Heap.get?_push_of_some _ e
  have ltC : ∀ b o, s2.heap.get? b = some o → b ≠ G.objs.size := fun b o e => by rw [szG]; exact Nat.ne_of_lt (Nat.lt_succ_of_lt (Heap.lt_size e))
  have ltD : ∀ b o, s2.heap.get? b = some o → b ≠ s2.heap.objs.size := fun b o e => Nat.ne_of_lt (Heap.lt_size e)
  have DC : s2.heap.objs.size ≠ G.objs.size := by rw [szG]; omega
  have old : ∀ b o, s2.heap.get? b = some o → h₁.get? b = some o := fun b o e => hsb.extBut b o (ltC b o e) (Heap.get?_push_of_some _ (inG b o e))
  have hacc : h₁.PlainList s2.heap.objs.size #[] := ⟨_, hsb.extBut _ _ DC (Heap.get?_push_of_some _ (hG ▸ Heap.get?_push_size _ rfl))⟩
  have fpO : ∀ b ∈ fp, ∃ o, s2.heap.get? b = some o := fun b hb => let ⟨o, e, _⟩ := T.obj 0 _ st2 b hb; ⟨o, e⟩
  have stkO : ∀ b ∈ frs X.stack, ∃ o, s2.heap.get? b = some o := fun b hb => by
    obtain ⟨_, o, ho, _⟩ := I2.stack.mem hb
    exact ⟨o, ho⟩
  have freshH : ∀ a, s2.heap.objs.size ≤ a → H2 a = none := fun a ha => I2.hok.fresh ha
  have stkFp : ∀ b ∈ fp, b ∉ frs X.stack := fun b hb z => by
    rcases List.mem_cons.mp (I2.stkSub b z) with q | q
    · exact (f2 b hb).2.1 q
    · exact (f2 b hb).2.2.1 q
  have okX : (jA X scope cl G.objs.size (x :: ys) s2 H2 fp).Ok := {
    mod := I2.ok.mod
    kind := hkind
    glob := I2.ok.glob
    blt := I2.ok.blt
    above := by show s2.heap.objs.size ≤ G.objs.size; rw [szG]; omega
    inj := fun y z c e1 e2 => I2.ok.inj y z c (clX y c e1) (clX z c e2)
    has := fun y hy => has y hy
    cab := fun y c e _ => absurd (show false = true from e) Bool.false_ne_true
    hd := I2.ok.hd
    frames := I2.ok.frames
    stk := .inl rfl
    exf := fun b hb => by
      obtain ⟨o, e⟩ := fpO b hb
      exact ⟨ltC b o e, fun y c e1 => (f2 b hb).2.2.2.2.1 y c (clX y c e1)⟩
    bs := I2.bs
    bsz := Nat.le_trans I2.ok.bsz I2.sz
    noex := fun b o e hb => by
      rcases (f2 b hb).2.2.2.1 with q | q
      · exact I2.ok.noex b o e q
      · exact Nat.lt_irrefl _ (Nat.lt_of_lt_of_le (Nat.lt_of_lt_of_le (Heap.lt_size e) I2.ok.bsz) q)
    exfs := stkFp
    funs := I2.stack
    frf := I2.stkFree }
  have lenY : js.length = ys.length := by have := congrArg List.length hjs; simpa using this
  have I0 : Inv (jA X scope cl G.objs.size (x :: ys) s2 H2 fp) [] (none :: kW js σ) H2 { s2 with heap := h₁, toks := s2.toks + ([] : List (Str × Value)).length } := by
    refine ⟨okX, rfl, I2.bare, Un.kept old, ⟨_, hns, fun k y v e1 e2 e3 => ?_⟩, fun y c e => ?_, freshH _ (by show s2.heap.objs.size ≤ G.objs.size; rw [szG]; omega), fun y c e => I2.freeC y c (clX y c e), fun p hp => absurd (show p ∈ ([] : List (Addr × Obj)) from hp) (by simp), I2.hok.kept old, ?_⟩
    · cases k with
      | zero => cases e2
      | succ k =>
        have e1' : ys[k]? = some y := e1
        have e2' : (kW js σ)[k]? = some (some v) := e2
        unfold kW at e2'
        rw [List.getElem?_map] at e2'
        cases ej : js[k]? with
        | none => rw [ej] at e2'; cases e2'
        | some j =>
          rw [ej] at e2'
          have e4 : (σ[j]?).join = some v := Option.some.inj e2'
          have e5 : σ[j]? = some (some v) := by
            cases q : σ[j]? with
            | none => rw [q] at e4; cases e4
            | some o => rw [q] at e4; exact congrArg some e4
          have e6 : X.N[j]? = some y := by
            have := congrArg (fun l => l[k]?) hjs
            simp only [List.getElem?_map, ej, e1', Option.map_some] at this
            exact Option.some.inj this
          have hy := List.all_eq_true.mp hys y (List.mem_of_getElem? e1')
          simp only [Bool.and_eq_true, Bool.or_eq_true, beq_iff_eq] at hy
          obtain ⟨ky, ko⟩ := hy
          obtain ⟨m, hn, hl⟩ := I2.loc
          obtain ⟨u, r, lk⟩ := hl j y v e6 e5 (.inr ko)
          refine ⟨u, r, .inr ⟨ky, ?_⟩⟩
          rcases lk with ⟨kl, _⟩ | ⟨_, c, ec, hc⟩
          · have kl' : X.env.scope.names.lookup y = some .local := kl
            rw [kl'] at ko
            rcases ko with z | z <;> cases z
          · obtain ⟨c', ec'⟩ := has y ky
            have := clX y c' ec'
            rw [ec] at this
            cases this
            obtain ⟨o, ho, hd⟩ := hc
            exact ⟨c, ec', o, old c o ho, hd⟩
    · obtain ⟨v, o, ho, hd⟩ := I2.cell y c (clX y c e)
      exact ⟨v, o, old c o ho, hd⟩
    · show (none :: kW js σ).length = (x :: ys).length
      simp [kW, lenY]
  have loop : ∀ s3 : Shared, s3 = { s2 with heap := h₁, toks := s2.toks + ([] : List (Str × Value)).length } →
      codeAny (model X.prog X.w) X.A (.compLoop (.ListComp elt [⟨.Name x px, iter, [], 0⟩] scope pos) 0 (.ref it) (.ref s2.heap.objs.size) (compEnvC scope cl G.objs.size X.env))
        (compPost (model X.prog X.w) X.A X.xe use Q (.ref s2.heap.objs.size) G.objs.size) s3 := by
    rintro s3 rfl
    have stat : ∀ {H' : Hp} (o : Obj), (∀ b ∈ fp, H' b = none) → ∀ b ∈ fp, qIj (jA X scope cl G.objs.size (x :: ys) s2 H2 fp) [(s2.heap.objs.size, o)] H' b := fun {H'} o hn b hb => by
      obtain ⟨ob, eb⟩ := fpO b hb
      refine ⟨hn b hb, ltC b ob eb, stkFp b hb, .inl hb, fun y c e1 => (f2 b hb).2.2.2.2.1 y c (clX y c e1), fun p hp => ?_⟩
      have hp' : p = (s2.heap.objs.size, o) := by
        have : p ∈ [(s2.heap.objs.size, o)] := hp
        simpa using this
      rw [hp']
      exact Ne.symm (ltD b ob eb)
    refine codeAny_compLoop_list (fun n s' => ∃ i acc its H3, Inv (jA X scope cl G.objs.size (x :: ys) s2 H2 fp) [] (none :: kW js σ) H3 s' ∧ tn i s'.heap ∧ (∀ b ∈ fp, H3 b = none) ∧ s'.heap.PlainList s2.heap.objs.size its.toArray ∧ Vals acc its ∧ H3 s2.heap.objs.size = none ∧ W i n acc H3)
      ?_ m0 ⟨0, [], [], H2, I0, T.keep _ _ _ st2 fun b _ o e => old b o e, fun b hb => (f2 b hb).1, hacc, .nil, freshH _ (Nat.le_refl _), w0⟩
    rintro n s3 ⟨i, acc, its, H3, I3, st3, fr3, ⟨nn, pl3⟩, va3, hD3, w3⟩
    obtain ⟨hlen, cs⟩ := turn i n acc H3 w3
    have hal : acc.length = its.length := va3.length
    have nD : s2.heap.objs.size ∉ frs X.stack := fun z => by
      obtain ⟨o, e⟩ := stkO _ z
      exact ltD _ o e rfl
    have I3p : Inv (jA X scope cl G.objs.size (x :: ys) s2 H2 fp) [(s2.heap.objs.size, { cls := .type "list", data := .seq its.toArray nn })] (none :: kW js σ) H3 s3 := I3.pins_of fun p hp => by
      have e : p = (s2.heap.objs.size, { cls := .type "list", data := .seq its.toArray nn }) := by simpa using hp
      subst e
      exact ⟨pl3, hD3, DC, nD, fun v z => nomatch z⟩
    rcases cs with ⟨stop, q⟩ | ⟨go, step⟩
    · refine thn (T.done (jA X scope cl G.objs.size (x :: ys) s2 H2 fp) rfl rfl rfl hcm i _ s3 _ H3 _ I3p (stat _ fr3) st3 stop) fun r s4 hr => ?_
      obtain ⟨hr, I4⟩ := hr
      subst hr
      have pl4 := (I4.pin (s2.heap.objs.size, { cls := .type "list", data := .seq its.toArray nn }) (by simp)).1
      obtain ⟨m, hn, _⟩ := I4.loc
      have B := I4.base
      have un' : Un (frs X.stack) fp H2 (upd H3 s2.heap.objs.size (.lst acc)) s2.heap s4.heap := by
        refine ⟨fun b o e n hb hx => B.keep b o e n hb hx, fun b o e n hb hx => B.slot b o e n hb hx, fun b o e n hx => ?_, fun b o e hx => B.there b o e hx, fun b xs e => ?_, fun b o u e => ?_, fun b ps e => ?_⟩
        · rw [qY (ltD b o e)]
          exact B.free b o e n hx
        · have z := B.tups b xs e
          rw [qY (qR z hD3)]
          exact z
        · have z := B.frzs b o u e
          rw [qY (qR z hD3)]
          exact z
        · obtain ⟨more, z⟩ := B.tbls b ps e
          exact ⟨more, by rw [qY (qR z hD3)]; exact z⟩
      have freeC4 : H3 G.objs.size = none := I4.free
      have hok' : HOk X.prog X.w (upd H3 s2.heap.objs.size (.lst acc)) s4.heap := fun b u e => by
        by_cases hb : b = s2.heap.objs.size
        · subst hb
          rw [qD] at e
          cases e
          exact ⟨Nat.le_of_lt hlen, its, nn, va3, pl4⟩
        · rw [qY hb] at e
          exact (I4.hok b u e).stay (fun c v hc z => z) (fun c z => by rw [qY (qR z hD3)]; exact z) fun c xs z => by rw [qY (qR z hD3)]; exact z
      have hch : ∀ b ∈ fp, (b ∈ X.ex ∨ X.s₀.heap.objs.size ≤ b) ∧ b ≠ X.env.locals ∧ (∀ y c, X.env.cells.lookup y = some c → c ≠ b) ∧ ∀ p ∈ X.pn ++ pins, p.1 ≠ b := fun b hb => by
        obtain ⟨_, z1, _, z3, z4, z5⟩ := f2 b hb
        exact ⟨z3, z1, z4, z5⟩
      have I5 := I2.call' (s' := s4) (ch := fp) I4.os un' hok' I4.bare hch
      refine fin (.ref s2.heap.objs.size) _ _ s4 G.objs.size I5 rfl (q _ hD3) ⟨m, hn⟩ ?_ ?_ ?_ (fun y c e => ?_) fun p hp => ?_
      · rw [qY (Ne.symm DC)]; exact freeC4
      · rw [szG]; exact Nat.ne_of_gt (Nat.lt_succ_of_lt I2.lt)
      · rw [szG]; exact Nat.le_succ_of_le I2.sz
      · obtain ⟨v, o, ho, _⟩ := I2.cell y c e
        exact ltC c o ho
      · exact ltC p.1 p.2 (I2.pin p hp).1
    · refine thn (T.item (jA X scope cl G.objs.size (x :: ys) s2 H2 fp) rfl rfl rfl hcm i _ s3 _ H3 _ I3p (stat _ fr3) st3 go) fun r s4 hr => ?_
      obtain ⟨u, hr, h4⟩ := hr
      subst hr
      show wpAny (model X.prog X.w) X.A (letOwnedTupleGo (.Name x px) (.ref it) u >>= fun _ => assign (.Name x px) (compEnvC scope cl G.objs.size X.env) u) _ _ s4
      refine wpAny_bind (thn h4 fun _ s5 h5 => ?_)
      obtain ⟨v, H5, I5, r5, y5, st5, fr5⟩ := h5
      have I5' := I5.pinned (stat _ fr5) (T.obj _ _ st5)
      refine wpAny_assign_Name (xq (i := 0) I5' hnd rfl (.inl (lookup_relabel_local hx)) r5 (fun s6 I6 => ?_) (.inr (lookup_relabel_local hx)))
      have I6' : Inv (jA X scope cl G.objs.size (x :: ys) s2 H2 fp).nox _ _ H5 s6 := I6.wish _
      refine wpAny_mono (he G.objs.size s2 H2 fp _ s6 _ H5 _ I6' (step v H5 y5)) (fun y s7 h7 => ?_) fun _ _ z => z.elim
      obtain ⟨v7, H7, I7, r7, m', hm', w7⟩ := h7
      have I7 := I7.unwish
      have pinD := I7.pin (s2.heap.objs.size, { cls := .type "list", data := .seq its.toArray nn }) (by simp)
      refine wpAny_list_append_plain (items := its.toArray) ⟨nn, pinD.1⟩ (fun h' hp' hsb' => ?_) (by rw [List.size_toArray, ← hal]; exact Nat.le_of_lt hlen)
      have e8 : its.toArray.push y = (its ++ [y]).toArray := by simp
      rw [e8] at hp'
      have pf : ∀ b ∈ fp, ∀ o, s5.heap.get? b = some o → s7.heap.get? b = some o ∧ H7 b = none := fun b hb o e => by
        have z := I7.pin (b, o) (List.mem_append_right _ (List.mem_append_right _ (kA hb e)))
        exact ⟨z.1, z.2.1⟩
      have I8 : Inv (jA X scope cl G.objs.size (x :: ys) s2 H2 fp) [] (none :: kW js σ) H7 { s7 with heap := h' } := by
        have I7u : Inv (jA X scope cl G.objs.size (x :: ys) s2 H2 fp) [] (none :: kW js σ) H7 s7 := (I7.pins_of (pins' := []) fun p hp => absurd hp (by simp)).weak (by simp) fun k v e => by
          cases k with
          | zero => cases e
          | succ k => exact e
        refine I7u.turned (t' := s7.toks) (it := s2.heap.objs.size) (fun b o hb e => hsb'.extBut b o hb e) pinD.2.1 DC (.inr (Nat.le_refl _)) (fun y c e => ?_) fun p hp => absurd (show p ∈ ([] : List (Addr × Obj)) from hp) (by simp)
        obtain ⟨v, o, ho, _⟩ := I2.cell y c (clX y c e)
        exact ltD c o ho
      refine ⟨m', hm', i + 1, acc ++ [v7], its ++ [y], H7, I8, ?_, fun b hb => ?_, hp', va3.append (.cons r7 .nil), pinD.2.1, w7⟩
      · refine T.keep _ _ _ st5 fun b hb o e => hsb'.extBut b o ?_ (pf b hb o e).1
        obtain ⟨ob, eb⟩ := fpO b hb
        exact ltD b ob eb
      · obtain ⟨o, e, _⟩ := T.obj _ _ st5 b hb
        exact (pf b hb o e).2
  exact codeAny_compStart_list (loop _ rfl) (T.self _ 0 _ _ _ (T.keep _ _ _ st2 fun b _ o e => old b o e) (loop _ rfl))
theorem qCc {X : Cx} {pins : List (Addr × Obj)} {σ : L2.St} {H : Hp} {s : Shared} {C : Addr} {h' : Heap} (I : Inv X pins σ H s) (hsb : Heap.SameBut C s.heap h') (h0 : H C = none) (h1 : C ≠ X.env.locals) (h2 : X.s₀.heap.objs.size ≤ C)
    (h3 : ∀ y c, X.env.cells.lookup y = some c → c ≠ C) (h4 : ∀ p ∈ X.pn ++ pins, p.1 ≠ C) : Inv X pins σ H { s with heap := h' } :=
  I.turned (t' := s.toks) (it := C) (fun b o hb e => hsb.extBut b o hb e) h0 h1 (.inr h2) h3 h4
theorem wk {X : Cx} {elt iter : Expr} {x : Str} {px : Pos} {scope : Scope} {cl : List (Str × Addr)} {pos : Pos} {wi : TI} {te : TE} (ys : List Str) (js : List Nat)
    (hcm : X.calm = true) (hi : PI X (.Name x px) iter wi) (he : ∀ C s H fp, PE (jA X scope cl C (x :: ys) s H fp).nox elt te)
    (hclos : closureFor scope X.env = pure cl := by rfl)
    (hcl : cl.map (fun p => X.env.cells.lookup p.1) = cl.map (fun p => some p.2) := by rfl)
    (hcell : (scope.names.all fun p => p.2 != .cell) = true := by rfl) (hkind : scope.kind = .function := by rfl)
    (hnames : (scope.names.all fun p => p.2 != .local || scope.names.lookup p.1 == some .local) = true := by rfl)
    (hx : scope.names.lookup x = some .local := by rfl)
    (hhas : ((relabel scope X.env).names.all fun p => (p.2 != .cell && p.2 != .free) || (cl.lookup p.1).isSome) = true := by rfl)
    (hnd : (x :: ys).Nodup := by decide)
    (hjs : js.map (fun j => X.N[j]?) = ys.map some := by rfl)
    (hys : (ys.all fun y => ((relabel scope X.env).names.lookup y == some .cell || (relabel scope X.env).names.lookup y == some .free) && (X.env.scope.names.lookup y == some .cell || X.env.scope.names.lookup y == some .free)) = true := by rfl)
    (hs : ∀ x, foldedSetIterable iter X.env x = pure x := by intro _; rfl) : PE X (.ListComp elt [⟨.Name x px, iter, [], 0⟩] scope pos) (qKx js wi te) := by
  intro pins s σ H Q I h
  rw [eval_ListComp]
  refine qDm ys js hcm hi he hclos hcl hcell hkind hnames hx hhas hnd hjs hys hs Q none (EP X pins σ Q) I h fun v u H' s' C I' r q hm h0 h1 h2 h3 h4 => ?_
  obtain ⟨m, hm⟩ := hm
  exact ⟨m, hm, fun h' hsb => ⟨v, H', qCc I' hsb h0 h1 h2 h3 h4, r, q⟩⟩
theorem qJ7 {X : Cx} {elt iter : Expr} {x : Str} {px : Pos} {scope : Scope} {cl : List (Str × Addr)} {pos : Pos} {wi : TI} {te : TE} (ys : List Str) (js : List Nat)
    {i : Nat} {y : Str} {py spos : Pos} (hN : X.N.Nodup) (hi' : X.N[i]? = some y) (hy : X.env.kindOf y = some .local) (hcm : X.calm = true) (hi : PI X (.Name x px) iter wi) (he : ∀ C s H fp, PE (jA X scope cl C (x :: ys) s H fp).nox elt te)
    (hclos : closureFor scope X.env = pure cl := by rfl)
    (hcl : cl.map (fun p => X.env.cells.lookup p.1) = cl.map (fun p => some p.2) := by rfl)
    (hcell : (scope.names.all fun p => p.2 != .cell) = true := by rfl) (hkind : scope.kind = .function := by rfl)
    (hnames : (scope.names.all fun p => p.2 != .local || scope.names.lookup p.1 == some .local) = true := by rfl)
    (hx : scope.names.lookup x = some .local := by rfl)
    (hhas : ((relabel scope X.env).names.all fun p => (p.2 != .cell && p.2 != .free) || (cl.lookup p.1).isSome) = true := by rfl)
    (hnd : (x :: ys).Nodup := by decide)
    (hjs : js.map (fun j => X.N[j]?) = ys.map some := by rfl)
    (hys : (ys.all fun y => ((relabel scope X.env).names.lookup y == some .cell || (relabel scope X.env).names.lookup y == some .free) && (X.env.scope.names.lookup y == some .cell || X.env.scope.names.lookup y == some .free)) = true := by rfl)
    (hs : ∀ x, foldedSetIterable iter X.env x = pure x := by intro _; rfl) (hsw : swapsWith (.ListComp elt [⟨.Name x px, iter, [], 0⟩] scope pos) (some (.Name y py)) spos.line X.env = pure true := by rfl) : PS X (.Assign [.Name y py] (.ListComp elt [⟨.Name x px, iter, [], 0⟩] scope pos) spos) (qM1 (qKx js wi te) (qK9 i)) := by
  intro pins s σ H D I h
  rw [exec_Assign_Name_used _ _ _ _ hsw]
  refine wpAny_bind (wpAny_standAt (wpAny_bind ?_))
  have key := qDm ys js hcm hi he hclos hcl hcell hkind hnames hx hhas hnd hjs hys hs (pos := pos) (fun v H' => D.nx (σ.set i (some v)) H') (some (assign (.Name y py) X.env)) (fun _ s' => SP X pins D .next s') I h fun v u H' s' C I' r q hm h0 h1 h2 h3 h4 => ?_
  · exact wpAny_bind (thn key fun _ s' hq => wpAny_pure (wpAny_pure hq))
  · refine wpAny_assign_Name (qCu I' hN hi' (.inl hy) r (fun s2 I2 ch => ?_) (.inr hy))
    obtain ⟨b, sb, hb⟩ := ch
    obtain ⟨m, hm⟩ := hm
    have nb : C ≠ b := by
      rcases hb with rfl | hb
      · exact h1
      · exact Ne.symm (h3 y b hb)
    exact ⟨m, hm.sameBut sb nb, fun h' hsb => ⟨_, H', qCc I2 hsb h0 h1 h2 h3 h4, q⟩⟩
def Nxt (n i : Nat) (P : Prop) : Prop := ∃ m', m' < n - i ∧ m' = n - (i + 1) ∧ i + 1 ≤ n ∧ P
theorem Nxt.mk {n i : Nat} {P : Prop} (h : i < n) (p : P) : Nxt n i P := ⟨n - (i + 1), by omega, rfl, h, p⟩
theorem ku {K : PySem.W.Frag} {a : Addr} {xs : List V} {js : List Nat} {te : TE} {σ : L2.St} {H : Hp} {Q : VK} (Pv : Nat → List V → Hp → Prop) (h0 : Pv 0 [] H) (hl : ∀ i acc H, i ≤ xs.length → Pv i acc H → SqL K H a xs ∧ acc.length < sizeLine)
    (hs : ∀ i x acc H, i < xs.length → xs[i]? = some x → Pv i acc H → te (some x :: kW js σ) H fun v H' => Nxt xs.length i (Pv (i + 1) (acc ++ [v]) H')) (hd : ∀ acc H, Pv xs.length acc H → ∀ D, H D = none → Q (.ref D) (upd H D (.lst acc))) : qB8 js te σ Q (Itl K a) H := by
  refine ⟨fun i m acc H => m = xs.length - i ∧ i ≤ xs.length ∧ Pv i acc H, ⟨xs.length, by simp, Nat.zero_le _, h0⟩, ?_⟩
  rintro i m acc H2 ⟨rfl, hi, p⟩
  obtain ⟨q, hz⟩ := hl i acc H2 hi p
  refine ⟨hz, ?_⟩
  by_cases hlt : i < xs.length
  · refine .inr ⟨⟨xs, xs[i], q, by simp [hlt]⟩, fun x H3 y => ?_⟩
    obtain ⟨e, y⟩ := y
    subst e
    exact hs i x acc _ hlt (y xs q) p
  · have e : i = xs.length := by omega
    subst e
    exact .inl ⟨⟨xs, q, Nat.le_refl _⟩, hd acc H2 p⟩
theorem qGi {lo : Int} {n : Nat} {js : List Nat} {te : TE} {σ : L2.St} {H : Hp} {Q : VK} (Pv : Nat → List V → Hp → Prop) (h0 : Pv 0 [] H) (hl : ∀ i acc H, i ≤ n → Pv i acc H → acc.length < sizeLine)
    (hs : ∀ i acc H, i < n → Pv i acc H → te (some (.int (lo + i)) :: kW js σ) H fun v H' => Nxt n i (Pv (i + 1) (acc ++ [v]) H')) (hd : ∀ acc H, Pv n acc H → ∀ D, H D = none → Q (.ref D) (upd H D (.lst acc))) : qB8 js te σ Q (Itr lo n) H := by
  refine ⟨fun i m acc H => m = n - i ∧ i ≤ n ∧ Pv i acc H, ⟨n, by simp, Nat.zero_le _, h0⟩, ?_⟩
  rintro i m acc H2 ⟨rfl, hi, p⟩
  refine ⟨hl i acc H2 hi p, ?_⟩
  by_cases hlt : i < n
  · refine .inr ⟨hlt, fun x H3 y => ?_⟩
    obtain ⟨e, y⟩ := y
    subst e y
    exact hs i acc _ hlt p
  · have e : i = n := by omega
    subst e
    exact .inl ⟨Nat.le_refl _, hd acc H2 p⟩
end L3
set_option maxHeartbeats 4000000
namespace L3
open PySem PySem.Spec PyProof.Rows L2
structure Def (K : PySem.W.Frag) (mg : Str → Option Value) (x : Str) (st : Stmt) (ps : List Str) (f : Addr) (fd : FuncData) : Prop where
  F : Fun K x x st f fd
  b : Binds K fd ps []
  m : mg x = some (.ref f)
section
variable {X : Cx}
theorem qN {k j : Nat} {x : Str} {st : Stmt} {ps : List Str} {f : Addr} {fd : FuncData} {sp : Sp} {e : Expr} {es : List Expr} {t : TA} {p pos : Pos} (D : Def X.K X.mg x st ps f fd) (F : FnOk X.prog X.w X.K X.mg X.base CX0 j f fd ps sp) (hr : Room k X.A) (hg : Gl X x) (ha : PA X (e :: es) t) (hj : j ≤ k := by decide)
    (hdb : (x == ("__debug__" : Str)) = false := by decide) (he : starEach (e :: es) X.env = (false, eval e X.env) :: starEach es X.env := by rfl) (hpl : (backTo pos (starEach es X.env)).any (·.1) = false := by rfl) :
    PE X (.Call (.Name x p) (e :: es) [] pos) (qKg sp [] E0 t) := qHo F (hr.mono hj) hg D.m D.F.kp D.b .nil qNa ha hdb he hpl
theorem qDv {x : Str} {n : String} {pos : Pos} (hg : Gl X x) (hm : X.mg x = none) (hv : bootBuiltins x = some (.type n)) (hn : x ≠ "__name__" := by decide) (hd : (x == ("__debug__" : Str)) = false := by decide) : PE X (.Name x pos) (tC (.ty n)) :=
  qLd hg hm hv rfl hn hd
end
theorem qJo {X : Cx} {K : PySem.W.Frag} (h : X.K = K) : IxR X (qOd K) := h ▸ jC
theorem qA8 {X : Cx} {K : PySem.W.Frag} (h : X.K = K) : IxR X (qMx K) := h ▸ qI
def qM6 (t : TS) : TS := fun D σ H => ∃ R : L2.St → Hp → Prop, t { D with nx := R } σ H ∧ ∀ σ' H', R σ' H' → D.nx σ' H'
theorem zY {X : Cx} {st : Stmt} {t : TS} (h : PS X st t) : PS X st (qM6 t) := by
  rintro pins s σ H D I ⟨R, ht, hR⟩
  refine thn (h pins s σ H { D with nx := R } I ht) fun f s' q => ?_
  cases f with
  | next => obtain ⟨σ', H', I', r⟩ := q; exact ⟨σ', H', I', hR _ _ r⟩
  | brk => exact q
  | cont => exact q
  | ret u => exact q
theorem qH {H : Hp} {p : Addr} (h : H p = none) (o : HO) : Same H (upd H p o) := fun b u q => by rw [qY (qR q h)]; exact q
theorem Same.tup {K : PySem.W.Frag} {H H' : Hp} {a : Addr} {xs : List V} (e : Same H H') (h : SqT K H a xs) : SqT K H' a xs := by
  rcases h with (h | ⟨o, h⟩) | h
  · exact .inl (.inl (e _ _ h))
  · exact .inl (.inr ⟨o, e _ _ h⟩)
  · exact .inr h
end L3
set_option maxHeartbeats 4000000
namespace L3
open PySem PySem.Spec PyProof.Rows L2
section
variable {X : Cx}
def DE1 (K : PySem.W.Frag) (H : Hp) (x y : V) (b : Bool) : Prop := (xc x = true ∧ xc y = true ∧ b = eqV x y) ∨
  ∃ p q xs ys, x = .ref p ∧ y = .ref q ∧ SqT K H p xs ∧ SqT K H q ys ∧ xs.all xc = true ∧ ys.all xc = true ∧ b = qGf xs ys ∧ (p = q → b = true)
theorem DE1.at {pins : List (Addr × Obj)} {σ : L2.St} {H : Hp} {s : Shared} {A : Around} {x y : V} {u v : Value} {b : Bool} (I : Inv X pins σ H s) (hu : A.units < cLine) (rx : RelV x u) (ry : RelV y v) (h : DE1 X.K H x y b) : SeqAt.EqAt A s u v b := by
  rcases h with ⟨f1, f2, rfl⟩ | ⟨p, q, xs, ys, rfl, rfl, h1, h2, f1, f2, rfl, hb⟩
  · exact qD3 rx ry f1 f2
  · cases rx; cases ry
    by_cases e : p = q
    · subst e
      rw [hb rfl]
      exact SeqAt.EqAt.same _
    · obtain ⟨us, r1, t1, _⟩ := I.tuple h1
      obtain ⟨ws, r2, t2, _⟩ := I.tuple h2
      have l1 : us.toArray.size = xs.length := by rw [List.size_toArray]; exact r1.length.symm
      have l2 : ws.toArray.size = ys.length := by rw [List.size_toArray]; exact r2.length.symm
      have := SeqAt.EqAt.of_refs e (SeqAt.RcAt.tuples t1 t2 hu (qAt (A := A.in1) (s := s) r1 r2 f1 f2))
      rw [l1, l2] at this
      exact this
end
end L3
set_option maxHeartbeats 4000000
namespace L3
open PySem PySem.Spec PyProof.Rows L2
abbrev EC := Value × Option Addr
def ze (h : Heap) (e : Addr) (C : EC) (hd : Option Addr) : Prop :=
  ∃ (vs : Array Value) (sl : Array (Option Value)), h.get? e = some { cls := C.1, dict := C.2, data := .fields vs, slots := sl } ∧
    match hd with
    | none => vs[1]? = some .none
    | some T => vs[1]? = some (.ref T) ∧ T ≠ e ∧ ∃ oT ts m, h.get? T = some oT ∧ oT.data = .fields ts ∧ ts[3]? = some m
structure Noted (fs : List Addr) (e : Addr) (hd : Option Addr) (C : EC) (h h' : Heap) : Prop where
  keep : ∀ b o, h.get? b = some o → b ∉ fs → b ≠ e → some b ≠ hd → h'.get? b = some o
  slot : ∀ b o, h.get? b = some o → b ∈ fs → b ≠ e → some b ≠ hd → ∃ sl, h'.get? b = some { o with slots := sl }
  ent : ∃ T, (h.get? T = none ∨ hd = some T) ∧ ze h' e C (some T)
theorem Noted.before {fs : List Addr} {e T : Addr} {C : EC} {h h1 h' : Heap} (x : Noted fs e none C h1 h') (k : ∀ b, b ≠ T → h1.get? b = h.get? b) (t : ∃ o, h1.get? T = some o) : Noted fs e (some T) C h h' := by
  refine ⟨fun b o q hf he ht => x.keep b o ?_ hf he (by simp), fun b o q hf he ht => x.slot b o ?_ hf he (by simp), ?_⟩
  · rw [k b (fun z => ht (by rw [z]))]; exact q
  · rw [k b (fun z => ht (by rw [z]))]; exact q
  · obtain ⟨T', n | n, r⟩ := x.ent
    · refine ⟨T', .inl ?_, r⟩
      rw [← k T' (fun z => ?_)]; exact n
      obtain ⟨o, q⟩ := t
      rw [z, q] at n; cases n
    · cases n
section
variable {M : Model} {A : Around} {E : Value → Shared → Prop} {s : Shared}
theorem Noted.then {fs : List Addr} {e T : Addr} {hd : Option Addr} {C : EC} {h h1 h2 : Heap} (x : Noted fs e hd C h h1) (hT : h.get? T = none ∨ hd = some T) (y : Noted fs e (some T) C h1 h2) : Noted fs e hd C h h2 := by
  have nt : ∀ b o, h.get? b = some o → some b ≠ hd → (some b : Option Addr) ≠ some T := fun b o q hb z => by
    cases z
    rcases hT with n | n
    · rw [q] at n; cases n
    · exact hb n.symm
  have n1 : ∀ T', h1.get? T' = none → T' ≠ e → some T' ≠ hd → h.get? T' = none := fun T' n he ht => by
    cases q : h.get? T' with
    | none => rfl
    | some o =>
      by_cases hs : T' ∈ fs
      · obtain ⟨sl, z⟩ := x.slot T' o q hs he ht
        rw [n] at z; cases z
      · have z := x.keep T' o q hs he ht
        rw [n] at z; cases z
  refine ⟨fun b o q hf he ht => y.keep b o (x.keep b o q hf he ht) hf he (nt b o q ht), fun b o q hf he ht => ?_, ?_⟩
  · obtain ⟨sl, z⟩ := x.slot b o q hf he ht
    obtain ⟨sl', z'⟩ := y.slot b _ z hf he (nt b o q ht)
    exact ⟨sl', z'⟩
  · obtain ⟨T', n, r⟩ := y.ent
    refine ⟨T', ?_, r⟩
    rcases n with n | n
    · by_cases hh : hd = some T'
      · exact .inr hh
      · refine .inl (n1 T' n (fun z => ?_) (Ne.symm hh))
        obtain ⟨vs, sl, q, r1, nT, _⟩ := r
        exact nT z
    · cases n
      exact hT
theorem qDs {base : Heap} {env : Env} {outer : List Env} {L e : Addr} {C : EC} {head : Value} {vs : Array Value} {sl : Array (Option Value)} {had : Bool} {Q : Unit → Shared → Prop}
    (fr : A.frames = some (env :: outer)) (ff : s.heap.FunFrames base (env :: outer)) (ef : env.frame = some L) (re : s.heap.get? e = some { cls := C.1, dict := C.2, data := .fields vs, slots := sl }) (v1 : 1 < vs.size)
    (k : ∀ h', Noted (frs (env :: outer)) e none C s.heap h' → Q () { s with heap := h' }) :
    wpAny M A (do let a ← frameOf env; let pl ← entryPlaceOf L had; let b ← EntryCells.newEntry head a .none (rawInt L) .none pl; setField (.ref e) 1 b) Q E s := by
  have efs : e ∉ frs (env :: outer) := fun z => by
    obtain ⟨_, o, q, nf⟩ := ff.mem z
    rw [re] at q; cases q
    exact nf vs rfl
  refine wpAny_bind (wpAny_frameOf_fun fr ff ef fun g so => ?_)
  refine wpAny_bind (wpAny_entryPlaceOf fun pl ip => ?_)
  unfold EntryCells.newEntry newFields
  refine wpAny_bind (wpAny_newObj_type ?_ (ip.sizeOk5 _ _ _ _ _))
  generalize hN : ({ cls := .type "traceback", dict := none, data := .fields ([head, .ref L, .none, rawInt L, .none] ++ (if pl.isEmpty then List.replicate 6 Value.none else pl)).toArray } : Obj) = N
  have Nd : N.data = .fields ([head, .ref L, .none, rawInt L, .none] ++ (if pl.isEmpty then List.replicate 6 Value.none else pl)).toArray := by rw [← hN]
  have q1 : g.get? e = some { cls := C.1, dict := C.2, data := .fields vs, slots := sl } := (so.2.1 e efs).trans re
  have q2 := Heap.get?_push_of_some (h := g) N q1
  have ne : g.objs.size ≠ e := Nat.ne_of_gt (Heap.lt_size q1)
  refine wpAny_setField q2 rfl v1 (k _ ?_)
  have q3 := Heap.get?_update_self (Obj.mapFields (·.setIfInBounds 1 (Value.ref g.objs.size))) q2 rfl
  have nf : N.isFreed = false := Obj.isFreed_of_fields Nd
  have t3 : ((g.push N).update e (Obj.mapFields (·.setIfInBounds 1 (Value.ref g.objs.size)))).get? g.objs.size = some N :=
    (Heap.get?_update_other (g.push N) _ (Ne.symm ne)).trans (Heap.get?_push_size g nf)
  have oth : ∀ b o, b ≠ e → g.get? b = some o → ((g.push N).update e (Obj.mapFields (·.setIfInBounds 1 (Value.ref g.objs.size)))).get? b = some o := fun b o hb q => by
    rw [Heap.get?_update_other _ _ (Ne.symm hb)]
    exact Heap.get?_push_of_some _ q
  refine ⟨fun b o q hf he _ => oth b o he ((so.2.1 b hf).trans q), fun b o q hf he _ => ?_, g.objs.size, .inl ?_, vs.setIfInBounds 1 (.ref g.objs.size), sl, q3, by simp [v1], ne, N, _, rawInt L, t3, Nd, ?_⟩
  · obtain ⟨sl', q'⟩ := so.2.2 b o q
    exact ⟨sl', oth b _ he q'⟩
  · rw [so.1]
    exact Heap.get?_none_of_le (Nat.le_refl _)
  · simp
theorem qFo {base : Heap} {env : Env} {outer : List Env} {L e : Addr} {C : EC} {hd : Option Addr} {Q : Unit → Shared → Prop}
    (fr : A.frames = some (env :: outer)) (ff : s.heap.FunFrames base (env :: outer)) (ef : env.frame = some L) (re : ze s.heap e C hd)
    (k : ∀ h', Noted (frs (env :: outer)) e hd C s.heap h' → Q () { s with heap := h' }) : wpAny M A (noteFrame (.ref e) env) Q E s := by
  have re0 := re
  obtain ⟨vs, sl, q, r⟩ := re
  unfold noteFrame
  simp only [ef]
  cases hd with
  | none =>
    refine wpAny_bind (wpAny_field q rfl r ?_)
    rw [if_neg (by decide)]
    exact qDs fr ff ef q (Array.getElem?_eq_some_iff.mp r).1 k
  | some T =>
    obtain ⟨r1, nT, oT, ts, m, qT, dT, r3⟩ := r
    refine wpAny_bind (wpAny_field q rfl r1 ?_)
    rw [if_pos (by simp)]
    refine wpAny_bind (wpAny_field qT dT r3 ?_)
    by_cases hm : (m == rawInt L) = true
    · rw [if_pos hm]
      exact wpAny_pure (k s.heap ⟨fun b o q _ _ _ => q, fun b o q _ _ _ => ⟨o.slots, q⟩, T, .inr rfl, re0⟩)
    rw [if_neg hm]
    refine wpAny_bind (wpAny_setField qT dT (Array.getElem?_eq_some_iff.mp r3).1 ?_)
    have oth : ∀ b, b ≠ T → (s.heap.update T (Obj.mapFields (·.setIfInBounds 3 Value.none))).get? b = s.heap.get? b := fun b z => Heap.get?_update_other _ _ (Ne.symm z)
    have qT' := Heap.get?_update_self (Obj.mapFields (·.setIfInBounds 3 Value.none)) qT (Obj.isFreed_of_fields (Obj.data_mapFields dT _))
    have nf : ∀ b o, s.heap.get? b = some o → (∀ vs, o.data ≠ .fields vs) → b ≠ T := fun b o z n w => by
      rw [w, qT] at z; cases z
      exact n ts dT
    refine qDs (s := { s with heap := s.heap.update T (Obj.mapFields (·.setIfInBounds 3 Value.none)) }) fr (ff.of_keeps fun b o z n => ⟨o, (oth b (nf b o z n)).trans z, rfl⟩) ef ((oth e (Ne.symm nT)).trans q) (Array.getElem?_eq_some_iff.mp r1).1 fun h' x => ?_
    exact k h' (x.before oth ⟨_, qT'⟩)
theorem qA1 {e T : Addr} {C : EC} {fo : Option Addr} {Q : Unit → Shared → Prop} (re : ze s.heap e C (some T))
    (k : ∀ h', (∀ fs, Noted fs e (some T) C s.heap h') → Q () { s with heap := h' }) : wpAny M A (setFlight (.ref e) fo) Q E s := by
  obtain ⟨vs, sl, q, r1, nT, oT, ts, m, qT, dT, r3⟩ := re
  unfold setFlight
  refine wpAny_bind (wpAny_field q rfl r1 ?_)
  rw [if_pos (by simp)]
  have oth : ∀ b, b ≠ T → (s.heap.update T (Obj.mapFields (·.setIfInBounds 3 (fo.elim Value.none fun f => rawInt f)))).get? b = s.heap.get? b := fun b z => Heap.get?_update_other _ _ (Ne.symm z)
  refine wpAny_setField qT dT (Array.getElem?_eq_some_iff.mp r3).1 (k _ fun fs => ⟨fun b o q _ _ z => ?_, fun b o q _ _ z => ⟨o.slots, ?_⟩, T, .inr rfl, ?_⟩)
  · rw [oth b fun w => z (by rw [w])]; exact q
  · rw [oth b fun w => z (by rw [w])]; exact q
  · refine ⟨vs, sl, (Heap.get?_update_other _ _ nT).trans q, r1, nT, _, _, fo.elim Value.none fun f => rawInt f, Heap.get?_update_self _ qT (Obj.isFreed_of_fields (Obj.data_mapFields dT _)), Obj.data_mapFields dT _, ?_⟩
    have h3 := (Array.getElem?_eq_some_iff.mp r3).1
    simp [h3]
theorem zm {e T : Addr} {C : EC} {Q : Unit → Shared → Prop} (re : ze s.heap e C (some T))
    (k : ∀ h', (∀ fs, Noted fs e (some T) C s.heap h') → Q () { s with heap := h' }) : wpAny M A (setFlight (.ref e) none) Q E s := qA1 re k
theorem qFa {base : Heap} {env : Env} {outer : List Env} {L e : Addr} {C : EC} {hd : Option Addr} {Q : Unit → Shared → Prop}
    (fr : A.frames = some (env :: outer)) (ff : s.heap.FunFrames base (env :: outer)) (ef : env.frame = some L) (re : ze s.heap e C hd)
    (k : ∀ h', Noted (frs (env :: outer)) e hd C s.heap h' → Q () { s with heap := h' }) : wpAny M A (noteFrame (.ref e) env) (fun _ s' => wpAny M A (setFlight (.ref e) none) Q E s') E s := by
  refine qFo fr ff ef re fun h1 N1 => ?_
  obtain ⟨T, hT, rT⟩ := N1.ent
  exact zm (s := { s with heap := h1 }) rT fun h2 N2 => k h2 (N1.then hT (N2 _))
theorem qJd {base : Heap} {env : Env} {outer : List Env} {L e : Addr} {C : EC} {hd : Option Addr} {E2 : Value → Shared → Prop}
    (fr : A.frames = some (env :: outer)) (ff : s.heap.FunFrames base (env :: outer)) (ef : env.frame = some L) (re : ze s.heap e C hd)
    (k : ∀ h', Noted (frs (env :: outer)) e hd C s.heap h' → E2 (.ref e) { s with heap := h' }) : notedBy M A env (cameBackBy M A env E2) (.ref e) s := by
  refine qFo fr ff ef re fun h1 N1 => ?_
  obtain ⟨T, hT, rT⟩ := N1.ent
  obtain ⟨vs, sl, q, r1, _⟩ := id rT
  show wpAny M A _ _ _ _
  refine wpAny_bind (wpAny_field (s := { s with heap := h1 }) q rfl r1 ?_)
  rw [if_neg (by simp)]
  exact qA1 (s := { s with heap := h1 }) rT fun h2 N2 => k h2 (N1.then hT (N2 _))
end
end L3
set_option maxHeartbeats 4000000
namespace L3
open PySem PySem.Spec PyProof.Rows L2
theorem qJ5 {P : Program} {w : World} {H : Hp} {h : Heap} {a : Addr} {o : HO} (x : ObjOk P w H h a o) : ∃ ob, h.get? a = some ob := by
  cases o with
  | lst xs => obtain ⟨_, _, _, _, e⟩ := x; exact ⟨_, e⟩
  | tup xs => obtain ⟨_, _, _, ob, e, _⟩ := x; exact ⟨ob, e⟩
  | dK kvs => obtain ⟨_, _, _, _, o, _, _, e, _⟩ := x; exact ⟨_, e⟩
  | dT kvs => obtain ⟨_, _, _, _, o, _, _, e, _⟩ := x; exact ⟨_, e⟩
  | set S n => obtain ⟨o, _, _, _, e, _⟩ := x; exact ⟨_, e⟩
  | ins C dx fs => obtain ⟨_, _, _, e, _⟩ := x; exact ⟨_, e⟩
  | own y => exact x
  | xd fs => obtain ⟨_, ⟨_, _, _, e, _⟩, _⟩ := x; exact ⟨_, e⟩
  | rng lo hi => obtain ⟨_, _, _, e⟩ := x; exact ⟨_, e⟩
  | frz ob u => obtain ⟨e, _⟩ := x; exact ⟨_, e⟩
  | tbl ps => exact ⟨_, x⟩
  | met f y => exact ⟨_, x⟩
  | ext φ => exact x.2.1
def qHv (h₀ : Heap) (H : Hp) (ps : List (Addr × Obj)) (e : Addr) : Prop := h₀.get? e = none ∧ H e = none ∧ ∀ p ∈ ps, p.1 ≠ e
def qIt (h₀ : Heap) (H : Hp) (ps : List (Addr × Obj)) (h : Heap) (e : Addr) (C : EC) : Prop :=
  qHv h₀ H ps e ∧ ∃ hd, ze h e C hd ∧ ∀ T, hd = some T → qHv h₀ H ps T
def CXR (P : Program) (w : World) : CXT := fun outer H s E e s' => ∃ ea C H', e = .ref ea ∧ s'.os = s.os ∧ AllBare s'.gens ∧ Un (frs outer) [] H H' s.heap s'.heap ∧ HOk P w H' s'.heap ∧ qIt s.heap H' [] s'.heap ea C ∧ E C.1 C.2 H'
def XE (X : Cx) (Ex : Value → Option Addr → Hp → Prop) : Value → Shared → Prop := fun e s' => ∃ ea C σ H', e = .ref ea ∧ Inv X [] σ H' s' ∧ qIt X.s₀.heap H' X.pn s'.heap ea C ∧ Ex C.1 C.2 H'
section
variable {X : Cx} {σ : L2.St} {H : Hp} {s : Shared}
theorem xf {e : Addr} {hd : Option Addr} {C : EC} {h' : Heap} (I : Inv X [] σ H s) (hex : X.ex = []) (re : ze s.heap e C hd) (n1 : qHv X.s₀.heap H X.pn e) (n3 : ∀ T, hd = some T → qHv X.s₀.heap H X.pn T)
    (N : Noted (frs X.stack) e hd C s.heap h') : Inv X [] σ H { s with heap := h' } ∧ qIt X.s₀.heap H X.pn h' e C := by
  have B := I.base
  rw [hex] at B
  have ne : ∀ b o, X.s₀.heap.get? b = some o → b ≠ e ∧ some b ≠ hd ∧ b ≠ X.env.locals := fun b o q => by
    refine ⟨fun z => ?_, fun z => ?_, Nat.ne_of_lt (Nat.lt_of_lt_of_le (Heap.lt_size q) I.ok.above)⟩
    · rw [z, n1.1] at q; cases q
    · rw [(n3 b z.symm).1] at q; cases q
  have nin : ∀ b, b ∉ ([] : List Addr) := fun b z => nomatch z
  have nfl : ∀ b o, s.heap.get? b = some o → (∀ vs, o.data ≠ .fields vs) → b ≠ e ∧ some b ≠ hd := fun b o q nf => by
    obtain ⟨vs, sl, qe, r⟩ := re
    refine ⟨fun z => ?_, fun z => ?_⟩
    · rw [z, qe] at q; cases q
      exact nf vs rfl
    · subst z
      obtain ⟨_, _, oT, ts, _, qT, dT, _⟩ := r
      rw [qT] at q; cases q
      exact nf ts dT
  have up : ∀ b o, s.heap.get? b = some o → b ≠ e → some b ≠ hd → ∃ sl, h'.get? b = some { o with slots := sl } := fun b o q z1 z2 => by
    by_cases hs : b ∈ frs X.stack
    · exact N.slot b o q hs z1 z2
    · exact ⟨o.slots, N.keep b o q hs z1 z2⟩
  have un : Un X.fs [] X.H₀ H X.s₀.heap h' := by
    refine ⟨fun b o q n hb hx => ?_, fun b o q n hb hx => ?_, fun b o q n hx => B.free b o q n hx, fun b o q hx => ?_, B.tups, B.frzs, B.tbls⟩
    · obtain ⟨z1, z2, z3⟩ := ne b o q
      refine N.keep b o (B.keep b o q n hb hx) (fun z => ?_) z1 z2
      rcases List.mem_cons.mp (I.stkSub b z) with w | w
      · exact z3 w
      · exact hb w
    · obtain ⟨z1, z2, z3⟩ := ne b o q
      obtain ⟨sl, q1⟩ := B.slot b o q n hb hx
      obtain ⟨sl', q2⟩ := up b _ q1 z1 z2
      exact ⟨sl', q2⟩
    · obtain ⟨z1, z2, z3⟩ := ne b o q
      obtain ⟨o', q1⟩ := B.there b o q hx
      obtain ⟨sl', q2⟩ := up b _ q1 z1 z2
      exact ⟨_, q2⟩
  have hok : HOk X.prog X.w H h' := fun a u q => by
    have key : ∀ c, H c = none → ¬ (c = a ∨ H c = some (.own a)) := fun c z w => by
      rcases w with w | w
      · rw [w, q] at z; cases z
      · rw [z] at w; cases w
    exact (I.hok a u q).stay (fun c v hc z => N.keep c v z (fun w => key c (I.stkFree c w) hc) (fun w => key c (by rw [w]; exact n1.2.1) hc) fun w => key c (n3 c w.symm).2.1 hc) (fun _ z => z) fun _ _ z => z
  have cellK : ∀ c v, s.heap.IsCell c v → h'.IsCell c v := fun c v ⟨o, q, d⟩ => by
    obtain ⟨z1, z2⟩ := nfl c o q fun vs w => by rw [d] at w; cases w
    obtain ⟨sl, q'⟩ := up c o q z1 z2
    exact ⟨_, q', d⟩
  have I' : Inv X [] σ H { s with heap := h' } := by
    refine ⟨I.ok, I.os, I.bare, by rw [hex]; exact un, ?_, fun y c e => ?_, I.free, I.freeC, fun p hp => ?_, hok, I.len⟩
    · obtain ⟨m, ⟨o, es, ep, ho, hd', r⟩, hl⟩ := I.loc
      obtain ⟨z1, z2⟩ := nfl _ o ho fun vs w => by rw [hd'] at w; cases w
      obtain ⟨sl, q'⟩ := up _ o ho z1 z2
      refine ⟨m, ⟨_, es, ep, q', hd', r⟩, fun i x v e1 e2 e3 => ?_⟩
      obtain ⟨u, r, l⟩ := hl i x v e1 e2 e3
      refine ⟨u, r, ?_⟩
      rcases l with l | ⟨k, c, ec, z⟩
      · exact .inl l
      · exact .inr ⟨k, c, ec, cellK c _ z⟩
    · obtain ⟨v, z⟩ := I.cell y c e
      exact ⟨v, cellK c v z⟩
    · obtain ⟨q, n, nl, nf, d⟩ := I.pin p hp
      have hp' : p ∈ X.pn := by simpa using hp
      refine ⟨N.keep p.1 p.2 q (fun z => ?_) (n1.2.2 p hp') fun z => (n3 p.1 z.symm).2.2 p hp' rfl, n, nl, nf, d⟩
      rcases List.mem_cons.mp (I.stkSub p.1 z) with w | w
      · exact nl w
      · exact nf w
  refine ⟨I', n1, ?_⟩
  obtain ⟨T, nT, r⟩ := N.ent
  refine ⟨some T, r, fun T' e' => ?_⟩
  cases e'
  rcases nT with nT | nT
  rotate_left
  · exact n3 T nT
  refine ⟨?_, ?_, fun p hp z => ?_⟩
  · cases q : X.s₀.heap.get? T with
    | none => rfl
    | some o =>
      obtain ⟨o', z⟩ := B.there T o q (nin T)
      rw [nT] at z; cases z
  · cases q : H T with
    | none => rfl
    | some u =>
      obtain ⟨o', z⟩ := qJ5 (I.hok T u q)
      rw [nT] at z; cases z
  · have q := (I.pin p (List.mem_append_left _ hp)).1
    rw [z, nT] at q; cases q
end
theorem qN8 {X : Cx} {Ex : Value → Option Addr → Hp → Prop} {L : Addr} {env : Env} {outer : List Env} (hst : X.stack = env :: outer) (he : X.env = env) (hf : env.frame = some L) (hex : X.ex = []) : PassesOwn (model X.prog X.w) X.A X.env (XE X Ex) := by
  rintro e s' ⟨ea, C, σ, H', rfl, I, ⟨n1, hd, r, n3⟩, z⟩
  subst he
  have fr := I.ok.frames
  rw [hst] at fr
  have ff := I.stack
  rw [hst] at ff
  refine qJd fr ff hf r fun h' N' => ?_
  rw [← hst] at N'
  obtain ⟨I', x'⟩ := xf I hex r n1 n3 N'
  exact ⟨ea, C, σ, H', rfl, I', x', z⟩
theorem qKd {X : Cx} {E : Value → Shared → Prop} {st : List Stmt} {t : TS} (h : PSs (X.wish E) st t) (hE : ∀ e s', E e s' → X.xe e s') : PSs X st t := fun pins s σ H D I hw =>
  wpAny_mono (h pins s σ H D (I.wish E) hw) (fun _ _ q => q.unwish) hE
section
variable {P : Program} {w : World} {K : PySem.W.Frag} {mg : Str → Option Value} {base : Heap}
theorem okX {x qual : Str} {st : Stmt} {f : Addr} {fd : FuncData} {N ps : List Str} {k : Nat} {sp : Sp} (F : Fun K x qual st f fd) (S : qQ N ps (qC st)) (len : ∀ vs H Q E, sp vs H Q E → vs.length = ps.length)
    (hbody : ∀ (cdv : Value) (A : Around) (outer : List Env) (s : Shared) (H : Hp) (vs : List V) (Q : VK) (E : XK), Room k (A.deeper (envOfC qual (qC st) s.heap.objs.size f cdv)) → sp vs H Q E →
      ∃ t, PSs ((qIi (CXR P w) P w K mg base N qual (qC st) f cdv A outer s H E).wish (XE (qIi (CXR P w) P w K mg base N qual (qC st) f cdv A outer s H E) E)) (qK st) t ∧
        t { nx := fun _ H' => Q .non H', rt := Q } (start N vs) H) : FnOk P w K mg base (CXR P w) (k + 1) f fd ps sp := by
  obtain ⟨oc, od, kV, doc, pm, an, cdv, ct, osl, rfl, lk, hcd⟩ := F.ex
  refine qLs lk hcd S len fun A outer s H vs Q E hr hsp => ?_
  obtain ⟨t, h, q⟩ := hbody cdv A outer s H vs Q E hr hsp
  refine ⟨t, qKd h ?_, q⟩
  rintro e s' ⟨ea, C, σ, H', rfl, I, ⟨n1, hd, r, n3⟩, z⟩
  show wpAny _ _ (leaving _ _) _ _ _
  unfold leaving
  refine wpAny_bind (qFa I.ok.frames I.stack rfl r fun h' N' => ?_)
  obtain ⟨I', x'⟩ := xf I rfl r n1 n3 N'
  exact ⟨ea, C, H', rfl, I.os, I.bare, I'.base, I'.hok, x', z⟩
end
theorem qN2 {X : Cx} {Ex : Value → Option Addr → Hp → Prop} (hex : X.ex = []) : qF6 (CXR X.prog X.w) (X.wish (XE X Ex)) Ex := by
  rintro pins σ H s e s' I ⟨ea, C, H', rfl, os, bare, un, hok, ⟨n1, hd, r, n3⟩, q⟩
  have I0 := I.unwish
  have I1 : Inv X pins σ H' s' := I0.call' (ch := []) os un hok bare fun b z => nomatch z
  have old : ∀ b, s.heap.get? b = none → X.s₀.heap.get? b = none := fun b z => by
    cases w : X.s₀.heap.get? b with
    | none => rfl
    | some o =>
      obtain ⟨o', w'⟩ := I0.base.there b o w (by rw [hex]; intro y; cases y)
      rw [z] at w'; cases w'
  have pn : ∀ b, s.heap.get? b = none → ∀ p ∈ X.pn, p.1 ≠ b := fun b z p hp w => by
    have q := (I0.pin p (List.mem_append_left _ hp)).1
    rw [w, z] at q; cases q
  exact ⟨ea, C, σ, H', rfl, I1.pins_of (pins' := []) fun p hp => (nomatch hp), ⟨⟨old _ n1.1, n1.2.1, pn _ n1.1⟩, hd, r, fun T e => ⟨old _ (n3 T e).1, (n3 T e).2.1, pn _ (n3 T e).1⟩⟩, q⟩
theorem zw {X : Cx} {Ex : Value → Option Addr → Hp → Prop} {k j : Nat} {x : Str} {st : Stmt} {ps : List Str} {f : Addr} {fd : FuncData} {sp : Sp} {e : Expr} {es : List Expr} {t : TA} {p pos : Pos} (D : Def X.K X.mg x st ps f fd) (F : FnOk X.prog X.w X.K X.mg X.base (CXR X.prog X.w) j f fd ps sp) (hr : Room k X.A) (hg : Gl X x)
    (ha : PA (X.wish (XE X Ex)) (e :: es) t) (hj : j ≤ k := by decide) (hex : X.ex = [] := by rfl)
    (hdb : (x == ("__debug__" : Str)) = false := by decide) (he : starEach (e :: es) X.env = (false, eval e X.env) :: starEach es X.env := by rfl) (hpl : (backTo pos (starEach es X.env)).any (·.1) = false := by rfl) :
    PE (X.wish (XE X Ex)) (.Call (.Name x p) (e :: es) [] pos) (qKg sp [] Ex t) :=
  qHo (X := X.wish (XE X Ex)) (CX := CXR X.prog X.w) F (hr.mono hj) hg D.m D.F.kp D.b .nil (qN2 hex) ha hdb he hpl
def qK4 : List Value := [.type "ValueError", .type "Exception", .type "BaseException", .type "object"]
def OwnX (K : PySem.W.Frag) (C : Addr) : Prop := PySem.W.excIn K C qK4 "ValueError.__new__" = true
theorem qKi {K : PySem.W.Frag} {h : Heap} {mg : Str → Option Value} {x : Str} {C : Addr} (X : K.In h) (b : mg x = some (.ref C)) (q : OwnX K C) : OwnCls x C qK4 "ValueError.__new__" mg h := by
  refine ⟨b, ?_⟩
  unfold OwnX PySem.W.excIn at q
  split at q
  · rename_i dd cd sl ho
    split at q
    · rename_i C' bm k0 k1 k2 k3 n k5 hm hs
      simp only [Bool.and_eq_true, beq_iff_eq, Bool.not_eq_true'] at q
      obtain ⟨⟨⟨⟨⟨eC, en⟩, del⟩, ht⟩, ok⟩, ni⟩ := q
      subst eC en
      obtain ⟨nm, bs, mro, ns, qn, hd, sn, sub, ab, col, dl⟩ := cd
      dsimp only at hm del ok ni
      subst hm del
      have hsl : sl = #[k0, k1, k2, k3, some (.builtin "ValueError.__new__"), k5] := by
        obtain ⟨l⟩ := sl
        simp only at hs
        rw [hs]
      subst hsl
      exact ⟨bm, ns, nm, qn, bs, hd, sn, sub, ab, col, dd, k0, k1, k2, k3, k5, _, X _ _ ho, .of_isNs (PySem.W.isNs_of_in X ok), PySem.W.nsMap_none_of_in X ok ni, PySem.W.tail_of_in X ht⟩
    · cases q
  · cases q
def qL9 (C : Addr) (Ex : Value → Option Addr → Hp → Prop) (t : TA) : TS := fun _ σ H => t σ H fun vs H1 => vs.length ≤ sizeLine ∧ Ex (.ref C) none H1
theorem jz {X : Cx} {Ex : Value → Option Addr → Hp → Prop} {x : Str} {C : Addr} {np cpos pos : Pos} {e₀ : Expr} {rest : List Expr} {t : TA} (hcm : X.calm = true) (hg : Gl X x) (hm : X.mg x = some (.ref C)) (hx : OwnX X.K C) (ha : PA (X.wish (XE X Ex)) (e₀ :: rest) t)
    (he : starEach (e₀ :: rest) X.env = (false, eval e₀ X.env) :: starEach rest X.env := by rfl) (hpl : (backTo cpos (starEach rest X.env)).any (·.1) = false := by rfl) (hex : X.ex = [] := by rfl) (hdb : (x == ("__debug__" : Str)) = false := by decide) :
    PS (X.wish (XE X Ex)) (.Raise (some (.Call (.Name x np) (e₀ :: rest) [] cpos)) none pos) (qL9 C Ex t) := by
  intro pins s σ H D I h
  obtain ⟨tl, N, nm, q, bs, hdct, sn, sub, ab, col, dd, k0, k1, k2, k3, k5, mN, hC, hN, hni, T⟩ :=
    (qKi (X := I.ok.mod.kin) hm hx).obj
  refine wpAny_Raise_call_subT (bm := tl) (C := C) (N := N) (nm := nm) (q := q) (bs := bs) (hdct := hdct) (sn := sn) (sub := sub) (ab := ab) (col := col) (dd := dd) (k5 := k5) (k0 := k0) (k1 := k1) (k2 := k2) (k3 := k3)
    PySem.F.excBase_ValueError (mN := mN) (T.hasType PySem.F.excBase_ValueError.hasBase) (I.ok.hd hcm) (by rw [he]; show (false || (backTo cpos (starEach rest X.env)).any (·.1)) = false; rw [hpl]; rfl) hni (kT I hg hm ⟨rfl, ?_⟩ hdb)
  have z := ha cpos pins s σ H _ I h
  rw [show (X.wish (XE X Ex)).env = X.env from rfl] at z
  rw [he] at z ⊢
  refine Calls.evalArgs_plain (wpAny_mono z (fun us s2 w => ?_) fun _ _ y => y)
  obtain ⟨vs, H1, I1, r1, hl, ex⟩ := w
  have I1' := I1.unwish
  refine ⟨rfl, by rw [← r1.length]; exact hl, I1.bk _ _ hC, hN.keeps I1.bk, T.keeps I1.bk, fun h' e hmk => ?_⟩
  obtain ⟨tt, q1, q2, q3⟩ := hmk.there
  have I2 : Inv X pins σ H1 { s2 with heap := h' } := I1'.kept (t' := s2.toks) hmk.keeps
  refine ⟨e, (.ref C, none), σ, H1, rfl, I2.pins_of (pins' := []) fun p hp => (nomatch hp), ⟨⟨?_, ?_, fun p hp z => ?_⟩, none, ⟨_, _, q1, rfl⟩, fun T e' => nomatch e'⟩, ex⟩
  · cases w : X.s₀.heap.get? e with
    | none => rfl
    | some o =>
      obtain ⟨o', w'⟩ := I1'.base.there e o w (by rw [hex]; intro y; cases y)
      rw [hmk.new] at w'; cases w'
  · cases w : H1 e with
    | none => rfl
    | some u =>
      obtain ⟨o', w'⟩ := qJ5 (I1'.hok e u w)
      rw [hmk.new] at w'; cases w'
  · have q' := (I1'.pin p (List.mem_append_left _ hp)).1
    rw [z, hmk.new] at q'; cases q'
end L3
set_option maxHeartbeats 4000000
namespace L3
open PySem PySem.Spec PyProof.Rows L2
def pnX (X : Cx) (l : List (Addr × Obj)) : Cx := { X with pn := l }
def hdX (X : Cx) (ea : Addr) : Cx := { X with A := X.A.mark (some (.ref ea)), calm := false }
section
variable {X : Cx} {pins : List (Addr × Obj)} {σ : L2.St} {H : Hp} {s : Shared}
theorem qJ2 (I : Inv X pins σ H s) : Inv (pnX X (X.pn ++ pins)) [] σ H s := by
  obtain ⟨a1, a2, a3, a4, a5, a6, a7, a8, a9, a10, a11, a12, a13, a14, a15, a16, a17, a18⟩ := I.ok
  exact ⟨⟨a1, a2, a3, a4, a5, a6, a7, a8, a9, a10, a11, a12, a13, a14, a15, a16, a17, a18⟩, I.os, I.bare, I.base, I.loc, I.cell, I.free, I.freeC, fun p hp => I.pin p (by have z : p ∈ (X.pn ++ pins) ++ [] := hp; simpa using z), I.hok, I.len⟩
theorem xp (I : Inv (pnX X (X.pn ++ pins)) [] σ H s) : Inv X pins σ H s := by
  obtain ⟨a1, a2, a3, a4, a5, a6, a7, a8, a9, a10, a11, a12, a13, a14, a15, a16, a17, a18⟩ := I.ok
  exact ⟨⟨a1, a2, a3, a4, a5, a6, a7, a8, a9, a10, a11, a12, a13, a14, a15, a16, a17, a18⟩, I.os, I.bare, I.base, I.loc, I.cell, I.free, I.freeC, fun p hp => I.pin p (by show p ∈ (X.pn ++ pins) ++ []; simpa using hp), I.hok, I.len⟩
theorem qA2 {ea : Addr} (I : Inv X pins σ H s) : Inv (hdX X ea) pins σ H s := by
  obtain ⟨a1, a2, a3, a4, a5, a6, a7, a8, a9, a10, a11, a12, a13, a14, a15, a16, a17, a18⟩ := I.ok
  exact ⟨⟨a1, a2, a3, a4, a5, a6, a7, a8, fun h => absurd (show false = true from h) Bool.false_ne_true, a10, a11, a12, a13, a14, a15, a16, a17, a18⟩, I.os, I.bare, I.base, I.loc, I.cell, I.free, I.freeC, I.pin, I.hok, I.len⟩
theorem kG {ea : Addr} (I : Inv (hdX X ea) pins σ H s) (hd : X.calm = true → X.A.handled = none) : Inv X pins σ H s := by
  obtain ⟨a1, a2, a3, a4, a5, a6, a7, a8, a9, a10, a11, a12, a13, a14, a15, a16, a17, a18⟩ := I.ok
  exact ⟨⟨a1, a2, a3, a4, a5, a6, a7, a8, hd, a10, a11, a12, a13, a14, a15, a16, a17, a18⟩, I.os, I.bare, I.base, I.loc, I.cell, I.free, I.freeC, I.pin, I.hok, I.len⟩
def qEp (e : Addr) (C : EC) : HO := .ext fun h => ∃ (vs : Array Value) (sl : Array (Option Value)), h.get? e = some { cls := C.1, dict := C.2, data := .fields vs, slots := sl }
theorem vE {a : Addr} {C : EC} {hd : Option Addr} (I : Inv X [] σ H s) (_ : X.ex = []) (n : qHv X.s₀.heap H X.pn a) (r : ze s.heap a C hd) : Inv X [] σ (upd H a (qEp a C)) s := by
  obtain ⟨vs, sl, q, _⟩ := r
  have B := I.base
  have ne : ∀ b o, X.s₀.heap.get? b = some o → b ≠ a := fun b o w z => by rw [z, n.1] at w; cases w
  refine ⟨I.ok, I.os, I.bare, ⟨B.keep, B.slot, fun b o w z hx => ?_, B.there, fun b xs w => ?_, fun b o u w => ?_, fun b ps w => ?_⟩, I.loc, I.cell, ?_, fun y c e => ?_, fun p hp => ?_, fun b u w => ?_, I.len⟩
  · rw [qY (ne b o w)]; exact B.free b o w z hx
  · have z := B.tups b xs w
    rw [qY (qR z n.2.1)]; exact z
  · have z := B.frzs b o u w
    rw [qY (qR z n.2.1)]; exact z
  · obtain ⟨more, z⟩ := B.tbls b ps w
    exact ⟨more, by rw [qY (qR z n.2.1)]; exact z⟩
  · obtain ⟨m, ⟨o, es, ep, ho, hd', _⟩, _⟩ := I.loc
    rw [qY (fun z => by rw [z, q] at ho; cases ho; cases hd')]
    exact I.free
  · obtain ⟨v, o, ho, hd'⟩ := I.cell y c e
    rw [qY (fun z => by rw [z, q] at ho; cases ho; cases hd')]
    exact I.freeC y c e
  · obtain ⟨w1, w2, w3⟩ := I.pin p hp
    have hp' : p ∈ X.pn := by simpa using hp
    rw [qY (n.2.2 p hp')]
    exact ⟨w1, w2, w3⟩
  · by_cases hb : b = a
    · subst hb
      rw [qD] at w
      cases w
      refine ⟨⟨vs, sl, q⟩, ⟨_, q⟩, fun h1 h2 z k => ?_⟩
      obtain ⟨vs', sl', z⟩ := z
      exact ⟨vs', sl', k _ z⟩
    · rw [qY hb] at w
      exact (I.hok b u w).stay (fun _ _ _ z => z) (fun c z => by rw [qY (qR z n.2.1)]; exact z) fun c xs z => by rw [qY (qR z n.2.1)]; exact z
theorem xg {M : Model} {A : Around} {E : Value → Shared → Prop} {i : Nat} {n : Str} {pos : Pos} {Q : Unit → Shared → Prop} (I : Inv X pins σ H s) (hN : X.N.Nodup) (hi : X.N[i]? = some n) (hl : X.env.scope.names.lookup n = some .local)
    (h : ∀ s', Inv X pins (σ.set i none) H s' → Q () s') : wpAny M A (do bindName X.env n .none; unbindBehindTheSuite X.env n pos) Q E s := by
  refine wpAny_bind (wpAny_bindName (xq (v := .non) I hN hi (.inl hl) rfl (fun s1 I1 => ?_) (.inr hl)))
  unfold unbindBehindTheSuite
  refine wpAny_onRaise ?_
  have hcls : (X.env.scope.kind == .class || (X.env.scope.kind == .module && X.env.locals != X.env.globals)) = false := by rw [I1.ok.kind]; rfl
  have hiσ : i < σ.length := by rw [I.len]; exact (List.getElem?_eq_some_iff.mp hi).1
  obtain ⟨m, hn, hlk⟩ := I1.loc
  obtain ⟨u, r, lk⟩ := hlk i n .non hi (by rw [List.getElem?_set_self hiσ]) (.inl hl)
  have hm : m n = some u := by
    rcases lk with ⟨_, z⟩ | ⟨z, _⟩
    · exact z
    · have hl' : X.env.kindOf n = some .local := hl
      rw [hl'] at z
      rcases z with z | z <;> cases z
  obtain ⟨oL, es, ep, hoL, hdL, _⟩ := id hn
  refine wpAny_unbindName_local hl hn hm hcls fun h' u' hn' hs => h _ ?_
  have B := I1.base
  have neL : ∀ b o, X.s₀.heap.get? b = some o → b ≠ X.env.locals := fun b o e => Nat.ne_of_lt (Nat.lt_of_lt_of_le (Heap.lt_size e) I1.ok.above)
  refine ⟨I1.ok, I1.os, I1.bare, ⟨fun b o e n hb hx => (hs.2 b (neL b o e)).trans (B.keep b o e n hb hx), fun b o e n hb hx => ?_, B.free, fun b o e hx => ?_, B.tups, B.frzs, B.tbls⟩, ⟨_, hn', fun j y v e1 e2 e3 => ?_⟩, fun y c e => ?_, I1.free, I1.freeC, fun p hp => ?_, fun b ob e => ?_, ?_⟩
  · obtain ⟨sl, z⟩ := B.slot b o e n hb hx
    exact ⟨sl, (hs.2 b (neL b o e)).trans z⟩
  · obtain ⟨o', z⟩ := B.there b o e hx
    exact ⟨o', (hs.2 b (neL b o e)).trans z⟩
  · have hj : j ≠ i := fun z => by
      subst z
      rw [List.getElem?_set_self hiσ] at e2
      cases e2
    rw [List.getElem?_set_ne (Ne.symm hj)] at e2
    obtain ⟨u2, r2, l2⟩ := hlk j y v e1 (by rw [List.getElem?_set_ne (Ne.symm hj)]; exact e2) e3
    refine ⟨u2, r2, ?_⟩
    rcases l2 with ⟨k, z⟩ | ⟨k, c, ec, z⟩
    · refine .inl ⟨k, ?_⟩
      have : y ≠ n := fun w => hj (qBv hN e1 (w ▸ hi))
      simp [this, z]
    · exact .inr ⟨k, c, ec, z.sameBut hs (I1.cne y c ec)⟩
  · obtain ⟨w', z⟩ := I1.cell y c e
    exact ⟨w', z.sameBut hs (I1.cne y c e)⟩
  · obtain ⟨e, n, ne, nf, d⟩ := I1.pin p hp
    exact ⟨(hs.2 p.1 ne).trans e, n, ne, nf, d⟩
  · refine (I1.hok b ob e).stay (fun c w' hc q => (hs.2 c fun z => ?_).trans q) (fun _ q => q) fun _ _ q => q
    have fr := I1.free
    rcases hc with hc | hc
    · rw [← hc, z, fr] at e; cases e
    · rw [z, fr] at hc; cases hc
  · have := I1.len
    simpa using this
end
def qGw (D : qG2) (i : Option Nat) : qG2 :=
  let f : (L2.St → Hp → Prop) → L2.St → Hp → Prop := fun q σ H => match i with | some i => q (σ.set i none) H | none => q σ H
  { nx := f D.nx, rt := D.rt, bk := f D.bk, ct := f D.ct }
def qMf (i : Option Nat) (ea : Addr) (σ : L2.St) : L2.St := match i with | some i => σ.set i (some (.ref ea)) | none => σ
inductive qD6 (X : Cx) : Option Str → Option Nat → Prop where
  | none : qD6 X none none
  | some {n : Str} {i : Nat} (hi : X.N[i]? = some n) (hl : X.env.scope.names.lookup n = some .local) : qD6 X (some n) (some i)
end L3
set_option maxHeartbeats 4000000
set_option maxRecDepth 100000
namespace L3
open PySem PySem.Spec PySem.Calls PyProof.Rows PySem.W
section
variable {prog : Program} {w : World} {A : Around} {E : Value → Shared → Prop} {K : Frag} {h : Heap} {g : Array GenState} {d : Drawn} {t : Nat} {os : OsState} {a D : Addr} {ox : Obj} {od : Option Obj}
structure ExcK (K : Frag) (D : Addr) : Prop where
  ga : findIn K (.ref D) "__getattribute__" = some (some (.builtin "BaseException.__getattribute__"))
  gt : findIn K (.ref D) "__getattr__" = some none
  ca : findIn K (.ref D) "__class__" = some (some (.builtin "object.__class__"))
  sg : specialIn K (.builtin "object.__class__") "__get__" = some (some (.builtin "getset_descriptor.__get__"))
  tk : takesIn K (.builtin "object.__class__") = some true
  mo : mroIn K D (.type "object") = some true
  mb : mroIn K D (.type "BaseException") = some true
end
end L3
namespace L3
open PySem PySem.Spec PyProof.Rows L2
def OwnD (H : Hp) (od : Option Addr) : Prop := od = none ∨ ∃ dx fs, od = some dx ∧ H dx = some (.xd fs)
theorem OwnD.at {X : Cx} {pins : List (Addr × Obj)} {σ : L2.St} {H : Hp} {s : Shared} {e D : Addr} {od : Option Addr} {vs : Array Value} {sl : Array (Option Value)} (I : Inv X pins σ H s) (h : OwnD H od)
    (qe : s.heap.get? e = some { cls := .ref D, dict := od, data := .fields vs, slots := sl }) : ∃ o, PySem.W.InstAt s.heap e { cls := .ref D, dict := od, data := .fields vs, slots := sl } D o := by
  rcases h with rfl | ⟨dx, fs, rfl, hd⟩
  · exact ⟨none, qe, rfl, rfl, trivial⟩
  · obtain ⟨mA, ⟨o, es, ep, e', c⟩, r⟩ := I.hok dx _ hd
    exact ⟨some o, qe, rfl, rfl, e'⟩
end L3
set_option maxHeartbeats 4000000
set_option maxRecDepth 100000
namespace L3
open PySem PySem.Spec PySem.Calls PySem.Builtin PySem.Builtin.ObjectAttr PyProof.Rows
def exOver (K : PySem.W.Frag) (C D : Addr) : Bool := (PySem.W.clsIn K C).any fun cd => cd.mro == .ref C :: .ref D :: qK4
section
variable {prog : Program} {w : World} {A : Around} {E : Value → Shared → Prop} {K : PySem.W.Frag} {s : Shared} {x C D : Addr} {vs : Array Value} {sl : Array (Option Value)} {R : Result → Shared → Prop}
open PySem.W in
theorem qIf {ox : Obj} {od : Option Obj} {name : Str} {tk : Tok} {v : Value} (X : K.In s.heap) (I : InstAt s.heap x ox C od) (hp : exOver K C D = true) (ht : takerIn K C name = some none)
    (h : ∀ b, wpAny (model prog w) A.in1 (storeInOwnDict (.ref x) (.ref C) (.str name tk) name v b)
      (fun fin s' => match fin with | .done f => R (.ok f) s' | .again c' => c'.quiet = true ∧ codeAny (model prog w) A c' R s') (fun e s' => R (.error e) s') s) :
    codeAny (model prog w) A (.call (.builtin "object.__setattr__") ⟨[.ref x, .str name tk, v], []⟩) R s := by
  have SF := PySem.F.store_object
  obtain ⟨cd, hc, ho⟩ := any_some hp
  have ho : cd.mro = .ref C :: .ref D :: qK4 := beq_iff_eq.mp ho
  have sub : Looks (model prog w) s.heap (isInstance (.ref x) (.type "object")) true := I.type.andThen (looks_mroIn X (by unfold mroIn; rw [hc, Option.bind_some, ho]; rfl))
  refine codeAny_call_builtin SF.slot.plain SF.entry (@check_slot (model prog w) _ _ s "object.__setattr__" "object" "__setattr__" (.ref x) [.str name tk, v] [] _ SF.kind SF.split sub (SF.args (.ref x) (.str name tk) v) ?_)
  obtain ⟨attr, ha, hr⟩ := Option.bind_eq_some_iff.mp ht
  have hm : Looks (model prog w) s.heap (mroOf (.ref C)) cd.mro := (looks_clsIn X hc).andThen .now
  have L3 : Looks (model prog w) s.heap (storeTaker? attr) none := by
    cases attr with
    | none => cases hr; exact .now
    | some a =>
      obtain ⟨b, hb, hb2⟩ := Option.map_eq_some_iff.mp hr
      refine (looks_takesIn X hb).andThen ?_
      cases b
      · exact .now
      · cases hb2
  rw [osa_eq, refuse_eq]
  refine wpAny_bind (wpAny_bind (I.type.here (wpAny_bind (hm.here ?_))))
  rw [ho, refuseLoop_ref, refuseLoop_ref]
  rw [show refuseLoop (.ref x) "__setattr__" qK4 = pure () from PySem.F.store_ValueError.passes (.ref x)]
  refine wpAny_pure (wpAny_bind (I.type.here (wpAny_bind ((looks_findIn X ha).here (wpAny_bind (L3.here ?_))))))
  exact h _
open PySem.W in
theorem qLe {name : Str} {v : Value} {Q : Unit → Shared → Prop} (X : K.In s.heap) (hx : s.heap.get? x = some { cls := .ref C, dict := none, data := .fields vs, slots := sl })
    (hs : findIn K (.ref C) "__setattr__" = some (some (.builtin "object.__setattr__"))) (hp : exOver K C D = true) (ht : takerIn K C name = some none) (hh : hasDictIn K C = true)
    (h : ∀ h' tk, h'.get? x = some { cls := .ref C, dict := some s.heap.objs.size, data := .fields vs, slots := sl } → h'.Ns1 s.heap.objs.size (fun y => if y = name then some v else none) → (∀ b o, b ≠ x → s.heap.get? b = some o → h'.get? b = some o) → Q () { s with heap := h', toks := tk }) :
    wpAny (model prog w) A (setAttr (.ref x) name v) Q E s := by
  have J : InstAt s.heap x { cls := .ref C, dict := none, data := .fields vs, slots := sl } C none := ⟨hx, rfl, rfl, trivial⟩
  refine PySem.W.set_plain X J hs (qIf (s := { s with toks := s.toks + 1 }) X J hp ht fun b => ?_)
  obtain ⟨cd, hc, hd'⟩ := PySem.W.any_some hh
  refine wpAny_bind (wpAny_pure (wpAny_bind (wpAny_bind (wpAny_loadPart hx (wpAny_bind (PySem.W.Looks.here (s := { s with toks := s.toks + 1 }) (PySem.W.looks_clsIn X hc) ?_))))))
  rw [hd']
  have hx₁ : (s.heap.push { cls := .type "dict", data := .dict #[] }).get? x = some { cls := .ref C, dict := none, data := .fields vs, slots := sl } := Heap.get?_push_of_some _ hx
  have hxs : x ≠ s.heap.objs.size := Nat.ne_of_lt (Heap.lt_size hx)
  refine wpAny_bind (wpAny_alloc' ?_)
  refine wpAny_bind (wpAny_update' hx₁ ?_)
  refine wpAny_pure ?_
  have hgd : ((s.heap.push { cls := .type "dict", data := .dict #[] }).update x fun o => { o with dict := some s.heap.objs.size }).get? s.heap.objs.size = some { cls := .type "dict", data := .dict #[] } :=
    (Heap.get?_update_ne _ _ _ _ hxs.symm).trans (Heap.get?_push_at rfl rfl)
  have hnd : ((s.heap.push { cls := .type "dict", data := .dict #[] }).update x fun o => { o with dict := some s.heap.objs.size }).Ns s.heap.objs.size (fun _ => none) :=
    ⟨_, #[], _, hgd, rfl, fun e he => absurd he (by simp), fun _ => rfl⟩
  refine wpAny_bind (wpAny_pure (wpAny_bind ?_))
  refine wpAny_nsSet1 (s := { s with heap := _, toks := s.toks + 1 }) (Heap.Ns1.of_empty hnd) fun h' hn' hs2 => ?_
  obtain ⟨oD, esD, epD, hoD, hdD, hcD⟩ := hn'.count (Within.cons name v Within.nil)
  refine wpAny_bind (wpAny_lookBehind hoD (by rw [hdD]; exact pastItsLine_dict (Nat.le_trans hcD (by rw [List.length_cons, List.length_nil, sizeLine_eq]; omega))) ?_)
  refine wpAny_pure (h _ _ ?_ hn' ?_)
  · refine (hs2.2 x hxs).trans (Heap.get?_update_self _ hx₁ rfl)
  · intro b o hb ho
    exact (hs2.2 b (Nat.ne_of_lt (Heap.lt_size ho))).trans ((Heap.get?_update_ne _ _ _ _ hb).trans (Heap.get?_push_of_some _ ho))
end
section
variable {prog : Program} {w : World} {A : Around} {E : Value → Shared → Prop} {h : Heap} {g : Array GenState} {d : Drawn} {t : Nat} {os : OsState}
variable {nm q : Str} {C N : Addr} {bs bm bmB : List Value} {hdct : Bool} {sn : List Str} {sub : List Value} {ab : Bool} {col : Option Bool} {dd : Option Addr} {k0 k1 k2 k3 k5 : Option Value} {B newId initId : String}
theorem wr (F : ExcBaseFacts B newId initId bmB) (T : OwnTail h bmB bm) {mN : Str → Option Value} {rest : List Value} {fI : Addr} {oI : Obj} {Q : PySem.Fin → Shared → Prop}
    (hC : h.get? C = some (excClassObj nm q C N bs bm hdct sn sub ab col dd k0 k1 k2 k3 k5 newId)) (hn : h.Ns N mN) (hi : mN "__init__" = some (.ref fI))
    (hfI : h.get? fI = some oI) (hfc : oI.cls = .type "function")
    (hq : ∀ h' e, Heap.MadeExcOf h h' e (.ref C) rest → h'.objs.size = h.objs.size + 2 → e = h.objs.size + 1 →
      wpAny (model prog w) A (call (.ref fI) (.ref e :: rest)) (fun r s' => r = .none ∧ Q (.done (.ret (.ref e))) s') E ⟨h', g, d, t, os⟩) (hrest : rest.length ≤ sizeLine := by size_fits) :
    wpAny (model prog w) A (Builtin.«type.__call__» ⟨.ref C :: rest, []⟩) Q E ⟨h, g, d, t, os⟩ := by
  repeat (first | with_reducible refine wpAny_loadPart_at hC ?_ | with_reducible refine wpAny_madeBy_exc hC ?_ | wp_step)
  refine codeAny_call_builtin_code (Code.quiet_builtin _ F.quiet) (wpAny_check_new_subT F T hC ?_)
  refine codeAny_exc_new_subT F T hC ?_ hrest
  show wpAny _ _ _ _ _ _
  have hC₁ := Heap.get?_push_of_some { cls := .ref C, data := .fields #[.ref h.objs.size, .none, .none, .none, .bool false, .none] }
    (Heap.get?_push_of_some { cls := .type "tuple", data := .seq rest.toArray } hC)
  have hfI₁ := Heap.get?_push_of_some { cls := .ref C, data := .fields #[.ref h.objs.size, .none, .none, .none, .bool false, .none] }
    (Heap.get?_push_of_some { cls := .type "tuple", data := .seq rest.toArray } hfI)
  have hn₁ : ((h.push { cls := .type "tuple", data := .seq rest.toArray }).push { cls := .ref C, data := .fields #[.ref h.objs.size, .none, .none, .none, .bool false, .none] }).Ns N mN :=
    let ⟨o, es, ep, e, r⟩ := hn; ⟨o, es, ep, Heap.get?_push_of_some _ (Heap.get?_push_of_some _ e), r⟩
  have hget : ((h.push { cls := .type "tuple", data := .seq rest.toArray }).push
      { cls := .ref C, data := .fields #[.ref h.objs.size, .none, .none, .none, .bool false, .none] }).get? (h.objs.size + 1) = some
      { cls := .ref C, data := .fields #[.ref h.objs.size, .none, .none, .none, .bool false, .none] } := by heap_get
  have hcC : (Value.ref C :: bm).contains (.ref C) = true := by simp
  have T₁ := T.keeps (h' := (h.push { cls := .type "tuple", data := .seq rest.toArray }).push { cls := .ref C, data := .fields #[.ref h.objs.size, .none, .none, .none, .bool false, .none] })
    fun b o e => Heap.get?_push_of_some _ (Heap.get?_push_of_some _ e)
  unfold isInstance
  repeat (first | with_reducible refine wpAny_loadPart_at hget ?_ | (with_reducible refine wpAny_isSubtype_exc hC₁ ?_; rw [hcC]) | wp_step)
  show wpAny _ _ (typeLookup (.ref C) _) _ _ _
  refine wpAny_typeLookup_tail hC₁ hn₁ T₁ F.mroIs F.init.lookup ?_
  rw [hi]
  refine wpAny_holding (wpAny_bind ?_)
  unfold bindSpecial
  refine wpAny_bind (wpAny_typeOf (T := "function") ⟨_, hfI₁, hfc⟩ ?_)
  rw [if_pos (by decide)]
  refine wpAny_pure (wpAny_bind (wpAny_mono (hq _ (h.objs.size + 1) ⟨fun b o hb => Heap.get?_push_of_some _ (Heap.get?_push_of_some _ hb), Heap.get?_none_of_le (Nat.le_succ _), h.objs.size, hget, Heap.get?_none_of_le (Nat.le_refl _), ?_⟩ (by simp only [Heap.size_push]) rfl) (fun r s' hr => ?_) fun _ _ x => x))
  · exact Heap.get?_push_of_some _ (Heap.get?_push_at rfl rfl)
  · obtain ⟨rfl, hQ⟩ := hr
    wp_walk
    exact hQ
theorem qGd (F : ExcBaseFacts B newId initId bmB) (T : OwnTail h bmB bm) {mN : Str → Option Value} {rest : List Value} {fI : Addr} {oI : Obj} {Q : Value → Shared → Prop}
    (hC : h.get? C = some (excClassObj nm q C N bs bm hdct sn sub ab col dd k0 k1 k2 k3 k5 newId)) (hn : h.Ns N mN) (hi : mN "__init__" = some (.ref fI))
    (hfI : h.get? fI = some oI) (hfc : oI.cls = .type "function")
    (hq : ∀ h' e, Heap.MadeExcOf h h' e (.ref C) rest → h'.objs.size = h.objs.size + 2 → e = h.objs.size + 1 →
      wpAny (model prog w) (A.under (.builtin "type.__call__" ⟨.ref C :: rest, []⟩)) (call (.ref fI) (.ref e :: rest)) (fun r s' => r = .none ∧ Q (.ref e) s') E ⟨h', g, d, t, os⟩) (hrest : rest.length ≤ sizeLine := by size_fits) :
    wpAny (model prog w) A (call (.ref C) rest) Q E ⟨h, g, d, t, os⟩ := by
  have f1 := tc_lookup
  have f2 := tc_bind (.ref C)
  have hT : (⟨h, g, d, t, os⟩ : Shared).TypeIs (.ref C) "type" := ⟨_, hC, rfl⟩
  refine wpAny_call (codeAny_of_tree ?_)
  show wpAny _ _ (callAny (.ref C) _) _ _ _
  repeat (any_goals (first | assumption | with_reducible refine wpAny_loadPart_at hC ?_ | wp_step))
  refine ⟨rfl, ?_⟩
  refine codeAny_call_builtin_at (Code.quiet_builtin _ (by decide +kernel)) entry_typeCall (wpAny_check_type_call_sub hC (wr (hrest := hrest) F T hC hn hi hfI hfc fun h' e hm h1 h2 => ?_))
  exact hq h' e hm h1 h2
end
section
variable {prog : Program} {w : World} {A : Around} {E : Value → Shared → Prop} {s : Shared} {env : Env}
variable {nm q : Str} {C N : Addr} {bs bm bmB : List Value} {hdct : Bool} {sn : List Str} {sub : List Value} {ab : Bool} {col : Option Bool} {dd : Option Addr} {k0 k1 k2 k3 k5 : Option Value} {B newId initId : String}
theorem qGz {M : Model} {x : Sem Value} {Q : Flow → Shared → Prop} (hbase : bm.contains (.type "BaseException") = true) (hh : A.handled = none)
    (h : wpAny M A x (fun v s₁ => ∃ e od vs sl, v = .ref e ∧ s₁.heap.get? C = some (excClassObj nm q C N bs bm hdct sn sub ab col dd k0 k1 k2 k3 k5 newId) ∧
      s₁.heap.get? e = some { cls := .ref C, dict := od, data := .fields vs, slots := sl } ∧ vs[1]? = some .none ∧ E (.ref e) s₁) E s) :
    wpAny M A (raiseStmt env (some x) none) Q E s := by
  have hcB : (Value.ref C :: bm).contains (.type "BaseException") = true := by rw [List.contains_cons, hbase, Bool.or_true]
  unfold raiseStmt
  refine wpAny_bind (wpAny_mono h (fun v s₁ h₁ => ?_) fun _ _ x => x)
  obtain ⟨e, od, vs, sl, rfl, hC, he, hv, hE⟩ := h₁
  obtain ⟨hp, g, d, tk, os⟩ := s₁
  repeat (first | with_reducible refine wpAny_loadPart_at he ?_ | with_reducible refine wpAny_loadPart_at hC ?_ | (with_reducible refine wpAny_isSubtype_exc hC ?_; rw [hcB]) | wp_step)
  rw [hv]
  refine wpAny_pure ?_
  rw [if_neg (by decide)]
  refine wpAny_pure ?_
  exact wpAny_raiseNew_none hh hE
theorem qE8 (F : ExcBaseFacts B newId initId bmB) {mN : Str → Option Value} {x : Str} {np cpos pos : Pos} {args : List Expr} {fI : Addr} {oI : Obj} {Q : Flow → Shared → Prop}
    (hbase : bm.contains (.type "BaseException") = true) (hh : A.handled = none) (hplain : (backTo cpos (starEach args env)).any (·.1) = false) (hi : mN "__init__" = some (.ref fI)) (hfc : oI.cls = .type "function")
    (h : wpAny (model prog w) A (eval (.Name x np) env) (fun f s₁ => f = .ref C ∧ wpAny (model prog w) A (evalArgs (.ref C) true (backTo cpos (starEach args env)) [])
      (fun a s₂ => a.kw = [] ∧ a.pos.length ≤ sizeLine ∧ s₂.heap.get? C = some (excClassObj nm q C N bs bm hdct sn sub ab col dd k0 k1 k2 k3 k5 newId) ∧ s₂.heap.Ns N mN ∧ OwnTail s₂.heap bmB bm ∧ s₂.heap.get? fI = some oI ∧
        ∀ h' e, Heap.MadeExcOf s₂.heap h' e (.ref C) a.pos → h'.objs.size = s₂.heap.objs.size + 2 → e = s₂.heap.objs.size + 1 →
          wpAny (model prog w) (A.under (.builtin "type.__call__" ⟨.ref C :: a.pos, []⟩)) (call (.ref fI) (.ref e :: a.pos))
            (fun r s' => r = .none ∧ s'.heap.get? C = some (excClassObj nm q C N bs bm hdct sn sub ab col dd k0 k1 k2 k3 k5 newId) ∧ (∃ od vs sl, s'.heap.get? e = some { cls := .ref C, dict := od, data := .fields vs, slots := sl } ∧ vs[1]? = some .none) ∧ E (.ref e) s') E { s₂ with heap := h' }) E s₁) E s) :
    wpAny (model prog w) A (exec (.Raise (some (.Call (.Name x np) args [] cpos)) none pos) env) Q E s := by
  rw [arm_exec_Raise]
  refine wpAny_bind (wpAny_standAt (qGz (C := C) (nm := nm) (q := q) (N := N) (bs := bs) (bm := bm) (hdct := hdct) (sn := sn) (sub := sub) (ab := ab) (col := col) (dd := dd) (k0 := k0) (k1 := k1) (k2 := k2) (k3 := k3) (k5 := k5) (newId := newId) hbase hh (wpAny_bind (wpAny_mono (wpAny_Call_ofName (wpAny_mono h (fun f s₁ h₁ => ?_) fun _ _ x => x)) (fun v s₃ h₃ => wpAny_bind (wpAny_standAt (wpAny_pure h₃))) fun _ _ x => x))))
  obtain ⟨rfl, h₁⟩ := h₁
  unfold callWith
  refine wpAny_bind (wpAny_holding (wpAny_mono h₁ (fun a s₂ h₂ => wpAny_bind (wpAny_standAt ?_)) fun _ _ x => x))
  obtain ⟨apos, akw⟩ := a
  obtain ⟨hkw, hlen, hC, hn, T, hfI, h₂⟩ := h₂
  obtain rfl : akw = [] := hkw
  obtain ⟨hp, g, d, tk, os⟩ := s₂
  simp only [hplain]
  refine wpAny_bind (wpAny_keeperOf_exc hC ?_)
  refine wpAny_bind (qGd (hrest := hlen) F T hC hn hi hfI hfc fun h' e hm h1 h2 => wpAny_mono (h₂ h' e hm h1 h2) (fun r s' z => ⟨z.1, ?_⟩) fun _ _ x => x)
  obtain ⟨_, hC', ⟨od, vs, sl, he, hv⟩, hE⟩ := z
  refine wpAny_bind (wpAny_holding (wpAny_point (wpAny_pure ?_)))
  exact ⟨e, od, vs, sl, rfl, hC', he, hv, hE⟩
end
end L3
namespace L3
open PySem PySem.Spec PyProof.Rows L2
def wM (e : Addr) (C : Value) : HO := .ext fun h => ∃ (vs : Array Value) (sl : Array (Option Value)), h.get? e = some { cls := C, dict := none, data := .fields vs, slots := sl } ∧ vs[1]? = some .none
def wj (e : Addr) (C : EC) : HO := .ext fun h => ze h e C none
def excInitIn (K : PySem.W.Frag) (C f : Addr) : Bool := match K.lookup C with
  | some ⟨.type "type", _, .cls cd, sl⟩ => (match cd.mro, sl.toList with
    | .ref C' :: bm, [_, _, _, _, some (.builtin n), _] => C' == C && n == "ValueError.__new__" && !cd.hasDel && PySem.W.tailIn K qK4 bm && PySem.W.nsOkIn K cd.ns && PySem.W.nsIn K cd.ns "__init__" == some (some (.ref f))
    | _, _ => false)
  | _ => false
structure XMk (K : PySem.W.Frag) (C D f : Addr) : Prop where
  ov : exOver K C D = true
  hd : PySem.W.hasDictIn K C = true
  sa : PySem.W.findIn K (.ref C) "__setattr__" = some (some (.builtin "object.__setattr__"))
  ex : excInitIn K C f = true
  fn : PySem.W.isFn K (.ref f) = true
theorem qGu {K : PySem.W.Frag} {h : Heap} {N : Addr} {mg : Str → Option Value} {n : Str} {v : Value} (X : K.In h) (G : h.Ns N mg) (e : PySem.W.nsIn K N n = some (some v)) : mg n = some v := by
  obtain ⟨o, es, ep, ho, hd, _, hf⟩ := G
  unfold PySem.W.nsIn at e
  split at e
  · rename_i c d es' n' sl q
    have := X _ _ q
    rw [ho] at this
    cases this
    cases hd
    split at e
    · rename_i en he
      cases e
      rw [← hf]
      unfold nsFind findBy
      rw [← Array.find?_toList, he]
      rfl
    · split at e <;> cases e
  · cases e
theorem qJb {K : PySem.W.Frag} {h : Heap} {C f : Addr} (X : K.In h) (q : excInitIn K C f = true) :
    ∃ bm N nm qn bs hdct sn sub ab col dd k0 k1 k2 k3 k5 mN, h.get? C = some (excClassObj nm qn C N bs bm hdct sn sub ab col dd k0 k1 k2 k3 k5 "ValueError.__new__") ∧ h.Ns N mN ∧ mN "__init__" = some (.ref f) ∧ OwnTail h qK4 bm := by
  unfold excInitIn at q
  split at q
  · rename_i dd cd sl ho
    split at q
    · rename_i C' bm k0 k1 k2 k3 n k5 hm hs
      simp only [Bool.and_eq_true, beq_iff_eq, Bool.not_eq_true'] at q
      obtain ⟨⟨⟨⟨⟨eC, en⟩, del⟩, ht⟩, ok⟩, ni⟩ := q
      subst eC en
      obtain ⟨nm, bs, mro, ns, qn, hd, sn, sub, ab, col, dl⟩ := cd
      dsimp only at hm del ok ni
      subst hm del
      have hsl : sl = #[k0, k1, k2, k3, some (.builtin "ValueError.__new__"), k5] := by
        obtain ⟨l⟩ := sl
        simp only at hs
        rw [hs]
      subst hsl
      have N1 : h.Ns ns (h.nsMap ns) := .of_isNs (PySem.W.isNs_of_in X ok)
      refine ⟨bm, ns, nm, qn, bs, hd, sn, sub, ab, col, dd, k0, k1, k2, k3, k5, _, X _ _ ho, N1, qGu X N1 ni, PySem.W.tail_of_in X ht⟩
    · cases q
  · cases q
section
variable {X : Cx} {pins : List (Addr × Obj)} {σ : L2.St} {H : Hp} {s : Shared}
theorem qI5 {e : Addr} {φ : Heap → Prop} (I : Inv X pins σ (upd H e (.ext φ)) s) (h0 : H e = none) (hs : X.s₀.heap.get? e = none) : Inv X pins σ H s := by
  have B := I.base
  have nn : ∀ b u, upd H e (.ext φ) b = some u → (∀ ψ, u ≠ .ext ψ) → H b = some u := fun b u z n => by
    by_cases hb : b = e
    · subst hb
      rw [qD] at z
      cases z
      exact absurd rfl (n φ)
    · rwa [qY hb] at z
  have n0 : ∀ b, upd H e (.ext φ) b = none → H b = none := fun b z => by
    by_cases hb : b = e
    · rw [hb, qD] at z; cases z
    · rwa [qY hb] at z
  refine ⟨I.ok, I.os, I.bare, ⟨B.keep, B.slot, fun b o w z hx => n0 _ (B.free b o w z hx), B.there, fun b xs w => nn _ _ (B.tups b xs w) (fun _ z => nomatch z), fun b o u w => nn _ _ (B.frzs b o u w) (fun _ z => nomatch z), fun b ps w => ?_⟩, I.loc, I.cell, n0 _ I.free, fun y c z => n0 _ (I.freeC y c z), fun p hp => ?_, fun b u w => ?_, I.len⟩
  · obtain ⟨more, z⟩ := B.tbls b ps w
    exact ⟨more, nn _ _ z (fun _ z => nomatch z)⟩
  · obtain ⟨w1, w2, w3⟩ := I.pin p hp
    exact ⟨w1, n0 _ w2, w3⟩
  · have hb : b ≠ e := fun z => by rw [z, h0] at w; cases w
    refine (I.hok b u (by rw [qY hb]; exact w)).stay (fun _ _ _ z => z) (fun c z => nn _ _ z (fun _ z => nomatch z)) fun c xs z => nn _ _ z (fun _ z => nomatch z)
end
theorem qGc {X : Cx} {pins : List (Addr × Obj)} {σ : L2.St} {H : Hp} {s : Shared} {dx : Addr} {fs : List (Str × V)} (I : Inv X pins σ H s) (h0 : H dx = none) (hs0 : X.s₀.heap.get? dx = none) (hp : ∀ p ∈ X.pn ++ pins, p.1 ≠ dx)
    (hl : dx ≠ X.env.locals) (hc : ∀ y c, X.env.cells.lookup y = some c → c ≠ dx) (ok : ∃ mA, s.heap.Ns1 dx mA ∧ ∀ f, RelO (fs.lookup f) (mA f)) : Inv X pins σ (upd H dx (.xd fs)) s := by
  have B := I.base
  have ne : ∀ b o, X.s₀.heap.get? b = some o → b ≠ dx := fun b o w z => by rw [z, hs0] at w; cases w
  refine ⟨I.ok, I.os, I.bare, ⟨B.keep, B.slot, fun b o w z hx => ?_, B.there, fun b xs w => ?_, fun b o u w => ?_, fun b ps w => ?_⟩, I.loc, I.cell, ?_, fun y c e => ?_, fun p hp' => ?_, fun b u w => ?_, I.len⟩
  · rw [qY (ne b o w)]; exact B.free b o w z hx
  · have z := B.tups b xs w
    rw [qY (qR z h0)]; exact z
  · have z := B.frzs b o u w
    rw [qY (qR z h0)]; exact z
  · obtain ⟨more, z⟩ := B.tbls b ps w
    exact ⟨more, by rw [qY (qR z h0)]; exact z⟩
  · rw [qY (Ne.symm hl)]; exact I.free
  · rw [qY (hc y c e)]; exact I.freeC y c e
  · obtain ⟨w1, w2, w3⟩ := I.pin p hp'
    rw [qY (hp p hp')]
    exact ⟨w1, w2, w3⟩
  · by_cases hb : b = dx
    · subst hb
      rw [qD] at w
      cases w
      exact ok
    · rw [qY hb] at w
      exact (I.hok b u w).stay (fun _ _ _ z => z) (fun c z => by rw [qY (qR z h0)]; exact z) fun c xs z => by rw [qY (qR z h0)]; exact z
def qNv (K : PySem.W.Frag) (ta tv : TE) (f : Str) : TS := fun D σ H => tv σ H fun y H1 => ta σ H1 fun x H2 => ∃ a C B, x = .ref a ∧ H2 a = some (wM a (.ref C)) ∧ exOver K C B = true ∧ PySem.W.hasDictIn K C = true ∧
  PySem.W.findIn K (.ref C) "__setattr__" = some (some (.builtin "object.__setattr__")) ∧ PySem.W.takerIn K C f = some none ∧ ∀ dx, H2 dx = none → D.nx σ (upd (upd H2 a (wj a (.ref C, some dx))) dx (.xd [(f, y)]))
theorem qKm {X : Cx} {o value : Expr} {f : Str} {pos pos' : Pos} {ta tv : TE} (ha : PE X o ta) (hv : PE X value tv) (hs : swapsWith value (some (.Attribute o f pos')) pos.line X.env = pure false := by rfl) :
    PS X (.Assign [.Attribute o f pos'] value pos) (qNv X.K ta tv f) := by
  intro pins s σ H D I h
  refine plainObj_wpAny_Assign_Attribute (thn (hv pins s σ H _ I h) fun u s1 ⟨y, H1, I1, ry, q⟩ => thn (ha pins s1 σ H1 _ I1 q) fun ov s2 ⟨x, H2, I2, rx, a, C, B, ex, ea, o1, o2, o3, o4, q2⟩ => ?_) hs
  subst ex
  obtain rfl : ov = Value.ref a := rx
  obtain ⟨⟨vs, sl, he, hv1⟩, _, _⟩ := I2.hok a _ ea
  have hf : H2 s2.heap.objs.size = none := I2.hok.fresh (Nat.le_refl _)
  refine qLe I2.kIn he o3 o1 o4 o2 fun h' tk he' hn k => ⟨σ, _, ?_, q2 _ hf⟩
  have I3 : Inv X pins σ (upd H2 a (wj a (.ref C, some s2.heap.objs.size))) { s2 with heap := h', toks := tk } := by
    refine I2.write (x := a) (e := a) (by rw [ea]; exact True.intro) (.inl rfl) k ⟨_, he'⟩ ?_
    refine ⟨⟨vs, sl, he', hv1⟩, ⟨_, he'⟩, fun h1 h2 z k => ?_⟩
    obtain ⟨vs', sl', z, z2⟩ := z
    exact ⟨vs', sl', k _ z, z2⟩
  have na : s2.heap.objs.size ≠ a := fun z => by rw [z, ea] at hf; cases hf
  refine qGc I3 (by rw [qY na]; exact hf) ?_ (fun p hp => Nat.ne_of_lt (Heap.lt_size (I2.pin p hp).1)) (Nat.ne_of_gt I2.lt) (fun y c e => ?_) ⟨_, hn, fun g => ?_⟩
  · cases w : X.s₀.heap.get? s2.heap.objs.size with
    | none => rfl
    | some o => exact absurd (Nat.lt_of_lt_of_le (Heap.lt_size w) I2.sz) (Nat.lt_irrefl _)
  · obtain ⟨v, o, ho, _⟩ := I2.cell y c e
    exact Nat.ne_of_lt (Heap.lt_size ho)
  · by_cases hg : g = f
    · subst hg
      simp [List.lookup]
      exact ry
    · have e1 : ([(f, y)] : List (Str × V)).lookup g = none := by
        rw [List.lookup_cons]
        have : (g == f) = false := beq_eq_false_iff_ne.mpr hg
        rw [this]
        rfl
      rw [e1, if_neg hg]
      trivial
def qFe (C : Addr) (f : Str) : Sp := fun vs H Q _ => ∃ (e : Addr) (v : V), vs = [.ref e, v] ∧ H e = some (wM e (.ref C)) ∧ ∀ dx, H dx = none → Q .non (upd (upd H e (wj e (.ref C, some dx))) dx (.xd [(f, v)]))
def qKh (C : Addr) (fn : Str) (Ex : Value → Option Addr → Hp → Prop) (t : TA) : TS := fun _ σ H => t σ H fun vs H1 => ∃ v, vs = [v] ∧ ∀ dx, H1 dx = none → Ex (.ref C) (some dx) (upd H1 dx (.xd [(fn, v)]))
theorem qHl {X : Cx} {Ex : Value → Option Addr → Hp → Prop} {fn : Str} {k : Nat} {x : Str} {C B f : Addr} {fd : FuncData} {ps : List Str} {np cpos pos : Pos} {e₀ : Expr} {rest : List Expr} {t : TA} (M : XMk X.K C B f)
    (F : FnOk X.prog X.w X.K X.mg X.base CX0 k f fd ps (qFe C fn)) (hb : Binds X.K fd ps []) (hr : Room (k + 1) X.A) (hcm : X.calm = true) (hg : Gl X x) (hm : X.mg x = some (.ref C)) (ha : PA (X.wish (XE X Ex)) (e₀ :: rest) t)
    (he : starEach (e₀ :: rest) X.env = (false, eval e₀ X.env) :: starEach rest X.env := by rfl) (hpl : (backTo cpos (starEach rest X.env)).any (·.1) = false := by rfl) (hex : X.ex = [] := by rfl) (hdb : (x == ("__debug__" : Str)) = false := by decide) :
    PS (X.wish (XE X Ex)) (.Raise (some (.Call (.Name x np) (e₀ :: rest) [] cpos)) none pos) (qKh C fn Ex t) := by
  intro pins s σ H D I h
  obtain ⟨tl, N, nm, q, bs, hdct, sn, sub, ab, col, dd, k0, k1, k2, k3, k5, mN, hC, hN, hni, T⟩ := qJb (K := X.K) I.ok.mod.kin M.ex
  have hfn : PySem.W.typeIn X.K (.ref f) = some (.type "function") := beq_iff_eq.mp M.fn
  have hfo : ∃ oI : Obj, X.base.get? f = some oI ∧ oI.cls = .type "function" := by
    replace hfn : (X.K.lookup f).map (·.cls) = some (.type "function") := hfn
    cases hl : X.K.lookup f with
    | none => rw [hl] at hfn; cases hfn
    | some o =>
      rw [hl] at hfn
      exact ⟨o, I.ok.mod.kin _ _ hl, by simpa using hfn⟩
  obtain ⟨oI, hfI, hfc⟩ := hfo
  refine qE8 (bm := tl) (C := C) (N := N) (nm := nm) (q := q) (bs := bs) (hdct := hdct) (sn := sn) (sub := sub) (ab := ab) (col := col) (dd := dd) (k5 := k5) (k0 := k0) (k1 := k1) (k2 := k2) (k3 := k3)
    PySem.F.excBase_ValueError (mN := mN) (fI := f) (oI := oI) (T.hasType PySem.F.excBase_ValueError.hasBase) (I.ok.hd hcm) (by rw [he]; show (false || (backTo cpos (starEach rest X.env)).any (·.1)) = false; rw [hpl]; rfl) hni hfc (kT I hg hm ⟨rfl, ?_⟩ hdb)
  have z := ha cpos pins s σ H _ I h
  rw [show (X.wish (XE X Ex)).env = X.env from rfl] at z
  rw [he] at z ⊢
  refine Calls.evalArgs_plain (wpAny_mono z (fun us s2 w => ?_) fun _ _ y => y)
  obtain ⟨vs, H1, I1, r1, v, rfl, ex⟩ := w
  have I1' := I1.unwish
  have hl1 : us.length = 1 := r1.length.symm
  refine ⟨rfl, by rw [hl1, sizeLine_eq]; decide, I1.bk _ _ hC, hN.keeps I1.bk, T.keeps I1.bk, I1.bk _ _ hfI, fun h' e hmk hsz hes => ?_⟩
  obtain ⟨tt, q1, q2, q3⟩ := hmk.there
  have hle : s2.heap.objs.size ≤ e := by rw [hes]; exact Nat.le_succ _
  have e0 : H1 e = none := I1'.hok.fresh hle
  have I2 : Inv X pins σ (upd H1 e (wM e (.ref C))) { s2 with heap := h' } := I1'.laid (t' := s2.toks) hmk.keeps hle ⟨⟨_, _, q1, rfl⟩, ⟨_, q1⟩, fun h1 h2 z k => by
    obtain ⟨vs', sl', z, z2⟩ := z
    exact ⟨vs', sl', k _ z, z2⟩⟩
  have r2 : Vals [V.ref e, v] (Value.ref e :: us) := .cons rfl r1
  have hsp : qFe C fn [V.ref e, v] (upd H1 e (wM e (.ref C))) (fun u H2 => u = .non ∧ ∃ dx, H1 dx = none ∧ dx ≠ e ∧ H2 = upd (upd H1 dx (.xd [(fn, v)])) e (wj e (.ref C, some dx))) E0 := ⟨e, v, rfl, qD, fun dx hdx => ⟨rfl, dx, ?_⟩⟩
  rotate_left
  · have hne : dx ≠ e := fun z => by rw [z, qD] at hdx; cases hdx
    refine ⟨by rwa [qY hne] at hdx, hne, ?_⟩
    funext b
    by_cases hb : b = e
    · subst hb
      rw [qD, qY (Ne.symm hne), qD]
    · rw [qY hb (o := wj e (.ref C, some dx)) (H := upd H1 dx (.xd [(fn, v)]))]
      by_cases hb2 : b = dx
      · subst hb2
        rw [qD, qD]
      · rw [qY hb2, qY hb, qY hb, qY hb2]
  have hl : ((Value.ref e :: us) ++ []).length = ps.length := by
    have := F.len _ _ _ _ hsp
    rw [List.append_nil, List.length_cons, hl1]
    simpa using this
  have hbb := hb _ (Value.ref e :: us) I2.kIn hl
  rw [List.append_nil] at hbb
  refine wpAny_call (codeAny_mono (F.run _ X.stack _ _ ⟨Value.ref e :: us, []⟩ (Value.ref e :: us) _ _ E0 (hr.make C us []) (I2.env0.make C us []) hbb r2 hsp) fun r s' hq' => ?_)
  cases r with
  | error e => exact False.elim hq'
  | ok fl =>
    cases fl with
    | ret u =>
      obtain ⟨v', H', I3, rv, ev, dx, hdx, hne, rfl⟩ := I2.after hq'
      subst ev
      cases rv
      obtain ⟨⟨vs', sl', g1, g2⟩, _, _⟩ := I3.hok e _ qD
      have e0' : (upd H1 dx (.xd [(fn, v)])) e = none := by rw [qY (Ne.symm hne)]; exact e0
      have hs0 : X.s₀.heap.get? e = none := by
        cases w : X.s₀.heap.get? e with
        | none => rfl
        | some o =>
          obtain ⟨o', w'⟩ := I1'.base.there e o w (by rw [hex]; intro y; cases y)
          rw [hmk.new] at w'; cases w'
      refine ⟨rfl, I3.bk _ _ hC, ⟨some dx, vs', sl', g1, g2⟩, e, (.ref C, some dx), σ, upd H1 dx (.xd [(fn, v)]), rfl, (qI5 I3 e0' hs0).pins_of (pins' := []) fun p hp => (nomatch hp), ⟨⟨hs0, e0', fun p hp z => ?_⟩, none, ⟨vs', sl', g1, g2⟩, fun T e' => nomatch e'⟩, ex dx hdx⟩
      have q' := (I1'.pin p (List.mem_append_left _ hp)).1
      rw [z, hmk.new] at q'; cases q'
    | next => exact False.elim hq'
    | brk => exact False.elim hq'
    | cont => exact False.elim hq'
end L3
set_option maxHeartbeats 4000000
set_option maxRecDepth 100000
namespace L3
open PySem PySem.Spec PySem.Calls PyProof.Rows PySem.W
section
variable {prog : Program} {w : World} {A : Around} {E : Value → Shared → Prop} {K : Frag} {h : Heap} {g : Array GenState} {d : Drawn} {t : Nat} {os : OsState} {a D : Addr} {ox o : Obj} {name : Str} {v : Value}
end
end L3
namespace L3
open PySem PySem.Spec PyProof.Rows L2
end L3
set_option maxHeartbeats 4000000
set_option maxRecDepth 100000
namespace L3
open PySem PySem.Spec PyProof.Rows L2
inductive PHs (X : Cx) : List ExceptHandler → List (Addr × Option Nat × TS) → Prop where
  | nil : PHs X [] []
  | cons {x : Str} {np hpos : Pos} {nm : Option Str} {i : Option Nat} {b₀ : Stmt} {suite : List Stmt} {C : Addr} {ts : TS} {hs : List ExceptHandler} {cs : List (Addr × Option Nat × TS)} (hcl : qD6 X nm i) (hg : Gl X x) (hm : X.mg x = some (.ref C))
      (h : ∀ l ea, PSs (hdX (pnX X l) ea).nox (b₀ :: suite) ts) (r : PHs X hs cs) (hdb : (x == ("__debug__" : Str)) = false := by decide) : PHs X (.ExceptHandler (some (.Name x np)) nm (b₀ :: suite) hpos :: hs) ((C, i, ts) :: cs)
def qJy (K : PySem.W.Frag) (D : qG2) (ea : Addr) (B : EC) (σ' : L2.St) (H' : Hp) : List (Addr × Option Nat × TS) → Prop
  | [] => False
  | (C, i, ts) :: cs => ∃ b, PySem.W.exmOne K B.1 (.ref C) = some b ∧ if b = true then ts (qGw D i) (qMf i ea σ') (upd H' ea (qEp ea B)) else qJy K D ea B σ' H' cs
def qNf (K : PySem.W.Frag) (Ex : Value → Option Addr → Hp → Prop) (cs : List (Addr × Option Nat × TS)) (tb : TS) : TS := fun D σ H => tb D σ H ∧ ∀ (ea : Addr) (B : EC) (σ' : L2.St) (H' : Hp), Ex B.1 B.2 H' → H' ea = none → σ'.length = σ.length → qJy K D ea B σ' H' cs
theorem qKe {X : Cx} {body : List Stmt} {h₀ : ExceptHandler} {hs : List ExceptHandler} {cs : List (Addr × Option Nat × TS)} {pos : Pos} {tb : TS} (Ex : Value → Option Addr → Hp → Prop) (hN : X.N.Nodup)
    (hb : ∀ l, PSs ((pnX X l).wish (XE (pnX X l) Ex)) body tb) (hh : PHs X (h₀ :: hs) cs)
    (hstk : X.stack = X.env :: X.outer := by rfl) (hfr : X.env.frame = some X.env.locals := by rfl) (hex : X.ex = [] := by rfl) :
    PS X (.Try body (h₀ :: hs) [] [] pos) (qNf X.K Ex cs tb) := by
  rintro pins s σ H D I ⟨h1, h2⟩
  have I0 := qJ2 I
  refine wpAny_Try_except (wpAny_mono (hb (X.pn ++ pins) [] s σ H D (I0.wish _) h1) (fun f s1 q => ?_) fun e s1 q => ?_)
  · have q := q.unwish
    cases f with
    | next =>
      obtain ⟨σ', H', J, z⟩ := q
      exact wpAny_execs_nil ⟨σ', H', xp J, z⟩
    | brk =>
      obtain ⟨σ', H', J, z⟩ := q
      exact ⟨σ', H', xp J, z⟩
    | cont =>
      obtain ⟨σ', H', J, z⟩ := q
      exact ⟨σ', H', xp J, z⟩
    | ret u =>
      obtain ⟨v, σ', H', J, r, z⟩ := q
      exact ⟨v, σ', H', xp J, r, z⟩
  · obtain ⟨ea, B, σ', H', rfl, I1, ⟨n1, hd, r, n3⟩, ex⟩ := q
    have hlen : σ'.length = σ.length := I1.len.trans I.len.symm
    have ht := h2 ea B σ' H' ex n1.2.1 hlen
    have fr : X.A.frames = some (X.env :: X.outer) := by rw [← hstk]; exact I.ok.frames
    have ff : s1.heap.FunFrames X.base (X.env :: X.outer) := by
      have z := I1.stack
      rw [show (pnX X (X.pn ++ pins)).stack = X.env :: X.outer from hstk] at z
      exact z
    refine qFa fr ff hfr r fun h' N' => ?_
    have N' : Noted (frs X.stack) ea hd B s1.heap h' := by rw [hstk]; exact N'
    obtain ⟨I2, n1, hd2, r2, n3⟩ := xf I1 hex r n1 n3 N'
    clear h2
    generalize h₀ :: hs = hl0 at hh
    induction hh with
    | nil => exact False.elim ht
    | @cons x np hpos nm i b₀ suite C ts hs cs hcl hg hm hs' r' hdb ih =>
      obtain ⟨b, hx, ht⟩ := ht
      refine wpAny_handleBy_cons (codeAny_handlers_test (kT (X := hdX (pnX X (X.pn ++ pins)) ea) (qA2 I2) hg hm ?_ hdb)) (by intro z; cases z)
      have LT : PySem.W.Looks (model X.prog X.w) h' (typeOf (.ref ea)) B.1 := by
        obtain ⟨vs, sl, qe, _⟩ := r2
        exact (PySem.W.Looks.ld qe).andThen .now
      refine (PySem.W.exm_one (M := model X.prog X.w) I2.kIn LT hx).here ?_
      cases b with
      | false =>
        rw [if_neg (by decide)] at ht
        exact ih ht
      | true =>
        rw [if_pos rfl] at ht
        show codeAny _ _ _ _ _
        obtain ⟨T, rfl, r3⟩ : ∃ T, hd2 = some T ∧ ze h' ea B (some T) := by
          obtain ⟨T, _, _⟩ := N'.ent
          cases hd2 with
          | some T => exact ⟨T, rfl, r2⟩
          | none =>
            obtain ⟨T, _, rT⟩ := N'.ent
            obtain ⟨vs, sl, q1, q2⟩ := r2
            obtain ⟨vs', sl', q1', q2', _⟩ := rT
            rw [q1] at q1'
            cases q1'
            rw [q2] at q2'
            cases q2'
        have run : ∀ (s4 : Shared) (σ4 : L2.St) (Q : Flow → Shared → Prop) (E : Value → Shared → Prop), Inv (hdX (pnX X (X.pn ++ pins)) ea) [] σ4 (upd H' ea (qEp ea B)) s4 → ts (qGw D i) σ4 (upd H' ea (qEp ea B)) →
            (∀ f s5, SP (hdX (pnX X (X.pn ++ pins)) ea) [] (qGw D i) f s5 → Q f s5) → wpAny (model X.prog X.w) (X.A.mark (some (.ref ea))) (execs (b₀ :: suite) X.env) Q E s4 := fun s4 σ4 Q E I4 z k =>
          wpAny_mono (hs' (X.pn ++ pins) ea [] s4 σ4 _ _ (I4.wish _) z) (fun f s5 q => k f s5 q.unwish) fun _ _ z => z.elim
        have hdn : (pnX X (X.pn ++ pins)).calm = true → (pnX X (X.pn ++ pins)).A.handled = none := I2.ok.hd
        cases hcl with
        | none =>
          refine codeAny_handlers_suite (zm r3 fun h3 N3 => ?_)
          obtain ⟨I3, n1, hd3, r4, n3⟩ := xf I2 hex r3 n1 n3 (N3 _)
          refine run _ _ _ _ (qA2 (vE I3 hex n1 r4)) ht fun f s5 q => ?_
          cases f with
          | next => obtain ⟨σ5, H5, J, z⟩ := q; exact ⟨σ5, H5, xp (kG J hdn), z⟩
          | brk => obtain ⟨σ5, H5, J, z⟩ := q; exact ⟨σ5, H5, xp (kG J hdn), z⟩
          | cont => obtain ⟨σ5, H5, J, z⟩ := q; exact ⟨σ5, H5, xp (kG J hdn), z⟩
          | ret u => obtain ⟨v, σ5, H5, J, rv, z⟩ := q; exact ⟨v, σ5, H5, xp (kG J hdn), rv, z⟩
        | some hi hl =>
          refine codeAny_handlers_suite_as (zm r3 fun h3 N3 => ?_)
          obtain ⟨I3, n1, hd3, r4, n3⟩ := xf I2 hex r3 n1 n3 (N3 _)
          refine xq (X := hdX (pnX X (X.pn ++ pins)) ea) (v := .ref ea) (qA2 (vE I3 hex n1 r4)) hN hi (.inl hl) rfl (fun s4 I4 => ?_) (.inr hl)
          refine run _ _ _ _ I4 ht fun f s5 q => ?_
          cases f with
          | next => obtain ⟨σ5, H5, J, z⟩ := q; exact xg (X := pnX X (X.pn ++ pins)) (kG J hdn) hN hi hl fun s6 J6 => ⟨_, H5, xp J6, z⟩
          | brk => obtain ⟨σ5, H5, J, z⟩ := q; exact xg (X := pnX X (X.pn ++ pins)) (kG J hdn) hN hi hl fun s6 J6 => ⟨_, H5, xp J6, z⟩
          | cont => obtain ⟨σ5, H5, J, z⟩ := q; exact xg (X := pnX X (X.pn ++ pins)) (kG J hdn) hN hi hl fun s6 J6 => ⟨_, H5, xp J6, z⟩
          | ret u => obtain ⟨v, σ5, H5, J, rv, z⟩ := q; exact xg (X := pnX X (X.pn ++ pins)) (kG J hdn) hN hi hl fun s6 J6 => ⟨v, _, H5, xp J6, rv, z⟩
end L3
set_option maxHeartbeats 4000000
namespace L3
open PySem PySem.Spec PyProof.Rows L2
section
variable {X : Cx}
theorem qIp {bs : List Bool} {its : List Value} {P : Program} {w : World} {A : Around} (r : Vals (bs.map V.bl) its) : TruthOf P w A (fun i v => its.toArray[i]? = some v) (fun i => (bs[i]?).getD false) := by
  intro i v s Q E hv hq
  have hv' : its[i]? = some v := by simpa using hv
  have hl := r.length
  have hi : i < bs.length := by
    have := (List.getElem?_eq_some_iff.mp hv').1
    rw [List.length_map] at hl
    omega
  obtain ⟨u, e1, q1⟩ := r.get (i := i) (x := .bl bs[i]) (by rw [List.getElem?_map, List.getElem?_eq_getElem hi]; rfl)
  rw [hv'] at e1
  cases e1
  cases q1
  have e : (bs[i]?).getD false = bs[i] := by rw [List.getElem?_eq_getElem hi]; rfl
  have hq' : Q ((bs[i]?).getD false) s := hq
  rw [e] at hq'
  exact wpAny_truthy_bool hq'
theorem qH7 (bs : List Bool) : (List.range bs.length).all (fun i => (bs[i]?).getD false) = bs.all id := by
  rw [Bool.eq_iff_iff, List.all_eq_true, List.all_eq_true]
  constructor
  · intro h x hx
    obtain ⟨i, hi, e⟩ := List.mem_iff_getElem.mp hx
    have := h i (by simpa using hi)
    rw [List.getElem?_eq_getElem hi, e] at this
    exact this
  · intro h i hi
    have hi : i < bs.length := by simpa using hi
    rw [List.getElem?_eq_getElem hi]
    exact h _ (List.getElem_mem hi)
theorem qG5 (hc : X.calm = true) : CallR X (.builtin "all") (fun xs H Q => ∃ (p : Addr) (bs : List Bool), xs = [.ref p] ∧ SqL X.K H p (bs.map V.bl) ∧ Q (.bl (bs.all id)) H) := by
  intro pins s σ H xs us Q I r h
  obtain ⟨p, bs, rfl, hq, q⟩ := h
  obtain ⟨u, rfl, rx⟩ := qGx r
  cases rx
  obtain ⟨its, rv, pl, hz⟩ := I.list hq
  have hp : p ≠ s.heap.objs.size := by
    obtain ⟨o, n, e, _⟩ := pl
    exact Nat.ne_of_lt (Heap.lt_size e)
  have hh : X.A.in1.handled = none := I.ok.hd hc
  have hl : its.toArray.size = bs.length := by rw [List.size_toArray, ← rv.length, List.length_map]
  refine call_all_walk (wpAny_pyIter_list pl.isList ?_)
  refine ⟨s.heap.objs.size, _, _, _, _, _, _, rfl, Walks.list hh _ p hp its.toArray, ⟨⟨_, Heap.get?_push_size _ rfl, rfl, rfl⟩, pl.isList.at fun o e => Heap.get?_push_of_some _ e⟩, qIp rv, fun h' tk hk => ?_⟩
  rw [hl, qH7]
  refine ⟨.bl _, H, I.kept fun b o e => hk b o (fun z => ?_) (Heap.get?_push_of_some _ e), rfl, q⟩
  have z' : b = s.heap.objs.size := by simpa using z
  exact absurd (Heap.lt_size e) (by rw [z']; exact Nat.lt_irrefl _)
theorem qLz : OpR X (compareOp .In) (fun x y H Q => ∃ (a b : Str), x = .str a ∧ y = .str b ∧ Q (.bl (!(Builtin.Str.occurrences b a 0 b.length 1).isEmpty)) H) := by
  intro pins s σ H x y v u Q I rx ry h
  obtain ⟨a, b, rfl, rfl, q⟩ := h
  obtain ⟨t, rfl⟩ := rx
  obtain ⟨t', rfl⟩ := ry
  exact P.in_str ⟨.bl _, H, I, rfl, q⟩
def Its (z : Str) : It := ⟨fun i _ => i < z.cps.size, fun i H x H' => H' = H ∧ ∃ c, z.cps[i]? = some c ∧ x = .str ⟨#[c]⟩, fun i _ => z.cps.size ≤ i⟩
theorem qHc {P : Program} {w : World} {K : PySem.W.Frag} {tg : Expr} (it : Addr) (z : Str) (t : Tok) (ty : String) (hty : ty = "str_ascii_iterator" ∨ ty = "str_iterator") :
    qL5 P w K tg (Its z) [it] it (fun i h => h.IsStrIter it ty z t i ∧ i ≤ z.cps.size) where
  mem := by simp
  obj := fun i h st b hb => by
    have e : b = it := by simpa using hb
    subst e
    obtain ⟨⟨o, e, c, d⟩, _⟩ := st
    exact ⟨o, e, fun v z => by rw [d] at z; cases z⟩
  keep := fun i h h' st k => ⟨let ⟨o, ho, r⟩ := st.1; ⟨o, k it (by simp) o ho, r⟩, st.2⟩
  item := by
    intro X hP hw hK hc i pins s σ H E I hf st hg
    subst hP hw hK
    have hi : i < z.cps.size := hg
    have hx : z.cps[i]? = some z.cps[i] := by simp [hi]
    obtain ⟨f0, f1, f2, f3, f4, f5⟩ := hf it (by simp)
    have fin : ∀ h', h'.IsStrIter it ty z t (i + 1) → Heap.SameBut it s.heap h' → ∃ u, some (Value.str ⟨#[z.cps[i]]⟩ s.toks) = some u ∧ wpAny (model X.prog X.w) X.A (letOwnedTupleGo tg (.ref it) u) (fun _ s2 => ∃ x H', Inv X pins σ H' s2 ∧ RelV x u ∧ (Its z).yld i H x H' ∧ (s2.heap.IsStrIter it ty z t (i + 1) ∧ i + 1 ≤ z.cps.size) ∧ ∀ b ∈ [it], H' b = none) E { s with heap := h', toks := s.toks + 1 } := fun h' st' sb => by
      have I1 : Inv X pins σ H { s with heap := h', toks := s.toks + 1 } := I.turned (t' := s.toks + 1) (fun b o hb e => (sb.2 b hb).trans e) f0 f1 f3 f4 f5
      obtain ⟨o, e, c, d⟩ := id st'
      refine ⟨_, rfl, qKu (s := { s with heap := h', toks := s.toks + 1 }) e c d (by rcases hty with rfl | rfl <;> decide) ⟨.str ⟨#[z.cps[i]]⟩, H, I1, ⟨_, rfl⟩, ⟨rfl, _, hx, rfl⟩, ⟨st', hi⟩, fun b hb => (hf b hb).1⟩⟩
    rcases hty with rfl | rfl
    · exact wpAny_pyNext_ascii_item st.1 hx fin
    · exact wpAny_pyNext_wide_item st.1 hx fin
  done := by
    intro X hP hw hK hc i pins s σ H E I hf st hg
    subst hP hw hK
    have hi : z.cps.size ≤ i := hg
    have hx : z.cps[i]? = none := by simp [hi]
    obtain ⟨f0, f1, f2, f3, f4, f5⟩ := hf it (by simp)
    rcases hty with rfl | rfl
    · exact wpAny_pyNext_ascii_end (I.ok.hd hc) st.1 hx fun h' eb => ⟨rfl, I.turned (t' := s.toks) (fun b o hb e => eb b o hb e) f0 f1 f3 f4 f5⟩
    · exact wpAny_pyNext_wide_end (I.ok.hd hc) st.1 hx fun h' eb => ⟨rfl, I.turned (t' := s.toks) (fun b o hb e => eb b o hb e) f0 f1 f3 f4 f5⟩
  self := fun _ _ _ _ _ st h => by
    rcases hty with rfl | rfl
    · exact wpAny_pyIter_striter_ascii st.1 h
    · exact wpAny_pyIter_striter_wide st.1 h
def qO8 (tl : TE) : TI := fun σ H R => tl σ H fun x H1 => ∃ z, x = .str z ∧ R (Its z) H1
theorem qL7 {tg l : Expr} {tl : TE} (hl : PE X l tl) : PI X tg l (qO8 tl) := by
  intro pins s σ H R I h
  refine thn (hl pins s σ H _ I h) fun v s1 ⟨x, H1, I1, r1, q1⟩ => ?_
  obtain ⟨z, e, q⟩ := q1
  subst e
  obtain ⟨t, rfl⟩ := r1
  have key : ∀ ty : String, (ty = "str_ascii_iterator" ∨ ty = "str_iterator") → PIE X pins σ tg R (.ref s1.heap.objs.size) { s1 with heap := s1.heap.push { cls := .type ty, data := .fields #[.str z t, .int 0 0] } } := fun ty hty => by
    refine ⟨s1.heap.objs.size, [s1.heap.objs.size], _, _, H1, rfl, I1.kept (t' := s1.toks) fun b o e => Heap.get?_push_of_some _ e, qHc _ z t ty hty, ⟨⟨_, Heap.get?_push_size _ rfl, rfl, rfl⟩, Nat.zero_le _⟩, fun b hb => ?_, q⟩
    have e : b = s1.heap.objs.size := by simpa using hb
    subst e
    exact I1.fpOk (Nat.le_refl _) (I1.hok.fresh (Nat.le_refl _))
  cases ha : z.cps.all (· < 128)
  · exact wpAny_pyIter_wide ha (key _ (.inr rfl))
  · exact wpAny_pyIter_ascii ha (key _ (.inl rfl))
theorem qIr {z : Str} {js : List Nat} {te : TE} {σ : L2.St} {H : Hp} {Q : VK} (Pv : Nat → List V → Hp → Prop) (h0 : Pv 0 [] H) (hl : ∀ i acc H, i ≤ z.cps.size → Pv i acc H → acc.length < sizeLine)
    (hs : ∀ i c acc H, i < z.cps.size → z.cps[i]? = some c → Pv i acc H → te (some (.str ⟨#[c]⟩) :: kW js σ) H fun v H' => Nxt z.cps.size i (Pv (i + 1) (acc ++ [v]) H')) (hd : ∀ acc H, Pv z.cps.size acc H → ∀ D, H D = none → Q (.ref D) (upd H D (.lst acc))) : qB8 js te σ Q (Its z) H := by
  refine ⟨fun i m acc H => m = z.cps.size - i ∧ i ≤ z.cps.size ∧ Pv i acc H, ⟨z.cps.size, by simp, Nat.zero_le _, h0⟩, ?_⟩
  rintro i m acc H2 ⟨rfl, hi, p⟩
  refine ⟨hl i acc H2 hi p, ?_⟩
  by_cases hlt : i < z.cps.size
  · refine .inr ⟨hlt, fun x H3 y => ?_⟩
    obtain ⟨e, c, hc, rfl⟩ := y
    subst e
    exact hs i c acc _ hlt hc p
  · have e : i = z.cps.size := by omega
    subst e
    exact .inl ⟨Nat.le_refl _, hd acc H2 p⟩
end
end L3
namespace L3
open PySem PySem.Spec PyProof.Rows L2
end L3
set_option maxHeartbeats 4000000
namespace L3
open PySem PySem.Spec PyProof.Rows L2
section
variable {X : Cx}
end
end L3
set_option maxHeartbeats 4000000
namespace L3
open PySem PySem.Spec PyProof.Rows L2
inductive D where
  | leaf (v : V)
  | tup (xs : List D)
  | lst (xs : List D)
mutual
def Rep (K : PySem.W.Frag) (H : Hp) : D → V → Prop
  | .leaf v, x => x = v ∧ xc v = true
  | .tup ds, x => ∃ p xs, x = .ref p ∧ SqT K H p xs ∧ Reps K H ds xs
  | .lst ds, x => ∃ p xs, x = .ref p ∧ SqL K H p xs ∧ Reps K H ds xs
def Reps (K : PySem.W.Frag) (H : Hp) : List D → List V → Prop
  | [], [] => True
  | d :: ds, x :: xs => Rep K H d x ∧ Reps K H ds xs
  | _, _ => False
end
mutual
def eqD : D → D → Bool
  | .leaf v, .leaf w => eqV v w
  | .tup xs, .tup ys => kB xs ys
  | .lst xs, .lst ys => kB xs ys
  | _, _ => false
def kB : List D → List D → Bool
  | [], [] => true
  | x :: xs, y :: ys => eqD x y && kB xs ys
  | _, _ => false
end
mutual
def dep : D → Nat
  | .leaf _ => 0
  | .tup xs => wF xs + 1
  | .lst xs => wF xs + 1
def wF : List D → Nat
  | [] => 0
  | x :: xs => max (dep x) (wF xs)
end
theorem Reps.length {K : PySem.W.Frag} {H : Hp} : ∀ {ds : List D} {xs : List V}, Reps K H ds xs → ds.length = xs.length
  | [], [], _ => rfl
  | _ :: _, _ :: _, h => by
    unfold Reps at h
    rw [List.length_cons, List.length_cons, h.2.length]
  | [], _ :: _, h => by unfold Reps at h; exact h.elim
  | _ :: _, [], h => by unfold Reps at h; exact h.elim
theorem qIn {v : V} (h : xc v = true) : eqV v v = true := by
  cases v <;> simp_all [xc, eqV]
theorem wK : ∀ {xs ys : List D}, kB xs ys = true → xs.length = ys.length
  | [], [], _ => rfl
  | x :: xs, y :: ys, h => by
    unfold kB at h
    rw [Bool.and_eq_true] at h
    rw [List.length_cons, List.length_cons, wK h.2]
  | [], _ :: _, h => by simp [kB] at h
  | _ :: _, [], h => by simp [kB] at h
def itE (xs ys : List D) (j : Nat) : Bool := match xs[j]?, ys[j]? with
  | some a, some b => eqD a b
  | _, _ => false
theorem qDg : ∀ (xs ys : List D), ((List.range (min xs.length ys.length)).all (itE xs ys) && xs.length == ys.length) = kB xs ys
  | [], [] => by simp [kB]
  | [], y :: ys => by simp [kB]
  | x :: xs, [] => by simp [kB]
  | x :: xs, y :: ys => by
    have ih := qDg xs ys
    have e : min (x :: xs).length (y :: ys).length = min xs.length ys.length + 1 := by simp only [List.length_cons]; omega
    rw [e, List.range_succ_eq_map, List.all_cons, List.all_map]
    have e2 : (itE (x :: xs) (y :: ys)) ∘ Nat.succ = itE xs ys := by
      funext j
      simp [itE]
    have e3 : itE (x :: xs) (y :: ys) 0 = eqD x y := by simp [itE]
    have e4 : ((x :: xs).length == (y :: ys).length) = (xs.length == ys.length) := by
      rw [Bool.eq_iff_iff]; simp
    rw [e2, e3, e4, Bool.and_assoc, ih]
    conv => rhs; unfold kB
theorem qFf {xs ys : List D} (h : xs.length = ys.length) : (List.range xs.length).all (itE xs ys) = kB xs ys := by
  have := qDg xs ys
  rw [← h, Nat.min_self] at this
  simpa using this
section
variable {X : Cx} {pins : List (Addr × Obj)} {σ : L2.St} {H : Hp} {s : Shared}
mutual
theorem qCf (I : Inv X pins σ H s) : ∀ (d e : D) {x : V}, Rep X.K H d x → Rep X.K H e x → eqD d e = true
  | .leaf v, .leaf w, x, h1, h2 => by
    unfold Rep at h1 h2
    obtain ⟨rfl, f⟩ := h1
    obtain ⟨rfl, _⟩ := h2
    unfold eqD
    exact qIn f
  | .leaf v, .tup ds, x, h1, h2 => by
    unfold Rep at h1 h2
    obtain ⟨rfl, f⟩ := h1
    obtain ⟨p, xs, rfl, _⟩ := h2
    cases f
  | .leaf v, .lst ds, x, h1, h2 => by
    unfold Rep at h1 h2
    obtain ⟨rfl, f⟩ := h1
    obtain ⟨p, xs, rfl, _⟩ := h2
    cases f
  | .tup ds, .leaf w, x, h1, h2 => by
    unfold Rep at h1 h2
    obtain ⟨rfl, f⟩ := h2
    obtain ⟨p, xs, rfl, _⟩ := h1
    cases f
  | .lst ds, .leaf w, x, h1, h2 => by
    unfold Rep at h1 h2
    obtain ⟨rfl, f⟩ := h2
    obtain ⟨p, xs, rfl, _⟩ := h1
    cases f
  | .tup ds, .tup es, x, h1, h2 => by
    unfold Rep at h1 h2
    obtain ⟨p, xs, rfl, t1, r1⟩ := h1
    obtain ⟨q, ys, e, t2, r2⟩ := h2
    cases e
    rw [I.tuple_inj t1 t2] at r1
    unfold eqD
    exact wt I ds es r1 r2
  | .lst ds, .lst es, x, h1, h2 => by
    unfold Rep at h1 h2
    obtain ⟨p, xs, rfl, t1, r1⟩ := h1
    obtain ⟨q, ys, e, t2, r2⟩ := h2
    cases e
    rw [I.list_inj t1 t2] at r1
    unfold eqD
    exact wt I ds es r1 r2
  | .tup ds, .lst es, x, h1, h2 => by
    unfold Rep at h1 h2
    obtain ⟨p, xs, rfl, t1, r1⟩ := h1
    obtain ⟨q, ys, e, t2, r2⟩ := h2
    cases e
    obtain ⟨_, _, i1, _⟩ := I.tuple t1
    obtain ⟨_, _, i2, _⟩ := I.list t2
    exact (SeqAt.ne_of_list_tuple i2.isList i1 rfl).elim
  | .lst ds, .tup es, x, h1, h2 => by
    unfold Rep at h1 h2
    obtain ⟨p, xs, rfl, t1, r1⟩ := h1
    obtain ⟨q, ys, e, t2, r2⟩ := h2
    cases e
    obtain ⟨_, _, i1, _⟩ := I.list t1
    obtain ⟨_, _, i2, _⟩ := I.tuple t2
    exact (SeqAt.ne_of_list_tuple i1.isList i2 rfl).elim
theorem wt (I : Inv X pins σ H s) : ∀ (ds es : List D) {xs : List V}, Reps X.K H ds xs → Reps X.K H es xs → kB ds es = true
  | [], [], _, _, _ => by simp [kB]
  | d :: ds, e :: es, [], h1, _ => by unfold Reps at h1; exact h1.elim
  | d :: ds, e :: es, x :: xs, h1, h2 => by
    unfold Reps at h1 h2
    unfold kB
    rw [qCf I d e h1.1 h2.1, wt I ds es h1.2 h2.2]
    rfl
  | [], e :: es, [], _, h2 => by unfold Reps at h2; exact h2.elim
  | [], e :: es, _ :: _, h1, _ => by unfold Reps at h1; exact h1.elim
  | d :: ds, [], [], h1, _ => by unfold Reps at h1; exact h1.elim
  | d :: ds, [], _ :: _, _, h2 => by unfold Reps at h2; exact h2.elim
end
theorem kF {A : Around} {x : V} {u : Value} {p : Addr} {its : Array Value} (f : xc x = true) (r : RelV x u) (hu : A.units < cLine) (h : s.heap.IsTuple p its ∨ s.heap.IsList p its) : SeqAt.EqAt A s u (.ref p) false ∧ SeqAt.EqAt A s (.ref p) u false := by
  cases x with
  | non => cases r; rcases h with h | h <;> exact ⟨by first | exact SeqAt.EqAt.none_tuple h hu | exact SeqAt.EqAt.none_list h hu, by first | exact SeqAt.EqAt.tuple_none h hu | exact SeqAt.EqAt.list_none h hu⟩
  | bl b => cases r; rcases h with h | h <;> exact ⟨by first | exact SeqAt.EqAt.bool_tuple _ h hu | exact SeqAt.EqAt.bool_list _ h hu, by first | exact SeqAt.EqAt.tuple_bool _ h hu | exact SeqAt.EqAt.list_bool _ h hu⟩
  | int i => obtain ⟨t, rfl⟩ := r; rcases h with h | h <;> exact ⟨by first | exact SeqAt.EqAt.int_tuple _ _ h hu | exact SeqAt.EqAt.int_list _ _ h hu, by first | exact SeqAt.EqAt.tuple_int _ _ h hu | exact SeqAt.EqAt.list_int _ _ h hu⟩
  | str i => obtain ⟨t, rfl⟩ := r; rcases h with h | h <;> exact ⟨by first | exact SeqAt.EqAt.str_tuple _ _ h hu | exact SeqAt.EqAt.str_list _ _ h hu, by first | exact SeqAt.EqAt.tuple_str _ _ h hu | exact SeqAt.EqAt.list_str _ _ h hu⟩
  | _ => cases f
theorem Reps.get {K : PySem.W.Frag} {H : Hp} : ∀ {ds : List D} {xs : List V}, Reps K H ds xs → ∀ (j : Nat) (d : D), ds[j]? = some d → ∃ x, xs[j]? = some x ∧ Rep K H d x
  | [], [], _, j, d, e => by simp at e
  | a :: ds, x :: xs, h, 0, d, e => by
    unfold Reps at h
    have : a = d := by simpa using e
    subst this
    exact ⟨x, rfl, h.1⟩
  | a :: ds, x :: xs, h, j + 1, d, e => by
    unfold Reps at h
    exact h.2.get j d (by simpa using e)
  | [], _ :: _, h, _, _, _ => by unfold Reps at h; exact h.elim
  | _ :: _, [], h, _, _, _ => by unfold Reps at h; exact h.elim
theorem qCi : ∀ {ds : List D} {j : Nat} {d : D}, ds[j]? = some d → dep d ≤ wF ds
  | a :: ds, 0, d, e => by
    have : a = d := by simpa using e
    subst this
    unfold wF
    exact Nat.le_max_left _ _
  | a :: ds, j + 1, d, e => by
    have := qCi (ds := ds) (j := j) (d := d) (by simpa using e)
    unfold wF
    exact Nat.le_trans this (Nat.le_max_right _ _)
  | [], _, _, e => by simp at e
theorem qHa {A : Around} {ds es : List D} {xs ys : List V} {us ws : List Value} (r1 : Reps X.K H ds xs) (r2 : Reps X.K H es ys) (v1 : Vals xs us) (v2 : Vals ys ws)
    (ih : ∀ d e x y u w, d ∈ ds → Rep X.K H d x → Rep X.K H e y → RelV x u → RelV y w → SeqAt.EqAt A s u w (eqD d e)) :
    ∀ j (h1 : j < us.toArray.size) (h2 : j < ws.toArray.size), SeqAt.EqAt A s us.toArray[j] ws.toArray[j] (itE ds es j) := by
  intro j h1 h2
  have l1 := v1.length
  have l2 := v2.length
  have m1 := r1.length
  have m2 := r2.length
  rw [List.size_toArray] at h1 h2
  have g1 : ds[j]? = some ds[j] := List.getElem?_eq_getElem (by omega)
  have g2 : es[j]? = some es[j] := List.getElem?_eq_getElem (by omega)
  obtain ⟨x, ex, rx⟩ := r1.get j _ g1
  obtain ⟨y, ey, ry⟩ := r2.get j _ g2
  obtain ⟨u, eu, qu⟩ := v1.get ex
  obtain ⟨w, ew, qw⟩ := v2.get ey
  have c1 : us.toArray[j] = u := by
    have := (List.getElem?_eq_some_iff.mp eu).2
    simpa using this
  have c2 : ws.toArray[j] = w := by
    have := (List.getElem?_eq_some_iff.mp ew).2
    simpa using this
  have e : itE ds es j = eqD ds[j] es[j] := by unfold itE; rw [g1, g2]
  rw [c1, c2, e]
  exact ih _ _ _ _ _ _ (List.getElem_mem _) rx ry qu qw
theorem qJz (I : Inv X pins σ H s) : ∀ (n : Nat) (A : Around) (d e : D) (x y : V) (u w : Value), dep d ≤ n → A.units + n < cLine → Rep X.K H d x → Rep X.K H e y → RelV x u → RelV y w → SeqAt.EqAt A s u w (eqD d e) := by
  intro n
  induction n with
  | zero =>
    intro A d e x y u w hd hu r1 r2 q1 q2
    cases d with
    | leaf v =>
      unfold Rep at r1
      obtain ⟨rfl, f1⟩ := r1
      cases e with
      | leaf v' =>
        unfold Rep at r2
        obtain ⟨rfl, f2⟩ := r2
        unfold eqD
        exact qD3 q1 q2 f1 f2
      | tup es =>
        unfold Rep at r2
        obtain ⟨p, ys, rfl, t, _⟩ := r2
        cases q2
        obtain ⟨_, _, i, _⟩ := I.tuple t
        unfold eqD
        exact (kF f1 q1 hu (.inl i)).1
      | lst es =>
        unfold Rep at r2
        obtain ⟨p, ys, rfl, t, _⟩ := r2
        cases q2
        obtain ⟨_, _, i, _⟩ := I.list t
        unfold eqD
        exact (kF f1 q1 hu (.inr i.isList)).1
    | tup ds => unfold dep at hd; omega
    | lst ds => unfold dep at hd; omega
  | succ n ih =>
    intro A d e x y u w hd hu r1 r2 q1 q2
    have hu0 : A.units < cLine := by omega
    have hu1 : A.in1.units + n < cLine := by show A.units + 1 + n < cLine; omega
    cases d with
    | leaf v =>
      unfold Rep at r1
      obtain ⟨rfl, f1⟩ := r1
      cases e with
      | leaf v' =>
        unfold Rep at r2
        obtain ⟨rfl, f2⟩ := r2
        unfold eqD
        exact qD3 q1 q2 f1 f2
      | tup es =>
        unfold Rep at r2
        obtain ⟨p, ys, rfl, t, _⟩ := r2
        cases q2
        obtain ⟨_, _, i, _⟩ := I.tuple t
        unfold eqD
        exact (kF f1 q1 hu0 (.inl i)).1
      | lst es =>
        unfold Rep at r2
        obtain ⟨p, ys, rfl, t, _⟩ := r2
        cases q2
        obtain ⟨_, _, i, _⟩ := I.list t
        unfold eqD
        exact (kF f1 q1 hu0 (.inr i.isList)).1
    | tup ds =>
      have r1' := r1
      unfold Rep at r1
      obtain ⟨p, xs, rfl, t1, s1⟩ := r1
      cases q1
      obtain ⟨us, v1, i1, _⟩ := I.tuple t1
      cases e with
      | leaf v' =>
        unfold Rep at r2
        obtain ⟨rfl, f2⟩ := r2
        unfold eqD
        exact (kF f2 q2 hu0 (.inl i1)).2
      | lst es =>
        unfold Rep at r2
        obtain ⟨q, ys, rfl, t2, _⟩ := r2
        cases q2
        obtain ⟨_, _, i2, _⟩ := I.list t2
        unfold eqD
        exact SeqAt.EqAt.tuple_list i1 i2.isList hu0
      | tup es =>
        have r2' := r2
        unfold Rep at r2
        obtain ⟨q, ys, rfl, t2, s2⟩ := r2
        cases q2
        by_cases pq : p = q
        · subst pq
          rw [qCf I _ _ r1' r2']
          exact SeqAt.EqAt.same _
        obtain ⟨ws, v2, i2, _⟩ := I.tuple t2
        have hdd : wF ds ≤ n := by unfold dep at hd; omega
        have := SeqAt.EqAt.of_refs pq (SeqAt.RcAt.tuples i1 i2 hu0 (qHa s1 s2 v1 v2 fun d e x y u w hm ra rb qa qb => by
          obtain ⟨j, hj, ej⟩ := List.mem_iff_getElem.mp hm
          have hde : dep d ≤ wF ds := qCi (j := j) (by rw [List.getElem?_eq_getElem hj, ej])
          exact ih A.in1 d e x y u w (by omega) hu1 ra rb qa qb))
        rw [List.size_toArray, List.size_toArray, ← v1.length, ← v2.length, ← s1.length, ← s2.length, qDg] at this
        unfold eqD
        exact this
    | lst ds =>
      have r1' := r1
      unfold Rep at r1
      obtain ⟨p, xs, rfl, t1, s1⟩ := r1
      cases q1
      obtain ⟨us, v1, i1, _⟩ := I.list t1
      cases e with
      | leaf v' =>
        unfold Rep at r2
        obtain ⟨rfl, f2⟩ := r2
        unfold eqD
        exact (kF f2 q2 hu0 (.inr i1.isList)).2
      | tup es =>
        unfold Rep at r2
        obtain ⟨q, ys, rfl, t2, _⟩ := r2
        cases q2
        obtain ⟨_, _, i2, _⟩ := I.tuple t2
        unfold eqD
        exact SeqAt.EqAt.list_tuple i1.isList i2 hu0
      | lst es =>
        have r2' := r2
        unfold Rep at r2
        obtain ⟨q, ys, rfl, t2, s2⟩ := r2
        cases q2
        by_cases pq : p = q
        · subst pq
          rw [qCf I _ _ r1' r2']
          exact SeqAt.EqAt.same _
        obtain ⟨ws, v2, i2, _⟩ := I.list t2
        have hdd : wF ds ≤ n := by unfold dep at hd; omega
        unfold eqD
        by_cases hl : ds.length = es.length
        · have hsz : us.toArray.size = ws.toArray.size := by rw [List.size_toArray, List.size_toArray, ← v1.length, ← v2.length, ← s1.length, ← s2.length]; exact hl
          have := SeqAt.EqAt.of_refs pq (SeqAt.RcAt.lists i1.isList i2.isList hsz hu0 (qHa s1 s2 v1 v2 fun d e x y u w hm ra rb qa qb => by
            obtain ⟨j, hj, ej⟩ := List.mem_iff_getElem.mp hm
            have hde : dep d ≤ wF ds := qCi (j := j) (by rw [List.getElem?_eq_getElem hj, ej])
            exact ih A.in1 d e x y u w (by omega) hu1 ra rb qa qb))
          rw [List.size_toArray, ← v1.length, ← s1.length, qFf hl] at this
          exact this
        · have hsz : (us.toArray.size != ws.toArray.size) = true := by
            rw [List.size_toArray, List.size_toArray, ← v1.length, ← v2.length, ← s1.length, ← s2.length]
            simpa using hl
          have e : kB ds es = false := by
            rw [Bool.eq_false_iff]
            intro z
            exact hl (wK z)
          rw [e]
          exact SeqAt.EqAt.of_refs pq (SeqAt.RcAt.lists_lengths i1.isList i2.isList hsz hu0)
def kin : D → D → Bool
  | .tup _, .tup _ => true
  | .lst _, .lst _ => true
  | _, _ => false
def qMv (K : PySem.W.Frag) (neg : Bool) : R2 := fun x y H Q => ∃ d e : D, Rep K H d x ∧ Rep K H e y ∧ kin d e = true ∧ dep d ≤ 60 ∧ Q (.bl (if neg then !eqD d e else eqD d e)) H
theorem z9 {A : Around} (I : Inv X pins σ H s) (hu : A.units + 64 < cLine) {ds es : List D} {xs ys : List V} {us ws : List Value} (hd : wF ds ≤ 60) (s1 : Reps X.K H ds xs) (s2 : Reps X.K H es ys) (v1 : Vals xs us) (v2 : Vals ys ws) :
    ∀ j (h1 : j < us.toArray.size) (h2 : j < ws.toArray.size), SeqAt.EqAt A.in1 s us.toArray[j] ws.toArray[j] (itE ds es j) :=
  qHa s1 s2 v1 v2 fun d e x y u w hm ra rb qa qb => by
    obtain ⟨j, hj, ej⟩ := List.mem_iff_getElem.mp hm
    have hde : dep d ≤ wF ds := qCi (j := j) (by rw [List.getElem?_eq_getElem hj, ej])
    exact qJz I 60 A.in1 d e x y u w (by omega) (by show A.units + 1 + 60 < cLine; omega) ra rb qa qb
theorem qJw (hu : X.A.units + 64 < cLine) : OpR X (compareOp .Eq) (qMv X.K false) := by
  intro pins s σ H x y v u Q I rx ry h
  obtain ⟨d, e, r1, r2, hk, hd, q⟩ := h
  have hu0 : X.A.units < cLine := by omega
  cases d with
  | leaf a => cases e <;> cases hk
  | tup ds =>
    cases e with
    | leaf b => cases hk
    | lst es => cases hk
    | tup es =>
      unfold Rep at r1 r2
      obtain ⟨p, xs, rfl, t1, s1⟩ := r1
      obtain ⟨p', ys, rfl, t2, s2⟩ := r2
      cases rx; cases ry
      obtain ⟨us, v1, i1, _⟩ := I.tuple t1
      obtain ⟨ws, v2, i2, _⟩ := I.tuple t2
      refine SeqAt.eq_tupleAt i1 i2 hu0 (z9 I hu (by unfold dep at hd; omega) s1 s2 v1 v2) ?_
      rw [List.size_toArray, List.size_toArray, ← v1.length, ← v2.length, ← s1.length, ← s2.length, qDg]
      refine ⟨.bl _, H, I, rfl, ?_⟩
      unfold eqD at q
      exact q
  | lst ds =>
    cases e with
    | leaf b => cases hk
    | tup es => cases hk
    | lst es =>
      unfold Rep at r1 r2
      obtain ⟨p, xs, rfl, t1, s1⟩ := r1
      obtain ⟨p', ys, rfl, t2, s2⟩ := r2
      cases rx; cases ry
      obtain ⟨us, v1, i1, _⟩ := I.list t1
      obtain ⟨ws, v2, i2, _⟩ := I.list t2
      unfold eqD at q
      by_cases hl : ds.length = es.length
      · have hsz : us.toArray.size = ws.toArray.size := by rw [List.size_toArray, List.size_toArray, ← v1.length, ← v2.length, ← s1.length, ← s2.length]; exact hl
        refine SeqAt.eq_listAt i1.isList i2.isList hsz hu0 (z9 I hu (by unfold dep at hd; omega) s1 s2 v1 v2) ?_
        rw [List.size_toArray, ← v1.length, ← s1.length, qFf hl]
        exact ⟨.bl _, H, I, rfl, q⟩
      · have hsz : (us.toArray.size != ws.toArray.size) = true := by
          rw [List.size_toArray, List.size_toArray, ← v1.length, ← v2.length, ← s1.length, ← s2.length]
          simpa using hl
        have e : kB ds es = false := by
          rw [Bool.eq_false_iff]
          intro z
          exact hl (wK z)
        rw [e] at q
        exact SeqAt.eq_list_lengthsAt i1.isList i2.isList hsz hu0 ⟨.bl _, H, I, rfl, q⟩
theorem qJt (hu : X.A.units + 64 < cLine) : OpR X (compareOp .NotEq) (qMv X.K true) := by
  intro pins s σ H x y v u Q I rx ry h
  obtain ⟨d, e, r1, r2, hk, hd, q⟩ := h
  have hu0 : X.A.units < cLine := by omega
  cases d with
  | leaf a => cases e <;> cases hk
  | tup ds =>
    cases e with
    | leaf b => cases hk
    | lst es => cases hk
    | tup es =>
      unfold Rep at r1 r2
      obtain ⟨p, xs, rfl, t1, s1⟩ := r1
      obtain ⟨p', ys, rfl, t2, s2⟩ := r2
      cases rx; cases ry
      obtain ⟨us, v1, i1, _⟩ := I.tuple t1
      obtain ⟨ws, v2, i2, _⟩ := I.tuple t2
      refine SeqAt.RcNeAt.tuples i1 i2 hu0 (z9 I hu (by unfold dep at hd; omega) s1 s2 v1 v2) _ _ _ _ ?_
      rw [List.size_toArray, List.size_toArray, ← v1.length, ← v2.length, ← s1.length, ← s2.length, qDg]
      refine ⟨.bl _, H, I, rfl, ?_⟩
      unfold eqD at q
      exact q
  | lst ds =>
    cases e with
    | leaf b => cases hk
    | tup es => cases hk
    | lst es =>
      unfold Rep at r1 r2
      obtain ⟨p, xs, rfl, t1, s1⟩ := r1
      obtain ⟨p', ys, rfl, t2, s2⟩ := r2
      cases rx; cases ry
      obtain ⟨us, v1, i1, _⟩ := I.list t1
      obtain ⟨ws, v2, i2, _⟩ := I.list t2
      unfold eqD at q
      by_cases hl : ds.length = es.length
      · have hsz : us.toArray.size = ws.toArray.size := by rw [List.size_toArray, List.size_toArray, ← v1.length, ← v2.length, ← s1.length, ← s2.length]; exact hl
        refine SeqAt.RcNeAt.lists i1.isList i2.isList hsz hu0 (z9 I hu (by unfold dep at hd; omega) s1 s2 v1 v2) _ _ _ _ ?_
        rw [List.size_toArray, ← v1.length, ← s1.length, qFf hl]
        exact ⟨.bl _, H, I, rfl, q⟩
      · have hsz : (us.toArray.size != ws.toArray.size) = true := by
          rw [List.size_toArray, List.size_toArray, ← v1.length, ← v2.length, ← s1.length, ← s2.length]
          simpa using hl
        have e : kB ds es = false := by
          rw [Bool.eq_false_iff]
          intro z
          exact hl (wK z)
        rw [e] at q
        exact SeqAt.RcNeAt.lists_lengths i1.isList i2.isList hsz hu0 _ _ _ _ ⟨.bl _, H, I, rfl, q⟩
end
mutual
theorem Rep.same {K : PySem.W.Frag} {H H' : Hp} (e : Same H H') : ∀ (d : D) {x : V}, Rep K H d x → Rep K H' d x
  | .leaf v, x, h => by unfold Rep at h ⊢; exact h
  | .tup ds, x, h => by
    unfold Rep at h ⊢
    obtain ⟨p, xs, h1, h2, h3⟩ := h
    exact ⟨p, xs, h1, L3.Same.tup e h2, Reps.same e ds h3⟩
  | .lst ds, x, h => by
    unfold Rep at h ⊢
    obtain ⟨p, xs, h1, h2, h3⟩ := h
    exact ⟨p, xs, h1, e.seq h2, Reps.same e ds h3⟩
theorem Reps.same {K : PySem.W.Frag} {H H' : Hp} (e : Same H H') : ∀ (ds : List D) {xs : List V}, Reps K H ds xs → Reps K H' ds xs
  | [], [], h => by unfold Reps; trivial
  | d :: ds, x :: xs, h => by
    unfold Reps at h ⊢
    exact ⟨Rep.same e d h.1, Reps.same e ds h.2⟩
  | [], _ :: _, h => by unfold Reps at h; exact h.elim
  | _ :: _, [], h => by unfold Reps at h; exact h.elim
end
end L3
set_option maxHeartbeats 4000000
namespace L3
open PySem PySem.Spec PyProof.Rows L2
def qF7 (js : List Nat) (tc : TT) (te : TE) (σ : L2.St) (Q : VK) (J : It) (H1 : Hp) : Prop := ∃ W : Nat → Nat → List V → Hp → Prop, (∃ m, W 0 m [] H1) ∧ ∀ i m acc H2, W i m acc H2 →
  acc.length < sizeLine ∧ ((J.stop i H2 ∧ ∀ D, H2 D = none → Q (.ref D) (upd H2 D (.lst acc))) ∨
    (J.go i H2 ∧ ∀ x H3, J.yld i H2 x H3 → tc (some x :: kW js σ) H3 fun ok H4 => if ok = true then te (some x :: kW js σ) H4 fun v H5 => ∃ m', m' < m ∧ W (i + 1) m' (acc ++ [v]) H5 else ∃ m', m' < m ∧ W (i + 1) m' acc H4))
def qJ0 (js : List Nat) (wi : TI) (tc : TT) (te : TE) : TE := fun σ H Q => wi σ H (qF7 js tc te σ Q)
theorem qGk {X : Cx} {elt iter cnd : Expr} {x : Str} {px : Pos} {scope : Scope} {cl : List (Str × Addr)} {pos : Pos} {wi : TI} {tc : TT} {te : TE} (ys : List Str) (js : List Nat)
    (hcm : X.calm = true) (hi : PI X (.Name x px) iter wi) (hc : ∀ C s H fp, PT (jA X scope cl C (x :: ys) s H fp).nox cnd tc) (he : ∀ C s H fp, PE (jA X scope cl C (x :: ys) s H fp).nox elt te)
    (hclos : closureFor scope X.env = pure cl := by rfl)
    (hcl : cl.map (fun p => X.env.cells.lookup p.1) = cl.map (fun p => some p.2) := by rfl)
    (hcell : (scope.names.all fun p => p.2 != .cell) = true := by rfl) (hkind : scope.kind = .function := by rfl)
    (hnames : (scope.names.all fun p => p.2 != .local || scope.names.lookup p.1 == some .local) = true := by rfl)
    (hx : scope.names.lookup x = some .local := by rfl)
    (hhas : ((relabel scope X.env).names.all fun p => (p.2 != .cell && p.2 != .free) || (cl.lookup p.1).isSome) = true := by rfl)
    (hnd : (x :: ys).Nodup := by decide)
    (hjs : js.map (fun j => X.N[j]?) = ys.map some := by rfl)
    (hys : (ys.all fun y => ((relabel scope X.env).names.lookup y == some .cell || (relabel scope X.env).names.lookup y == some .free) && (X.env.scope.names.lookup y == some .cell || X.env.scope.names.lookup y == some .free)) = true := by rfl)
    (hs : ∀ x, foldedSetIterable iter X.env x = pure x := by intro _; rfl)
    {pins : List (Addr × Obj)} {s : Shared} {σ : L2.St} {H : Hp} (R : V → Hp → Prop) (use : Option (Value → Sem Unit)) (Q : Value → Shared → Prop) (I : Inv X pins σ H s) (h : qJ0 js wi tc te σ H R)
    (fin : ∀ (v : V) (u : Value) (H' : Hp) (s' : Shared) (C : Addr), Inv X pins σ H' s' → RelV v u → R v H' → (∃ m, s'.heap.Ns C m) → H' C = none → C ≠ X.env.locals → X.s₀.heap.objs.size ≤ C → (∀ y c, X.env.cells.lookup y = some c → c ≠ C) → (∀ p ∈ X.pn ++ pins, p.1 ≠ C) →
      compPost (model X.prog X.w) X.A X.xe use Q u C (.ok .next) s') :
    wpAny (model X.prog X.w) X.A (comprehension (.ListComp elt [⟨.Name x px, iter, [cnd], 0⟩] scope pos) scope X.env (firstIterPos [⟨.Name x px, iter, [cnd], 0⟩] pos) (newList []) false (eval iter X.env) use) Q X.xe s := by
  have hcell' : ∀ y ∈ scope.names, y.2 ≠ .cell := fun y hy => by
    have := List.all_eq_true.mp hcell y hy
    simpa using this
  have hnm : ∀ y ∈ scope.names, y.2 = .local → scope.names.lookup y.1 = some .local := fun y hy e => by
    have := List.all_eq_true.mp hnames y hy
    rw [e] at this
    simpa using this
  have clX : ∀ y c, cl.lookup y = some c → X.env.cells.lookup y = some c := fun y c e => by
    have hm := PySem.mem_of_lookup e
    obtain ⟨k, hk, e2⟩ := List.mem_iff_getElem.mp hm
    have := congrArg (fun l => l[k]?) hcl
    simp only [List.getElem?_map, List.getElem?_eq_getElem hk, Option.map_some, e2] at this
    exact Option.some.inj this
  have has : ∀ y, ((relabel scope X.env).names.lookup y = some .cell ∨ (relabel scope X.env).names.lookup y = some .free) → ∃ c, cl.lookup y = some c := fun y hy => by
    have key : ∀ k : NameKind, (k = .cell ∨ k = .free) → (relabel scope X.env).names.lookup y = some k → ∃ c, cl.lookup y = some c := fun k hk e => by
      have := List.all_eq_true.mp hhas _ (PySem.mem_of_lookup e)
      rcases hk with rfl | rfl <;> exact Option.isSome_iff_exists.mp (by simpa using this)
    rcases hy with e | e
    · exact key _ (.inl rfl) e
    · exact key _ (.inr rfl) e
  refine wpAny_comprehension_free (use := use) rfl hs hclos hkind hnm (thn (hi pins s σ H _ I h) fun v s1 h1 => thn h1 fun itv s2 h2 => ?_)
  obtain ⟨it, fp, tn, J, H2, e, I2, T, st2, f2, W, ⟨m0, w0⟩, turn⟩ := h2
  subst e
  refine wpAny_newObj_type (wpAny_newFunctionEnv hcell' (by intro y hy; simp at hy) (fun h₁ hns hsb => ?_) hkind)
  dsimp only at hns hsb ⊢
  generalize hG : s2.heap.push { cls := .type "list", dict := none, data := .seq ([] : List Value).toArray } = G at hns hsb ⊢
  have szG : G.objs.size = s2.heap.objs.size + 1 := by rw [← hG, Heap.size_push]
  have inG : ∀ b o, s2.heap.get? b = some o → G.get? b = some o := fun b o e => hG ▸ Heap.get?_push_of_some _ e
  have ltC : ∀ b o, s2.heap.get? b = some o → b ≠ G.objs.size := fun b o e => by rw [szG]; exact Nat.ne_of_lt (Nat.lt_succ_of_lt (Heap.lt_size e))
  have ltD : ∀ b o, s2.heap.get? b = some o → b ≠ s2.heap.objs.size := fun b o e => Nat.ne_of_lt (Heap.lt_size e)
  have DC : s2.heap.objs.size ≠ G.objs.size := by rw [szG]; omega
  have old : ∀ b o, s2.heap.get? b = some o → h₁.get? b = some o := fun b o e => hsb.extBut b o (ltC b o e) (Heap.get?_push_of_some _ (inG b o e))
  have hacc : h₁.PlainList s2.heap.objs.size #[] := ⟨_, hsb.extBut _ _ DC (Heap.get?_push_of_some _ (hG ▸ Heap.get?_push_size _ rfl))⟩
  have fpO : ∀ b ∈ fp, ∃ o, s2.heap.get? b = some o := fun b hb => let ⟨o, e, _⟩ := T.obj 0 _ st2 b hb; ⟨o, e⟩
  have stkO : ∀ b ∈ frs X.stack, ∃ o, s2.heap.get? b = some o := fun b hb => by
    obtain ⟨_, o, ho, _⟩ := I2.stack.mem hb
    exact ⟨o, ho⟩
  have freshH : ∀ a, s2.heap.objs.size ≤ a → H2 a = none := fun a ha => I2.hok.fresh ha
  have stkFp : ∀ b ∈ fp, b ∉ frs X.stack := fun b hb z => by
    rcases List.mem_cons.mp (I2.stkSub b z) with q | q
    · exact (f2 b hb).2.1 q
    · exact (f2 b hb).2.2.1 q
  have okX : (jA X scope cl G.objs.size (x :: ys) s2 H2 fp).Ok := {
    mod := I2.ok.mod
    kind := hkind
    glob := I2.ok.glob
    blt := I2.ok.blt
    above := by show s2.heap.objs.size ≤ G.objs.size; rw [szG]; omega
    inj := fun y z c e1 e2 => I2.ok.inj y z c (clX y c e1) (clX z c e2)
    has := fun y hy => has y hy
    cab := fun y c e _ => absurd (show false = true from e) Bool.false_ne_true
    hd := I2.ok.hd
    frames := I2.ok.frames
    stk := .inl rfl
    exf := fun b hb => by
      obtain ⟨o, e⟩ := fpO b hb
      exact ⟨ltC b o e, fun y c e1 => (f2 b hb).2.2.2.2.1 y c (clX y c e1)⟩
    bs := I2.bs
    bsz := Nat.le_trans I2.ok.bsz I2.sz
    noex := fun b o e hb => by
      rcases (f2 b hb).2.2.2.1 with q | q
      · exact I2.ok.noex b o e q
      · exact Nat.lt_irrefl _ (Nat.lt_of_lt_of_le (Nat.lt_of_lt_of_le (Heap.lt_size e) I2.ok.bsz) q)
    exfs := stkFp
    funs := I2.stack
    frf := I2.stkFree }
  have lenY : js.length = ys.length := by have := congrArg List.length hjs; simpa using this
  have I0 : Inv (jA X scope cl G.objs.size (x :: ys) s2 H2 fp) [] (none :: kW js σ) H2 { s2 with heap := h₁, toks := s2.toks + ([] : List (Str × Value)).length } := by
    refine ⟨okX, rfl, I2.bare, Un.kept old, ⟨_, hns, fun k y v e1 e2 e3 => ?_⟩, fun y c e => ?_, freshH _ (by show s2.heap.objs.size ≤ G.objs.size; rw [szG]; omega), fun y c e => I2.freeC y c (clX y c e), fun p hp => absurd (show p ∈ ([] : List (Addr × Obj)) from hp) (by simp), I2.hok.kept old, ?_⟩
    · cases k with
      | zero => cases e2
      | succ k =>
        have e1' : ys[k]? = some y := e1
        have e2' : (kW js σ)[k]? = some (some v) := e2
        unfold kW at e2'
        rw [List.getElem?_map] at e2'
        cases ej : js[k]? with
        | none => rw [ej] at e2'; cases e2'
        | some j =>
          rw [ej] at e2'
          have e4 : (σ[j]?).join = some v := Option.some.inj e2'
          have e5 : σ[j]? = some (some v) := by
            cases q : σ[j]? with
            | none => rw [q] at e4; cases e4
            | some o => rw [q] at e4; exact congrArg some e4
          have e6 : X.N[j]? = some y := by
            have := congrArg (fun l => l[k]?) hjs
            simp only [List.getElem?_map, ej, e1', Option.map_some] at this
            exact Option.some.inj this
          have hy := List.all_eq_true.mp hys y (List.mem_of_getElem? e1')
          simp only [Bool.and_eq_true, Bool.or_eq_true, beq_iff_eq] at hy
          obtain ⟨ky, ko⟩ := hy
          obtain ⟨m, hn, hl⟩ := I2.loc
          obtain ⟨u, r, lk⟩ := hl j y v e6 e5 (.inr ko)
          refine ⟨u, r, .inr ⟨ky, ?_⟩⟩
          rcases lk with ⟨kl, _⟩ | ⟨_, c, ec, hc⟩
          · have kl' : X.env.scope.names.lookup y = some .local := kl
            rw [kl'] at ko
            rcases ko with z | z <;> cases z
          · obtain ⟨c', ec'⟩ := has y ky
            have := clX y c' ec'
            rw [ec] at this
            cases this
            obtain ⟨o, ho, hd⟩ := hc
            exact ⟨c, ec', o, old c o ho, hd⟩
    · obtain ⟨v, o, ho, hd⟩ := I2.cell y c (clX y c e)
      exact ⟨v, o, old c o ho, hd⟩
    · show (none :: kW js σ).length = (x :: ys).length
      simp [kW, lenY]
  have loop : ∀ s3 : Shared, s3 = { s2 with heap := h₁, toks := s2.toks + ([] : List (Str × Value)).length } →
      codeAny (model X.prog X.w) X.A (.compLoop (.ListComp elt [⟨.Name x px, iter, [cnd], 0⟩] scope pos) 0 (.ref it) (.ref s2.heap.objs.size) (compEnvC scope cl G.objs.size X.env))
        (compPost (model X.prog X.w) X.A X.xe use Q (.ref s2.heap.objs.size) G.objs.size) s3 := by
    rintro s3 rfl
    have stat : ∀ {H' : Hp} (o : Obj), (∀ b ∈ fp, H' b = none) → ∀ b ∈ fp, qIj (jA X scope cl G.objs.size (x :: ys) s2 H2 fp) [(s2.heap.objs.size, o)] H' b := fun {H'} o hn b hb => by
      obtain ⟨ob, eb⟩ := fpO b hb
      refine ⟨hn b hb, ltC b ob eb, stkFp b hb, .inl hb, fun y c e1 => (f2 b hb).2.2.2.2.1 y c (clX y c e1), fun p hp => ?_⟩
      have hp' : p = (s2.heap.objs.size, o) := by
        have : p ∈ [(s2.heap.objs.size, o)] := hp
        simpa using this
      rw [hp']
      exact Ne.symm (ltD b ob eb)
    refine codeAny_compLoop_tests (fun n s' => ∃ i acc its H3, Inv (jA X scope cl G.objs.size (x :: ys) s2 H2 fp) [] (none :: kW js σ) H3 s' ∧ tn i s'.heap ∧ (∀ b ∈ fp, H3 b = none) ∧ s'.heap.PlainList s2.heap.objs.size its.toArray ∧ Vals acc its ∧ H3 s2.heap.objs.size = none ∧ W i n acc H3)
      ?_ m0 ⟨0, [], [], H2, I0, T.keep _ _ _ st2 fun b _ o e => old b o e, fun b hb => (f2 b hb).1, hacc, .nil, freshH _ (Nat.le_refl _), w0⟩
    rintro n s3 ⟨i, acc, its, H3, I3, st3, fr3, ⟨nn, pl3⟩, va3, hD3, w3⟩
    obtain ⟨hlen, cs⟩ := turn i n acc H3 w3
    have hal : acc.length = its.length := va3.length
    have nD : s2.heap.objs.size ∉ frs X.stack := fun z => by
      obtain ⟨o, e⟩ := stkO _ z
      exact ltD _ o e rfl
    have I3p : Inv (jA X scope cl G.objs.size (x :: ys) s2 H2 fp) [(s2.heap.objs.size, { cls := .type "list", data := .seq its.toArray nn })] (none :: kW js σ) H3 s3 := I3.pins_of fun p hp => by
      have e : p = (s2.heap.objs.size, { cls := .type "list", data := .seq its.toArray nn }) := by simpa using hp
      subst e
      exact ⟨pl3, hD3, DC, nD, fun v z => nomatch z⟩
    rcases cs with ⟨stop, q⟩ | ⟨go, step⟩
    · refine thn (T.done (jA X scope cl G.objs.size (x :: ys) s2 H2 fp) rfl rfl rfl hcm i _ s3 _ H3 _ I3p (stat _ fr3) st3 stop) fun r s4 hr => ?_
      obtain ⟨hr, I4⟩ := hr
      subst hr
      have pl4 := (I4.pin (s2.heap.objs.size, { cls := .type "list", data := .seq its.toArray nn }) (by simp)).1
      obtain ⟨m, hn, _⟩ := I4.loc
      have B := I4.base
      have un' : Un (frs X.stack) fp H2 (upd H3 s2.heap.objs.size (.lst acc)) s2.heap s4.heap := by
        refine ⟨fun b o e n hb hx => B.keep b o e n hb hx, fun b o e n hb hx => B.slot b o e n hb hx, fun b o e n hx => ?_, fun b o e hx => B.there b o e hx, fun b xs e => ?_, fun b o u e => ?_, fun b ps e => ?_⟩
        · rw [qY (ltD b o e)]
          exact B.free b o e n hx
        · have z := B.tups b xs e
          rw [qY (qR z hD3)]
          exact z
        · have z := B.frzs b o u e
          rw [qY (qR z hD3)]
          exact z
        · obtain ⟨more, z⟩ := B.tbls b ps e
          exact ⟨more, by rw [qY (qR z hD3)]; exact z⟩
      have freeC4 : H3 G.objs.size = none := I4.free
      have hok' : HOk X.prog X.w (upd H3 s2.heap.objs.size (.lst acc)) s4.heap := fun b u e => by
        by_cases hb : b = s2.heap.objs.size
        · subst hb
          rw [qD] at e
          cases e
          exact ⟨Nat.le_of_lt hlen, its, nn, va3, pl4⟩
        · rw [qY hb] at e
          exact (I4.hok b u e).stay (fun c v hc z => z) (fun c z => by rw [qY (qR z hD3)]; exact z) fun c xs z => by rw [qY (qR z hD3)]; exact z
      have hch : ∀ b ∈ fp, (b ∈ X.ex ∨ X.s₀.heap.objs.size ≤ b) ∧ b ≠ X.env.locals ∧ (∀ y c, X.env.cells.lookup y = some c → c ≠ b) ∧ ∀ p ∈ X.pn ++ pins, p.1 ≠ b := fun b hb => by
        obtain ⟨_, z1, _, z3, z4, z5⟩ := f2 b hb
        exact ⟨z3, z1, z4, z5⟩
      have I5 := I2.call' (s' := s4) (ch := fp) I4.os un' hok' I4.bare hch
      refine fin (.ref s2.heap.objs.size) _ _ s4 G.objs.size I5 rfl (q _ hD3) ⟨m, hn⟩ ?_ ?_ ?_ (fun y c e => ?_) fun p hp => ?_
      · rw [qY (Ne.symm DC)]; exact freeC4
      · rw [szG]; exact Nat.ne_of_gt (Nat.lt_succ_of_lt I2.lt)
      · rw [szG]; exact Nat.le_succ_of_le I2.sz
      · obtain ⟨v, o, ho, _⟩ := I2.cell y c e
        exact ltC c o ho
      · exact ltC p.1 p.2 (I2.pin p hp).1
    · refine thn (T.item (jA X scope cl G.objs.size (x :: ys) s2 H2 fp) rfl rfl rfl hcm i _ s3 _ H3 _ I3p (stat _ fr3) st3 go) fun r s4 hr => ?_
      obtain ⟨u, hr, h4⟩ := hr
      subst hr
      show wpAny (model X.prog X.w) X.A (letOwnedTupleGo (.Name x px) (.ref it) u >>= fun _ => assign (.Name x px) (compEnvC scope cl G.objs.size X.env) u) _ _ s4
      refine wpAny_bind (thn h4 fun _ s5 h5 => ?_)
      obtain ⟨v, H5, I5, r5, y5, st5, fr5⟩ := h5
      have I5' := I5.pinned (stat _ fr5) (T.obj _ _ st5)
      refine wpAny_assign_Name (xq (i := 0) I5' hnd rfl (.inl (lookup_relabel_local hx)) r5 (fun s6 I6 => ?_) (.inr (lookup_relabel_local hx)))
      have I6' : Inv (jA X scope cl G.objs.size (x :: ys) s2 H2 fp).nox _ _ H5 s6 := I6.wish _
      have back : ∀ (H7 : Hp) (s7 : Shared) (σ7 : L2.St) (h' : Heap) (acc' : List V) (its' : List Value) (m' : Nat), Inv (jA X scope cl G.objs.size (x :: ys) s2 H2 fp) ([(s2.heap.objs.size, { cls := .type "list", data := .seq its.toArray nn })] ++ qC6 fp s5.heap) (some v :: kW js σ) H7 s7 →
          Heap.SameBut s2.heap.objs.size s7.heap h' → h'.PlainList s2.heap.objs.size its'.toArray → Vals acc' its' → m' < n → W (i + 1) m' acc' H7 →
          ∃ m, m < n ∧ ∃ i acc its H3, Inv (jA X scope cl G.objs.size (x :: ys) s2 H2 fp) [] (none :: kW js σ) H3 { s7 with heap := h' } ∧ tn i h' ∧ (∀ b ∈ fp, H3 b = none) ∧ h'.PlainList s2.heap.objs.size its.toArray ∧ Vals acc its ∧ H3 s2.heap.objs.size = none ∧ W i m acc H3 := by
        intro H7 s7 _ h' acc' its' m' I7 hsb' hp' va' hm' w7
        have pinD := I7.pin (s2.heap.objs.size, { cls := .type "list", data := .seq its.toArray nn }) (by simp)
        have pf : ∀ b ∈ fp, ∀ o, s5.heap.get? b = some o → s7.heap.get? b = some o ∧ H7 b = none := fun b hb o e => by
          have z := I7.pin (b, o) (List.mem_append_right _ (List.mem_append_right _ (kA hb e)))
          exact ⟨z.1, z.2.1⟩
        have I8 : Inv (jA X scope cl G.objs.size (x :: ys) s2 H2 fp) [] (none :: kW js σ) H7 { s7 with heap := h' } := by
          have I7u : Inv (jA X scope cl G.objs.size (x :: ys) s2 H2 fp) [] (none :: kW js σ) H7 s7 := (I7.pins_of (pins' := []) fun p hp => absurd hp (by simp)).weak (by simp) fun k v e => by
            cases k with
            | zero => cases e
            | succ k => exact e
          refine I7u.turned (t' := s7.toks) (it := s2.heap.objs.size) (fun b o hb e => hsb'.extBut b o hb e) pinD.2.1 DC (.inr (Nat.le_refl _)) (fun y c e => ?_) fun p hp => absurd (show p ∈ ([] : List (Addr × Obj)) from hp) (by simp)
          obtain ⟨v, o, ho, _⟩ := I2.cell y c (clX y c e)
          exact ltD c o ho
        refine ⟨m', hm', i + 1, acc', its', H7, I8, ?_, fun b hb => ?_, hp', va', pinD.2.1, w7⟩
        · refine T.keep _ _ _ st5 fun b hb o e => hsb'.extBut b o ?_ (pf b hb o e).1
          obtain ⟨ob, eb⟩ := fpO b hb
          exact ltD b ob eb
        · obtain ⟨o, e, _⟩ := T.obj _ _ st5 b hb
          exact (pf b hb o e).2
      simp only [List.forIn_cons, List.forIn_nil, if_true]
      refine wpAny_bind (wpAny_bind (wpAny_mono (hc G.objs.size s2 H2 fp _ s6 _ H5 _ I6' (step v H5 y5)) (fun ok s6a h6 => ?_) fun _ _ z => z.elim))
      obtain ⟨H6, I6a, q6⟩ := h6
      refine wpAny_pure (wpAny_pure ?_)
      cases ok with
      | false =>
        rw [if_neg (by decide)] at q6 ⊢
        obtain ⟨m', hm', w7⟩ := q6
        have I7 := I6a.unwish
        have pinD := I7.pin (s2.heap.objs.size, { cls := .type "list", data := .seq its.toArray nn }) (by simp)
        exact back H6 s6a (none :: kW js σ) s6a.heap acc its m' I7 (Heap.SameBut.refl _ _) ⟨nn, pinD.1⟩ va3 hm' w7
      | true =>
        rw [if_pos rfl] at q6 ⊢
        refine wpAny_mono (he G.objs.size s2 H2 fp _ s6a _ H6 _ I6a q6) (fun y s7 h7 => ?_) fun _ _ z => z.elim
        obtain ⟨v7, H7, I7, r7, m', hm', w7⟩ := h7
        have I7 := I7.unwish
        have pinD := I7.pin (s2.heap.objs.size, { cls := .type "list", data := .seq its.toArray nn }) (by simp)
        refine wpAny_list_append_plain (items := its.toArray) ⟨nn, pinD.1⟩ (fun h' hp' hsb' => ?_) (by rw [List.size_toArray, ← hal]; exact Nat.le_of_lt hlen)
        have e8 : its.toArray.push y = (its ++ [y]).toArray := by simp
        rw [e8] at hp'
        exact back H7 s7 (none :: kW js σ) h' (acc ++ [v7]) (its ++ [y]) m' I7 hsb' hp' (va3.append (.cons r7 .nil)) hm' w7
  exact codeAny_compStart_list (loop _ rfl) (T.self _ 0 _ _ _ (T.keep _ _ _ st2 fun b _ o e => old b o e) (loop _ rfl))
theorem qBj {X : Cx} {elt iter cnd : Expr} {x : Str} {px : Pos} {scope : Scope} {cl : List (Str × Addr)} {pos : Pos} {wi : TI} {tc : TT} {te : TE} (ys : List Str) (js : List Nat)
    (hcm : X.calm = true) (hi : PI X (.Name x px) iter wi) (hc : ∀ C s H fp, PT (jA X scope cl C (x :: ys) s H fp).nox cnd tc) (he : ∀ C s H fp, PE (jA X scope cl C (x :: ys) s H fp).nox elt te)
    (hclos : closureFor scope X.env = pure cl := by rfl)
    (hcl : cl.map (fun p => X.env.cells.lookup p.1) = cl.map (fun p => some p.2) := by rfl)
    (hcell : (scope.names.all fun p => p.2 != .cell) = true := by rfl) (hkind : scope.kind = .function := by rfl)
    (hnames : (scope.names.all fun p => p.2 != .local || scope.names.lookup p.1 == some .local) = true := by rfl)
    (hx : scope.names.lookup x = some .local := by rfl)
    (hhas : ((relabel scope X.env).names.all fun p => (p.2 != .cell && p.2 != .free) || (cl.lookup p.1).isSome) = true := by rfl)
    (hnd : (x :: ys).Nodup := by decide)
    (hjs : js.map (fun j => X.N[j]?) = ys.map some := by rfl)
    (hys : (ys.all fun y => ((relabel scope X.env).names.lookup y == some .cell || (relabel scope X.env).names.lookup y == some .free) && (X.env.scope.names.lookup y == some .cell || X.env.scope.names.lookup y == some .free)) = true := by rfl)
    (hs : ∀ x, foldedSetIterable iter X.env x = pure x := by intro _; rfl) : PE X (.ListComp elt [⟨.Name x px, iter, [cnd], 0⟩] scope pos) (qJ0 js wi tc te) := by
  intro pins s σ H Q I h
  rw [eval_ListComp]
  refine qGk ys js hcm hi hc he hclos hcl hcell hkind hnames hx hhas hnd hjs hys hs Q none (EP X pins σ Q) I h fun v u H' s' C I' r q hm h0 h1 h2 h3 h4 => ?_
  obtain ⟨m, hm⟩ := hm
  exact ⟨m, hm, fun h' hsb => ⟨v, H', qCc I' hsb h0 h1 h2 h3 h4, r, q⟩⟩
theorem vM {K : PySem.W.Frag} {a : Addr} {xs : List V} {js : List Nat} {tc : TT} {te : TE} {σ : L2.St} {H : Hp} {Q : VK} (Pv : Nat → List V → Hp → Prop) (h0 : Pv 0 [] H) (hl : ∀ i acc H, i ≤ xs.length → Pv i acc H → SqL K H a xs ∧ acc.length < sizeLine)
    (hs : ∀ i x acc H, i < xs.length → xs[i]? = some x → Pv i acc H → tc (some x :: kW js σ) H fun ok H' => if ok = true then te (some x :: kW js σ) H' fun v H'' => Nxt xs.length i (Pv (i + 1) (acc ++ [v]) H'') else Nxt xs.length i (Pv (i + 1) acc H')) (hd : ∀ acc H, Pv xs.length acc H → ∀ D, H D = none → Q (.ref D) (upd H D (.lst acc))) : qF7 js tc te σ Q (Itl K a) H := by
  refine ⟨fun i m acc H => m = xs.length - i ∧ i ≤ xs.length ∧ Pv i acc H, ⟨xs.length, by simp, Nat.zero_le _, h0⟩, ?_⟩
  rintro i m acc H2 ⟨rfl, hi, p⟩
  obtain ⟨q, hz⟩ := hl i acc H2 hi p
  refine ⟨hz, ?_⟩
  by_cases hlt : i < xs.length
  · refine .inr ⟨⟨xs, xs[i], q, by simp [hlt]⟩, fun x H3 y => ?_⟩
    obtain ⟨e, y⟩ := y
    subst e
    exact hs i x acc _ hlt (y xs q) p
  · have e : i = xs.length := by omega
    subst e
    exact .inl ⟨⟨xs, q, Nat.le_refl _⟩, hd acc H2 p⟩
end L3
set_option maxHeartbeats 4000000
namespace L3
open PySem PySem.Spec PyProof.Rows L2
theorem qH1 (n : Nat) : sliceRange (sliceBounds none none (some (-1)) n).1 (sliceBounds none none (some (-1)) n).2.1 (sliceBounds none none (some (-1)) n).2.2 = (List.range n).map fun k => n - 1 - k := by
  have e1 : (sliceBounds none none (some (-1)) n).1 = (n : Int) - 1 := by simp [sliceBounds]
  have e2 : (sliceBounds none none (some (-1)) n).2.1 = -1 := by simp [sliceBounds]
  have e3 : (sliceBounds none none (some (-1)) n).2.2 = -1 := by simp [sliceBounds]
  rw [e1, e2, e3]
  unfold sliceRange
  have h0 : ¬ ((-1 : Int) > 0) := by decide
  have hc : (if (-1 : Int) > 0 then (if (n : Int) - 1 < -1 then (-1 - ((n : Int) - 1) + -1 - 1) / -1 else 0) else (if (n : Int) - 1 > -1 then ((n : Int) - 1 - -1 - -1 - 1) / (- -1) else 0)).toNat = n := by
    rw [if_neg h0]
    by_cases hn : (n : Int) - 1 > -1
    · rw [if_pos hn]
      have e : (- -1 : Int) = 1 := by decide
      rw [e, Int.ediv_one]
      omega
    · rw [if_neg hn]
      omega
  simp only [] at hc ⊢
  rw [hc]
  refine List.map_congr_left fun k hk => ?_
  have := List.mem_range.mp hk
  omega
theorem qJl (its : List Value) : slicePick its.toArray none none (some (-1)) = its.reverse.toArray := by
  unfold slicePick
  rw [qH1]
  congr 1
  rw [List.filterMap_map]
  apply List.ext_getElem?
  intro j
  have key : ∀ n, n ≤ its.length → (List.range n).filterMap ((fun x => its.toArray[x]?) ∘ fun k => its.toArray.size - 1 - k) = its.reverse.take n := by
    intro n
    induction n with
    | zero => intro _; simp
    | succ n ih =>
      intro hn
      rw [List.range_succ, List.filterMap_append, ih (by omega), List.take_add_one]
      have hi : its.length - 1 - n < its.length := by omega
      have e : its.reverse[n]? = some its[its.length - 1 - n] := by
        rw [List.getElem?_reverse (by omega), List.getElem?_eq_getElem hi]
      rw [e]
      simp [hi]
  rw [List.size_toArray] at key ⊢
  rw [key its.length (Nat.le_refl _), List.take_of_length_le (by simp)]
theorem Vals.rev {xs : List V} {us : List Value} (r : Vals xs us) : Vals xs.reverse us.reverse := by
  induction r with
  | nil => exact .nil
  | cons h t ih =>
    rw [List.reverse_cons, List.reverse_cons]
    exact ih.append (.cons h .nil)
def qOz (K : PySem.W.Frag) (te : TE) : TE := fun σ H Q => te σ H fun x H1 => ∃ a xs, x = .ref a ∧ SqL K H1 a xs ∧ ∀ p, H1 p = none → Q (.ref p) (upd H1 p (.lst xs.reverse))
theorem qMi {X : Cx} {e : Expr} {te : TE} {j : Nat} {pc pu p2 pos : Pos} (he : PE X e te) : PE X (.Subscript e (.Slice none none (some (.UnaryOp .USub (.Constant (.int 1) j pc) pu)) p2) pos) (qOz X.K te) := by
  intro pins s σ H Q I h
  refine Subscript_ (thn (he pins s σ H _ I h) fun v s1 ⟨x, H1, I1, r1, q1⟩ => ?_)
  obtain ⟨a, xs, rfl, hx, q⟩ := q1
  cases r1
  refine wpAny_Slice ?_
  rw [evalPart_none]
  refine wpAny_pure (wpAny_pure ?_)
  have po := (vJ (X := X) (qAh (X := X) (pos := pu) kO (qB (X := X) (i := 1) (j := j) (pos := pc)))) pins s1 σ H1 (fun i H2 => i = some (-1) ∧ H2 = H1) I1 ⟨1, rfl, -1, rfl, rfl, rfl⟩
  refine thn po fun vs s3 h3 => ?_
  obtain ⟨st, H3, I3, ps, rfl, rfl⟩ := h3
  have I4 : Inv X pins σ H3 { s3 with heap := s3.heap.push { cls := .type "slice", data := .fields #[.none, .none, vs] } } := I3.kept (t' := s3.toks) fun b ob q => Heap.get?_push_of_some _ q
  obtain ⟨its, r, ht, hz⟩ := I4.list hx
  have hlen := r.length
  show wpAny (model X.prog X.w) X.A (subscriptTail e (.Slice none none (some (.UnaryOp .USub (.Constant (.int 1) j pc) pu)) p2) (.ref a) (.ref s3.heap.objs.size)) (EP X pins σ Q) X.xe { s3 with heap := s3.heap.push { cls := .type "slice", data := .fields #[.none, .none, vs] } }
  refine tail_any (ops := [.ref a, .ref s3.heap.objs.size]) ht.isList.typeIs slot_list_getitem.lookup ?_ (by with_unfolding_all rfl)
  refine wpAny_getItem_list_slice ht.isList (Heap.IsSliceOf.new ..) .none .none ps (by simp) ?_ (by rw [List.size_toArray] <;> omega)
  rw [qJl]
  refine ⟨.ref _, _, I4.laid (t' := s3.toks) (o := .lst xs.reverse) (fun b ob q => Heap.get?_push_of_some _ q) (Nat.le_refl _) ?_, rfl, q _ (I4.hok.fresh (Nat.le_refl _))⟩
  exact ⟨by rw [List.length_reverse]; exact hz, _, 0, L3.Vals.rev r, Heap.get?_push_size _ rfl⟩
end L3
set_option maxHeartbeats 4000000
namespace L3
open PySem PySem.Spec PyProof.Rows L2
theorem qK2 {X : Cx} {pins : List (Addr × Obj)} {σ : L2.St} {H : Hp} {s : Shared} {h' : Heap} {t' : Nat} {ch : List Addr} (I : Inv X pins σ H s) (hf : ∀ b ∈ ch, qIj X pins H b)
    (k : ∀ b o, b ∉ ch → s.heap.get? b = some o → h'.get? b = some o) : Inv X pins σ H { s with heap := h', toks := t' } := by
  have nit : ∀ b u, H b = some u → b ∉ ch := fun b u e z => by rw [(hf b z).1] at e; cases e
  refine I.step (g' := s.gens) (d' := s.drawn) (ch := ch) (fun b hb => ?_) (fun b o _ _ hc e _ => k b o hc e) (fun b o _ _ hc e _ => ⟨o.slots, k b o hc e⟩) (fun _ _ _ _ n => n)
    (fun b o hc e => ⟨o, k b o hc e⟩) (fun _ _ e => e) (fun _ _ _ e => e) (fun b ps e => ⟨#[], by rw [e]; simp⟩) (fun m hm => ?_) (fun b u e => ?_) I.bare
  · obtain ⟨_, f1, _, f3, f4, f5⟩ := hf b hb
    exact ⟨f3, f1, f4, f5⟩
  · obtain ⟨o, es, ep, ho, r⟩ := hm
    exact ⟨o, es, ep, k _ o (fun z => (hf _ z).2.1 rfl) ho, r⟩
  · refine (I.hok b u e).stay (fun c v hc q => k c v ?_ q) (fun _ q => q) fun _ _ q => q
    rcases hc with z | z
    · rw [z]; exact nit b u e
    · exact nit c _ z
theorem qMk {X : Cx} {pins : List (Addr × Obj)} {σ : L2.St} {H : Hp} {s : Shared} {h' : Heap} {t' : Nat} {ch : List Addr} {xs : List V} {us : Array Value} (I : Inv X pins σ H s) (hf : ∀ b ∈ ch, qIj X pins H b) (hlt : ∀ b ∈ ch, b < s.heap.objs.size)
    (k : ∀ b o, b ∉ ch → s.heap.get? b = some o → h'.get? b = some o) (hT : h'.get? s.heap.objs.size = some { cls := .type "tuple", data := .seq us }) (r : Vals xs us.toList) (hz : xs.length ≤ sizeLine) :
    Inv X pins σ (upd H s.heap.objs.size (.tup xs)) { s with heap := h', toks := t' } ∧ ∀ b ∈ ch, upd H s.heap.objs.size (.tup xs) b = none := by
  have hn : ∀ b ∈ ch, upd H s.heap.objs.size (.tup xs) b = none := fun b hb => by
    rw [qY (Nat.ne_of_lt (hlt b hb))]; exact (hf b hb).1
  have I1 : Inv X pins σ (upd H s.heap.objs.size (.tup xs)) { s with heap := s.heap.push { cls := .type "tuple", data := .seq us }, toks := t' } :=
    I.laid (t' := t') (fun b o e => Heap.get?_push_of_some _ e) (Nat.le_refl _) ⟨hz, us.toList, r, ⟨_, Heap.get?_push_size _ rfl, rfl, _, rfl⟩⟩
  have I2 := qK2 (h' := h') (t' := t') (ch := ch) I1 (fun b hb => ⟨hn b hb, (hf b hb).2⟩) (fun b o hb e => ?_)
  · exact ⟨I2, hn⟩
  rcases Heap.get?_push_cases e with ⟨e1, e2⟩ | e1
  · rw [e1, e2]; exact hT
  · exact k b o hb e1
def Ite (K : PySem.W.Frag) (a : Addr) : It :=
  ⟨fun i H => ∃ xs x, SqL K H a xs ∧ xs[i]? = some x, fun i H x H' => ∃ p v, H p = none ∧ x = .ref p ∧ (∀ xs, SqL K H a xs → xs[i]? = some v) ∧ H' = upd H p (.tup [.int i, v]), fun i H => ∃ xs, SqL K H a xs ∧ xs.length ≤ i⟩
theorem qHu {P : Program} {w : World} {K : PySem.W.Frag} {elts : List Expr} {k1 : Nat} {pos : Pos} (a e it : Addr) (hne : e ≠ it) :
    qL5 P w K (.Tuple elts k1 pos) (Ite K a) [e, it] e (fun i h => (∃ old, IsEnum h e it (i : Nat) old) ∧ h.IsListIter it a i) where
  mem := by simp
  obj := fun i h st b hb => by
    obtain ⟨⟨old, he⟩, o, ho, c, d⟩ := st
    rcases List.mem_cons.mp hb with rfl | hb
    · exact ⟨_, he, fun v z => by cases z⟩
    · have e : b = it := by simpa using hb
      subst e
      exact ⟨o, ho, fun v z => by rw [d] at z; cases z⟩
  keep := fun i h h' st k => by
    obtain ⟨⟨old, he⟩, hi⟩ := st
    exact ⟨⟨old, k e (by simp) _ he⟩, hi.at fun o q => k it (by simp) o q⟩
  item := by
    intro X hP hw hK hc i pins s σ H E I hf st hg
    subst hP hw hK
    obtain ⟨⟨old, he⟩, hit⟩ := st
    obtain ⟨xs, x, hq, hx⟩ := hg
    obtain ⟨its, rv, p, hz⟩ := I.list hq
    obtain ⟨u, hu, ru⟩ := rv.get hx
    refine wpAny_pyNext_enum_item he hit p.isList (x := u) (by simpa using hu) hne fun h' heo hit' hT hsz hk => ?_
    refine ⟨_, rfl, wpAny_letOwnedTupleGo_enum heo fun h'' he'' hs'' => ?_⟩
    have hel : e < s.heap.objs.size := Heap.lt_size he
    have hil : it < s.heap.objs.size := by obtain ⟨_, q, _⟩ := hit; exact Heap.lt_size q
    have T := qMk (h' := h'') (t' := s.toks + 1) (ch := [e, it]) (xs := [.int i, x]) (us := #[.int i s.toks, u]) I hf (fun b hb => by
        rcases List.mem_cons.mp hb with rfl | hb
        · exact hel
        · have z : b = it := by simpa using hb
          subst z; exact hil)
      (fun b o hb q => (hs''.2 b (fun z => hb (by simp [z]))).trans (hk b o (fun z => hb (by simp [z])) (fun z => hb (by simp [z])) q))
      ((hs''.2 _ (Nat.ne_of_gt hel)).trans hT) (.cons ⟨_, rfl⟩ (.cons ru .nil)) (by show 2 ≤ sizeLine; decide)
    refine ⟨.ref s.heap.objs.size, _, T.1, rfl, ⟨_, x, I.hok.fresh (Nat.le_refl _), rfl, fun ys hy => by rw [I.list_inj hy hq]; exact hx, rfl⟩, ⟨⟨u, by simpa using he''⟩, hit'.at fun o q => (hs''.2 it hne.symm).trans q⟩, T.2⟩
  done := by
    intro X hP hw hK hc i pins s σ H E I hf st hg
    subst hP hw hK
    obtain ⟨⟨old, he⟩, hit⟩ := st
    obtain ⟨xs, hq, hx⟩ := hg
    obtain ⟨its, rv, p, hz⟩ := I.list hq
    obtain ⟨f0, f1, f2, f3, f4, f5⟩ := hf it (by simp)
    have hl := rv.length
    exact wpAny_pyNext_enum_end (I.ok.hd hc) he hit p.isList (by simp; omega) fun h' eb => ⟨rfl, I.turned (t' := s.toks) (fun b o hb e => eb b o hb e) f0 f1 f3 f4 f5⟩
  self := fun _ _ _ _ _ st h => by
    obtain ⟨⟨old, he⟩, _⟩ := st
    exact wpAny_pyIter_enum he h
def qN5 (K : PySem.W.Frag) (t : TA) : TI := fun σ H R => t σ H fun vs H1 => ∃ a, vs = [.ref a] ∧ (∃ xs, SqL K H1 a xs) ∧ R (Ite K a) H1
theorem qKb {X : Cx} {l : Expr} {tl : TA} {elts : List Expr} {k1 : Nat} {tpos p pos : Pos} (hg : Gl X "enumerate") (hm : X.mg "enumerate" = none) (hl : PA X [l] tl) (hs : starEach [l] X.env = [(false, eval l X.env)] := by rfl) :
    PI X (.Tuple elts k1 tpos) (.Call (.Name "enumerate" p) [l] [] pos) (qN5 X.K tl) := by
  intro pins s σ H R I h
  refine Call_ (qDk I hg hm boot_enumerate (PyProof.Rows.callWith_type1 (thn (hl pos pins s σ H _ I h) fun us s1 ⟨vs, H1, I1, r1, q1⟩ => ?_) hs rfl))
  obtain ⟨a, e, ⟨xs, hq⟩, q⟩ := q1
  subst e
  cases r1 with
  | cons r rr =>
    cases rr
    cases r
    obtain ⟨its, rv, pl, hz⟩ := I1.list hq
    refine call_enumerate_list pl.isList fun h' he hit hsz hk => ?_
    refine wpAny_pyIter_enum he ?_
    refine ⟨s1.heap.objs.size + 1, [s1.heap.objs.size + 1, s1.heap.objs.size], _, _, H1, rfl, I1.kept (t' := s1.toks) fun b o e => hk b o e, qHu a _ _ (Nat.succ_ne_self _), ⟨⟨_, he⟩, hit⟩, fun b hb => ?_, q⟩
    rcases List.mem_cons.mp hb with rfl | hb
    · exact I1.fpOk (Nat.le_succ _) (I1.hok.fresh (Nat.le_succ _))
    · have e : b = s1.heap.objs.size := by simpa using hb
      subst e
      exact I1.fpOk (Nat.le_refl _) (I1.hok.fresh (Nat.le_refl _))
theorem qIy {K : PySem.W.Frag} {a : Addr} {xs : List V} {g : TG} {tb : TS} {D : qG2} {σ : L2.St} {H : Hp} (Pv : Nat → L2.St → Hp → Prop) (h0 : Pv 0 σ H) (hl : ∀ i σ H, i ≤ xs.length → Pv i σ H → SqL K H a xs)
    (hs : ∀ i x σ H p, xs[i]? = some x → Pv i σ H → H p = none → g (.ref p) σ (upd H p (.tup [.int i, x])) fun σ2 H2 => tb { D with nx := Pv (i + 1), ct := Pv (i + 1), bk := D.nx } σ2 H2) (hd : ∀ σ H, Pv xs.length σ H → D.nx σ H) :
    ∃ W : Nat → Nat → L2.St → Hp → Prop, (∃ m, W 0 m σ H) ∧ ∀ i m σ H, W i m σ H →
      ((Ite K a).stop i H ∧ D.nx σ H) ∨ ((Ite K a).go i H ∧ ∃ N : L2.St → Hp → Prop, (∀ σ' H', N σ' H' → ∃ m', m' < m ∧ W (i + 1) m' σ' H') ∧ ∀ x H', (Ite K a).yld i H x H' → g x σ H' fun σ2 H2 => tb { D with nx := N, ct := N, bk := D.nx } σ2 H2) := by
  refine ⟨fun i m σ H => m = xs.length - i ∧ i ≤ xs.length ∧ Pv i σ H, ⟨xs.length, by simp, Nat.zero_le _, h0⟩, ?_⟩
  rintro i m σ H ⟨rfl, hi, p⟩
  have q := hl i σ H hi p
  by_cases hlt : i < xs.length
  · refine .inr ⟨⟨xs, xs[i], q, by simp [hlt]⟩, Pv (i + 1), fun σ' H' p' => ⟨xs.length - (i + 1), by omega, rfl, hlt, p'⟩, fun x H' y => ?_⟩
    obtain ⟨z, v, hz, rfl, y, rfl⟩ := y
    exact hs i v σ _ z (y xs q) p hz
  · have e : i = xs.length := by omega
    subst e
    exact .inl ⟨⟨xs, q, Nat.le_refl _⟩, hd σ H p⟩
theorem qG9 : ∀ {ns : List Int} {us : List Value}, Vals (ns.map V.int) us → ∃ xs : List (Int × Tok), us.toArray = intItems xs.toArray ∧ xs.map (·.1) = ns
  | [], us, r => by cases r; exact ⟨[], by simp [intItems], rfl⟩
  | n :: ns, us, r => by
    rw [List.map_cons] at r
    cases r with
    | cons h t =>
      obtain ⟨xs, e1, e2⟩ := qG9 t
      obtain ⟨tk, rfl⟩ := h
      refine ⟨(n, tk) :: xs, ?_, by rw [List.map_cons, e2]⟩
      have e3 := congrArg Array.toList e1
      simp only [intItems, List.map_toArray] at e3 ⊢
      rw [e3]
      rfl
theorem qCp {X : Cx} (hc : X.calm = true) : CallR X (.builtin "sum") (fun xs H Q => ∃ (p : Addr) (ns : List Int), xs = [.ref p] ∧ SqL X.K H p (ns.map V.int) ∧ Q (.int ns.sum) H) := by
  intro pins s σ H xs us Q I r h
  obtain ⟨p, ns, rfl, hq, q⟩ := h
  obtain ⟨u, rfl, rx⟩ := qGx r
  cases rx
  obtain ⟨its, rv, pl, hz⟩ := I.list hq
  obtain ⟨ys, e1, e2⟩ := qG9 rv
  have pl' := pl.isList
  rw [e1] at pl'
  refine sum_intListG (I.ok.hd hc) pl' fun h' tk t' hk => ?_
  rw [preSum_eq, List.take_of_length_le (by simp)]
  have e3 : ys.toArray.toList.map (·.1) = ns := by simpa using e2
  rw [e3]
  exact ⟨.int ns.sum, H, I.kept fun b o e => hk b o e, ⟨_, rfl⟩, q⟩
def qOl (t : TT) : TT := fun σ H Q => ∃ R : Bool → Hp → Prop, t σ H R ∧ ∀ b H', R b H' → Q b H'
theorem qAz {X : Cx} {e : Expr} {t : TT} (h : PT X e t) : PT X e (qOl t) := by
  rintro pins s σ H Q I ⟨R, ht, hR⟩
  exact thn (h pins s σ H R I ht) fun b s' ⟨H', I', r⟩ => ⟨H', I', hR b H' r⟩
end L3
set_option maxHeartbeats 4000000
namespace L3
open PySem PySem.Spec PyProof.Rows L2
end L3
set_option maxHeartbeats 4000000
namespace L3
open PySem PySem.Spec PyProof.Rows L2
theorem KV.get {κ : Type} {kvs : List (κ × V)} {vs : List (κ × Value)} (r : KV kvs vs) {i : Nat} {k : κ} {v : V} (h : kvs[i]? = some (k, v)) : ∃ u, vs[i]? = some (k, u) ∧ RelV v u := by
  induction r generalizing i with
  | nil => simp at h
  | @cons p q ps qs hpq _ ih =>
    cases i with
    | zero =>
      have e : p = (k, v) := by simpa using h
      subst e
      obtain ⟨k', u⟩ := q
      have e : k = k' := hpq.1
      subst e
      exact ⟨u, rfl, hpq.2⟩
    | succ i => exact ih (by simpa using h)
section
variable {P : Program} {w : World} {K : PySem.W.Frag}
end
end L3
set_option maxHeartbeats 4000000
namespace L3
open PySem PySem.Spec PyProof.Rows L2
def EqIn (P : Program) (w : World) (A : Around) (s : Shared) (y x : Value) : Prop := ∀ (E : Value → Shared → Prop) (Q : Bool → Shared → Prop), Q true s → wpAny (model P w) A (eqBool y x) Q E s
theorem EqIn.rc {P : Program} {w : World} {A : Around} {s : Shared} {l b : Addr} (h : ∀ (E : Value → Shared → Prop) (Q : Value → Shared → Prop), Q (.bool true) s → wpAny (model P w) A (richCompare .Eq (.ref l) (.ref b)) Q E s) : EqIn P w A s (.ref l) (.ref b) := by
  by_cases e : l = b
  · subst e
    exact fun E Q hq => SeqAt.EqAt.same _ P w E Q hq
  · intro E Q hq
    unfold eqBool
    refine wpAny_holding (wpAny_ite_split (fun z => ?_) (fun _ => ?_))
    · have := eq_of_beq z
      injection this with this
      exact absurd this e
    · exact wpAny_bind (h E _ (wpAny_truthy_bool hq))
def DEq (K : PySem.W.Frag) (H : Hp) (a b : Addr) : Prop := ∃ ka kb : List (Key × V), Rd H a (.dK ka) ∧ Rd H b (.dK kb) ∧ ka.length = kb.length ∧ ∀ p ∈ ka, ∃ v d, qEf kb p.1 = some v ∧ Rep K H d p.2 ∧ Rep K H d v ∧ eqD d d = true ∧ dep d ≤ 50
section
variable {X : Cx} {pins : List (Addr × Obj)} {σ : L2.St} {H : Hp} {s : Shared}
theorem qKz (I : Inv X pins σ H s) {A : Around} (hu : A.units + 50 < cLine) {kb : List (Key × V)} {vb : List (Key × Value)} (rb : KV kb vb) : ∀ {ka : List (Key × V)} {va : List (Key × Value)}, KV ka va →
    (∀ p ∈ ka, ∃ v d, qEf kb p.1 = some v ∧ Rep X.K H d p.2 ∧ Rep X.K H d v ∧ eqD d d = true ∧ dep d ≤ 50) → PySem.W.KeqHits A s vb va true := by
  intro ka va r
  unfold KV at r
  induction r with
  | nil => exact fun _ => .nil
  | @cons p q ps qs h t ih =>
    intro hp
    obtain ⟨h1, h2⟩ := h
    obtain ⟨v, d, e, r1, r2, g, hd⟩ := hp p (by simp)
    have rv := rb.val p.1
    rw [e] at rv
    cases w : valueAt vb p.1 with
    | none => rw [w] at rv; exact (show False from rv).elim
    | some y =>
      rw [w] at rv
      have rv : RelV v y := rv
      have ea := qJz I 50 A d d p.2 v q.2 y hd hu r1 r2 h2 rv
      rw [g] at ea
      have hq : q = (p.1, q.2) := by rw [h1]
      have k := PySem.W.KeqHits.hit (A := A) (s := s) (kb := vb) (k := p.1) (v := q.2) (e := true) w ea (ih fun x hx => hp x (by simp [hx]))
      rw [hq]
      exact k
theorem DEq.at (I : Inv X pins σ H s) {A : Around} (hu : A.units + 51 < cLine) {a b : Addr} (h : DEq X.K H a b) : EqIn X.prog X.w A s (.ref a) (.ref b) := by
  obtain ⟨ka, kb, ra, rb, hl, hh⟩ := h
  obtain ⟨_, na, va, qa, da⟩ := qGa I.hok ra
  obtain ⟨_, nb, vb, qb, db⟩ := qGa I.hok rb
  refine EqIn.rc fun E Q hq => ?_
  refine PySem.W.keq_eq (r := true) na nb da db (by omega) (fun _ => qKz I (by show A.units + 1 + 50 < cLine; omega) qb qa hh) ?_
  have e : (va.length == vb.length) = true := by rw [← qa.length, ← qb.length, hl]; simp
  rw [e]
  exact hq
end
theorem vH {X : Cx} {K : PySem.W.Frag} (h : X.K = K) : CallR X (.type "list") (fun xs H Q => ∃ p ys, xs = [.ref p] ∧ (SqL K H p ys ∨ SqT K H p ys) ∧ ∀ l, H l = none → Q (.ref l) (upd H l (.lst ys))) := h ▸ z0
end L3
set_option maxHeartbeats 4000000
set_option maxRecDepth 100000
namespace L3
open PySem PySem.Spec PyProof.Rows L2
theorem KV.keys {kvs : List (Key × V)} {vs : List (Key × Value)} (r : KV kvs vs) : vs.map (·.1) = kvs.map (·.1) := by
  induction r with
  | nil => rfl
  | cons h _ ih => rw [List.map_cons, List.map_cons, ih, h.1]
end L3
set_option maxHeartbeats 4000000
namespace L3
open PySem PySem.Spec PyProof.Rows L2
end L3
set_option maxHeartbeats 4000000
namespace L3
open PySem PySem.Spec PyProof.Rows L2
end L3
set_option maxHeartbeats 4000000
namespace L3
open PySem PySem.Spec PyProof.Rows L2
variable {X : Cx}
end L3
set_option maxHeartbeats 4000000
namespace L3
open PySem PySem.Spec PyProof.Rows L2 PySem.NumText PySem.Builtin.Str
def qM9 (l : List Nat) : List Nat := if l.head? = some 45 then l.tail else l
def qO6 (c : Nat) : Bool := !(occurrences "0123456789" ⟨#[c]⟩ 0 ("0123456789" : Str).length 1).isEmpty
structure Fig (l : List Nat) : Prop where
  ne : qM9 l ≠ []
  len : (qM9 l).length ≤ 60
  all : (qM9 l).all qO6 = true
end L3
set_option maxHeartbeats 4000000
namespace L3
open PySem PySem.Spec PyProof.Rows L2 PySem.NumText PySem.Builtin.Str
inductive qI0 (l : List Nat) : List Str → Prop where
  | none (h : l = []) : qI0 l []
  | one {p : Str} (h : l = p.cps.toList) (hf : 47 ∉ l) : qI0 l [p]
  | two {p q : Str} (h : l = p.cps.toList ++ 47 :: q.cps.toList) (hp : 47 ∉ p.cps.toList) (hq : 47 ∉ q.cps.toList) : qI0 l [p, q]
  | more {p q r : Str} {t : List Str} (rest : List Nat) (h : l = p.cps.toList ++ 47 :: rest) (hp : 47 ∉ p.cps.toList) (hq : 47 ∈ rest) : qI0 l (p :: q :: r :: t)
end L3
set_option maxHeartbeats 4000000
namespace L3
open PySem PySem.Spec PyProof.Rows L2
def XES (X : Cx) (Ex : Value → Option Addr → L2.St → Hp → Prop) : Value → Shared → Prop := fun e s' => ∃ ea C σ H', e = .ref ea ∧ Inv X [] σ H' s' ∧ qIt X.s₀.heap H' X.pn s'.heap ea C ∧ Ex C.1 C.2 σ H'
def qL6 (sp : Sp) (Ex : Value → Option Addr → L2.St → Hp → Prop) (t : TA) : TE := fun σ H Q => t σ H fun vs H1 => sp (vs ++ []) H1 Q fun C od H' => Ex C od σ H'
theorem qMq {X : Cx} {Ex : Value → Option Addr → L2.St → Hp → Prop} (hex : X.ex = []) {pins : List (Addr × Obj)} {σ : L2.St} {H : Hp} {s : Shared} {e : Value} {s' : Shared} (I : Inv (X.wish (XES X Ex)) pins σ H s)
    (h : CXR X.prog X.w X.stack H s (fun C od H' => Ex C od σ H') e s') : XES X Ex e s' := by
  obtain ⟨ea, C, H', rfl, os, bare, un, hok, ⟨n1, hd, r, n3⟩, q⟩ := h
  have I0 := I.unwish
  have I1 : Inv X pins σ H' s' := I0.call' (ch := []) os un hok bare fun b z => nomatch z
  have old : ∀ b, s.heap.get? b = none → X.s₀.heap.get? b = none := fun b z => by
    cases w : X.s₀.heap.get? b with
    | none => rfl
    | some o =>
      obtain ⟨o', w'⟩ := I0.base.there b o w (by rw [hex]; intro y; cases y)
      rw [z] at w'; cases w'
  have pn : ∀ b, s.heap.get? b = none → ∀ p ∈ X.pn, p.1 ≠ b := fun b z p hp w => by
    have q := (I0.pin p (List.mem_append_left _ hp)).1
    rw [w, z] at q; cases q
  exact ⟨ea, C, σ, H', rfl, I1.pins_of (pins' := []) fun p hp => (nomatch hp), ⟨⟨old _ n1.1, n1.2.1, pn _ n1.1⟩, hd, r, fun T e => ⟨old _ (n3 T e).1, (n3 T e).2.1, pn _ (n3 T e).1⟩⟩, q⟩
theorem qJa {X : Cx} {Ex : Value → Option Addr → L2.St → Hp → Prop} {k j : Nat} {x : Str} {st : Stmt} {ps : List Str} {f : Addr} {fd : FuncData} {sp : Sp} {e : Expr} {es : List Expr} {t : TA} {p pos : Pos} (D : Def X.K X.mg x st ps f fd) (F : FnOk X.prog X.w X.K X.mg X.base (CXR X.prog X.w) j f fd ps sp) (hr : Room k X.A) (hg : Gl X x)
    (ha : PA (X.wish (XES X Ex)) (e :: es) t) (hj : j ≤ k := by decide) (hex : X.ex = [] := by rfl)
    (hdb : (x == ("__debug__" : Str)) = false := by decide) (he : starEach (e :: es) X.env = (false, eval e X.env) :: starEach es X.env := by rfl) (hpl : (backTo pos (starEach es X.env)).any (·.1) = false := by rfl) :
    PE (X.wish (XES X Ex)) (.Call (.Name x p) (e :: es) [] pos) (qL6 sp Ex t) := by
  intro pins s σ H Q I h
  refine wpAny_Call_Name_kw (kT I hg D.m ?_ hdb)
  refine PySem.W.callWith_K (h₀ := X.base) I.ok.mod.kin D.F.kp (thn (ha pos pins s σ H _ I h) fun us s1 ⟨vs, H1, I1, r, q⟩ => ⟨I1.kIn, ?_⟩) he hpl
  have r2 : Vals (vs ++ []) (us ++ []) := r.append .nil
  have hl : (us ++ []).length = ps.length := by rw [← r2.length]; exact F.len _ _ _ _ q
  refine wpAny_call (codeAny_mono (F.run X.A X.stack s1 H1 ⟨us, []⟩ (us ++ []) (vs ++ []) Q _ (hr.mono hj) I1.env0 (D.b s1 us I1.kIn hl) r2 q) fun r s' hq => ?_)
  cases r with
  | error e => exact qMq hex I1 hq
  | ok fl =>
    cases fl with
    | ret u => exact I1.after hq
    | next => exact False.elim hq
    | brk => exact False.elim hq
    | cont => exact False.elim hq
def qMc (K : PySem.W.Frag) (Ex : Value → Option Addr → L2.St → Hp → Prop) (C : Addr) (i : Option Nat) (tb ts : TS) : TS := fun D σ H => tb D σ H ∧ ∀ (ea : Addr) (B : EC) (σ' : L2.St) (H' : Hp), Ex B.1 B.2 σ' H' → H' ea = none → σ'.length = σ.length →
  PySem.W.exmOne K B.1 (.ref C) = some true ∧ ts (qGw D i) (qMf i ea σ') (upd H' ea (qEp ea B))
theorem qKn {X : Cx} {body : List Stmt} {b₀ : Stmt} {suite : List Stmt} {x : Str} {C : Addr} {nm : Option Str} {i : Option Nat} {np hpos pos : Pos} {tb ts : TS} (Ex : Value → Option Addr → L2.St → Hp → Prop)
    (hcl : qD6 X nm i) (hN : X.N.Nodup) (hg : Gl X x) (hm : X.mg x = some (.ref C))
    (hb : ∀ l, PSs ((pnX X l).wish (XES (pnX X l) Ex)) body tb) (hs : ∀ l ea, PSs (hdX (pnX X l) ea).nox (b₀ :: suite) ts)
    (hstk : X.stack = X.env :: X.outer := by rfl) (hfr : X.env.frame = some X.env.locals := by rfl) (hex : X.ex = [] := by rfl) (hdb : (x == ("__debug__" : Str)) = false := by decide) :
    PS X (.Try body [.ExceptHandler (some (.Name x np)) nm (b₀ :: suite) hpos] [] [] pos) (qMc X.K Ex C i tb ts) := by
  rintro pins s σ H D I ⟨h1, h2⟩
  have I0 := qJ2 I
  refine wpAny_Try_except (wpAny_mono (hb (X.pn ++ pins) [] s σ H D (I0.wish _) h1) (fun f s1 q => ?_) fun e s1 q => ?_)
  · have q := q.unwish
    cases f with
    | next =>
      obtain ⟨σ', H', J, z⟩ := q
      exact wpAny_execs_nil ⟨σ', H', xp J, z⟩
    | brk =>
      obtain ⟨σ', H', J, z⟩ := q
      exact ⟨σ', H', xp J, z⟩
    | cont =>
      obtain ⟨σ', H', J, z⟩ := q
      exact ⟨σ', H', xp J, z⟩
    | ret u =>
      obtain ⟨v, σ', H', J, r, z⟩ := q
      exact ⟨v, σ', H', xp J, r, z⟩
  · obtain ⟨ea, B, σ', H', rfl, I1, ⟨n1, hd, r, n3⟩, ex⟩ := q
    have hlen : σ'.length = σ.length := I1.len.trans I.len.symm
    obtain ⟨hx, ht⟩ := h2 ea B σ' H' ex n1.2.1 hlen
    have fr : X.A.frames = some (X.env :: X.outer) := by rw [← hstk]; exact I.ok.frames
    have ff : s1.heap.FunFrames X.base (X.env :: X.outer) := by
      have z := I1.stack
      rw [show (pnX X (X.pn ++ pins)).stack = X.env :: X.outer from hstk] at z
      exact z
    refine qFa fr ff hfr r fun h' N' => ?_
    have N' : Noted (frs X.stack) ea hd B s1.heap h' := by rw [hstk]; exact N'
    obtain ⟨I2, n1, hd2, r2, n3⟩ := xf I1 hex r n1 n3 N'
    refine wpAny_handleBy_cons (codeAny_handlers_test (kT (X := hdX (pnX X (X.pn ++ pins)) ea) (qA2 I2) hg hm ?_ hdb)) (by intro z; cases z)
    have LT : PySem.W.Looks (model X.prog X.w) h' (typeOf (.ref ea)) B.1 := by
      obtain ⟨vs, sl, qe, _⟩ := r2
      exact (PySem.W.Looks.ld qe).andThen .now
    refine (PySem.W.exm_one (M := model X.prog X.w) I2.kIn LT hx).here ?_
    show codeAny _ _ _ _ _
    obtain ⟨T, rfl, r3⟩ : ∃ T, hd2 = some T ∧ ze h' ea B (some T) := by
      obtain ⟨T, _, _⟩ := N'.ent
      cases hd2 with
      | some T => exact ⟨T, rfl, r2⟩
      | none =>
        obtain ⟨T, _, rT⟩ := N'.ent
        obtain ⟨vs, sl, q1, q2⟩ := r2
        obtain ⟨vs', sl', q1', q2', _⟩ := rT
        rw [q1] at q1'
        cases q1'
        rw [q2] at q2'
        cases q2'
    have run : ∀ (s4 : Shared) (σ4 : L2.St) (Q : Flow → Shared → Prop) (E : Value → Shared → Prop), Inv (hdX (pnX X (X.pn ++ pins)) ea) [] σ4 (upd H' ea (qEp ea B)) s4 → ts (qGw D i) σ4 (upd H' ea (qEp ea B)) →
        (∀ f s5, SP (hdX (pnX X (X.pn ++ pins)) ea) [] (qGw D i) f s5 → Q f s5) → wpAny (model X.prog X.w) (X.A.mark (some (.ref ea))) (execs (b₀ :: suite) X.env) Q E s4 := fun s4 σ4 Q E I4 z k =>
      wpAny_mono (hs (X.pn ++ pins) ea [] s4 σ4 _ _ (I4.wish _) z) (fun f s5 q => k f s5 q.unwish) fun _ _ z => z.elim
    have hdn : (pnX X (X.pn ++ pins)).calm = true → (pnX X (X.pn ++ pins)).A.handled = none := I2.ok.hd
    cases hcl with
    | none =>
      refine codeAny_handlers_suite (zm r3 fun h3 N3 => ?_)
      obtain ⟨I3, n1, hd3, r4, n3⟩ := xf I2 hex r3 n1 n3 (N3 _)
      refine run _ _ _ _ (qA2 (vE I3 hex n1 r4)) ht fun f s5 q => ?_
      cases f with
      | next => obtain ⟨σ5, H5, J, z⟩ := q; exact ⟨σ5, H5, xp (kG J hdn), z⟩
      | brk => obtain ⟨σ5, H5, J, z⟩ := q; exact ⟨σ5, H5, xp (kG J hdn), z⟩
      | cont => obtain ⟨σ5, H5, J, z⟩ := q; exact ⟨σ5, H5, xp (kG J hdn), z⟩
      | ret u => obtain ⟨v, σ5, H5, J, rv, z⟩ := q; exact ⟨v, σ5, H5, xp (kG J hdn), rv, z⟩
    | some hi hl =>
      refine codeAny_handlers_suite_as (zm r3 fun h3 N3 => ?_)
      obtain ⟨I3, n1, hd3, r4, n3⟩ := xf I2 hex r3 n1 n3 (N3 _)
      refine xq (X := hdX (pnX X (X.pn ++ pins)) ea) (v := .ref ea) (qA2 (vE I3 hex n1 r4)) hN hi (.inl hl) rfl (fun s4 I4 => ?_) (.inr hl)
      refine run _ _ _ _ I4 ht fun f s5 q => ?_
      cases f with
      | next => obtain ⟨σ5, H5, J, z⟩ := q; exact xg (X := pnX X (X.pn ++ pins)) (kG J hdn) hN hi hl fun s6 J6 => ⟨_, H5, xp J6, z⟩
      | brk => obtain ⟨σ5, H5, J, z⟩ := q; exact xg (X := pnX X (X.pn ++ pins)) (kG J hdn) hN hi hl fun s6 J6 => ⟨_, H5, xp J6, z⟩
      | cont => obtain ⟨σ5, H5, J, z⟩ := q; exact xg (X := pnX X (X.pn ++ pins)) (kG J hdn) hN hi hl fun s6 J6 => ⟨_, H5, xp J6, z⟩
      | ret u => obtain ⟨v, σ5, H5, J, rv, z⟩ := q; exact xg (X := pnX X (X.pn ++ pins)) (kG J hdn) hN hi hl fun s6 J6 => ⟨v, _, H5, xp J6, rv, z⟩
end L3
set_option maxHeartbeats 4000000
namespace L3
open PySem PySem.Spec PyProof.Rows L2
theorem qJs {A : Around} {s : Shared} {y x : V} {u v : Value} (ry : RelV y u) (rx : RelV x v) (fy : xc y = true) (fx : xc x = true) : SeqAt.RcAt A s u v (eqV y x) ∧ SeqAt.RcNeAt A s u v (!eqV y x) := by
  cases y with
  | non =>
    cases ry
    cases x with
    | non => cases rx; exact ⟨SeqAt.RcAt.none_none, SeqAt.RcNeAt.none_none⟩
    | bl b => cases rx; exact ⟨SeqAt.RcAt.none_bool b, SeqAt.RcNeAt.none_bool b⟩
    | int b => obtain ⟨t, rfl⟩ := rx; exact ⟨SeqAt.RcAt.none_int b t, SeqAt.RcNeAt.none_int b t⟩
    | str b => obtain ⟨t, rfl⟩ := rx; exact ⟨SeqAt.RcAt.none_str b t, SeqAt.RcNeAt.none_str b t⟩
    | _ => exact absurd (show false = true from fx) Bool.false_ne_true
  | bl a =>
    cases ry
    cases x with
    | non => cases rx; exact ⟨SeqAt.RcAt.bool_none a, SeqAt.RcNeAt.bool_none a⟩
    | bl b => cases rx; exact ⟨SeqAt.RcAt.bool_bool a b, SeqAt.RcNeAt.bool_bool a b⟩
    | int b => obtain ⟨t, rfl⟩ := rx; exact ⟨SeqAt.RcAt.bool_int a b t, SeqAt.RcNeAt.bool_int a b t⟩
    | str b => obtain ⟨t, rfl⟩ := rx; exact ⟨SeqAt.RcAt.bool_str a b t, SeqAt.RcNeAt.bool_str a b t⟩
    | _ => exact absurd (show false = true from fx) Bool.false_ne_true
  | int a =>
    obtain ⟨t', rfl⟩ := ry
    cases x with
    | non => cases rx; exact ⟨SeqAt.RcAt.int_none a t', SeqAt.RcNeAt.int_none a t'⟩
    | bl b => cases rx; exact ⟨SeqAt.RcAt.int_bool a t' b, SeqAt.RcNeAt.int_bool a t' b⟩
    | int b => obtain ⟨t, rfl⟩ := rx; exact ⟨SeqAt.RcAt.int_int a t' b t, SeqAt.RcNeAt.int_int a t' b t⟩
    | str b => obtain ⟨t, rfl⟩ := rx; exact ⟨SeqAt.RcAt.int_str a t' b t, SeqAt.RcNeAt.int_str a t' b t⟩
    | _ => exact absurd (show false = true from fx) Bool.false_ne_true
  | str a =>
    obtain ⟨t', rfl⟩ := ry
    cases x with
    | non => cases rx; exact ⟨SeqAt.RcAt.str_none a t', SeqAt.RcNeAt.str_none a t'⟩
    | bl b => cases rx; exact ⟨SeqAt.RcAt.str_bool a t' b, SeqAt.RcNeAt.str_bool a t' b⟩
    | int b => obtain ⟨t, rfl⟩ := rx; exact ⟨SeqAt.RcAt.str_int a t' b t, SeqAt.RcNeAt.str_int a t' b t⟩
    | str b => obtain ⟨t, rfl⟩ := rx; exact ⟨SeqAt.RcAt.str_str a t' b t, SeqAt.RcNeAt.str_str a t' b t⟩
    | _ => exact absurd (show false = true from fx) Bool.false_ne_true
  | _ => exact absurd (show false = true from fy) Bool.false_ne_true
theorem jV {A : Around} {s : Shared} {x : V} {u : Value} {p : Addr} {its : Array Value} (f : xc x = true) (r : RelV x u) (hu : A.units < cLine) (h : s.heap.IsTuple p its ∨ s.heap.IsList p its) :
    (SeqAt.RcAt A s u (.ref p) false ∧ SeqAt.RcAt A s (.ref p) u false) ∧ SeqAt.RcNeAt A s u (.ref p) true ∧ SeqAt.RcNeAt A s (.ref p) u true := by
  cases x with
  | non =>
    cases r
    rcases h with h | h
    · exact ⟨⟨SeqAt.RcAt.none_tuple h hu, SeqAt.RcAt.tuple_none h hu⟩, SeqAt.RcNeAt.none_tuple h hu, SeqAt.RcNeAt.tuple_none h hu⟩
    · exact ⟨⟨SeqAt.RcAt.none_list h hu, SeqAt.RcAt.list_none h hu⟩, SeqAt.RcNeAt.none_list h hu, SeqAt.RcNeAt.list_none h hu⟩
  | bl b =>
    cases r
    rcases h with h | h
    · exact ⟨⟨SeqAt.RcAt.bool_tuple _ h hu, SeqAt.RcAt.tuple_bool _ h hu⟩, SeqAt.RcNeAt.bool_tuple _ h hu, SeqAt.RcNeAt.tuple_bool _ h hu⟩
    · exact ⟨⟨SeqAt.RcAt.bool_list _ h hu, SeqAt.RcAt.list_bool _ h hu⟩, SeqAt.RcNeAt.bool_list _ h hu, SeqAt.RcNeAt.list_bool _ h hu⟩
  | int i =>
    obtain ⟨t, rfl⟩ := r
    rcases h with h | h
    · exact ⟨⟨SeqAt.RcAt.int_tuple _ _ h hu, SeqAt.RcAt.tuple_int _ _ h hu⟩, SeqAt.RcNeAt.int_tuple _ _ h hu, SeqAt.RcNeAt.tuple_int _ _ h hu⟩
    · exact ⟨⟨SeqAt.RcAt.int_list _ _ h hu, SeqAt.RcAt.list_int _ _ h hu⟩, SeqAt.RcNeAt.int_list _ _ h hu, SeqAt.RcNeAt.list_int _ _ h hu⟩
  | str i =>
    obtain ⟨t, rfl⟩ := r
    rcases h with h | h
    · exact ⟨⟨SeqAt.RcAt.str_tuple _ _ h hu, SeqAt.RcAt.tuple_str _ _ h hu⟩, SeqAt.RcNeAt.str_tuple _ _ h hu, SeqAt.RcNeAt.tuple_str _ _ h hu⟩
    · exact ⟨⟨SeqAt.RcAt.str_list _ _ h hu, SeqAt.RcAt.list_str _ _ h hu⟩, SeqAt.RcNeAt.str_list _ _ h hu, SeqAt.RcNeAt.list_str _ _ h hu⟩
  | _ => cases f
def qLj (K : PySem.W.Frag) (neg : Bool) : R2 := fun x y H Q => ∃ d e : D, Rep K H d x ∧ Rep K H e y ∧ dep d ≤ 60 ∧ Q (.bl (if neg then !eqD d e else eqD d e)) H
theorem qJ3 {X : Cx} (hu : X.A.units + 64 < cLine) : OpR X (compareOp .Eq) (qLj X.K false) := by
  intro pins s σ H x y v u Q I rx ry h
  obtain ⟨d, e, r1, r2, hd, q⟩ := h
  have hu0 : X.A.units < cLine := by omega
  by_cases hk : kin d e = true
  · exact qJw hu pins s σ H x y v u Q I rx ry ⟨d, e, r1, r2, hk, hd, q⟩
  have ep : ∀ b, b = eqD d e → EP X pins σ Q (.bool b) s := fun b h => ⟨.bl b, H, I, rfl, by rw [h]; exact q⟩
  cases d with
  | leaf a =>
    have r1' := r1
    unfold Rep at r1'
    obtain ⟨rfl, f1⟩ := r1'
    cases e with
    | leaf b =>
      have r2' := r2
      unfold Rep at r2'
      obtain ⟨rfl, f2⟩ := r2'
      exact (qJs rx ry f1 f2).1 _ _ _ _ (ep _ (by unfold eqD; rfl))
    | tup es =>
      have r2' := r2
      unfold Rep at r2'
      obtain ⟨p, ys, rfl, t, _⟩ := r2'
      cases ry
      obtain ⟨_, _, i, _⟩ := I.tuple t
      exact (jV f1 rx hu0 (.inl i)).1.1 _ _ _ _ (ep _ (by unfold eqD; rfl))
    | lst es =>
      have r2' := r2
      unfold Rep at r2'
      obtain ⟨p, ys, rfl, t, _⟩ := r2'
      cases ry
      obtain ⟨_, _, i, _⟩ := I.list t
      exact (jV f1 rx hu0 (.inr i.isList)).1.1 _ _ _ _ (ep _ (by unfold eqD; rfl))
  | tup ds =>
    have r1' := r1
    unfold Rep at r1'
    obtain ⟨p, xs, rfl, t1, _⟩ := r1'
    cases rx
    obtain ⟨_, _, i1, _⟩ := I.tuple t1
    cases e with
    | leaf b =>
      have r2' := r2
      unfold Rep at r2'
      obtain ⟨rfl, f2⟩ := r2'
      exact (jV f2 ry hu0 (.inl i1)).1.2 _ _ _ _ (ep _ (by unfold eqD; rfl))
    | tup es => exact absurd rfl hk
    | lst es =>
      have r2' := r2
      unfold Rep at r2'
      obtain ⟨p', ys, rfl, t, _⟩ := r2'
      cases ry
      obtain ⟨_, _, i, _⟩ := I.list t
      exact SeqAt.RcAt.tuple_list i1 i.isList hu0 _ _ _ _ (ep _ (by unfold eqD; rfl))
  | lst ds =>
    have r1' := r1
    unfold Rep at r1'
    obtain ⟨p, xs, rfl, t1, _⟩ := r1'
    cases rx
    obtain ⟨_, _, i1, _⟩ := I.list t1
    cases e with
    | leaf b =>
      have r2' := r2
      unfold Rep at r2'
      obtain ⟨rfl, f2⟩ := r2'
      exact (jV f2 ry hu0 (.inr i1.isList)).1.2 _ _ _ _ (ep _ (by unfold eqD; rfl))
    | lst es => exact absurd rfl hk
    | tup es =>
      have r2' := r2
      unfold Rep at r2'
      obtain ⟨p', ys, rfl, t, _⟩ := r2'
      cases ry
      obtain ⟨_, _, i, _⟩ := I.tuple t
      exact SeqAt.RcAt.list_tuple i1.isList i hu0 _ _ _ _ (ep _ (by unfold eqD; rfl))
theorem qD7 {X : Cx} (hu : X.A.units + 64 < cLine) : OpR X (compareOp .NotEq) (qLj X.K true) := by
  intro pins s σ H x y v u Q I rx ry h
  obtain ⟨d, e, r1, r2, hd, q⟩ := h
  have hu0 : X.A.units < cLine := by omega
  by_cases hk : kin d e = true
  · exact qJt hu pins s σ H x y v u Q I rx ry ⟨d, e, r1, r2, hk, hd, q⟩
  have ep : ∀ b, b = (!eqD d e) → EP X pins σ Q (.bool b) s := fun b h => ⟨.bl b, H, I, rfl, by rw [h]; exact q⟩
  cases d with
  | leaf a =>
    have r1' := r1
    unfold Rep at r1'
    obtain ⟨rfl, f1⟩ := r1'
    cases e with
    | leaf b =>
      have r2' := r2
      unfold Rep at r2'
      obtain ⟨rfl, f2⟩ := r2'
      exact (qJs rx ry f1 f2).2 _ _ _ _ (ep _ (by unfold eqD; rfl))
    | tup es =>
      have r2' := r2
      unfold Rep at r2'
      obtain ⟨p, ys, rfl, t, _⟩ := r2'
      cases ry
      obtain ⟨_, _, i, _⟩ := I.tuple t
      exact (jV f1 rx hu0 (.inl i)).2.1 _ _ _ _ (ep _ (by unfold eqD; rfl))
    | lst es =>
      have r2' := r2
      unfold Rep at r2'
      obtain ⟨p, ys, rfl, t, _⟩ := r2'
      cases ry
      obtain ⟨_, _, i, _⟩ := I.list t
      exact (jV f1 rx hu0 (.inr i.isList)).2.1 _ _ _ _ (ep _ (by unfold eqD; rfl))
  | tup ds =>
    have r1' := r1
    unfold Rep at r1'
    obtain ⟨p, xs, rfl, t1, _⟩ := r1'
    cases rx
    obtain ⟨_, _, i1, _⟩ := I.tuple t1
    cases e with
    | leaf b =>
      have r2' := r2
      unfold Rep at r2'
      obtain ⟨rfl, f2⟩ := r2'
      exact (jV f2 ry hu0 (.inl i1)).2.2 _ _ _ _ (ep _ (by unfold eqD; rfl))
    | tup es => exact absurd rfl hk
    | lst es =>
      have r2' := r2
      unfold Rep at r2'
      obtain ⟨p', ys, rfl, t, _⟩ := r2'
      cases ry
      obtain ⟨_, _, i, _⟩ := I.list t
      exact SeqAt.RcNeAt.tuple_list i1 i.isList hu0 _ _ _ _ (ep _ (by unfold eqD; rfl))
  | lst ds =>
    have r1' := r1
    unfold Rep at r1'
    obtain ⟨p, xs, rfl, t1, _⟩ := r1'
    cases rx
    obtain ⟨_, _, i1, _⟩ := I.list t1
    cases e with
    | leaf b =>
      have r2' := r2
      unfold Rep at r2'
      obtain ⟨rfl, f2⟩ := r2'
      exact (jV f2 ry hu0 (.inr i1.isList)).2.2 _ _ _ _ (ep _ (by unfold eqD; rfl))
    | lst es => exact absurd rfl hk
    | tup es =>
      have r2' := r2
      unfold Rep at r2'
      obtain ⟨p', ys, rfl, t, _⟩ := r2'
      cases ry
      obtain ⟨_, _, i, _⟩ := I.tuple t
      exact SeqAt.RcNeAt.list_tuple i1.isList i hu0 _ _ _ _ (ep _ (by unfold eqD; rfl))
end L3
set_option maxHeartbeats 4000000
set_option maxRecDepth 100000
namespace Lw
open PySem L2 L3 Mt
seal L2.PSs L2.PS L2.PE L2.PA L2.PT L2.PW L2.PC L2.PI L2.PG L2.PGs L2.PO
def top (i : Nat) : Stmt := PySem.Challenge.pw_reelcut_k47_tied_tracks.main.body.getD i (.Pass ⟨0, 0, 0, 0⟩)
abbrev xy : Stmt := top 8
abbrev qz : Stmt := top 9
abbrev jp : Stmt := top 10
abbrev zB : Stmt := top 11
abbrev kE : Stmt := top 12
abbrev zV : Stmt := top 13
abbrev xu : Stmt := top 14
abbrev xx : Stmt := top 15
abbrev xP : Stmt := top 16
abbrev xv : Stmt := top 17
abbrev zM : Stmt := top 23
abbrev jJ : Stmt := top 24
abbrev x9 : Stmt := top 25
abbrev xF : Stmt := top 26
abbrev xr : Stmt := top 27
abbrev j6 : Stmt := top 28
abbrev xX : Stmt := top 29
abbrev z7 : Stmt := top 30
abbrev jE : Stmt := top 31
abbrev xT : Stmt := top 32
abbrev xM : Stmt := top 33
abbrev xO : Stmt := top 35
abbrev jK : Stmt := top 36
abbrev xA : Stmt := top 37
abbrev zA : Stmt := top 38
abbrev xY : Stmt := top 39
abbrev j8 : Stmt := top 40
abbrev zT : Stmt := top 41
abbrev zS : Stmt := top 42
abbrev jm : Stmt := top 43
abbrev jx : Stmt := top 44
abbrev jH : Stmt := top 45
abbrev qq : Stmt := top 46
abbrev jk : Stmt := top 47
abbrev xR : Stmt := top 48
abbrev jG : Stmt := top 49
abbrev j5 : Stmt := top 51
abbrev jq : Stmt := top 52
abbrev xN : Stmt := top 53
abbrev qx : Stmt := top 54
abbrev jS : Stmt := top 55
abbrev xw : Stmt := top 56
abbrev jh : Stmt := top 59
abbrev zJ : Stmt := top 60
abbrev xk : Stmt := top 61
abbrev jO : Stmt := top 62
abbrev jv : Stmt := top 63
abbrev zu : Stmt := top 64
abbrev xH : Stmt := top 65
abbrev zD : Stmt := top 66
abbrev zC : Stmt := top 67
abbrev zk : Stmt := top 68
abbrev jB : Stmt := top 69
abbrev j4 : Stmt := top 70
abbrev kZ : Stmt := top 71
abbrev j3 : Stmt := top 77
abbrev zO : Stmt := top 78
abbrev jQ : Stmt := top 79
abbrev qy : Stmt := top 80
abbrev jF : Stmt := top 81
abbrev jg : Stmt := top 82
abbrev jn : Stmt := top 83
abbrev jR : Stmt := top 84
abbrev jw : Stmt := top 85
abbrev zP : Stmt := top 86
abbrev kf : Stmt := top 87
abbrev vK : Stmt := top 88
abbrev z6 : Stmt := top 89
abbrev kD : Stmt := top 90
abbrev zU : Stmt := top 91
abbrev xW : Stmt := top 92
abbrev jT : Stmt := top 94
abbrev je : Stmt := top 95
abbrev jl : Stmt := top 96
abbrev j2 : Stmt := top 97
abbrev j9 : Stmt := top 98
abbrev xC : Stmt := top 99
abbrev xD : Stmt := top 100
abbrev xE : Stmt := top 101
abbrev ji : Stmt := top 102
abbrev xV : Stmt := top 103
abbrev xL : Stmt := top 104
abbrev xB : Stmt := top 105
abbrev xt : Stmt := top 106
abbrev qB2 : Stmt := top 107
theorem wY : qQ ["x"] ["x"] (qC xy) := ⟨rfl, rfl, rfl, by decide +kernel, rfl, by decide +kernel, by decide +kernel⟩
theorem sc_common_divisor : qQ ["one", "other", "rest"] ["one", "other"] (qC qz) := ⟨rfl, rfl, rfl, by decide +kernel, rfl, by decide +kernel, by decide +kernel⟩
theorem qAe : qQ ["x"] ["x"] (qC jp) := ⟨rfl, rfl, rfl, by decide +kernel, rfl, by decide +kernel, by decide +kernel⟩
theorem sc_fraction : qQ ["top", "bottom", "divisor"] ["top", "bottom"] (qC zB) := ⟨rfl, rfl, rfl, by decide +kernel, rfl, by decide +kernel, by decide +kernel⟩
theorem qG4 : qQ ["one", "other"] ["one", "other"] (qC kE) := ⟨rfl, rfl, rfl, by decide +kernel, rfl, by decide +kernel, by decide +kernel⟩
theorem qGo : qQ ["one", "other"] ["one", "other"] (qC zV) := ⟨rfl, rfl, rfl, by decide +kernel, rfl, by decide +kernel, by decide +kernel⟩
theorem qEx : qQ ["one", "other"] ["one", "other"] (qC xu) := ⟨rfl, rfl, rfl, by decide +kernel, rfl, by decide +kernel, by decide +kernel⟩
theorem qEq : qQ ["one", "other"] ["one", "other"] (qC xx) := ⟨rfl, rfl, rfl, by decide +kernel, rfl, by decide +kernel, by decide +kernel⟩
theorem qD8 : qQ ["one", "other"] ["one", "other"] (qC xP) := ⟨rfl, rfl, rfl, by decide +kernel, rfl, by decide +kernel, by decide +kernel⟩
theorem qE9 : qQ ["one"] ["one"] (qC xv) := ⟨rfl, rfl, rfl, by decide +kernel, rfl, by decide +kernel, by decide +kernel⟩
theorem qGn : qQ ["thing"] ["thing"] (qC zM) := ⟨rfl, rfl, rfl, by decide +kernel, rfl, by decide +kernel, by decide +kernel⟩
theorem wC : qQ ["item"] ["item"] (qC jJ) := ⟨rfl, rfl, rfl, by decide +kernel, rfl, by decide +kernel, by decide +kernel⟩
theorem qE3 : qQ ["clip", "k"] ["clip", "k"] (qC x9) := ⟨rfl, rfl, rfl, by decide +kernel, rfl, by decide +kernel, by decide +kernel⟩
theorem qBo : qQ ["clip", "k"] ["clip", "k"] (qC xF) := ⟨rfl, rfl, rfl, by decide +kernel, rfl, by decide +kernel, by decide +kernel⟩
theorem qFc : qQ ["picture", "many"] ["picture", "many"] (qC xr) := ⟨rfl, rfl, rfl, by decide +kernel, rfl, by decide +kernel, by decide +kernel⟩
theorem sc_check_clip : qQ ["item", "reels", "many"] ["item", "reels"] (qC j6) := ⟨rfl, rfl, rfl, by decide +kernel, rfl, by decide +kernel, by decide +kernel⟩
theorem qDp : qQ ["clip", "low", "high"] ["clip", "low", "high"] (qC xX) := ⟨rfl, rfl, rfl, by decide +kernel, rfl, by decide +kernel, by decide +kernel⟩
theorem sc_moments_there : qQ ["first", "step", "many", "room"] ["first", "step", "many"] (qC jE) := ⟨rfl, rfl, rfl, by decide +kernel, rfl, by decide +kernel, by decide +kernel⟩
theorem qC9 : qQ ["clip", "reels"] ["clip", "reels"] (qC xT) := ⟨rfl, rfl, rfl, by decide +kernel, rfl, by decide +kernel, by decide +kernel⟩
theorem qDw : qQ ["clip", "reels"] ["clip", "reels"] (qC xM) := ⟨rfl, rfl, rfl, by decide +kernel, rfl, by decide +kernel, by decide +kernel⟩
theorem qD2 : qQ ["thing"] ["thing"] (qC xO) := ⟨rfl, rfl, rfl, by decide +kernel, rfl, by decide +kernel, by decide +kernel⟩
theorem v0 : qQ ["item"] ["item"] (qC jK) := ⟨rfl, rfl, rfl, by decide +kernel, rfl, by decide +kernel, by decide +kernel⟩
theorem qCe : qQ ["item"] ["item"] (qC xA) := ⟨rfl, rfl, rfl, by decide +kernel, rfl, by decide +kernel, by decide +kernel⟩
theorem sc_one_form : qQ ["some", "track", "waiting", "item"] ["some"] (qC zA) := ⟨rfl, rfl, rfl, by decide +kernel, rfl, by decide +kernel, by decide +kernel⟩
theorem qCy : qQ ["track"] ["track"] (qC xY) := ⟨rfl, rfl, rfl, by decide +kernel, rfl, by decide +kernel, by decide +kernel⟩
theorem sc_borders_of : qQ ["track", "borders", "item"] ["track"] (qC j8) := ⟨rfl, rfl, rfl, by decide +kernel, rfl, by decide +kernel, by decide +kernel⟩
theorem sc_item_at : qQ ["track", "moment", "begin", "place", "item", "end"] ["track", "moment"] (qC zT) := ⟨rfl, rfl, rfl, by decide +kernel, rfl, by decide +kernel, by decide +kernel⟩
theorem qF8 : qQ ["track", "place"] ["track", "place"] (qC zS) := ⟨rfl, rfl, rfl, by decide +kernel, rfl, by decide +kernel, by decide +kernel⟩
theorem qAr : qQ ["track", "place"] ["track", "place"] (qC jm) := ⟨rfl, rfl, rfl, by decide +kernel, rfl, by decide +kernel, by decide +kernel⟩
theorem sc_neighbours_at : qQ ["track", "moment", "found"] ["track", "moment"] (qC jH) := ⟨rfl, rfl, rfl, by decide +kernel, rfl, by decide +kernel, by decide +kernel⟩
theorem sc_clips_at_border : qQ ["track", "moment", "places"] ["track", "moment"] (qC qq) := ⟨rfl, rfl, rfl, by decide +kernel, rfl, by decide +kernel, by decide +kernel⟩
theorem sc_lies_within : qQ ["track", "moment", "found"] ["track", "moment"] (qC jk) := ⟨rfl, rfl, rfl, by decide +kernel, rfl, by decide +kernel, by decide +kernel⟩
theorem qDn : qQ ["item", "low", "high"] ["item", "low", "high"] (qC xR) := ⟨rfl, rfl, rfl, by decide +kernel, rfl, by decide +kernel, by decide +kernel⟩
theorem sc_part_of_track : qQ ["track", "low", "high", "parts", "begin", "item", "end", "first", "last"] ["track", "low", "high"] (qC jG) := ⟨rfl, rfl, rfl, by decide +kernel, rfl, by decide +kernel, by decide +kernel⟩
theorem qBc : qQ ["length"] ["length"] (qC j5) := ⟨rfl, rfl, rfl, by decide +kernel, rfl, by decide +kernel, by decide +kernel⟩
theorem qAn : qQ ["length"] ["length"] (qC jq) := ⟨rfl, rfl, rfl, by decide +kernel, rfl, by decide +kernel, by decide +kernel⟩
theorem sc_mix_spans : qQ ["track", "spans", "border", "item"] ["track"] (qC xN) := ⟨rfl, rfl, rfl, by decide +kernel, rfl, by decide +kernel, by decide +kernel⟩
theorem vP : qQ ["track", "place"] ["track", "place"] (qC qx) := ⟨rfl, rfl, rfl, by decide +kernel, rfl, by decide +kernel, by decide +kernel⟩
theorem wR : qQ ["track", "place"] ["track", "place"] (qC jS) := ⟨rfl, rfl, rfl, by decide +kernel, rfl, by decide +kernel, by decide +kernel⟩
theorem sc_most_mix : qQ ["track", "moment", "reels", "places", "ahead", "behind", "most_ahead", "most_behind"] ["track", "moment", "reels"] (qC xw) := ⟨rfl, rfl, rfl, by decide +kernel, rfl, by decide +kernel, by decide +kernel⟩
theorem wv : qQ ["table", "number", "moment"] ["table", "number", "moment"] (qC jh) := ⟨rfl, rfl, rfl, by decide +kernel, rfl, by decide +kernel, by decide +kernel⟩
theorem sc_table_with : qQ ["table", "number", "track", "tracks"] ["table", "number", "track"] (qC j4) := ⟨rfl, rfl, rfl, by decide +kernel, rfl, by decide +kernel, by decide +kernel⟩
theorem qA9 : qQ ["deed"] ["deed"] (qC j3) := ⟨rfl, rfl, rfl, by decide +kernel, rfl, by decide +kernel, by decide +kernel⟩
theorem qGl : qQ ["deed"] ["deed"] (qC zO) := ⟨rfl, rfl, rfl, by decide +kernel, rfl, by decide +kernel, by decide +kernel⟩
theorem wV : qQ ["deed"] ["deed"] (qC jQ) := ⟨rfl, rfl, rfl, by decide +kernel, rfl, by decide +kernel, by decide +kernel⟩
theorem vT : qQ ["table", "deed"] ["table", "deed"] (qC qy) := ⟨rfl, rfl, rfl, by decide +kernel, rfl, by decide +kernel, by decide +kernel⟩
theorem wE : qQ ["deed"] ["deed"] (qC jF) := ⟨rfl, rfl, rfl, by decide +kernel, rfl, by decide +kernel, by decide +kernel⟩
theorem sc_touches_mix : qQ ["track", "low", "high", "span"] ["track", "low", "high"] (qC jg) := ⟨rfl, rfl, rfl, by decide +kernel, rfl, by decide +kernel, by decide +kernel⟩
theorem sc_check_mixes : qQ ["table", "deed", "stretch", "number"] ["table", "deed"] (qC jn) := ⟨rfl, rfl, rfl, by decide +kernel, rfl, by decide +kernel, by decide +kernel⟩
theorem wP : qQ ["table", "deed", "reels"] ["table", "deed", "reels"] (qC jR) := ⟨rfl, rfl, rfl, by decide +kernel, rfl, by decide +kernel, by decide +kernel⟩
theorem sc_mixed : qQ ["table", "deed", "reels", "track", "places", "most"] ["table", "deed", "reels"] (qC vK) := ⟨rfl, rfl, rfl, by decide +kernel, rfl, by decide +kernel, by decide +kernel⟩
theorem sc_relaid : qQ ["track", "low", "high", "laid", "filling"] ["track", "low", "high", "laid"] (qC kD) := ⟨rfl, rfl, rfl, by decide +kernel, rfl, by decide +kernel, by decide +kernel⟩
theorem sc_changed : qQ ["table", "deed", "stretch", "told", "number", "laid"] ["table", "deed"] (qC zU) := ⟨rfl, rfl, rfl, by decide +kernel, rfl, by decide +kernel, by decide +kernel⟩
theorem qC3 : qQ ["table", "deed", "reels"] ["table", "deed", "reels"] (qC xW) := ⟨rfl, rfl, rfl, by decide +kernel, rfl, by decide +kernel, by decide +kernel⟩
theorem wm : qQ ["_law_script", "_law_k"] ["_law_script", "_law_k"] (qC jT) := ⟨rfl, rfl, rfl, by decide +kernel, rfl, by decide +kernel, by decide +kernel⟩
theorem sc__law_stream : qQ ["_law_cell", "_law_size", "_law_found", "_law_rest", "_law_k", "_law_number"] ["_law_cell", "_law_size"] (qC je) := ⟨rfl, rfl, rfl, by decide +kernel, rfl, by decide +kernel, by decide +kernel⟩
theorem sc__law_lowest : qQ ["_law_top", "_law_bottom", "_law_one", "_law_other_here"] ["_law_top", "_law_bottom"] (qC jl) := ⟨rfl, rfl, rfl, by decide +kernel, rfl, by decide +kernel, by decide +kernel⟩
theorem sc__law_clip : qQ ["_law_xs", "_law_reels_here", "_law_size", "_law_reel", "_law_length", "_law_top", "_law_bottom", "_law_far", "_law_low", "_law_rest", "_law_start"] ["_law_xs", "_law_reels_here", "_law_size"] (qC j2) := ⟨rfl, rfl, rfl, by decide +kernel, rfl, by decide +kernel, by decide +kernel⟩
theorem sc__law_track : qQ ["_law_xs", "_law_reels_here", "_law_size", "_law_track_here", "_law_k", "_law_form"] ["_law_xs", "_law_reels_here", "_law_size"] (qC j9) := ⟨rfl, rfl, rfl, by decide +kernel, rfl, by decide +kernel, by decide +kernel⟩
theorem qBp : qQ ["_law_cell"] ["_law_cell"] (qC xC) := ⟨rfl, rfl, rfl, by decide +kernel, rfl, by decide +kernel, by decide +kernel⟩
theorem sc__law_mixed : qQ ["_law_table_here", "_law_reels_here", "_law_cell", "_law_number", "_law_moment", "_law_most"] ["_law_table_here", "_law_reels_here", "_law_cell"] (qC xD) := ⟨rfl, rfl, rfl, by decide +kernel, rfl, by decide +kernel, by decide +kernel⟩
theorem sc__law_table : qQ ["_law_cell", "_law_reels_here", "_law_tracks", "_law_size", "_law_xs", "_law_tied", "_law_table_here"] ["_law_cell", "_law_reels_here", "_law_tracks", "_law_size"] (qC xE) := ⟨rfl, rfl, rfl, by decide +kernel, rfl, by decide +kernel, by decide +kernel⟩
theorem qAf : qQ ["_law_table_here"] ["_law_table_here"] (qC ji) := ⟨rfl, rfl, rfl, by decide +kernel, rfl, by decide +kernel, by decide +kernel⟩
theorem sc__law_deed : qQ ["_law_xs", "_law_number", "_law_reels_here", "_law_last", "_law_word", "_law_moment", "_law_length", "_law_item"] ["_law_xs", "_law_number", "_law_reels_here", "_law_last"] (qC xV) := ⟨rfl, rfl, rfl, by decide +kernel, rfl, by decide +kernel, by decide +kernel⟩
theorem sc__law_done : qQ ["_law_table_here", "_law_deed_here", "_law_reels_here", "_law_found"] ["_law_table_here", "_law_deed_here", "_law_reels_here"] (qC xL) := ⟨rfl, rfl, rfl, by decide +kernel, rfl, by decide +kernel, by decide +kernel⟩
theorem qBh : qQ ["_law_deed_here", "_law_number"] ["_law_deed_here", "_law_number"] (qC xB) := ⟨rfl, rfl, rfl, by decide +kernel, rfl, by decide +kernel, by decide +kernel⟩
theorem sc__law_due : qQ ["_law_table_here", "_law_deed_here", "_law_reels_here", "_law_tracks", "_law_number", "_law_found"] ["_law_table_here", "_law_deed_here", "_law_reels_here"] (qC xt) := ⟨rfl, rfl, rfl, by decide +kernel, rfl, by decide +kernel, by decide +kernel⟩
theorem sc_law : qQ ["_law_script", "_law_reels_here", "_law_table_here", "_law_copy", "_law_cell", "_law_xs", "_law_number", "_law_last", "_law_deed_here", "_law_found", "_law_track_here", "_law_due_here"] ["_law_script"] (qC qB2) := ⟨rfl, rfl, rfl, by decide +kernel, rfl, by decide +kernel, by decide +kernel⟩
abbrev kC : Stmt := qKk (top 6) 0
theorem qHr : qQ ["self", "most"] ["self", "most"] (qC kC) := ⟨rfl, rfl, rfl, by decide +kernel, rfl, by decide +kernel, by decide +kernel⟩
set_option genInjectivity false
set_option genSizeOf false
structure Ads where
  a_is_whole : Addr
  f_is_whole : FuncData
  a_common_divisor : Addr
  f_common_divisor : FuncData
  a_is_fraction : Addr
  f_is_fraction : FuncData
  a_fraction : Addr
  f_fraction : FuncData
  a_sum_of : Addr
  f_sum_of : FuncData
  a_less_by : Addr
  f_less_by : FuncData
  a_times_of : Addr
  f_times_of : FuncData
  a_quotient : Addr
  f_quotient : FuncData
  a_is_before : Addr
  f_is_before : FuncData
  a_floor_of : Addr
  f_floor_of : FuncData
  a_is_name : Addr
  f_is_name : FuncData
  a_has_clip_form : Addr
  f_has_clip_form : FuncData
  a_place_at : Addr
  f_place_at : FuncData
  a_picture_at : Addr
  f_picture_at : FuncData
  a_is_there : Addr
  f_is_there : FuncData
  a_check_clip : Addr
  f_check_clip : FuncData
  a_clip_part : Addr
  f_clip_part : FuncData
  a_goes_on : Addr
  f_goes_on : FuncData
  a_moments_there : Addr
  f_moments_there : FuncData
  a_head_room : Addr
  f_head_room : FuncData
  a_tail_room : Addr
  f_tail_room : FuncData
  a_is_length : Addr
  f_is_length : FuncData
  a_has_nest_form : Addr
  f_has_nest_form : FuncData
  a_moments_of : Addr
  f_moments_of : FuncData
  a_one_form : Addr
  f_one_form : FuncData
  a_length_of : Addr
  f_length_of : FuncData
  a_borders_of : Addr
  f_borders_of : FuncData
  a_item_at : Addr
  f_item_at : FuncData
  a_kind_at : Addr
  f_kind_at : FuncData
  a_place_ahead : Addr
  f_place_ahead : FuncData
  a_place_behind : Addr
  f_place_behind : FuncData
  a_neighbours_at : Addr
  f_neighbours_at : FuncData
  a_clips_at_border : Addr
  f_clips_at_border : FuncData
  a_lies_within : Addr
  f_lies_within : FuncData
  a_item_part : Addr
  f_item_part : FuncData
  a_part_of_track : Addr
  f_part_of_track : FuncData
  a_part_ahead : Addr
  f_part_ahead : FuncData
  a_part_behind : Addr
  f_part_behind : FuncData
  a_mix_spans : Addr
  f_mix_spans : FuncData
  a_taken_at_begin : Addr
  f_taken_at_begin : FuncData
  a_taken_at_end : Addr
  f_taken_at_end : FuncData
  a_most_mix : Addr
  f_most_mix : FuncData
  a_check_place : Addr
  f_check_place : FuncData
  a_check_by : Addr
  f_check_by : FuncData
  a_clip_there : Addr
  f_clip_there : FuncData
  a_clip_and_sides : Addr
  f_clip_and_sides : FuncData
  a_places_named : Addr
  f_places_named : FuncData
  a_has_mix : Addr
  f_has_mix : FuncData
  a_check_short : Addr
  f_check_short : FuncData
  a_most_slip : Addr
  f_most_slip : FuncData
  a_most_roll : Addr
  f_most_roll : FuncData
  a_slipped : Addr
  f_slipped : FuncData
  a_with_rolled_ends : Addr
  f_with_rolled_ends : FuncData
  a_table_with : Addr
  f_table_with : FuncData
  a_rolled : Addr
  f_rolled : FuncData
  a_stretch_of : Addr
  f_stretch_of : FuncData
  a_laid_by : Addr
  f_laid_by : FuncData
  a_laid_on_tied : Addr
  f_laid_on_tied : FuncData
  a_tracks_changed : Addr
  f_tracks_changed : FuncData
  a_check_numbers : Addr
  f_check_numbers : FuncData
  a_touches_mix : Addr
  f_touches_mix : FuncData
  a_check_mixes : Addr
  f_check_mixes : FuncData
  a_check_change : Addr
  f_check_change : FuncData
  a_nest_goes_on : Addr
  f_nest_goes_on : FuncData
  a_can_heal : Addr
  f_can_heal : FuncData
  a_healed : Addr
  f_healed : FuncData
  a_mixed : Addr
  f_mixed : FuncData
  a_unmixed : Addr
  f_unmixed : FuncData
  a_relaid : Addr
  f_relaid : FuncData
  a_changed : Addr
  f_changed : FuncData
  a_deed_done : Addr
  f_deed_done : FuncData
  a__law_cell_at : Addr
  f__law_cell_at : FuncData
  a__law_stream : Addr
  f__law_stream : FuncData
  a__law_lowest : Addr
  f__law_lowest : FuncData
  a__law_clip : Addr
  f__law_clip : FuncData
  a__law_track : Addr
  f__law_track : FuncData
  a__law_reels : Addr
  f__law_reels : FuncData
  a__law_mixed : Addr
  f__law_mixed : FuncData
  a__law_table : Addr
  f__law_table : FuncData
  a__law_copied : Addr
  f__law_copied : FuncData
  a__law_deed : Addr
  f__law_deed : FuncData
  a__law_done : Addr
  f__law_done : FuncData
  a__law_other : Addr
  f__law_other : FuncData
  a__law_due : Addr
  f__law_due : FuncData
  a_law : Addr
  f_law : FuncData
  k_CutError : Addr
  k_NoNumber : Addr
  k_NoClip : Addr
  k_NoPlace : Addr
  k_Mixed : Addr
  k_Short : Addr
  t_LETTERS : Tok
  t_LONGEST_NAME : Tok
  t_MOST_ROOM : Tok
  n_NOUGHT : Addr
  t_MOST_BY : Tok
  n_ROLLS : Addr
  n_LAYS : Addr
  n_PUSHES : Addr
  n_CHANGES : Addr
  fi_Short : Addr
  gi_Short : FuncData
structure Tx (K : PySem.W.Frag) (mg : Str → Option Value) (a : Ads) : Prop where
  d_is_whole : L3.Def K mg "is_whole" xy ["x"] a.a_is_whole a.f_is_whole
  d_common_divisor : L3.Def K mg "common_divisor" qz ["one", "other"] a.a_common_divisor a.f_common_divisor
  d_is_fraction : L3.Def K mg "is_fraction" jp ["x"] a.a_is_fraction a.f_is_fraction
  d_fraction : L3.Def K mg "fraction" zB ["top", "bottom"] a.a_fraction a.f_fraction
  d_sum_of : L3.Def K mg "sum_of" kE ["one", "other"] a.a_sum_of a.f_sum_of
  d_less_by : L3.Def K mg "less_by" zV ["one", "other"] a.a_less_by a.f_less_by
  d_times_of : L3.Def K mg "times_of" xu ["one", "other"] a.a_times_of a.f_times_of
  d_quotient : L3.Def K mg "quotient" xx ["one", "other"] a.a_quotient a.f_quotient
  d_is_before : L3.Def K mg "is_before" xP ["one", "other"] a.a_is_before a.f_is_before
  d_floor_of : L3.Def K mg "floor_of" xv ["one"] a.a_floor_of a.f_floor_of
  d_is_name : L3.Def K mg "is_name" zM ["thing"] a.a_is_name a.f_is_name
  d_has_clip_form : L3.Def K mg "has_clip_form" jJ ["item"] a.a_has_clip_form a.f_has_clip_form
  d_place_at : L3.Def K mg "place_at" x9 ["clip", "k"] a.a_place_at a.f_place_at
  d_picture_at : L3.Def K mg "picture_at" xF ["clip", "k"] a.a_picture_at a.f_picture_at
  d_is_there : L3.Def K mg "is_there" xr ["picture", "many"] a.a_is_there a.f_is_there
  d_check_clip : L3.Def K mg "check_clip" j6 ["item", "reels"] a.a_check_clip a.f_check_clip
  d_clip_part : L3.Def K mg "clip_part" xX ["clip", "low", "high"] a.a_clip_part a.f_clip_part
  d_goes_on : L3.Def K mg "goes_on" z7 ["one", "other"] a.a_goes_on a.f_goes_on
  d_moments_there : L3.Def K mg "moments_there" jE ["first", "step", "many"] a.a_moments_there a.f_moments_there
  d_head_room : L3.Def K mg "head_room" xT ["clip", "reels"] a.a_head_room a.f_head_room
  d_tail_room : L3.Def K mg "tail_room" xM ["clip", "reels"] a.a_tail_room a.f_tail_room
  d_is_length : L3.Def K mg "is_length" xO ["thing"] a.a_is_length a.f_is_length
  d_has_nest_form : L3.Def K mg "has_nest_form" jK ["item"] a.a_has_nest_form a.f_has_nest_form
  d_moments_of : L3.Def K mg "moments_of" xA ["item"] a.a_moments_of a.f_moments_of
  d_one_form : L3.Def K mg "one_form" zA ["some"] a.a_one_form a.f_one_form
  d_length_of : L3.Def K mg "length_of" xY ["track"] a.a_length_of a.f_length_of
  d_borders_of : L3.Def K mg "borders_of" j8 ["track"] a.a_borders_of a.f_borders_of
  d_item_at : L3.Def K mg "item_at" zT ["track", "moment"] a.a_item_at a.f_item_at
  d_kind_at : L3.Def K mg "kind_at" zS ["track", "place"] a.a_kind_at a.f_kind_at
  d_place_ahead : L3.Def K mg "place_ahead" jm ["track", "place"] a.a_place_ahead a.f_place_ahead
  d_place_behind : L3.Def K mg "place_behind" jx ["track", "place"] a.a_place_behind a.f_place_behind
  d_neighbours_at : L3.Def K mg "neighbours_at" jH ["track", "moment"] a.a_neighbours_at a.f_neighbours_at
  d_clips_at_border : L3.Def K mg "clips_at_border" qq ["track", "moment"] a.a_clips_at_border a.f_clips_at_border
  d_lies_within : L3.Def K mg "lies_within" jk ["track", "moment"] a.a_lies_within a.f_lies_within
  d_item_part : L3.Def K mg "item_part" xR ["item", "low", "high"] a.a_item_part a.f_item_part
  d_part_of_track : L3.Def K mg "part_of_track" jG ["track", "low", "high"] a.a_part_of_track a.f_part_of_track
  d_part_ahead : L3.Def K mg "part_ahead" j5 ["length"] a.a_part_ahead a.f_part_ahead
  d_part_behind : L3.Def K mg "part_behind" jq ["length"] a.a_part_behind a.f_part_behind
  d_mix_spans : L3.Def K mg "mix_spans" xN ["track"] a.a_mix_spans a.f_mix_spans
  d_taken_at_begin : L3.Def K mg "taken_at_begin" qx ["track", "place"] a.a_taken_at_begin a.f_taken_at_begin
  d_taken_at_end : L3.Def K mg "taken_at_end" jS ["track", "place"] a.a_taken_at_end a.f_taken_at_end
  d_most_mix : L3.Def K mg "most_mix" xw ["track", "moment", "reels"] a.a_most_mix a.f_most_mix
  d_check_place : L3.Def K mg "check_place" jh ["table", "number", "moment"] a.a_check_place a.f_check_place
  d_check_by : L3.Def K mg "check_by" zJ ["by"] a.a_check_by a.f_check_by
  d_clip_there : L3.Def K mg "clip_there" xk ["track", "moment"] a.a_clip_there a.f_clip_there
  d_clip_and_sides : L3.Def K mg "clip_and_sides" jO ["track", "moment"] a.a_clip_and_sides a.f_clip_and_sides
  d_places_named : L3.Def K mg "places_named" jv ["track", "deed"] a.a_places_named a.f_places_named
  d_has_mix : L3.Def K mg "has_mix" zu ["track", "place"] a.a_has_mix a.f_has_mix
  d_check_short : L3.Def K mg "check_short" xH ["most", "by"] a.a_check_short a.f_check_short
  d_most_slip : L3.Def K mg "most_slip" zD ["clip", "by", "reels"] a.a_most_slip a.f_most_slip
  d_most_roll : L3.Def K mg "most_roll" zC ["left", "right", "by", "reels"] a.a_most_roll a.f_most_roll
  d_slipped : L3.Def K mg "slipped" zk ["track", "place", "by", "reels"] a.a_slipped a.f_slipped
  d_with_rolled_ends : L3.Def K mg "with_rolled_ends" jB ["track", "first", "last", "by", "reels"] a.a_with_rolled_ends a.f_with_rolled_ends
  d_table_with : L3.Def K mg "table_with" j4 ["table", "number", "track"] a.a_table_with a.f_table_with
  d_rolled : L3.Def K mg "rolled" kZ ["table", "deed", "reels"] a.a_rolled a.f_rolled
  d_stretch_of : L3.Def K mg "stretch_of" j3 ["deed"] a.a_stretch_of a.f_stretch_of
  d_laid_by : L3.Def K mg "laid_by" zO ["deed"] a.a_laid_by a.f_laid_by
  d_laid_on_tied : L3.Def K mg "laid_on_tied" jQ ["deed"] a.a_laid_on_tied a.f_laid_on_tied
  d_tracks_changed : L3.Def K mg "tracks_changed" qy ["table", "deed"] a.a_tracks_changed a.f_tracks_changed
  d_check_numbers : L3.Def K mg "check_numbers" jF ["deed"] a.a_check_numbers a.f_check_numbers
  d_touches_mix : L3.Def K mg "touches_mix" jg ["track", "low", "high"] a.a_touches_mix a.f_touches_mix
  d_check_mixes : L3.Def K mg "check_mixes" jn ["table", "deed"] a.a_check_mixes a.f_check_mixes
  d_check_change : L3.Def K mg "check_change" jR ["table", "deed", "reels"] a.a_check_change a.f_check_change
  d_nest_goes_on : L3.Def K mg "nest_goes_on" jw ["one", "other"] a.a_nest_goes_on a.f_nest_goes_on
  d_can_heal : L3.Def K mg "can_heal" zP ["track", "places"] a.a_can_heal a.f_can_heal
  d_healed : L3.Def K mg "healed" kf ["table", "deed"] a.a_healed a.f_healed
  d_mixed : L3.Def K mg "mixed" vK ["table", "deed", "reels"] a.a_mixed a.f_mixed
  d_unmixed : L3.Def K mg "unmixed" z6 ["table", "deed"] a.a_unmixed a.f_unmixed
  d_relaid : L3.Def K mg "relaid" kD ["track", "low", "high", "laid"] a.a_relaid a.f_relaid
  d_changed : L3.Def K mg "changed" zU ["table", "deed"] a.a_changed a.f_changed
  d_deed_done : L3.Def K mg "deed_done" xW ["table", "deed", "reels"] a.a_deed_done a.f_deed_done
  d__law_cell_at : L3.Def K mg "_law_cell_at" jT ["_law_script", "_law_k"] a.a__law_cell_at a.f__law_cell_at
  d__law_stream : L3.Def K mg "_law_stream" je ["_law_cell", "_law_size"] a.a__law_stream a.f__law_stream
  d__law_lowest : L3.Def K mg "_law_lowest" jl ["_law_top", "_law_bottom"] a.a__law_lowest a.f__law_lowest
  d__law_clip : L3.Def K mg "_law_clip" j2 ["_law_xs", "_law_reels_here", "_law_size"] a.a__law_clip a.f__law_clip
  d__law_track : L3.Def K mg "_law_track" j9 ["_law_xs", "_law_reels_here", "_law_size"] a.a__law_track a.f__law_track
  d__law_reels : L3.Def K mg "_law_reels" xC ["_law_cell"] a.a__law_reels a.f__law_reels
  d__law_mixed : L3.Def K mg "_law_mixed" xD ["_law_table_here", "_law_reels_here", "_law_cell"] a.a__law_mixed a.f__law_mixed
  d__law_table : L3.Def K mg "_law_table" xE ["_law_cell", "_law_reels_here", "_law_tracks", "_law_size"] a.a__law_table a.f__law_table
  d__law_copied : L3.Def K mg "_law_copied" ji ["_law_table_here"] a.a__law_copied a.f__law_copied
  d__law_deed : L3.Def K mg "_law_deed" xV ["_law_xs", "_law_number", "_law_reels_here", "_law_last"] a.a__law_deed a.f__law_deed
  d__law_done : L3.Def K mg "_law_done" xL ["_law_table_here", "_law_deed_here", "_law_reels_here"] a.a__law_done a.f__law_done
  d__law_other : L3.Def K mg "_law_other" xB ["_law_deed_here", "_law_number"] a.a__law_other a.f__law_other
  d__law_due : L3.Def K mg "_law_due" xt ["_law_table_here", "_law_deed_here", "_law_reels_here"] a.a__law_due a.f__law_due
  d_law : L3.Def K mg "law" qB2 ["_law_script"] a.a_law a.f_law
  c_CutError : mg "CutError" = some (.ref a.k_CutError)
  c_NoNumber : mg "NoNumber" = some (.ref a.k_NoNumber)
  c_NoClip : mg "NoClip" = some (.ref a.k_NoClip)
  c_NoPlace : mg "NoPlace" = some (.ref a.k_NoPlace)
  c_Mixed : mg "Mixed" = some (.ref a.k_Mixed)
  c_Short : mg "Short" = some (.ref a.k_Short)
  b_isinstance : mg "isinstance" = none
  b_int : mg "int" = none
  b_bool : mg "bool" = none
  b_abs : mg "abs" = none
  b_tuple : mg "tuple" = none
  b_len : mg "len" = none
  b_all : mg "all" = none
  b_str : mg "str" = none
  b_min : mg "min" = none
  b_sum : mg "sum" = none
  b_enumerate : mg "enumerate" = none
  b_max : mg "max" = none
  b_list : mg "list" = none
  b_any : mg "any" = none
  b_range : mg "range" = none
  g_LETTERS : mg "LETTERS" = some (.str "abcdefghijklmnopqrstuvwxyz" a.t_LETTERS)
  g_LONGEST_NAME : mg "LONGEST_NAME" = some (.int 8 a.t_LONGEST_NAME)
  g_MOST_ROOM : mg "MOST_ROOM" = some (.int 1000000 a.t_MOST_ROOM)
  g_NOUGHT : mg "NOUGHT" = some (.ref a.n_NOUGHT)
  sq_NOUGHT : ∀ H, SqT K H a.n_NOUGHT [.int 0, .int 1]
  g_MOST_BY : mg "MOST_BY" = some (.int 1000000 a.t_MOST_BY)
  g_ROLLS : mg "ROLLS" = some (.ref a.n_ROLLS)
  sq_ROLLS : ∀ H, SqT K H a.n_ROLLS [.str "roll", .str "slip", .str "slide"]
  g_LAYS : mg "LAYS" = some (.ref a.n_LAYS)
  sq_LAYS : ∀ H, SqT K H a.n_LAYS [.str "lay_in", .str "lay_over"]
  g_PUSHES : mg "PUSHES" = some (.ref a.n_PUSHES)
  sq_PUSHES : ∀ H, SqT K H a.n_PUSHES [.str "lay_in", .str "open", .str "close"]
  g_CHANGES : mg "CHANGES" = some (.ref a.n_CHANGES)
  sq_CHANGES : ∀ H, SqT K H a.n_CHANGES [.str "cut", .str "lay_in", .str "open", .str "close", .str "lift", .str "lay_over"]
  x_NoClip : L3.OwnX K a.k_NoClip
  x_NoPlace : L3.OwnX K a.k_NoPlace
  x_Mixed : L3.OwnX K a.k_Mixed
  yMM : PySem.W.exmOne K (.ref a.k_Mixed) (.ref a.k_Mixed) = some true
  yPM : PySem.W.exmOne K (.ref a.k_NoPlace) (.ref a.k_Mixed) = some false
  yPP : PySem.W.exmOne K (.ref a.k_NoPlace) (.ref a.k_NoPlace) = some true
  i_Short : Fun K "__init__" "Short.__init__" kC a.fi_Short a.gi_Short
  ib_Short : Binds K a.gi_Short ["self", "most"] []
  m_Short : L3.XMk K a.k_Short a.k_CutError a.fi_Short
  tk_Short : PySem.W.takerIn K a.k_Short "most" = some none
def qJe (K : PySem.W.Frag) : Sp := fun vs H Q _ => ∃ (a : Addr) (ns : List Int), vs = [.ref a] ∧ SqL K H a (ns.map V.int) ∧ ns.length ≤ 63 ∧ ∀ H', Q (.bl true) H'
def qIl (H : Hp) (Q : VK) (p q : Int) : Prop := ∀ z, H z = none → Q (.ref z) (upd H z (.tup [.int p, .int q]))
theorem jo {CX : CXT} {P : Program} {w : World} {K : PySem.W.Frag} {mg : Str → Option Value} {base : Heap} {ns : List Str} {n : Str} {sc : Scope} {ad : Addr} {cdv : Value} {A : Around} {outer : List Env} {s : Shared} {H : Hp} {E : XK} : (qIi CX P w K mg base ns n sc ad cdv A outer s H E).K = K := rfl
theorem qi {CX : CXT} {P : Program} {w : World} {K : PySem.W.Frag} {mg : Str → Option Value} {base : Heap} {ns : List Str} {n : Str} {sc : Scope} {ad : Addr} {cdv : Value} {A : Around} {outer : List Env} {s : Shared} {H : Hp} {E : XK} : (qIi CX P w K mg base ns n sc ad cdv A outer s H E).nox.K = K := rfl
theorem sL0 : (0 : Nat) ≤ sizeLine := by decide
theorem sL1 : (1 : Nat) ≤ sizeLine := by decide
theorem sL2 : (2 : Nat) ≤ sizeLine := by decide
theorem sL3 : (3 : Nat) ≤ sizeLine := by decide
theorem sL4 : (4 : Nat) ≤ sizeLine := by decide
theorem sL5 : (5 : Nat) ≤ sizeLine := by decide
theorem glt {α : Type} {xs : List α} {i : Nat} {x : α} (h : xs[i]? = some x) : i < xs.length := (List.getElem?_eq_some_iff.mp h).1
theorem ixT {K : PySem.W.Frag} {σ : St} {H : Hp} {p : Addr} {xs : List V} {i : Int} {v : V} {Q : VK} (h : SqT K H p xs) (a : atI xs i = some v) (q : Q v H) : tC (.int i) σ H (fun y H2 => qMx K (.ref p) y H2 Q) := ⟨p, xs, i, v, rfl, rfl, h, a, q⟩
theorem qZ {K : PySem.W.Frag} {σ : St} {H : Hp} {p : Addr} {xs : List V} {i : Int} {v : V} {Q : VK} {j : Nat} (e : σ[j]? = some (some (.ref p))) (h : SqT K H p xs) (a : atI xs i = some v) (q : Q v H) : tOp (qMx K) (qN4 j) (tC (.int i)) σ H Q := ⟨.ref p, e, p, xs, i, v, rfl, rfl, h, a, q⟩
section
variable {P : Program} {w : World} {K : W.Frag} {mg : Str → Option Value} {base : Heap} {a : Ads}
def qEh : Sp := fun vs H Q _ => ∃ i : Int, vs = [.int i] ∧ Q (.bl true) H
theorem wo (T : Tx K mg a) : FnOk P w K mg base CX0 1 a.a_is_whole a.f_is_whole ["x"] qEh := by
  refine T.d_is_whole.F.ok wY (fun vs H Q E h => ?_) (fun cdv A outer s H vs Q E hr h => ?_)
  · obtain ⟨i, rfl, _⟩ := h
    rfl
  obtain ⟨i, rfl, q⟩ := h
  refine ⟨_, (qG (qP (kM (qd jd rfl T.b_isinstance rfl (qA (pv 0) (qA (qDv rfl T.b_int rfl) qE))) (vi (qJq (qd jd rfl T.b_isinstance rfl (qA (pv 0) (qA (qDv rfl T.b_bool rfl) qE)))))))), ?_⟩
  try dsimp only [jo, qi]
  refine ⟨_, rfl, _, _, _, true, rfl, .int i, ⟨_, .inl ⟨rfl, rfl⟩⟩, true, rfl, qr ?_⟩
  refine ⟨_, rfl, _, _, _, false, rfl, .int i, ⟨_, .inl ⟨rfl, by kernel_rfl⟩⟩, false, rfl, ?_⟩
  exact q
def vQ : Sp := fun vs H Q _ => ∃ i j : Int, vs = [.int i, .int j] ∧ Q (.int ((Int.gcd i j : Nat) : Int)) H
theorem zL (T : Tx K mg a) : FnOk P w K mg base CX0 1 a.a_common_divisor a.f_common_divisor ["one", "other"] vQ := by
  refine T.d_common_divisor.F.ok sc_common_divisor (fun vs H Q E h => ?_) (fun cdv A outer s H vs Q E hr h => ?_)
  · obtain ⟨i, j, rfl, _⟩ := h
    rfl
  obtain ⟨i, j, rfl, q⟩ := h
  refine ⟨_, (qF (qF3 PassesOwn.never (qL z8 (pv 1) qB (qU _)) (qF (qV (i := 2) sc_common_divisor.nd rfl (Or.inl rfl) (qO qj (pv 0) (pv 1)))
      (qF (qV (i := 0) sc_common_divisor.nd rfl (Or.inl rfl) (pv 1))
      (qG (qV (i := 1) sc_common_divisor.nd rfl (Or.inl rfl) (pv 2))))))
      (qG (qP (qd qBr rfl T.b_abs rfl (qA (pv 0) qE))))), ?_⟩
  try dsimp only [jo, qi]
  refine qFu (fun σ H' => H' = H ∧ ∃ (x y : Int) (v : Option V), σ = [some (.int x), some (.int y), v] ∧ Int.gcd x y = Int.gcd i j)
    (fun σ _ => match σ with | [_, some (.int y), _] => y.natAbs | _ => 0) ⟨rfl, i, j, none, rfl, rfl⟩ ?_ ?_
  · rintro σ H1 ⟨rfl, x, y, v, rfl, e⟩
    refine ⟨_, rfl, rfl, _, rfl, ?_⟩
    refine xo (fun c => ?_) (fun c => ?_)
    · have hy : y ≠ 0 := by simpa using c
      refine ⟨_, rfl, _, rfl, _, _, rfl, rfl, hy, _, rfl, _, rfl, ⟨rfl, y, x.fmod y, _, rfl, ?_⟩, ?_⟩
      · rw [qF2]; exact e
      · exact qHt x y hy
    · have hy : y = 0 := by simpa using c
      subst hy
      refine ⟨_, rfl, x, rfl, ?_⟩
      have e2 : (if x < 0 then -x else x) = ((Int.gcd i j : Nat) : Int) := by
        rw [← e, Int.gcd_zero_right]
        split <;> omega
      rw [e2]
      exact q
  · rintro σ H1 Q1 Q2 hq h
    obtain ⟨v, e, s, k, hk, z⟩ := h
    exact ⟨v, e, s, k, hk, hq _ _ z⟩
theorem qFn {t b : Int} (h : b ≠ 0) (hb : b.natAbs < 2 ^ 8000) : CDivB t (sg t b) ∧ CDivB b (sg t b) := by
  have h1 := qM0 (t := t) h
  have h2 : (sg t b).natAbs < 2 ^ 8000 := by
    rw [qFt]
    exact Nat.lt_of_le_of_lt (Nat.le_of_dvd (by omega) (Int.gcd_dvd_natAbs_right ..)) hb
  exact ⟨⟨h1, h2⟩, ⟨h1, h2⟩⟩
def qEl : Sp := fun vs H Q _ => ∃ t b : Int, vs = [.int t, .int b] ∧ b ≠ 0 ∧ b.natAbs < 2 ^ 8000 ∧ qIl H Q (xG t b) (jW t b)
theorem xQ (T : Tx K mg a) : FnOk P w K mg base CX0 2 a.a_fraction a.f_fraction ["top", "bottom"] qEl := by
  refine T.d_fraction.F.ok sc_fraction (fun vs H Q E h => ?_) (fun cdv A outer s H vs Q E hr h => ?_)
  · obtain ⟨t, b, rfl, _⟩ := h
    rfl
  obtain ⟨t, b, rfl, hb, hs, q⟩ := h
  refine ⟨_, (qF (qh (PW.pt (xh (jr (jP (qN T.d_is_whole (wo T) hr rfl (qA (pv 0) qE)))) (jc (jr (jP (qN T.d_is_whole (wo T) hr rfl (qA (pv 1) qE))))))) zh qS)
      (qF (qh (qL xj (pv 1) qB (qU _)) zh qS)
      (qF (qV (i := 2) sc_fraction.nd rfl (Or.inl rfl) (qN T.d_common_divisor (zL T) hr rfl (qA (pv 0) (qA (pv 1) qE))))
      (qF (qh (qL kH (pv 1) qB (qU _)) (qG (qV (i := 2) sc_fraction.nd rfl (Or.inl rfl) (qAh kO (pv 2)))) qS)
      (qG (qP (ql (qA (qO qf (pv 0) (pv 2)) (qA (qO qf (pv 1) (pv 2)) qE))))))))), ?_⟩
  try dsimp only [jo, qi]
  refine ⟨_, rfl, t, rfl, true, rfl, qk ?_⟩
  refine ⟨_, rfl, b, rfl, true, rfl, qk ?_⟩
  refine ⟨_, rfl, rfl, _, rfl, ?_⟩
  refine xo (fun c => absurd (by simpa using c) hb) (fun _ => ?_)
  refine ⟨_, rfl, _, rfl, t, b, rfl, ?_⟩
  refine ⟨_, rfl, _, _, rfl, rfl, _, rfl, ?_⟩
  obtain ⟨d1, d2⟩ := qFn (t := t) hb hs
  refine xo (fun c => ?_) (fun c => ?_)
  · have c' : b < 0 := by simpa using c
    have e : -((Int.gcd t b : Nat) : Int) = sg t b := by unfold sg; rw [if_pos c']
    have q' : qIl H Q (t.fdiv (-((Int.gcd t b : Nat) : Int))) (b.fdiv (-((Int.gcd t b : Nat) : Int))) := by rw [e]; exact q
    exact ⟨_, rfl, _, rfl, _, rfl, _, rfl, _, _, rfl, rfl, (by rw [e]; exact d1), _, rfl, _, rfl, _, _, rfl, rfl, (by rw [e]; exact d2), sL2, q'⟩
  · have c' : ¬ b < 0 := by simpa using c
    have e : ((Int.gcd t b : Nat) : Int) = sg t b := by unfold sg; rw [if_neg c']
    have q' : qIl H Q (t.fdiv ((Int.gcd t b : Nat) : Int)) (b.fdiv ((Int.gcd t b : Nat) : Int)) := by rw [e]; exact q
    exact ⟨_, rfl, _, rfl, _, _, rfl, rfl, (by rw [e]; exact d1), _, rfl, _, rfl, _, _, rfl, rfl, (by rw [e]; exact d2), sL2, q'⟩
def Pr (K : W.Frag) (H : Hp) (v : V) (p q : Int) : Prop := ∃ z, v = .ref z ∧ SqT K H z [.int p, .int q]
theorem Pr.same {H H' : Hp} {v : V} {p q : Int} (e : Same H H') (h : Pr K H v p q) : Pr K H' v p q := let ⟨z, h1, h2⟩ := h; ⟨z, h1, L3.Same.tup e h2⟩
def Sm (i : Int) : Prop := i.natAbs < 2 ^ 3000
theorem Sm.mul {i j : Int} (h1 : Sm i) (h2 : Sm j) : CMulB i j := by
  unfold Sm at h1 h2
  have : (2 : Nat) ^ 3000 ≤ 2 ^ 60000 := Nat.pow_le_pow_right (by decide) (by decide)
  exact .inr ⟨by omega, by omega⟩
theorem Sm.prod {i j : Int} (h1 : Sm i) (h2 : Sm j) : (i * j).natAbs < 2 ^ 8000 := by
  unfold Sm at h1 h2
  rw [Int.natAbs_mul]
  have h3 : i.natAbs * j.natAbs < 2 ^ 3000 * 2 ^ 3000 := Nat.mul_lt_mul'' h1 h2
  rw [← Nat.pow_add] at h3
  exact Nat.lt_of_lt_of_le h3 (Nat.pow_le_pow_right (by decide) (by decide))
theorem at0 {x y : V} : atI [x, y] 0 = some x := rfl
theorem at1 {x y : V} : atI [x, y] 1 = some y := rfl
def qIa (K : W.Frag) : Sp := fun vs H Q _ => ∃ (x y : V) (p q r s : Int), vs = [x, y] ∧ Pr K H x p q ∧ Pr K H y r s ∧ q ≠ 0 ∧ s ≠ 0 ∧ Sm p ∧ Sm q ∧ Sm r ∧ Sm s ∧ qIl H Q (xG (p * s + r * q) (q * s)) (jW (p * s + r * q) (q * s))
theorem qIg (T : Tx K mg a) : FnOk P w K mg base CX0 3 a.a_sum_of a.f_sum_of ["one", "other"] (qIa K) := by
  refine T.d_sum_of.F.ok qG4 (fun vs H Q E h => ?_) (fun cdv A outer s H vs Q E hr h => ?_)
  · obtain ⟨x, y, p, q, r, s, rfl, _⟩ := h
    rfl
  obtain ⟨x, y, p, q, r, s', rfl, ⟨z1, rfl, h1⟩, ⟨z2, rfl, h2⟩, hq, hs, bp, bq, br, bs, k⟩ := h
  refine ⟨_, (qG (qP (qN T.d_fraction (xQ T) hr rfl (qA (qO qp (qO qo (qJ qI (pv 0) qB (fun _ _ => rfl)) (qJ qI (pv 1) qB (fun _ _ => rfl))) (qO qo (qJ qI (pv 1) qB (fun _ _ => rfl)) (qJ qI (pv 0) qB (fun _ _ => rfl)))) (qA (qO qo (qJ qI (pv 0) qB (fun _ _ => rfl)) (qJ qI (pv 1) qB (fun _ _ => rfl))) qE))))), ?_⟩
  try dsimp only [jo, qi]
  refine (qZ rfl h1 at0 (qZ rfl h2 at1 ⟨_, _, rfl, rfl, bp.mul bs, ?_⟩))
  refine (qZ rfl h2 at0 (qZ rfl h1 at1 ⟨_, _, rfl, rfl, br.mul bq, _, _, rfl, rfl, ?_⟩))
  refine (qZ rfl h1 at1 (qZ rfl h2 at1 ⟨_, _, rfl, rfl, bq.mul bs, ?_⟩))
  exact ⟨_, _, rfl, Int.mul_ne_zero hq hs, bq.prod bs, k⟩
def qE2 (K : W.Frag) : Sp := fun vs H Q _ => ∃ (x : V) (p q : Int), vs = [x] ∧ Pr K H x p q ∧ q ≠ 0 ∧ q.natAbs < 2 ^ 8000 ∧ Q (.int (p.fdiv q)) H
theorem zZ (T : Tx K mg a) : FnOk P w K mg base CX0 1 a.a_floor_of a.f_floor_of ["one"] (qE2 K) := by
  refine T.d_floor_of.F.ok qE9 (fun vs H Q E h => ?_) (fun cdv A outer s H vs Q E hr h => ?_)
  · obtain ⟨x, p, q, rfl, _⟩ := h
    rfl
  obtain ⟨x, p, q, rfl, ⟨z1, rfl, h1⟩, hq, bq, k⟩ := h
  refine ⟨_, (qG (qP (qO qf (qJ qI (pv 0) qB (fun _ _ => rfl)) (qJ qI (pv 0) qB (fun _ _ => rfl))))), ?_⟩
  try dsimp only [jo, qi]
  exact (qZ rfl h1 at0 (qZ rfl h1 at1 ⟨_, _, rfl, rfl, ⟨hq, bq⟩, k⟩))
theorem nz {j : Int} (h : j ≠ 0 := by decide) : j ≠ 0 := h
theorem cdB {i j : Int} (h0 : j ≠ 0) (h : j.natAbs < 18446744073709551616) : CDivB i j :=
  ⟨h0, Nat.lt_of_lt_of_le h (Nat.le_trans (by decide : 18446744073709551616 ≤ 2 ^ 64) (Nat.pow_le_pow_right (by decide) (by decide)))⟩
theorem cmR {i j : Int} (h1 : -(18446744073709551616 : Int) < j) (h2 : j < 18446744073709551616) : CMulB i j := .inl (.inr ⟨h1, h2⟩)
theorem cmL {i j : Int} (h1 : -(18446744073709551616 : Int) < i) (h2 : i < 18446744073709551616) : CMulB i j := .inl (.inl ⟨h1, h2⟩)
theorem at2 {x y : V} {i : Int} (h0 : 0 ≤ i) (h1 : i < 2) : ∃ v, atI [x, y] i = some v ∧ (v = x ∨ v = y) := by
  have : i = 0 ∨ i = 1 := by omega
  rcases this with rfl | rfl
  · exact ⟨x, rfl, .inl rfl⟩
  · exact ⟨y, rfl, .inr rfl⟩
theorem fm (i : Int) {j : Int} (h : 0 < j) : 0 ≤ i.fmod j ∧ i.fmod j < j := ⟨Int.fmod_nonneg_of_pos i h, Int.fmod_lt_of_pos i h⟩
theorem cpw {n : Nat} (h : n ≤ 1000000) : qOb 10 (n : Int) := ⟨by omega, by omega, by decide⟩
def Good (n : Nat) (p q : Int) : Prop := 0 < q ∧ Int.gcd p q = 1 ∧ p.natAbs < 2 ^ n ∧ q.natAbs < 2 ^ n
theorem Good.mono {n m : Nat} {p q : Int} (h : Good n p q) (l : n ≤ m) : Good m p q := ⟨h.1, h.2.1, Nat.lt_of_lt_of_le h.2.2.1 (Nat.pow_le_pow_right (by decide) l), Nat.lt_of_lt_of_le h.2.2.2 (Nat.pow_le_pow_right (by decide) l)⟩
theorem Sm.of200 {i : Int} (h : i.natAbs < 2 ^ 200) : Sm i := Nat.lt_of_lt_of_le h (Nat.pow_le_pow_right (by decide) (by decide))
theorem qFp {n : Nat} {t b : Int} (hb : 0 < b) (h1 : t.natAbs < 2 ^ n) (h2 : b.natAbs < 2 ^ n) : Good n (xG t b) (jW t b) :=
  ⟨xU (by omega), qEw (by omega), Nat.lt_of_le_of_lt (wJ (by omega)) h1, Nat.lt_of_le_of_lt (zW (by omega)) h2⟩
def qEr (K : W.Frag) : Sp := fun vs H Q _ => ∃ (x y : V) (p q r s : Int), vs = [x, y] ∧ Pr K H x p q ∧ Pr K H y r s ∧ q ≠ 0 ∧ s ≠ 0 ∧ Sm p ∧ Sm q ∧ Sm r ∧ Sm s ∧ qIl H Q (xG (p * r) (q * s)) (jW (p * r) (q * s))
theorem qE6 (T : Tx K mg a) : FnOk P w K mg base CX0 3 a.a_times_of a.f_times_of ["one", "other"] (qEr K) := by
  refine T.d_times_of.F.ok qEx (fun vs H Q E h => ?_) (fun cdv A outer s H vs Q E hr h => ?_)
  · obtain ⟨x, y, p, q, r, s, rfl, _⟩ := h
    rfl
  obtain ⟨x, y, p, q, r, s', rfl, ⟨z1, rfl, h1⟩, ⟨z2, rfl, h2⟩, hq, hs, bp, bq, br, bs, k⟩ := h
  refine ⟨_, (qG (qP (qN T.d_fraction (xQ T) hr rfl (qA (qO qo (qJ qI (pv 0) qB (fun _ _ => rfl)) (qJ qI (pv 1) qB (fun _ _ => rfl))) (qA (qO qo (qJ qI (pv 0) qB (fun _ _ => rfl)) (qJ qI (pv 1) qB (fun _ _ => rfl))) qE))))), ?_⟩
  try dsimp only [jo, qi]
  refine (qZ rfl h1 at0 (qZ rfl h2 at0 ⟨_, _, rfl, rfl, bp.mul br, ?_⟩))
  refine (qZ rfl h1 at1 (qZ rfl h2 at1 ⟨_, _, rfl, rfl, bq.mul bs, ?_⟩))
  exact ⟨_, _, rfl, Int.mul_ne_zero hq hs, bq.prod bs, k⟩
def qGe (K : W.Frag) : Sp := fun vs H Q _ => ∃ (x y : V) (p q r s : Int), vs = [x, y] ∧ Pr K H x p q ∧ Pr K H y r s ∧ q ≠ 0 ∧ s ≠ 0 ∧ Sm p ∧ Sm q ∧ Sm r ∧ Sm s ∧ qIl H Q (xG (p * s - r * q) (q * s)) (jW (p * s - r * q) (q * s))
theorem vX (T : Tx K mg a) : FnOk P w K mg base CX0 3 a.a_less_by a.f_less_by ["one", "other"] (qGe K) := by
  refine T.d_less_by.F.ok qGo (fun vs H Q E h => ?_) (fun cdv A outer s H vs Q E hr h => ?_)
  · obtain ⟨x, y, p, q, r, s, rfl, _⟩ := h
    rfl
  obtain ⟨x, y, p, q, r, s', rfl, ⟨z1, rfl, h1⟩, ⟨z2, rfl, h2⟩, hq, hs, bp, bq, br, bs, k⟩ := h
  refine ⟨_, (qG (qP (qN T.d_fraction (xQ T) hr rfl (qA (qO jU (qO qo (qJ qI (pv 0) qB (fun _ _ => rfl)) (qJ qI (pv 1) qB (fun _ _ => rfl))) (qO qo (qJ qI (pv 1) qB (fun _ _ => rfl)) (qJ qI (pv 0) qB (fun _ _ => rfl)))) (qA (qO qo (qJ qI (pv 0) qB (fun _ _ => rfl)) (qJ qI (pv 1) qB (fun _ _ => rfl))) qE))))), ?_⟩
  try dsimp only [jo, qi]
  refine (qZ rfl h1 at0 (qZ rfl h2 at1 ⟨_, _, rfl, rfl, bp.mul bs, ?_⟩))
  refine (qZ rfl h2 at0 (qZ rfl h1 at1 ⟨_, _, rfl, rfl, br.mul bq, _, _, rfl, rfl, ?_⟩))
  refine (qZ rfl h1 at1 (qZ rfl h2 at1 ⟨_, _, rfl, rfl, bq.mul bs, ?_⟩))
  exact ⟨_, _, rfl, Int.mul_ne_zero hq hs, bq.prod bs, k⟩
def qEs (K : W.Frag) : Sp := fun vs H Q _ => ∃ (x y : V) (p q r s : Int), vs = [x, y] ∧ Pr K H x p q ∧ Pr K H y r s ∧ q ≠ 0 ∧ r ≠ 0 ∧ Sm p ∧ Sm q ∧ Sm r ∧ Sm s ∧ qIl H Q (xG (p * s) (q * r)) (jW (p * s) (q * r))
theorem wb (T : Tx K mg a) : FnOk P w K mg base CX0 3 a.a_quotient a.f_quotient ["one", "other"] (qEs K) := by
  refine T.d_quotient.F.ok qEq (fun vs H Q E h => ?_) (fun cdv A outer s H vs Q E hr h => ?_)
  · obtain ⟨x, y, p, q, r, s, rfl, _⟩ := h
    rfl
  obtain ⟨x, y, p, q, r, s', rfl, ⟨z1, rfl, h1⟩, ⟨z2, rfl, h2⟩, hq, hr', bp, bq, br, bs, k⟩ := h
  refine ⟨_, (qG (qP (qN T.d_fraction (xQ T) hr rfl (qA (qO qo (qJ qI (pv 0) qB (fun _ _ => rfl)) (qJ qI (pv 1) qB (fun _ _ => rfl))) (qA (qO qo (qJ qI (pv 0) qB (fun _ _ => rfl)) (qJ qI (pv 1) qB (fun _ _ => rfl))) qE))))), ?_⟩
  try dsimp only [jo, qi]
  refine (qZ rfl h1 at0 (qZ rfl h2 at1 ⟨_, _, rfl, rfl, bp.mul bs, ?_⟩))
  refine (qZ rfl h1 at1 (qZ rfl h2 at0 ⟨_, _, rfl, rfl, bq.mul br, ?_⟩))
  exact ⟨_, _, rfl, Int.mul_ne_zero hq hr', bq.prod br, k⟩
inductive NoW (H : Hp) : V → Prop where
  | non : NoW H .non
  | bl (b : Bool) : NoW H (.bl b)
  | str (z : Str) : NoW H (.str z)
  | lst {a : Addr} {xs : List V} (e : H a = some (.lst xs)) : NoW H (.ref a)
  | tup {a : Addr} {xs : List V} (e : H a = some (.tup xs)) : NoW H (.ref a)
theorem NoW.same {H H' : Hp} {x : V} (s : Same H H') : NoW H x → NoW H' x
  | .non => .non
  | .bl b => .bl b
  | .str z => .str z
  | .lst e => .lst (s _ _ e)
  | .tup e => .tup (s _ _ e)
def WhB (H : Hp) (x : V) (b : Bool) : Prop := (∃ i : Int, x = .int i ∧ b = true) ∨ (NoW H x ∧ b = false)
theorem WhB.int {H : Hp} (i : Int) : WhB H (.int i) true := .inl ⟨i, rfl, rfl⟩
theorem WhB.no {H : Hp} {x : V} (h : NoW H x) : WhB H x false := .inr ⟨h, rfl⟩
theorem WhB.ty {H : Hp} {x : V} {b : Bool} (h : WhB H x b) : ∃ t i c, qA4 K H x t ∧ W.kitOne K t (.type "int") = some i ∧ W.kitOne K t (.type "bool") = some c ∧ b = (i && !c) := by
  rcases h with ⟨i, rfl, rfl⟩ | ⟨h, rfl⟩
  · exact ⟨_, true, false, .int i, by kernel_rfl, by kernel_rfl, rfl⟩
  · cases h with
    | non => exact ⟨_, false, false, .non, by kernel_rfl, by kernel_rfl, rfl⟩
    | bl b => exact ⟨_, true, true, .bl b, by kernel_rfl, by kernel_rfl, rfl⟩
    | str z => exact ⟨_, false, false, .str z, by kernel_rfl, by kernel_rfl, rfl⟩
    | lst e => exact ⟨_, false, false, .lst e, by kernel_rfl, by kernel_rfl, rfl⟩
    | tup e => exact ⟨_, false, false, .tup e, by kernel_rfl, by kernel_rfl, rfl⟩
def qBu : Sp := fun vs H Q _ => ∃ (x : V) (b : Bool), vs = [x] ∧ WhB H x b ∧ Q (.bl b) H
theorem qm (T : Tx K mg a) : FnOk P w K mg base CX0 1 a.a_is_whole a.f_is_whole ["x"] qBu := by
  refine T.d_is_whole.F.ok wY (fun vs H Q E h => ?_) (fun cdv A outer s H vs Q E hr h => ?_)
  · obtain ⟨x, b, rfl, _⟩ := h
    rfl
  obtain ⟨x, b, rfl, hx, q⟩ := h
  refine ⟨_, (qG (qP (kM (qd jd rfl T.b_isinstance rfl (qA (pv 0) (qA (qDv rfl T.b_int rfl) qE))) (vi (qJq (qd jd rfl T.b_isinstance rfl (qA (pv 0) (qA (qDv rfl T.b_bool rfl) qE)))))))), ?_⟩
  try dsimp only [jo, qi]
  obtain ⟨t, i, c, ty, e1, e2, rfl⟩ := hx.ty (K := K)
  refine ⟨_, rfl, _, _, _, i, rfl, ty, ⟨_, .inl ⟨rfl, e1⟩⟩, i, rfl, ?_⟩
  cases i with
  | false => exact qk q
  | true => exact qr ⟨_, rfl, _, _, _, c, rfl, ty, ⟨_, .inl ⟨rfl, e2⟩⟩, c, rfl, q⟩
inductive FrB (K : W.Frag) (H : Hp) : V → Bool → Prop where
  | no {x : V} {t : Value} (ty : qA4 K H x t) (e : W.kitOne K t (.type "tuple") = some false) : FrB K H x false
  | len {z : Addr} {xs : List V} (e : H z = some (.tup xs)) (h : xs.length ≠ 2) : FrB K H (.ref z) false
  | one {z : Addr} {x y : V} (e : H z = some (.tup [x, y])) (h : NoW H x) : FrB K H (.ref z) false
  | two {z : Addr} {i : Int} {y : V} (e : H z = some (.tup [.int i, y])) (h : NoW H y) : FrB K H (.ref z) false
  | nums {z : Addr} {p q : Int} (e : H z = some (.tup [.int p, .int q])) : FrB K H (.ref z) (decide (1 ≤ q) && decide (Int.gcd p q = 1))
def qAa (K : W.Frag) : Sp := fun vs H Q _ => ∃ (x : V) (b : Bool), vs = [x] ∧ FrB K H x b ∧ Q (.bl b) H
theorem kL (T : Tx K mg a) : FnOk P w K mg base CX0 2 a.a_is_fraction a.f_is_fraction ["x"] (qAa K) := by
  refine T.d_is_fraction.F.ok qAe (fun vs H Q E h => ?_) (fun cdv A outer s H vs Q E hr h => ?_)
  · obtain ⟨x, b, rfl, _⟩ := h
    rfl
  obtain ⟨x, b, rfl, hx, k⟩ := h
  refine ⟨_, (qF (qh (PW.pt (xh (jr (jP (qd jd rfl T.b_isinstance rfl (qA (pv 0) (qA (qDv rfl T.b_tuple rfl) qE))))) (jc (qL z8 (qd jY rfl T.b_len rfl (qA (pv 0) qE)) qB (qU _))))) (qG (qP vc)) qS)
      (qF (qh (PW.pt (xh (jr (jP (qN T.d_is_whole (qm T) hr rfl (qA (qJ qI (pv 0) qB (fun _ _ => rfl)) qE)))) (jc (jr (jP (qN T.d_is_whole (qm T) hr rfl (qA (qJ qI (pv 0) qB (fun _ _ => rfl)) qE))))))) (qG (qP vc)) qS)
      (qG (qP (kM (xm qBw (qJ qI (pv 0) qB (fun _ _ => rfl)) qB (qU _)) (vi (xm xj (qN T.d_common_divisor (zL T) hr rfl (qA (qJ qI (pv 0) qB (fun _ _ => rfl)) (qA (qJ qI (pv 0) qB (fun _ _ => rfl)) qE))) qB (qU _)))))))), ?_⟩
  try dsimp only [jo, qi]
  cases hx with
  | no ty e => exact ⟨_, rfl, _, _, _, false, rfl, ty, ⟨_, .inl ⟨rfl, e⟩⟩, false, rfl, qr (qr k)⟩
  | @len z xs e h =>
    refine ⟨_, rfl, _, _, _, true, rfl, .tup e, ⟨_, .inl ⟨rfl, by kernel_rfl⟩⟩, true, rfl, qk ?_⟩
    refine ⟨_, rfl, _, _, rfl, .inr (SqT.of e), rfl, _, rfl, ?_⟩
    have d : (!decide (V.int (xs.length : Int) = V.int 2)) = true := by
      have : ¬ (V.int (xs.length : Int) = V.int 2) := fun z => h (by injection z with z; omega)
      simp [this]
    rw [d]
    exact qr k
  | @one z x y e h =>
    refine ⟨_, rfl, _, _, _, true, rfl, .tup e, ⟨_, .inl ⟨rfl, by kernel_rfl⟩⟩, true, rfl, qk ?_⟩
    refine ⟨_, rfl, _, _, rfl, .inr (SqT.of e), rfl, _, rfl, qk ?_⟩
    exact (qZ rfl (SqT.of e) at0 ⟨x, false, rfl, .no h, false, rfl, qr (qr k)⟩)
  | @two z i y e h =>
    refine ⟨_, rfl, _, _, _, true, rfl, .tup e, ⟨_, .inl ⟨rfl, by kernel_rfl⟩⟩, true, rfl, qk ?_⟩
    refine ⟨_, rfl, _, _, rfl, .inr (SqT.of e), rfl, _, rfl, qk ?_⟩
    refine (qZ rfl (SqT.of e) at0 ⟨_, true, rfl, .int i, true, rfl, qk ?_⟩)
    exact (qZ rfl (SqT.of e) at1 ⟨y, false, rfl, .no h, false, rfl, qr k⟩)
  | @nums z p q e =>
    refine ⟨_, rfl, _, _, _, true, rfl, .tup e, ⟨_, .inl ⟨rfl, by kernel_rfl⟩⟩, true, rfl, qk ?_⟩
    refine ⟨_, rfl, _, _, rfl, .inr (SqT.of e), rfl, _, rfl, qk ?_⟩
    refine (qZ rfl (SqT.of e) at0 ⟨_, true, rfl, .int p, true, rfl, qk ?_⟩)
    refine (qZ rfl (SqT.of e) at1 ⟨_, true, rfl, .int q, true, rfl, qk ?_⟩)
    refine (qZ rfl (SqT.of e) at1 ⟨_, _, rfl, rfl, decide (1 ≤ q), rfl, ?_⟩)
    by_cases hq : 1 ≤ q
    · rw [decide_eq_true hq] at k ⊢
      refine qr (qZ rfl (SqT.of e) at0 (qZ rfl (SqT.of e) at1 ⟨p, q, rfl, rfl, ?_⟩))
      have d : decide (V.int ((Int.gcd p q : Nat) : Int) = V.int 1) = (true && decide (Int.gcd p q = 1)) := by
        rw [Bool.true_and, Bool.eq_iff_iff, decide_eq_true_eq, decide_eq_true_eq]
        constructor
        · intro z; injection z with z; omega
        · intro z; rw [z]; rfl
      rw [d]
      exact k
    · rw [decide_eq_false hq] at k ⊢
      exact qk k
def qCt (K : W.Frag) : Sp := fun vs H Q _ => ∃ (x y : V) (p q r s : Int), vs = [x, y] ∧ Pr K H x p q ∧ Pr K H y r s ∧ Sm p ∧ Sm q ∧ Sm r ∧ Sm s ∧ Q (.bl (decide (p * s < r * q))) H
theorem qC5 (T : Tx K mg a) : FnOk P w K mg base CX0 1 a.a_is_before a.f_is_before ["one", "other"] (qCt K) := by
  refine T.d_is_before.F.ok qD8 (fun vs H Q E h => ?_) (fun cdv A outer s H vs Q E hr h => ?_)
  · obtain ⟨x, y, p, q, r, s, rfl, _⟩ := h
    rfl
  obtain ⟨x, y, p, q, r, s', rfl, ⟨z1, rfl, h1⟩, ⟨z2, rfl, h2⟩, bp, bq, br, bs, k⟩ := h
  refine ⟨_, (qG (qP (xm kH (qO qo (qJ qI (pv 0) qB (fun _ _ => rfl)) (qJ qI (pv 1) qB (fun _ _ => rfl))) (qO qo (qJ qI (pv 1) qB (fun _ _ => rfl)) (qJ qI (pv 0) qB (fun _ _ => rfl))) (qU _)))), ?_⟩
  try dsimp only [jo, qi]
  refine (qZ rfl h1 at0 (qZ rfl h2 at1 ⟨_, _, rfl, rfl, bp.mul bs, ?_⟩))
  exact (qZ rfl h2 at0 (qZ rfl h1 at1 ⟨_, _, rfl, rfl, br.mul bq, _, _, rfl, rfl, k⟩))
structure Cp (K : W.Frag) (H : Hp) (v : V) (n : Str) (p q r s len : Int) : Prop where
  ex : ∃ z z1 z2, v = .ref z ∧ SqT K H z [.str "clip", .str n, .ref z1, .ref z2, .int len] ∧ SqT K H z1 [.int p, .int q] ∧ SqT K H z2 [.int r, .int s]
theorem Cp.same {H H' : Hp} {v : V} {n : Str} {p q r s len : Int} (e : Same H H') (h : Cp K H v n p q r s len) : Cp K H' v n p q r s len :=
  let ⟨z, z1, z2, h1, h2, h3, h4⟩ := h.ex; ⟨z, z1, z2, h1, L3.Same.tup e h2, L3.Same.tup e h3, L3.Same.tup e h4⟩
theorem qIz {x0 x1 x2 x3 x4 : V} : atI [x0, x1, x2, x3, x4] 2 = some x2 := rfl
theorem qGr {x0 x1 x2 x3 x4 : V} : atI [x0, x1, x2, x3, x4] 3 = some x3 := rfl
theorem qI8 {p q r s k : Int} (hq : 0 < q) (hs : 0 < s) :
    xG (p * jW (k * r) (1 * s) + xG (k * r) (1 * s) * q) (q * jW (k * r) (1 * s)) = xG (p * s + k * r * q) (q * s) ∧
    jW (p * jW (k * r) (1 * s) + xG (k * r) (1 * s) * q) (q * jW (k * r) (1 * s)) = jW (p * s + k * r * q) (q * s) := by
  rw [Int.one_mul]
  have c := zR (k * r) s
  have n0 := xU (t := k * r) (b := s) (by omega)
  generalize xG (k * r) s = m at c ⊢
  generalize jW (k * r) s = n at c n0 ⊢
  have b1 : q * s ≠ 0 := Int.mul_ne_zero (by omega) (by omega)
  have b2 : q * n ≠ 0 := Int.mul_ne_zero (by omega) (by omega)
  refine qG3 b2 (xU b1) (qEw b1) ?_
  have e := zR (p * s + k * r * q) (q * s)
  generalize xG (p * s + k * r * q) (q * s) = u at e ⊢
  generalize jW (p * s + k * r * q) (q * s) = v at e ⊢
  have h : (u * (q * n)) * s = ((p * n + m * q) * v) * s := by
    calc (u * (q * n)) * s = (u * (q * s)) * n := by rw [Int.mul_assoc, Int.mul_assoc, Int.mul_assoc, Int.mul_assoc, Int.mul_comm n s]
      _ = ((p * s + k * r * q) * v) * n := by rw [e]
      _ = (p * n * s + (k * r * n) * q) * v := by
        have h1 : (p * s + k * r * q) * v * n = (p * s + k * r * q) * n * v := by rw [Int.mul_assoc, Int.mul_comm v n, ← Int.mul_assoc]
        have h2 : (p * s + k * r * q) * n = p * n * s + k * r * n * q := by
          rw [Int.add_mul, Int.mul_assoc p s n, Int.mul_comm s n, ← Int.mul_assoc, Int.mul_assoc (k * r) q n, Int.mul_comm q n, ← Int.mul_assoc]
        rw [h1, h2]
      _ = (p * n * s + (m * s) * q) * v := by rw [← c]
      _ = ((p * n + m * q) * v) * s := by
        have h3 : p * n * s + m * s * q = (p * n + m * q) * s := by rw [Int.add_mul, Int.mul_assoc m s q, Int.mul_comm s q, ← Int.mul_assoc]
        rw [h3, Int.mul_assoc, Int.mul_comm s v, ← Int.mul_assoc]
  exact Int.eq_of_mul_eq_mul_right (by omega) h
def Sm2 (i : Int) : Prop := i.natAbs < 2 ^ 700
theorem Sm2.sm {i : Int} (h : Sm2 i) : Sm i := Nat.lt_of_lt_of_le h (Nat.pow_le_pow_right (by decide) (by decide))
theorem jf {i j : Int} {n m : Nat} (h1 : i.natAbs < 2 ^ n) (h2 : j.natAbs < 2 ^ m) : (i * j).natAbs < 2 ^ (n + m) := by
  rw [Int.natAbs_mul, Nat.pow_add]
  exact Nat.mul_lt_mul'' h1 h2
def qFh (K : W.Frag) : Sp := fun vs H Q _ => ∃ (v : V) (n : Str) (p q r s len k : Int), vs = [v, .int k] ∧ Cp K H v n p q r s len ∧ 0 < q ∧ 0 < s ∧ Sm2 p ∧ Sm2 q ∧ Sm2 r ∧ Sm2 s ∧ Sm2 k ∧
  ∀ z H', Same H H' → H' z = some (.tup [.int (xG (p * s + k * r * q) (q * s)), .int (jW (p * s + k * r * q) (q * s))]) → Q (.ref z) H'
theorem zX (T : Tx K mg a) : FnOk P w K mg base CX0 4 a.a_place_at a.f_place_at ["clip", "k"] (qFh K) := by
  refine T.d_place_at.F.ok qE3 (fun vs H Q E h => ?_) (fun cdv A outer s H vs Q E hr h => ?_)
  · obtain ⟨v, n, p, q, r, s, len, k, rfl, _⟩ := h
    rfl
  obtain ⟨v, n, p, q, r, s', len, k, rfl, ⟨z, z1, z2, rfl, hc, h1, h2⟩, hq, hs, bp, bq, br, bs, bk, kk⟩ := h
  refine ⟨_, (qG (qP (qN T.d_sum_of (qIg T) hr rfl (qA (qJ qI (pv 0) qB (fun _ _ => rfl)) (qA (qN T.d_times_of (qE6 T) hr rfl (qA (qN T.d_fraction (xQ T) hr rfl (qA (pv 1) (qA qB qE))) (qA (qJ qI (pv 0) qB (fun _ _ => rfl)) qE))) qE))))), ?_⟩
  try dsimp only [jo, qi]
  refine ⟨_, rfl, z, _, _, _, rfl, rfl, hc, qIz, _, rfl, k, 1, rfl, by decide, Nat.lt_of_lt_of_le (m := 2 ^ 1) (by decide) (Nat.pow_le_pow_right (by decide) (by decide)), fun y hy => ?_⟩
  have s1 := qH hy (.tup [.int (xG k 1), .int (jW k 1)])
  obtain ⟨l1, l2⟩ := qFr (p := k) (q := 1) (by decide) (Int.gcd_one_right ..)
  refine ⟨_, rfl, z, _, _, _, rfl, rfl, L3.Same.tup s1 hc, qGr, ?_⟩
  have one : Sm 1 := Nat.lt_of_lt_of_le (m := 2 ^ 1) (by decide) (Nat.pow_le_pow_right (by decide) (by decide))
  refine ⟨_, _, k, 1, r, s', rfl, ⟨y, rfl, ?_⟩, ⟨z2, rfl, L3.Same.tup s1 h2⟩, by decide, by omega, bk.sm, one, br.sm, bs.sm, fun x hx => ?_⟩
  · have e : SqT K (upd H y (.tup [.int (xG k 1), .int (jW k 1)])) y [.int (xG k 1), .int (jW k 1)] := SqT.of qD
    rw [l1, l2] at e ⊢
    exact e
  have s2 := s1.trans (qH hx (.tup [.int (xG (k * r) (1 * s')), .int (jW (k * r) (1 * s'))]))
  have b1 : (1 * s') ≠ 0 := by omega
  have n0 := xU (t := k * r) b1
  have bm : Sm (xG (k * r) (1 * s')) := by
    refine Nat.lt_of_le_of_lt (wJ b1) (Nat.lt_of_lt_of_le (jf bk br) (Nat.pow_le_pow_right (by decide) (by decide)))
  have bn : Sm (jW (k * r) (1 * s')) := by
    refine Nat.lt_of_le_of_lt (zW b1) ?_
    rw [Int.one_mul]
    exact bs.sm
  refine ⟨_, _, p, q, _, _, rfl, ⟨z1, rfl, L3.Same.tup s2 h1⟩, ⟨x, rfl, SqT.of qD⟩, by omega, by omega, bp.sm, bq.sm, bm, bn, fun u hu => ?_⟩
  obtain ⟨e1, e2⟩ := qI8 (p := p) (r := r) (k := k) hq hs
  refine kk u _ (s2.trans (qH hu _)) ?_
  rw [qD, e1, e2]
theorem wu {t b : Int} (hb : 0 < b) : (xG t b).fdiv (jW t b) = t.fdiv b := by
  have e1 := qI1 t b
  have e2 := qHi t b
  have sp : 0 < sg t b := by
    have g := vd (t := t) (b := b) (by omega)
    unfold sg
    rw [if_neg (by omega)]
    omega
  have q0 := xU (t := t) (b := b) (by omega)
  obtain ⟨h1, h2⟩ := jL (p := xG t b) q0
  obtain ⟨h3, h4⟩ := jL (p := t) hb
  generalize (xG t b).fdiv (jW t b) = f at h1 h2 ⊢
  generalize t.fdiv b = g at h3 h4 ⊢
  generalize xG t b = u at e1 h1 h2
  generalize jW t b = v at e2 h1 h2 q0
  generalize sg t b = w at e1 e2 sp
  subst e1 e2
  have k1 : g * v ≤ u := by
    rw [← Int.mul_assoc] at h3
    exact Int.le_of_mul_le_mul_right h3 sp
  have k2 : u < (g + 1) * v := by
    rw [← Int.mul_assoc] at h4
    exact Int.lt_of_mul_lt_mul_right h4 (by omega)
  have k3 : f < g + 1 := Int.lt_of_mul_lt_mul_right (a := v) (by omega) (by omega)
  have k4 : g < f + 1 := Int.lt_of_mul_lt_mul_right (a := v) (by omega) (by omega)
  omega
def qCb (K : W.Frag) : Sp := fun vs H Q _ => ∃ (v : V) (n : Str) (p q r s len k : Int), vs = [v, .int k] ∧ Cp K H v n p q r s len ∧ 0 < q ∧ 0 < s ∧ Sm2 p ∧ Sm2 q ∧ Sm2 r ∧ Sm2 s ∧ Sm2 k ∧
  ∀ H', Same H H' → Q (.int ((p * s + k * r * q).fdiv (q * s))) H'
theorem vD (T : Tx K mg a) : FnOk P w K mg base CX0 5 a.a_picture_at a.f_picture_at ["clip", "k"] (qCb K) := by
  refine T.d_picture_at.F.ok qBo (fun vs H Q E h => ?_) (fun cdv A outer s H vs Q E hr h => ?_)
  · obtain ⟨v, n, p, q, r, s, len, k, rfl, _⟩ := h
    rfl
  obtain ⟨v, n, p, q, r, s', len, k, rfl, hc, hq, hs, bp, bq, br, bs, bk, kk⟩ := h
  refine ⟨_, (qG (qP (qN T.d_floor_of (zZ T) hr rfl (qA (qN T.d_place_at (zX T) hr rfl (qA (pv 0) (qA (pv 1) qE))) qE)))), ?_⟩
  try dsimp only [jo, qi]
  refine ⟨_, rfl, _, rfl, v, n, p, q, r, s', len, k, rfl, hc, hq, hs, bp, bq, br, bs, bk, fun z H' sH hz => ?_⟩
  have b1 : q * s' ≠ 0 := Int.mul_ne_zero (by omega) (by omega)
  refine ⟨_, _, _, rfl, ⟨z, rfl, SqT.of hz⟩, ?_, ?_, ?_⟩
  · have := xU (t := p * s' + k * r * q) b1; omega
  · exact Nat.lt_of_le_of_lt (zW b1) (Nat.lt_of_lt_of_le (jf bq bs) (Nat.pow_le_pow_right (by decide) (by decide)))
  · rw [wu (Int.mul_pos hq hs)]
    exact kk H' sH
theorem qF9 {x0 x1 x2 x3 x4 : V} : atI [x0, x1, x2, x3, x4] 0 = some x0 := rfl
theorem qAs {x0 x1 x2 x3 x4 : V} : atI [x0, x1, x2, x3, x4] 1 = some x1 := rfl
theorem qEi {x0 x1 x2 x3 x4 : V} : atI [x0, x1, x2, x3, x4] 4 = some x4 := rfl
theorem eq2 (a b c d : Int) : qGf [.int a, .int b] [.int c, .int d] = (a == c && b == d) := by
  simp [qGf, eqV, List.range_succ]
structure Bn (n : Nat) (p q r s : Int) : Prop where
  q0 : 0 < q
  s0 : 0 < s
  bp : p.natAbs < 2 ^ n
  bq : q.natAbs < 2 ^ n
  br : r.natAbs < 2 ^ n
  bs : s.natAbs < 2 ^ n
theorem vC {i : Int} {n m : Nat} (h : i.natAbs < 2 ^ n) (l : n ≤ m := by decide) : i.natAbs < 2 ^ m := Nat.lt_of_lt_of_le h (Nat.pow_le_pow_right (by decide) l)
theorem Bn.mono {n m : Nat} {p q r s : Int} (h : Bn n p q r s) (l : n ≤ m := by decide) : Bn m p q r s := ⟨h.q0, h.s0, vC h.bp l, vC h.bq l, vC h.br l, vC h.bs l⟩
theorem Bn.part {p q r s k : Int} (h : Bn 110 p q r s) (hk : k.natAbs < 2 ^ 30) : Bn 340 (plP p q r s k) (plQ p q r s k) r s := by
  obtain ⟨hq, hs, bp, bq, br, bs⟩ := h
  refine ⟨qLo hq hs, hs, Nat.lt_of_le_of_lt (qK0 hq hs) ?_, Nat.lt_of_le_of_lt (qKa hq hs) (vC (jf bq bs)), vC br, vC bs⟩
  have h1 := jf bp bs
  have h2 := jf (jf hk br) bq
  have e : (2 : Nat) ^ (110 + 110) + 2 ^ (30 + 110 + 110) ≤ 2 ^ 340 := by decide
  omega
theorem qJk {i : Int} {n : Nat} (h : i.natAbs < 2 ^ n) (l : n ≤ 8000 := by decide) : i.natAbs < 2 ^ 8000 := vC h l
def wU (K : W.Frag) : Sp := fun vs H Q _ => ∃ (z : Addr) (ns : List Int) (i : Int), vs = [.ref z, .int i] ∧ SqL K H z (ns.map V.int) ∧ ns.length ≤ 63 ∧ 0 ≤ i ∧ ∀ c : Int, Q (.int c) H
theorem zq (T : Tx K mg a) : FnOk P w K mg base CX0 1 a.a__law_cell_at a.f__law_cell_at ["_law_script", "_law_k"] (wU K) := by
  refine T.d__law_cell_at.F.ok wm (fun vs H Q E h => ?_) (fun cdv A outer s H vs Q E hr h => ?_)
  · obtain ⟨z, ns, i, rfl, _⟩ := h
    rfl
  obtain ⟨z, ns, i, rfl, hS, hl, h0, k⟩ := h
  refine ⟨_, (qF (qh (qL kH (pv 1) (qd jY rfl T.b_len rfl (qA (pv 0) qE)) (qU _)) (qG (qP (qJ jC (pv 0) (pv 1) (fun _ _ => rfl)))) qS)
      (qG (qP qB))), ?_⟩
  try dsimp only [jo, qi]
  have hml : (ns.map V.int).length = ns.length := List.length_map _
  refine ⟨_, rfl, _, rfl, z, _, rfl, .inl hS, _, _, rfl, rfl, _, rfl, ?_⟩
  refine xo (fun c => ?_) (fun _ => ?_)
  · have c' : i < ((ns.map V.int).length : Int) := of_decide_eq_true c
    rw [hml] at c'
    have hi : i.toNat < ns.length := by omega
    have e : i = ((i.toNat : Nat) : Int) := by omega
    have hat : atI (ns.map V.int) ((i.toNat : Nat) : Int) = some (.int ns[i.toNat]) := jb (by rw [List.getElem?_map, List.getElem?_eq_getElem hi]; rfl)
    rw [← e] at hat
    exact ⟨_, rfl, _, rfl, z, _, _, .int ns[i.toNat], rfl, rfl, hS, hat, k _⟩
  · exact k 0
def thB (i m : Int) : Bool := decide (0 ≤ i) && decide (i < m)
theorem qEv {N D m : Int} (hD : 0 < D) : thB (N.fdiv D) m = true ↔ InR N D m := by
  rw [qFg hD]
  simp [thB]
def qEo : Sp := fun vs H Q _ => ∃ i m : Int, vs = [.int i, .int m] ∧ Q (.bl (thB i m)) H
theorem kR (T : Tx K mg a) : FnOk P w K mg base CX0 1 a.a_is_there a.f_is_there ["picture", "many"] qEo := by
  refine T.d_is_there.F.ok qFc (fun vs H Q E h => ?_) (fun cdv A outer s H vs Q E hr h => ?_)
  · obtain ⟨i, m, rfl, _⟩ := h
    rfl
  obtain ⟨i, m, rfl, q⟩ := h
  refine ⟨_, (qG (qP (kM (xm qIm qB (pv 0) (qU _)) (vi (xm kH (pv 0) (pv 1) (qU _)))))), ?_⟩
  try dsimp only [jo, qi]
  refine ⟨_, rfl, _, _, rfl, rfl, _, rfl, ?_⟩
  unfold thB at q
  by_cases h0 : 0 ≤ i
  · rw [decide_eq_true h0] at q ⊢
    exact qr ⟨_, rfl, _, rfl, _, _, rfl, rfl, q⟩
  · rw [decide_eq_false h0] at q ⊢
    exact qk q
def qN7 (c : Nat) : Bool := !(Builtin.Str.occurrences "abcdefghijklmnopqrstuvwxyz" ⟨#[c]⟩ 0 ("abcdefghijklmnopqrstuvwxyz" : Str).length 1).isEmpty
def wp (z : Str) : Bool := decide (1 ≤ z.length ∧ z.length ≤ 8) && z.cps.toList.all qN7
theorem qBe {c d : Int} (hd : 0 < d) (g : Int.gcd c d = 1) : xG (0 * d - c * 1) (1 * d) = -c ∧ jW (0 * d - c * 1) (1 * d) = d := by
  refine qG3 (by omega) hd (by rw [Int.neg_gcd]; exact g) ?_
  grind
def v6 (K : W.Frag) : Sp := fun vs H Q _ => ∃ (x y : V) (A B c d m : Int), vs = [x, y, .int m] ∧ Pr K H x A B ∧ Pr K H y c d ∧ 0 < B ∧ 0 < d ∧ Int.gcd c d = 1 ∧ A.natAbs < 2 ^ 700 ∧ B.natAbs < 2 ^ 700 ∧ c.natAbs < 2 ^ 700 ∧ d.natAbs < 2 ^ 700 ∧ m.natAbs < 2 ^ 700 ∧
  ∀ H', Same H H' → Q (.int (vq (A * d) (c * B) (B * d) m)) H'
theorem zf (T : Tx K mg a) : FnOk P w K mg base CX0 4 a.a_moments_there a.f_moments_there ["first", "step", "many"] (v6 K) := by
  refine T.d_moments_there.F.ok sc_moments_there (fun vs H Q E h => ?_) (fun cdv A outer s H vs Q E hr h => ?_)
  · obtain ⟨x, y, A, B, c, d, m, rfl, _⟩ := h
    rfl
  obtain ⟨x, y, A', B, c, d, m, rfl, ⟨z1, rfl, h1⟩, ⟨z2, rfl, h2⟩, hB, hd, hg, bA, bB, bc, bd, bm, kk⟩ := h
  have hu := hr.units0
  refine ⟨_, (qF (qh (qL (qMg hu) (pv 1) (xS (v := .ref a.n_NOUGHT) rfl T.g_NOUGHT rfl) (qU _)) (qG (qP (xS (v := .int 1000000) rfl T.g_MOST_ROOM ⟨_, rfl⟩))) qS)
      (qF (qh (jr (jP (qN T.d_is_there (kR T) hr rfl (qA (qN T.d_floor_of (zZ T) hr rfl (qA (pv 0) qE)) (qA (pv 2) qE))))) (qG (qP qB)) qS)
      (qF (zY (qh (jP (qN T.d_is_before (qC5 T) hr rfl (qA (pv 1) (qA (xS (v := .ref a.n_NOUGHT) rfl T.g_NOUGHT rfl) qE)))) (qG (qV (i := 3) sc_moments_there.nd rfl (Or.inl rfl) (qO qp (qN T.d_floor_of (zZ T) hr rfl (qA (qN T.d_quotient (wb T) hr rfl (qA (pv 0) (qA (qN T.d_less_by (vX T) hr rfl (qA (xS (v := .ref a.n_NOUGHT) rfl T.g_NOUGHT rfl) (qA (pv 1) qE))) qE))) qE)) qB))) (qG (qV (i := 3) sc_moments_there.nd rfl (Or.inl rfl) (qAh kO (qN T.d_floor_of (zZ T) hr rfl (qA (qN T.d_quotient (wb T) hr rfl (qA (qN T.d_less_by (vX T) hr rfl (qA (pv 0) (qA (qN T.d_fraction (xQ T) hr rfl (qA (pv 2) (qA qB qE))) qE))) (qA (pv 1) qE))) qE)))))))
      (qG (qP (qd (zn rfl) rfl T.b_min rfl (qA (pv 3) (qA (xS (v := .int 1000000) rfl T.g_MOST_ROOM ⟨_, rfl⟩) qE)))))))), ?_⟩
  try dsimp only [jo, qi]
  have S : ∀ {i : Int}, i.natAbs < 2 ^ 700 → Sm i := fun h => vC h
  have one : Sm 1 := Sm.of200 (by decide)
  have nul : Sm 0 := Sm.of200 (by decide)
  have hBd := Int.mul_pos hB hd
  have H1 : ∀ {H' : Hp}, Same H H' → SqT K H' z1 [.int A', .int B] := fun e => L3.Same.tup e h1
  have H2 : ∀ {H' : Hp}, Same H H' → SqT K H' z2 [.int c, .int d] := fun e => L3.Same.tup e h2
  refine ⟨_, rfl, _, _, _, _, rfl, rfl, h2, T.sq_NOUGHT _, rfl, rfl, _, rfl, ?_⟩
  rw [if_neg (by decide : ¬ (false = true)), eq2]
  by_cases hc : c = 0
  · have d1 : d = 1 := by
      subst hc
      rw [Int.gcd_zero_left] at hg
      omega
    rw [show (c == 0 && d == 1) = true by simp [hc, d1]]
    refine qr ?_
    have := kk H (Same.refl _)
    unfold vq at this
    rw [if_pos (by rw [hc, Int.zero_mul])] at this
    exact this
  rw [show (c == 0 && d == 1) = false by simp [hc]]
  refine qk ?_
  have hcB : ¬ (c * B = 0) := Int.mul_ne_zero hc (by omega)
  have ef : A'.fdiv B = (A' * d).fdiv (B * d) := vW hB hBd (by grind)
  refine ⟨_, rfl, _, A', B, rfl, ⟨z1, rfl, h1⟩, by omega, qJk bB, _, rfl, _, _, rfl, _, rfl, ?_⟩
  by_cases ht : 0 ≤ A'.fdiv B ∧ A'.fdiv B < m
  rotate_left
  · rw [show thB (A'.fdiv B) m = false by unfold thB; rw [Bool.eq_false_iff]; simpa using ht]
    refine qr ?_
    have := kk H (Same.refl _)
    unfold vq at this
    rw [if_neg hcB, if_pos (by rw [← ef]; exact ht)] at this
    exact this
  rw [show thB (A'.fdiv B) m = true by simp [thB, ht]]
  refine qk ?_
  have res : ∀ H', Same H H' → Q (.int (if 1000000 < (if c * B < 0 then (A' * d).fdiv (-(c * B)) + 1 else -((A' * d - m * (B * d)).fdiv (c * B))) then 1000000 else (if c * B < 0 then (A' * d).fdiv (-(c * B)) + 1 else -((A' * d - m * (B * d)).fdiv (c * B))))) H' := fun H' e => by
    have := kk H' e
    unfold vq at this
    rw [if_neg hcB, if_neg (by rw [← ef]; simpa using ht)] at this
    exact this
  generalize hgg : (if c * B < 0 then (A' * d).fdiv (-(c * B)) + 1 else -((A' * d - m * (B * d)).fdiv (c * B))) = g at res
  refine ⟨fun σ' H' => σ' = [some (.ref z1), some (.ref z2), some (.int m), some (.int g)] ∧ Same H H', ?_, ?_⟩
  · refine ⟨_, rfl, _, _, c, d, 0, 1, rfl, ⟨z2, rfl, h2⟩, ⟨_, rfl, T.sq_NOUGHT _⟩, S bc, S bd, nul, one, _, rfl, ?_⟩
    by_cases hn : c * 1 < 0 * d
    · rw [decide_eq_true hn]
      refine qr ?_
      have c0 : c < 0 := by omega
      refine ⟨_, rfl, _, rfl, _, _, 0, 1, c, d, rfl, ⟨_, rfl, T.sq_NOUGHT _⟩, ⟨z2, rfl, h2⟩, by decide, by omega, nul, one, S bc, S bd, fun u hu' => ?_⟩
      rw [(qBe hd hg).1, (qBe hd hg).2]
      have w1 := qH hu' (.tup [.int (-c), .int d])
      have bnc : (-c).natAbs < 2 ^ 700 := by rw [Int.natAbs_neg]; exact bc
      have hpos : 0 < B * (-c) := Int.mul_pos hB (by omega)
      refine ⟨_, _, A', B, -c, d, rfl, ⟨z1, rfl, H1 w1⟩, ⟨u, rfl, SqT.of qD⟩, by omega, by omega, S bA, S bB, S bnc, S bd, fun v hv => ?_⟩
      have w2 := w1.trans (qH hv (.tup [.int (xG (A' * d) (B * (-c))), .int (jW (A' * d) (B * (-c)))]))
      have lq := xU (t := A' * d) (b := B * (-c)) (by omega)
      refine ⟨_, _, _, rfl, ⟨v, rfl, SqT.of qD⟩, by omega, Nat.lt_of_le_of_lt (zW (by omega)) (qJk (jf bB bnc)), ?_⟩
      rw [wu hpos]
      refine ⟨_, _, rfl, rfl, ?_, w2⟩
      have e : g = (A' * d).fdiv (B * -c) + 1 := by
        rw [← hgg, if_pos (by have := Int.mul_neg_of_neg_of_pos c0 hB; exact this)]
        rw [show -(c * B) = B * -c by grind]
      rw [e]
      rfl
    · rw [decide_eq_false hn]
      refine qk ?_
      have c0 : 0 < c := by omega
      obtain ⟨l1, l2⟩ := qFr (p := m) (q := 1) (by decide) (Int.gcd_one_right ..)
      refine ⟨_, rfl, _, rfl, m, 1, rfl, by decide, qJk (n := 1) (by decide), fun u hu' => ?_⟩
      rw [l1, l2]
      have w1 := qH hu' (.tup [.int m, .int 1])
      refine ⟨_, _, A', B, m, 1, rfl, ⟨z1, rfl, H1 w1⟩, ⟨u, rfl, SqT.of qD⟩, by omega, by decide, S bA, S bB, S bm, one, fun v hv => ?_⟩
      have hb1 : B * 1 ≠ 0 := by omega
      have cr := zR (A' * 1 - m * B) (B * 1)
      have lq := xU (t := A' * 1 - m * B) hb1
      have aP := wJ (t := A' * 1 - m * B) hb1
      have aQ := zW (t := A' * 1 - m * B) hb1
      have w2 := w1.trans (qH hv (.tup [.int (xG (A' * 1 - m * B) (B * 1)), .int (jW (A' * 1 - m * B) (B * 1))]))
      have ev := qD (H := upd H u (.tup [.int m, .int 1])) (a := v) (o := .tup [.int (xG (A' * 1 - m * B) (B * 1)), .int (jW (A' * 1 - m * B) (B * 1))])
      generalize upd (upd H u (.tup [.int m, .int 1])) v (.tup [.int (xG (A' * 1 - m * B) (B * 1)), .int (jW (A' * 1 - m * B) (B * 1))]) = H3 at w2 ev ⊢
      generalize xG (A' * 1 - m * B) (B * 1) = P' at cr aP ev ⊢
      generalize jW (A' * 1 - m * B) (B * 1) = Q' at cr aQ lq ev ⊢
      have sP : Sm P' := by
        have t := jf bm bB
        have : (A' * 1 - m * B).natAbs < 2 ^ 1500 := by
          have e : (2 : Nat) ^ 700 + 2 ^ (700 + 700) ≤ 2 ^ 1500 := by decide
          omega
        exact Nat.lt_of_le_of_lt aP (vC this)
      have bQ : Q'.natAbs < 2 ^ 700 := by rw [Int.mul_one] at aQ; omega
      refine ⟨_, rfl, _, _, P', Q', c, d, rfl, ⟨v, rfl, SqT.of ev⟩, ⟨z2, rfl, H2 w2⟩, by omega, hc, sP, S bQ, S bc, S bd, fun x hx => ?_⟩
      have hpos : 0 < Q' * c := Int.mul_pos lq c0
      have w3 := w2.trans (qH hx (.tup [.int (xG (P' * d) (Q' * c)), .int (jW (P' * d) (Q' * c))]))
      have lq2 := xU (t := P' * d) (b := Q' * c) (by omega)
      refine ⟨_, _, _, rfl, ⟨x, rfl, SqT.of qD⟩, by omega, Nat.lt_of_le_of_lt (zW (by omega)) (qJk (jf bQ bc)), ?_⟩
      rw [wu hpos]
      refine ⟨_, rfl, ?_, w3⟩
      have e : g = -(P' * d).fdiv (Q' * c) := by
        have hcB' := Int.mul_pos c0 hB
        rw [← hgg, if_neg (by omega)]
        rw [vW hcB' hpos (by grind : (A' * d - m * (B * d)) * (Q' * c) = P' * d * (c * B))]
      rw [e]
      rfl
  rintro σ' H' ⟨rfl, sH⟩
  exact ⟨_, rfl, _, _, rfl, res H' sH⟩
theorem qHy {H H' : Hp} (e : Same H H') {a : Addr} {u : HO} (h : Rd H a u) : Rd H' a u := by
  rcases h with h | ⟨o, h⟩
  · exact .inl (e _ _ h)
  · exact .inr ⟨o, e _ _ h⟩
def Reel (H : Hp) (rd : Addr) (n : Str) (m : Int) : Prop := ∃ kvs, Rd H rd (.dK kvs) ∧ qEf kvs (Sum.inr n) = some (.int m)
theorem Reel.same {H H' : Hp} {rd : Addr} {n : Str} {m : Int} (e : Same H H') (h : Reel H rd n m) : Reel H' rd n m := let ⟨k, h1, h2⟩ := h; ⟨k, qHy e h1, h2⟩
theorem Reel.get {H : Hp} {rd : Addr} {n : Str} {m : Int} (h : Reel H rd n m) : DGet H rd (.str n) (some (.int m)) := let ⟨k, h1, h2⟩ := h; .inl ⟨k, Sum.inr n, h1, rfl, h2.symm⟩
def Vk (p q r s k : Int) : Int := p * s + k * r * q
structure Ch (H : Hp) (z : Addr) (n : Str) (p q r s len : Int) : Prop where
  ex : ∃ z1 z2, H z = some (.tup [.str "clip", .str n, .ref z1, .ref z2, .int len]) ∧ H z1 = some (.tup [.int p, .int q]) ∧ H z2 = some (.tup [.int r, .int s])
theorem Ch.same {H H' : Hp} {z : Addr} {n : Str} {p q r s len : Int} (e : Same H H') (h : Ch H z n p q r s len) : Ch H' z n p q r s len := let ⟨z1, z2, h1, h2, h3⟩ := h.ex; ⟨z1, z2, e _ _ h1, e _ _ h2, e _ _ h3⟩
theorem Ch.cp {H : Hp} {z : Addr} {n : Str} {p q r s len : Int} (h : Ch H z n p q r s len) : Cp K H (.ref z) n p q r s len := let ⟨z1, z2, h1, h2, h3⟩ := h.ex; ⟨z, z1, z2, rfl, SqT.of h1, SqT.of h2, SqT.of h3⟩
def qC1 (K : W.Frag) : Sp := fun vs H Q _ => ∃ (v : V) (n : Str) (p q r s len m : Int) (rd : Addr), vs = [v, .ref rd] ∧ Cp K H v n p q r s len ∧ Good 110 p q ∧ Good 110 r s ∧ Reel H rd n m ∧ m.natAbs < 2 ^ 700 ∧
  ∀ H', Same H H' → Q (.int (vq (plP p q r s (-1) * s) (-1 * r * plQ p q r s (-1)) (plQ p q r s (-1) * s) m)) H'
theorem qCm (T : Tx K mg a) : FnOk P w K mg base CX0 5 a.a_head_room a.f_head_room ["clip", "reels"] (qC1 K) := by
  refine T.d_head_room.F.ok qC9 (fun vs H Q E h => ?_) (fun cdv A outer s H vs Q E hr h => ?_)
  · obtain ⟨v, n, p, q, r, s, len, m, rd, rfl, _⟩ := h
    rfl
  obtain ⟨v, n, p, q, r, s', len, m, rd, rfl, hc, g1, g2, hrd, bm, kk⟩ := h
  have hu1 := qLl hr
  refine ⟨_, (qG (qP (qN T.d_moments_there (zf T) hr rfl (qA (qN T.d_place_at (zX T) hr rfl (qA (pv 0) (qA (qAh kO qB) qE))) (qA (qN T.d_less_by (vX T) hr rfl (qA (xS (v := .ref a.n_NOUGHT) rfl T.g_NOUGHT rfl) (qA (qJ qI (pv 0) qB (fun _ _ => rfl)) qE))) (qA (wf hu1 (pv 1) (qJ qI (pv 0) qB (fun _ _ => rfl)) (fun _ _ => rfl)) qE)))))), ?_⟩
  try dsimp only [jo, qi]
  have hb : Bn 110 p q r s' := ⟨g1.1, g2.1, g1.2.2.1, g1.2.2.2, g2.2.2.1, g2.2.2.2⟩
  have hb7 := hb.mono (m := 700)
  have hp := (hb.part (k := -1) (by decide)).mono (m := 700)
  refine ⟨_, rfl, _, rfl, v, n, p, q, r, s', len, -1, rfl, hc, hb7.q0, hb7.s0, hb7.bp, hb7.bq, hb7.br, hb7.bs, vC (n := 30) (by decide), fun y H1 s1 e1 => ?_⟩
  obtain ⟨z, z1, z2, e, h0, h1, h2⟩ := (hc.same s1).ex
  subst e
  have S : ∀ {i : Int}, i.natAbs < 2 ^ 700 → Sm i := fun h => vC h
  refine (qZ rfl h0 qGr ?_)
  refine ⟨_, _, 0, 1, r, s', rfl, ⟨_, rfl, T.sq_NOUGHT _⟩, ⟨z2, rfl, h2⟩, by decide, by have := hb.s0; omega, Sm.of200 (by decide), Sm.of200 (by decide), S hb7.br, S hb7.bs, fun u hu' => ?_⟩
  rw [(qBe hb.s0 g2.2.1).1, (qBe hb.s0 g2.2.1).2]
  have w1 := qH hu' (.tup [.int (-r), .int s'])
  refine ⟨_, rfl, _, rfl, z, _, _, _, rfl, rfl, L3.Same.tup w1 h0, qAs, rd, _, rfl, (hrd.same (s1.trans w1)).get, ?_⟩
  refine ⟨_, _, _, _, -r, s', m, rfl, ⟨y, rfl, SqT.of (w1 _ _ e1)⟩, ⟨u, rfl, SqT.of qD⟩, hp.q0, hb.s0, by rw [Int.neg_gcd]; exact g2.2.1, hp.bp, hp.bq, by rw [Int.natAbs_neg]; exact hb7.br, hb7.bs, bm, fun H' sH => ?_⟩
  have := kk H' (s1.trans (w1.trans sH))
  rw [show -1 * r * plQ p q r s' (-1) = -r * plQ p q r s' (-1) by grind] at this
  exact this
def qCq (K : W.Frag) : Sp := fun vs H Q _ => ∃ (v : V) (n : Str) (p q r s len m : Int) (rd : Addr), vs = [v, .ref rd] ∧ Cp K H v n p q r s len ∧ Good 110 p q ∧ Good 110 r s ∧ len.natAbs < 2 ^ 30 ∧ Reel H rd n m ∧ m.natAbs < 2 ^ 700 ∧
  ∀ H', Same H H' → Q (.int (vq (plP p q r s len * s) (1 * r * plQ p q r s len) (plQ p q r s len * s) m)) H'
theorem qDj (T : Tx K mg a) : FnOk P w K mg base CX0 5 a.a_tail_room a.f_tail_room ["clip", "reels"] (qCq K) := by
  refine T.d_tail_room.F.ok qDw (fun vs H Q E h => ?_) (fun cdv A outer s H vs Q E hr h => ?_)
  · obtain ⟨v, n, p, q, r, s, len, m, rd, rfl, _⟩ := h
    rfl
  obtain ⟨v, n, p, q, r, s', len, m, rd, rfl, hc, g1, g2, bl, hrd, bm, kk⟩ := h
  have hu1 := qLl hr
  refine ⟨_, (qG (qP (qN T.d_moments_there (zf T) hr rfl (qA (qN T.d_place_at (zX T) hr rfl (qA (pv 0) (qA (qJ qI (pv 0) qB (fun _ _ => rfl)) qE))) (qA (qJ qI (pv 0) qB (fun _ _ => rfl)) (qA (wf hu1 (pv 1) (qJ qI (pv 0) qB (fun _ _ => rfl)) (fun _ _ => rfl)) qE)))))), ?_⟩
  try dsimp only [jo, qi]
  have hb : Bn 110 p q r s' := ⟨g1.1, g2.1, g1.2.2.1, g1.2.2.2, g2.2.2.1, g2.2.2.2⟩
  have hb7 := hb.mono (m := 700)
  have hp := (hb.part (k := len) bl).mono (m := 700)
  have hc0 := hc
  obtain ⟨z, z1, z2, e, h0, h1, h2⟩ := hc0.ex
  subst e
  refine ⟨_, rfl, qZ rfl h0 qEi ⟨_, n, p, q, r, s', len, len, rfl, hc, hb7.q0, hb7.s0, hb7.bp, hb7.bq, hb7.br, hb7.bs, vC bl, fun y H1 s1 e1 => ?_⟩⟩
  refine ⟨_, rfl, z, _, _, _, rfl, rfl, L3.Same.tup s1 h0, qGr, ?_⟩
  refine ⟨_, rfl, _, rfl, z, _, _, _, rfl, rfl, L3.Same.tup s1 h0, qAs, rd, _, rfl, (hrd.same s1).get, ?_⟩
  refine ⟨_, _, _, _, r, s', m, rfl, ⟨y, rfl, SqT.of e1⟩, ⟨z2, rfl, L3.Same.tup s1 h2⟩, hp.q0, hb.s0, g2.2.1, hp.bp, hp.bq, hb7.br, hb7.bs, bm, fun H' sH => ?_⟩
  have := kk H' (s1.trans sH)
  rw [Int.one_mul] at this
  exact this
theorem qI2 (ns : List Int) (lo hi : Option Int) : ∃ ms : List Int, qEe (ns.map V.int) lo hi = ms.map V.int ∧ ms.length ≤ ns.length := by
  refine ⟨(ns.drop (HT.sIx (ns.map V.int).length 0 lo)).take (HT.sIx (ns.map V.int).length (ns.map V.int).length hi - HT.sIx (ns.map V.int).length 0 lo), ?_, ?_⟩
  · unfold qEe
    rw [List.map_take, List.map_drop]
  · rw [List.length_take, List.length_drop]; omega
inductive Im where
  | clip (n : Str) (p q r s l : Int)
  | nest (n : Str) (b l : Int)
  | gap (l : Int)
  | mix (l : Int)
def Im.d : Im → D
  | .clip n p q r s l => .tup [.leaf (.str "clip"), .leaf (.str n), .tup [.leaf (.int p), .leaf (.int q)], .tup [.leaf (.int r), .leaf (.int s)], .leaf (.int l)]
  | .nest n b l => .tup [.leaf (.str "nest"), .leaf (.str n), .leaf (.int b), .leaf (.int l)]
  | .gap l => .tup [.leaf (.str "gap"), .leaf (.int l)]
  | .mix l => .tup [.leaf (.str "mix"), .leaf (.int l)]
def Im.wd : Im → Str
  | .clip .. => "clip"
  | .nest .. => "nest"
  | .gap _ => "gap"
  | .mix _ => "mix"
def Im.l : Im → Int
  | .clip _ _ _ _ _ l => l
  | .nest _ _ l => l
  | .gap l => l
  | .mix l => l
def TS (H H' : Hp) : Prop := ∀ b xs, H b = some (.tup xs) → H' b = some (.tup xs)
theorem TS.refl (H : Hp) : TS H H := fun _ _ h => h
theorem TS.trans {H H1 H2 : Hp} (a : TS H H1) (b : TS H1 H2) : TS H H2 := fun c o h => b c o (a c o h)
theorem qg {H H' : Hp} (e : Same H H') : TS H H' := fun _ _ h => e _ _ h
theorem zG {H : Hp} {l : Addr} {xs : List V} {o : HO} (h : H l = some (.lst xs)) : TS H (upd H l o) := fun b ys hb => by
  rw [qY (qCr hb h (by intro z; cases z))]; exact hb
theorem jX {H H' : Hp} {y : Addr} {o : HO} (e : Same H H') (h : H y = none) : Same H (upd H' y o) := fun b u hb => by
  rw [qY (qR hb h)]; exact e b u hb
def IsI (H : Hp) : Im → V → Prop
  | .clip n p q r s l, v => ∃ z x y : Addr, v = .ref z ∧ H z = some (.tup [.str "clip", .str n, .ref x, .ref y, .int l]) ∧ H x = some (.tup [.int p, .int q]) ∧ H y = some (.tup [.int r, .int s])
  | .nest n b l, v => ∃ z : Addr, v = .ref z ∧ H z = some (.tup [.str "nest", .str n, .int b, .int l])
  | .gap l, v => ∃ z : Addr, v = .ref z ∧ H z = some (.tup [.str "gap", .int l])
  | .mix l, v => ∃ z : Addr, v = .ref z ∧ H z = some (.tup [.str "mix", .int l])
theorem isG {H : Hp} {z : Addr} {l : Int} (h : H z = some (.tup [.str "gap", .int l])) : IsI H (.gap l) (.ref z) := ⟨z, rfl, h⟩
theorem isM {H : Hp} {z : Addr} {l : Int} (h : H z = some (.tup [.str "mix", .int l])) : IsI H (.mix l) (.ref z) := ⟨z, rfl, h⟩
theorem isN {H : Hp} {z : Addr} {n : Str} {b l : Int} (h : H z = some (.tup [.str "nest", .str n, .int b, .int l])) : IsI H (.nest n b l) (.ref z) := ⟨z, rfl, h⟩
theorem isC {H : Hp} {z x y : Addr} {n : Str} {p q r s l : Int} (h : H z = some (.tup [.str "clip", .str n, .ref x, .ref y, .int l])) (hx : H x = some (.tup [.int p, .int q])) (hy : H y = some (.tup [.int r, .int s])) : IsI H (.clip n p q r s l) (.ref z) := ⟨z, x, y, rfl, h, hx, hy⟩
theorem IsI.ts {H H' : Hp} (e : TS H H') : ∀ {m : Im} {v : V}, IsI H m v → IsI H' m v
  | .clip .., _, ⟨z, x, y, h, hz, hx, hy⟩ => ⟨z, x, y, h, e _ _ hz, e _ _ hx, e _ _ hy⟩
  | .nest .., _, ⟨z, h, hz⟩ => ⟨z, h, e _ _ hz⟩
  | .gap _, _, ⟨z, h, hz⟩ => ⟨z, h, e _ _ hz⟩
  | .mix _, _, ⟨z, h, hz⟩ => ⟨z, h, e _ _ hz⟩
theorem IsI.opn {H : Hp} {m : Im} {v : V} (h : IsI H m v) : ∃ (z : Addr) (xs : List V), v = .ref z ∧ H z = some (.tup xs) ∧ atI xs 0 = some (.str m.wd) ∧ atI xs (-1) = some (.int m.l) := by
  cases m with
  | clip n p q r s l => obtain ⟨z, x, y, h, hz, _⟩ := h; exact ⟨z, _, h, hz, rfl, rfl⟩
  | nest n b l => obtain ⟨z, h, hz⟩ := h; exact ⟨z, _, h, hz, rfl, rfl⟩
  | gap l => obtain ⟨z, h, hz⟩ := h; exact ⟨z, _, h, hz, rfl, rfl⟩
  | mix l => obtain ⟨z, h, hz⟩ := h; exact ⟨z, _, h, hz, rfl, rfl⟩
theorem qA7 {H : Hp} : ∀ {xs : List V}, xs.all xc = true → Reps K H (xs.map D.leaf) xs
  | [], _ => by simp [Reps]
  | x :: xs, h => by
    rw [List.all_cons, Bool.and_eq_true] at h
    rw [List.map_cons]; unfold Reps Rep
    exact ⟨⟨rfl, h.1⟩, qA7 h.2⟩
theorem kr {H : Hp} {z : Addr} {xs : List V} (hz : H z = some (.tup xs)) (h : xs.all xc = true) : Rep K H (.tup (xs.map D.leaf)) (.ref z) := by
  unfold Rep
  exact ⟨z, xs, rfl, SqT.of hz, qA7 h⟩
theorem IsI.rep {H : Hp} : ∀ {m : Im} {v : V}, IsI H m v → Rep K H m.d v
  | .clip n p q r s l, _, ⟨z, x, y, h, hz, hx, hy⟩ => by
    subst h
    have h1 : Rep K H (.tup [.leaf (.int p), .leaf (.int q)]) (.ref x) := kr hx rfl
    have h2 : Rep K H (.tup [.leaf (.int r), .leaf (.int s)]) (.ref y) := kr hy rfl
    unfold Im.d Rep
    refine ⟨z, _, rfl, SqT.of hz, ?_⟩
    unfold Reps Reps Reps Reps Reps Reps
    refine ⟨?_, ?_, h1, h2, ?_, trivial⟩
    · unfold Rep; exact ⟨rfl, rfl⟩
    · unfold Rep; exact ⟨rfl, rfl⟩
    · unfold Rep; exact ⟨rfl, rfl⟩
  | .nest n b l, _, ⟨z, h, hz⟩ => by subst h; exact kr hz rfl
  | .gap l, _, ⟨z, h, hz⟩ => by subst h; exact kr hz rfl
  | .mix l, _, ⟨z, h, hz⟩ => by subst h; exact kr hz rfl
theorem qJp (m : Im) : eqD m.d m.d = true := by
  cases m <;> simp [Im.d, eqD, kB, eqV]
theorem qM2 (m : Im) : dep m.d ≤ 2 := by
  cases m <;> simp [Im.d, dep, wF]
def IsIs (H : Hp) : List Im → List V → Prop
  | [], [] => True
  | m :: ms, v :: vs => IsI H m v ∧ IsIs H ms vs
  | _, _ => False
theorem IsIs.len {H : Hp} : ∀ {ms : List Im} {vs : List V}, IsIs H ms vs → vs.length = ms.length
  | [], [], _ => rfl
  | _ :: _, _ :: _, h => by rw [List.length_cons, List.length_cons, IsIs.len h.2]
  | [], _ :: _, h => h.elim
  | _ :: _, [], h => h.elim
theorem IsIs.ts {H H' : Hp} (e : TS H H') : ∀ {ms : List Im} {vs : List V}, IsIs H ms vs → IsIs H' ms vs
  | [], [], _ => trivial
  | _ :: _, _ :: _, h => ⟨IsI.ts e h.1, IsIs.ts e h.2⟩
  | [], _ :: _, h => h.elim
  | _ :: _, [], h => h.elim
theorem IsIs.get {H : Hp} : ∀ {ms : List Im} {vs : List V} {i : Nat} {v : V}, IsIs H ms vs → vs[i]? = some v → ∃ m, ms[i]? = some m ∧ IsI H m v
  | [], [], _, _, _, h => by simp at h
  | m :: _, x :: _, 0, v, h, e => by
    have e' : x = v := by simpa using e
    subst e'
    exact ⟨m, rfl, h.1⟩
  | _ :: ms, _ :: vs, i + 1, v, h, e => by
    obtain ⟨m, h1, h2⟩ := IsIs.get (i := i) h.2 (by simpa using e)
    exact ⟨m, by simpa using h1, h2⟩
  | [], _ :: _, _, _, h, _ => h.elim
  | _ :: _, [], _, _, h, _ => h.elim
theorem IsIs.get' {H : Hp} {ms : List Im} {vs : List V} {i : Nat} {m : Im} (h : IsIs H ms vs) (e : ms[i]? = some m) : ∃ v, vs[i]? = some v ∧ IsI H m v := by
  have hi : i < vs.length := by rw [h.len]; exact (glt e)
  have ev : vs[i]? = some vs[i] := List.getElem?_eq_getElem hi
  obtain ⟨m', h1, h2⟩ := h.get ev
  rw [e] at h1
  cases h1
  exact ⟨_, ev, h2⟩
theorem IsIs.app {H : Hp} : ∀ {ms : List Im} {vs : List V} {ms' : List Im} {vs' : List V}, IsIs H ms vs → IsIs H ms' vs' → IsIs H (ms ++ ms') (vs ++ vs')
  | [], [], _, _, _, h' => h'
  | _ :: _, _ :: _, _, _, h, h' => ⟨h.1, h.2.app h'⟩
  | [], _ :: _, _, _, h, _ => h.elim
  | _ :: _, [], _, _, h, _ => h.elim
theorem IsIs.one {H : Hp} {m : Im} {v : V} (h : IsI H m v) : IsIs H [m] [v] := ⟨h, trivial⟩
theorem IsIs.rep {H : Hp} : ∀ {ms : List Im} {vs : List V}, IsIs H ms vs → Reps K H (ms.map Im.d) vs
  | [], [], _ => by unfold List.map Reps; trivial
  | _ :: _, _ :: _, h => by unfold List.map Reps; exact ⟨h.1.rep, h.2.rep⟩
  | [], _ :: _, h => h.elim
  | _ :: _, [], h => h.elim
theorem qCx : ∀ ms : List Im, kB (ms.map Im.d) (ms.map Im.d) = true
  | [] => by simp [kB]
  | m :: ms => by unfold List.map kB; rw [qJp, qCx ms]; rfl
theorem qFm : ∀ ms : List Im, wF (ms.map Im.d) ≤ 2
  | [] => by simp [wF]
  | m :: ms => by
    have h1 := qM2 m
    have h2 := qFm ms
    unfold List.map wF
    omega
def Tr (H : Hp) (z : Addr) (ms : List Im) : Prop := ∃ vs, H z = some (.lst vs) ∧ IsIs H ms vs
theorem Tr.same {H H' : Hp} {z : Addr} {ms : List Im} (e : Same H H') (h : Tr H z ms) : Tr H' z ms := let ⟨vs, h1, h2⟩ := h; ⟨vs, e _ _ h1, h2.ts (qg e)⟩
theorem Tr.rep {H : Hp} {z : Addr} {ms : List Im} (h : Tr H z ms) : Rep K H (.lst (ms.map Im.d)) (.ref z) := by
  obtain ⟨vs, h1, h2⟩ := h
  unfold Rep
  exact ⟨z, vs, rfl, SqL.of h1, h2.rep⟩
theorem qM4 {H : Hp} {x y : Addr} {ms : List Im} {Q : VK} (h1 : Tr H x ms) (h2 : H y = some (.lst [])) (q : Q (.bl ms.isEmpty) H) : qMv K false (.ref x) (.ref y) H Q := by
  refine ⟨_, .lst [], h1.rep, ?_, rfl, by have := qFm ms; unfold dep; omega, ?_⟩
  · unfold Rep; exact ⟨y, [], rfl, SqL.of h2, by unfold Reps; trivial⟩
  · have e : eqD (.lst (ms.map Im.d)) (.lst []) = ms.isEmpty := by cases ms <;> simp [eqD, kB]
    rw [e]
    exact q
theorem qN1 {H : Hp} {x y : Addr} {ms : List Im} {Q : VK} (h1 : Tr H x ms) (h2 : H y = some (.lst [])) (q : Q (.bl (!ms.isEmpty)) H) : qMv K true (.ref x) (.ref y) H Q := by
  refine ⟨_, .lst [], h1.rep, ?_, rfl, by have := qFm ms; unfold dep; omega, ?_⟩
  · unfold Rep; exact ⟨y, [], rfl, SqL.of h2, by unfold Reps; trivial⟩
  · have e : eqD (.lst (ms.map Im.d)) (.lst []) = ms.isEmpty := by cases ms <;> simp [eqD, kB]
    rw [e]
    exact q
theorem qIx {H : Hp} {x : Addr} {ns : List Int} (h : H x = some (.lst (ns.map V.int))) : Rep K H (.lst ((ns.map V.int).map D.leaf)) (.ref x) := by
  unfold Rep
  exact ⟨x, _, rfl, SqL.of h, qA7 (by rw [List.all_map, List.all_eq_true]; intro _ _; rfl)⟩
theorem qFj : ∀ ns : List Int, kB ((ns.map V.int).map D.leaf) ((ns.map V.int).map D.leaf) = true
  | [] => by simp [kB]
  | n :: ns => by
    have ih := qFj ns
    simp only [List.map_cons]
    unfold kB
    rw [ih]
    simp [eqD, eqV]
theorem qCv : ∀ vs : List V, wF (vs.map D.leaf) = 0
  | [] => by simp [wF]
  | n :: ns => by
    have ih := qCv ns
    simp only [List.map_cons]
    unfold wF
    rw [ih]
    simp [dep]
theorem IsIs.dl {H : Hp} : ∀ {ms : List Im} {vs : List V}, IsIs H ms vs → IsIs H ms.dropLast vs.dropLast
  | [], [], _ => trivial
  | [_], [_], _ => trivial
  | _ :: _ :: _, _ :: _ :: _, h => ⟨h.1, IsIs.dl h.2⟩
  | [], _ :: _, h => h.elim
  | _ :: _, [], h => h.elim
  | [_], _ :: _ :: _, h => h.2.elim
  | _ :: _ :: _, [_], h => h.2.elim
theorem IsIs.last {H : Hp} {ms : List Im} {vs : List V} (h : IsIs H ms vs) (hne : ms ≠ []) : ∃ v m, vs[vs.length - 1]? = some v ∧ ms.getLast? = some m ∧ m ∈ ms ∧ IsI H m v := by
  have hl : 0 < ms.length := List.length_pos_iff.mpr hne
  have hi : vs.length - 1 < vs.length := by rw [h.len]; omega
  have ev : vs[vs.length - 1]? = some vs[vs.length - 1] := List.getElem?_eq_getElem hi
  obtain ⟨m, h1, h2⟩ := h.get ev
  refine ⟨_, m, ev, ?_, List.mem_of_getElem? h1, h2⟩
  rw [h.len] at h1
  rw [List.getLast?_eq_getElem?]
  exact h1
theorem qLk {m : Im} (h : m.wd = "gap") : ∃ l, m = .gap l := by
  cases m with
  | gap l => exact ⟨l, rfl⟩
  | clip => exact absurd (show ("clip" : Str) = "gap" from h) (by decide +kernel)
  | nest => exact absurd (show ("nest" : Str) = "gap" from h) (by decide +kernel)
  | mix => exact absurd (show ("mix" : Str) = "gap" from h) (by decide +kernel)
def qAw : Int → List Im → List Im
  | _, [] => []
  | w, .gap l :: ms => qAw (w + l) ms
  | w, .clip n p q r s l :: ms => if 0 < w then .gap w :: .clip n p q r s l :: qAw 0 ms else .clip n p q r s l :: qAw 0 ms
  | w, .nest n b l :: ms => if 0 < w then .gap w :: .nest n b l :: qAw 0 ms else .nest n b l :: qAw 0 ms
  | w, .mix l :: ms => if 0 < w then .gap w :: .mix l :: qAw 0 ms else .mix l :: qAw 0 ms
theorem qAu {m : Im} (h : m.wd ≠ "gap") (w : Int) (ms : List Im) : qAw w (m :: ms) = if 0 < w then .gap w :: m :: qAw 0 ms else m :: qAw 0 ms := by
  cases m with
  | gap l => exact absurd rfl h
  | _ => rw [qAw]
theorem qCg : ∀ (w : Int) (ms : List Im), (qAw w ms).length ≤ 2 * ms.length
  | _, [] => by simp [qAw]
  | w, m :: ms => by
    by_cases h : m.wd = "gap"
    · obtain ⟨l, rfl⟩ := qLk h
      have := qCg (w + l) ms
      rw [qAw, List.length_cons]
      omega
    · have := qCg 0 ms
      rw [qAu h]
      split <;> simp only [List.length_cons] <;> omega
def qE0 : Sp := fun vs H Q _ => ∃ (z : Addr) (ms : List Im), vs = [.ref z] ∧ Tr H z ms ∧ ms.length ≤ 300 ∧ ∀ (y : Addr) (H' : Hp), Same H H' → H y = none → Tr H' y (qAw 0 ms) → Q (.ref y) H'
theorem qE7 (T : Tx K mg a) : FnOk P w K mg base CX0 1 a.a_one_form a.f_one_form ["some"] qE0 := by
  refine T.d_one_form.F.ok sc_one_form (fun vs H Q E h => ?_) (fun cdv A outer s H vs Q E hr h => ?_)
  · obtain ⟨z, ms, rfl, _⟩ := h
    rfl
  obtain ⟨z, ms, rfl, ⟨xs, hz, his⟩, hl, kk⟩ := h
  refine ⟨_, (qF (qV (i := 1) sc_one_form.nd rfl (Or.inl rfl) (jI qE))
      (qF (qV (i := 2) sc_one_form.nd rfl (Or.inl rfl) qB)
      (qF (xn PassesOwn.never rfl (jZ (pv 0)) (ja (i := 3) sc_one_form.nd rfl (Or.inl rfl)) (qG (qh (qL xj (qJ qI (pv 3) qB (fun _ _ => rfl)) qX (qU _)) (qG (qV (i := 2) sc_one_form.nd rfl (Or.inl rfl) (qO qp (pv 2) (qJ qI (pv 3) qB (fun _ _ => rfl))))) (qF (qh (qL qBs (pv 2) qB (qU _)) (qG (jD (kj F.plainAttrs_list F.slot_list_append F.type_list_append q9 (pv 1) (qA (ql (qA qX (qA (pv 2) qE))) qE)))) qS)
      (qF (qV (i := 2) sc_one_form.nd rfl (Or.inl rfl) qB)
      (qG (jD (kj F.plainAttrs_list F.slot_list_append F.type_list_append q9 (pv 1) (qA (pv 3) qE)))))))))
      (qG (qP (pv 1)))))), ?_⟩
  try dsimp only [jo, qi]
  refine ⟨sL0, fun y hy => ?_⟩
  refine ⟨_, rfl, z, rfl, ⟨_, SqL.of ((qH hy _) _ _ hz)⟩, xZ (K := K) (a := z) (xs := xs) (fun i σ H' => ∃ (w : Int) (as : List Im) (o : Option V) (vs : List V), σ = [some (.ref z), some (.ref y), some (.int w), o] ∧ H' y = some (.lst vs) ∧ IsIs H' as vs ∧ as.length ≤ 2 * i ∧ as ++ qAw w (ms.drop i) = qAw 0 ms ∧ Same H H')
    ⟨0, [], none, [], rfl, qD, trivial, by simp, rfl, qH hy _⟩ ?_ ?_ ?_⟩
  · rintro i σ H' hi ⟨w, as, o, vs, rfl, _, _, _, _, e⟩
    exact SqL.of (e _ _ hz)
  · rintro i x σ H' hx ⟨w, as, o, vs, rfl, hv, hiv, hal, hap, e⟩
    obtain ⟨m, hm, hIx⟩ := his.get hx
    have hI := hIx.ts (qg e)
    have hi : i < ms.length := (glt hm)
    have hd : ms.drop i = m :: ms.drop (i + 1) := by
      rw [List.drop_eq_getElem_cons hi]
      rw [List.getElem?_eq_getElem hi] at hm
      cases hm
      rfl
    have hvl : vs.length ≤ 2 * i := by rw [hiv.len]; exact hal
    obtain ⟨zi, xi, rfl, hzi, h0, h1⟩ := hI.opn
    refine ⟨_, rfl, zi, xi, _, _, rfl, rfl, SqT.of hzi, h0, rfl, _, rfl, xo (fun c => ?_) (fun c => ?_)⟩
    · obtain ⟨l, rfl⟩ := qLk (by simpa using c)
      obtain ⟨z2, e2, hz2⟩ := hI
      cases e2
      refine ⟨_, rfl, qZ rfl (SqT.of hz2) at1 ⟨_, _, rfl, rfl, w + l, as, _, vs, rfl, hv, hiv, by omega, ?_, e⟩⟩
      rw [hd, qAw] at hap
      exact hap
    · have hne : m.wd ≠ "gap" := by simpa using c
      rw [hd, qAu hne] at hap
      refine ⟨_, rfl, _, _, rfl, rfl, _, rfl, xo (fun c => ?_) (fun c => ?_)⟩
      · have c' : 0 < w := by simpa using c
        rw [if_pos c'] at hap
        refine ⟨_, rfl, .inl ⟨rfl, _, SqL.of hv⟩, _, rfl, sL2, fun g hg => ?_⟩
        have w1 := qH hg (.tup [.str "gap", .int w])
        refine ⟨y, _, _, rfl, rfl, w1 _ _ hv, qc (by omega), ?_⟩
        have t2 : TS (upd H' g (.tup [.str "gap", .int w])) (upd (upd H' g (.tup [.str "gap", .int w])) y (.lst (vs ++ [.ref g]))) := zG (w1 _ _ hv)
        have k2 : IsIs (upd (upd H' g (.tup [.str "gap", .int w])) y (.lst (vs ++ [.ref g]))) (as ++ [.gap w]) (vs ++ [.ref g]) := ((hiv.ts (qg w1)).app (.one (isG qD))).ts t2
        have k1 : IsI (upd (upd H' g (.tup [.str "gap", .int w])) y (.lst (vs ++ [.ref g]))) m (.ref zi) := (hI.ts (qg w1)).ts t2
        have e2 : Same H (upd (upd H' g (.tup [.str "gap", .int w])) y (.lst (vs ++ [.ref g]))) := jX (e.trans w1) hy
        have hv2 : (upd (upd H' g (.tup [.str "gap", .int w])) y (.lst (vs ++ [.ref g]))) y = some (.lst (vs ++ [.ref g])) := qD
        generalize upd (upd H' g (.tup [.str "gap", .int w])) y (.lst (vs ++ [.ref g])) = H2 at k1 k2 e2 hv2 ⊢
        refine ⟨_, rfl, .inl ⟨rfl, _, SqL.of hv2⟩, _, rfl, y, _, _, rfl, rfl, hv2, qc (by rw [List.length_append]; simp; omega), ?_⟩
        refine ⟨0, as ++ [.gap w] ++ [m], _, _, rfl, qD, (k2.app (.one k1)).ts (zG hv2), by simp; omega, ?_, jX e2 hy⟩
        rw [← hap]; simp
      · have c' : ¬ 0 < w := by simpa using c
        rw [if_neg c'] at hap
        refine ⟨_, rfl, .inl ⟨rfl, _, SqL.of hv⟩, _, rfl, y, _, _, rfl, rfl, hv, qc (by omega), ?_⟩
        refine ⟨0, as ++ [m], _, _, rfl, qD, (hiv.app (.one hI)).ts (zG hv), by simp; omega, ?_, jX e hy⟩
        rw [← hap]; simp
  · rintro σ H' ⟨w, as, o, vs, rfl, hv, hiv, _, hap, e⟩
    refine ⟨_, rfl, kk y H' e hy ⟨vs, hv, ?_⟩⟩
    rw [his.len, List.drop_length, qAw, List.append_nil] at hap
    rw [← hap]
    exact hiv
def Im.mo : Im → Int
  | .mix _ => 0
  | .clip _ _ _ _ _ l => l
  | .nest _ _ l => l
  | .gap l => l
theorem qFz {α : Type} {xs : List α} {v : α} (h : xs[xs.length - 1]? = some v) : atI xs (-1) = some v := by
  have hl : 0 < xs.length := by
    have := (glt h)
    omega
  have e : ixN xs.length (-1) = some (xs.length - 1) := by
    unfold ixN
    rw [if_neg (by decide), if_pos (by omega)]
    congr 1
    omega
  unfold atI; rw [e]; exact h
theorem qGp {m : Im} (h : m.wd = "mix") : ∃ l, m = .mix l := by
  cases m with
  | mix l => exact ⟨l, rfl⟩
  | clip => exact absurd (show ("clip" : Str) = "mix" from h) (by decide +kernel)
  | nest => exact absurd (show ("nest" : Str) = "mix" from h) (by decide +kernel)
  | gap => exact absurd (show ("gap" : Str) = "mix" from h) (by decide +kernel)
theorem qLx {m : Im} (h : m.wd ≠ "mix") : m.mo = m.l := by
  cases m with
  | mix l => exact absurd rfl h
  | _ => rfl
theorem qOx {x y : Str} : decide (V.str x = V.str y) = decide (x = y) := by
  rw [Bool.eq_iff_iff]; simp
def qCa : Sp := fun vs H Q _ => ∃ (v : V) (m : Im), vs = [v] ∧ IsI H m v ∧ Q (.int m.mo) H
theorem jN (T : Tx K mg a) : FnOk P w K mg base CX0 1 a.a_moments_of a.f_moments_of ["item"] qCa := by
  refine T.d_moments_of.F.ok qCe (fun vs H Q E h => ?_) (fun cdv A outer s H vs Q E hr h => ?_)
  · obtain ⟨v, m, rfl, _⟩ := h
    rfl
  obtain ⟨v, m, rfl, hI, kk⟩ := h
  refine ⟨_, (qG (qP (wI (qL xj (qJ qI (pv 0) qB (fun _ _ => rfl)) qX (qU _)) qB (qJ qI (pv 0) (qAh kO qB) (fun _ _ => rfl))))), ?_⟩
  try dsimp only [jo, qi]
  obtain ⟨z, xs, rfl, hz, h0, h1⟩ := hI.opn
  refine ⟨_, rfl, z, xs, _, _, rfl, rfl, SqT.of hz, h0, rfl, _, rfl, xo (fun c => ?_) (fun c => ?_)⟩
  · obtain ⟨l, rfl⟩ := qGp (by simpa using c)
    exact kk
  · rw [qLx (by simpa using c)] at kk
    exact ⟨_, rfl, _, rfl, z, xs, _, _, rfl, rfl, SqT.of hz, h1, kk⟩
def qDz : Sp := fun vs H Q _ => ∃ (z : Addr) (ms : List Im), vs = [.ref z] ∧ Tr H z ms ∧ ms.length ≤ 300 ∧ ∀ H', Same H H' → Q (.int (ms.map Im.mo).sum) H'
theorem vm (T : Tx K mg a) : FnOk P w K mg base CX0 3 a.a_length_of a.f_length_of ["track"] qDz := by
  refine T.d_length_of.F.ok qCy (fun vs H Q E h => ?_) (fun cdv A outer s H vs Q E hr h => ?_)
  · obtain ⟨z, ms, rfl, _⟩ := h
    rfl
  obtain ⟨z, ms, rfl, ⟨xs, hz, his⟩, hl, kk⟩ := h
  refine ⟨_, (qG (qP (qd (qCp rfl) rfl T.b_sum rfl (qA (wk [] [] rfl (jZ (pv 0)) (fun _ _ _ _ => (qN T.d_moments_of (jN T) hr rfl (qA (pv 0) qE)))) qE)))), ?_⟩
  try dsimp only [jo, qi]
  refine ⟨_, rfl, z, rfl, ⟨_, SqL.of hz⟩, ku (K := K) (a := z) (xs := xs) (fun i acc H' => H' = H ∧ acc = ((ms.take i).map Im.mo).map V.int) ⟨rfl, rfl⟩ ?_ ?_ ?_⟩
  · rintro i acc H' hi ⟨rfl, rfl⟩
    exact ⟨SqL.of hz, qc (by simp; omega)⟩
  · rintro i x acc H' hi hx ⟨rfl, rfl⟩
    obtain ⟨m, hm, hI⟩ := his.get hx
    refine ⟨_, rfl, x, m, rfl, hI, Nxt.mk hi ⟨rfl, ?_⟩⟩
    rw [List.take_add_one, hm]
    simp
  · rintro acc H' ⟨rfl, rfl⟩ d hd
    refine ⟨d, (ms.map Im.mo), rfl, ?_, kk _ (qH hd _)⟩
    rw [his.len, List.take_length]
    exact SqL.of qD
def zI : Int → List Im → List Int
  | _, [] => []
  | b, .mix _ :: ms => zI b ms
  | b, .clip _ _ _ _ _ l :: ms => (b + l) :: zI (b + l) ms
  | b, .nest _ _ l :: ms => (b + l) :: zI (b + l) ms
  | b, .gap l :: ms => (b + l) :: zI (b + l) ms
theorem kP {m : Im} (h : m.wd ≠ "mix") (b : Int) (ms : List Im) : zI b (m :: ms) = (b + m.l) :: zI (b + m.l) ms := by
  cases m with
  | mix l => exact absurd rfl h
  | _ => rfl
theorem kY : ∀ (b : Int) (ms : List Im), (zI b ms).length ≤ ms.length
  | _, [] => by simp [zI]
  | b, m :: ms => by
    by_cases h : m.wd = "mix"
    · obtain ⟨l, rfl⟩ := qGp h
      have := kY b ms
      rw [zI, List.length_cons]; omega
    · have := kY (b + m.l) ms
      rw [kP h, List.length_cons, List.length_cons]; omega
def qOq (H : Hp) (Q : VK) (ms : List Im) : Prop := ∀ (y : Addr) (H' : Hp), Same H H' → H y = none → H' y = some (.lst ((0 :: zI 0 ms).map V.int)) → Q (.ref y) H'
def qBz : Sp := fun vs H Q _ => ∃ (z : Addr) (ms : List Im), vs = [.ref z] ∧ Tr H z ms ∧ ms.length ≤ 300 ∧ qOq H Q ms
theorem qBd (T : Tx K mg a) : FnOk P w K mg base CX0 3 a.a_borders_of a.f_borders_of ["track"] qBz := by
  refine T.d_borders_of.F.ok sc_borders_of (fun vs H Q E h => ?_) (fun cdv A outer s H vs Q E hr h => ?_)
  · obtain ⟨z, ms, rfl, _⟩ := h
    rfl
  obtain ⟨z, ms, rfl, ⟨xs, hz, his⟩, hl, kk⟩ := h
  refine ⟨_, (qF (qV (i := 1) sc_borders_of.nd rfl (Or.inl rfl) (jI (qA qB qE)))
      (qF (xn PassesOwn.never rfl (jZ (pv 0)) (ja (i := 2) sc_borders_of.nd rfl (Or.inl rfl)) (qG (qh (qL z8 (qJ qI (pv 2) qB (fun _ _ => rfl)) qX (qU _)) (qG (jD (kj F.plainAttrs_list F.slot_list_append F.type_list_append q9 (pv 1) (qA (qO qp (qJ jC (pv 1) (qAh kO qB) (fun _ _ => rfl)) (qN T.d_moments_of (jN T) hr rfl (qA (pv 2) qE))) qE)))) qS)))
      (qG (qP (pv 1))))), ?_⟩
  try dsimp only [jo, qi]
  refine ⟨sL1, fun y hy => ?_⟩
  refine ⟨_, rfl, z, rfl, ⟨_, SqL.of ((qH hy _) _ _ hz)⟩, xZ (K := K) (a := z) (xs := xs) (fun i σ H' => ∃ (b : Int) (as : List Int) (o : Option V), σ = [some (.ref z), some (.ref y), o] ∧ H' y = some (.lst ((as ++ [b]).map V.int)) ∧ as.length ≤ i ∧ as ++ [b] ++ zI b (ms.drop i) = 0 :: zI 0 ms ∧ Same H H')
    ⟨0, [], none, rfl, qD, by simp, rfl, qH hy _⟩ ?_ ?_ ?_⟩
  · rintro i σ H' hi ⟨b, as, o, rfl, _, _, _, e⟩
    exact SqL.of (e _ _ hz)
  · rintro i x σ H' hx ⟨b, as, o, rfl, hv, hal, hap, e⟩
    obtain ⟨m, hm, hIx⟩ := his.get hx
    have hI := hIx.ts (qg e)
    have hi : i < ms.length := (glt hm)
    have hd : ms.drop i = m :: ms.drop (i + 1) := by
      rw [List.drop_eq_getElem_cons hi]
      rw [List.getElem?_eq_getElem hi] at hm
      cases hm
      rfl
    obtain ⟨zi, xi, rfl, hzi, h0, h1⟩ := hI.opn
    rw [hd] at hap
    refine ⟨_, rfl, zi, xi, _, _, rfl, rfl, SqT.of hzi, h0, rfl, _, rfl, xo (fun c => ?_) (fun c => ?_)⟩
    · have hne : m.wd ≠ "mix" := by simpa using c
      rw [kP hne] at hap
      have hb : atI ((as ++ [b]).map V.int) (-1) = some (.int b) := by rw [List.map_append]; exact qI9 _ _
      refine ⟨_, rfl, .inl ⟨rfl, _, SqL.of hv⟩, _, rfl, _, rfl, y, _, _, _, rfl, rfl, SqL.of hv, hb, ?_⟩
      refine ⟨_, rfl, _, m, rfl, hI, ?_⟩
      rw [qLx hne]
      refine ⟨_, _, rfl, rfl, y, _, _, rfl, rfl, hv, qc (by simp; omega), ?_⟩
      refine ⟨b + m.l, as ++ [b], _, rfl, ?_, by simp; omega, ?_, jX e hy⟩
      · rw [qD]; simp
      · rw [← hap]; simp
    · obtain ⟨l, rfl⟩ := qGp (by simpa using c)
      rw [zI] at hap
      exact ⟨b, as, _, rfl, hv, by omega, hap, e⟩
  · rintro σ H' ⟨b, as, o, rfl, hv, hal, hap, e⟩
    rw [his.len, List.drop_length, zI, List.append_nil] at hap
    rw [hap] at hv
    exact ⟨_, rfl, kk y H' e hy hv⟩
def kU : Int → Nat → List Im → Int → Option (Nat × Int)
  | _, _, [], _ => none
  | b, i, m :: ms, t => if b ≤ t ∧ t < b + m.mo then some (i, t - b) else kU (b + m.mo) (i + 1) ms t
def AtR (H : Hp) (Q : VK) (r : Option (Nat × Int)) : Prop := match r with
  | none => ∀ H', Same H H' → Q .non H'
  | some (i, d) => ∀ (p : Addr) (H' : Hp), Same H H' → H' p = some (.tup [.int (i : Int), .int d]) → Q (.ref p) H'
theorem zp {α : Type} {xs : List α} {i : Nat} {x : α} (h : xs[i]? = some x) : xs.drop i = x :: xs.drop (i + 1) := by
  have hi : i < xs.length := (glt h)
  rw [List.drop_eq_getElem_cons hi]
  rw [List.getElem?_eq_getElem hi] at h
  cases h
  rfl
def qG1 : Sp := fun vs H Q _ => ∃ (z : Addr) (ms : List Im) (t : Int), vs = [.ref z, .int t] ∧ Tr H z ms ∧ AtR H Q (kU 0 0 ms t)
theorem qAy (T : Tx K mg a) : FnOk P w K mg base CX0 3 a.a_item_at a.f_item_at ["track", "moment"] qG1 := by
  refine T.d_item_at.F.ok sc_item_at (fun vs H Q E h => ?_) (fun cdv A outer s H vs Q E hr h => ?_)
  · obtain ⟨z, ms, t, rfl, _⟩ := h
    rfl
  obtain ⟨z, ms, t, rfl, ⟨xs, hz, his⟩, kk⟩ := h
  refine ⟨_, (qF (qV (i := 2) sc_item_at.nd rfl (Or.inl rfl) qB)
      (qF (xn PassesOwn.never rfl (qKb rfl T.b_enumerate (qA (pv 0) qE)) (qLp rfl (qFv (ja (i := 3) sc_item_at.nd rfl (Or.inl rfl)) (qFv (ja (i := 4) sc_item_at.nd rfl (Or.inl rfl)) qK8))) (qF (qV (i := 5) sc_item_at.nd rfl (Or.inl rfl) (qO qp (pv 2) (qN T.d_moments_of (jN T) hr rfl (qA (pv 4) qE))))
      (qF (qh (PW.pt (zH (qL qIm (pv 2) (pv 1) (qU _)) (xl (qL kH (pv 1) (pv 5) (qU _))))) (qG (qP (ql (qA (pv 3) (qA (qO jU (pv 1) (pv 2)) qE))))) qS)
      (qG (qV (i := 2) sc_item_at.nd rfl (Or.inl rfl) (pv 5))))))
      (qG (qP qCo)))), ?_⟩
  try dsimp only [jo, qi]
  refine ⟨_, rfl, z, rfl, ⟨_, SqL.of hz⟩, qIy (K := K) (a := z) (xs := xs) (fun i σ H' => ∃ (b : Int) (o1 o2 o3 : Option V), σ = [some (.ref z), some (.int t), some (.int b), o1, o2, o3] ∧ kU b i (ms.drop i) t = kU 0 0 ms t ∧ Same H H')
    ⟨0, none, none, none, rfl, rfl, Same.refl _⟩ ?_ ?_ ?_⟩
  · rintro i σ H' hi ⟨b, o1, o2, o3, rfl, _, e⟩
    exact SqL.of (e _ _ hz)
  · rintro i x σ H' p hx ⟨b, o1, o2, o3, rfl, hap, e⟩ hp
    obtain ⟨m, hm, hIx⟩ := his.get hx
    have w1 := qH hp (.tup [.int (i : Int), x])
    have e1 := e.trans w1
    have hI := hIx.ts (qg e1)
    rw [zp hm, kU] at hap
    refine ⟨p, _, rfl, SqT.of qD, rfl, _, _, rfl, _, _, rfl, rfl, ?_⟩
    generalize upd H' p (.tup [.int (i : Int), x]) = H1 at e1 hI ⊢
    refine ⟨_, rfl, _, rfl, x, m, rfl, hI, _, _, rfl, rfl, ?_⟩
    refine ⟨_, rfl, _, rfl, _, _, rfl, rfl, _, rfl, ?_⟩
    refine xo (fun c1 => ?_) (fun c1 => ?_)
    · refine ⟨_, rfl, _, rfl, _, _, rfl, rfl, _, rfl, ?_⟩
      refine xo (fun c2 => ?_) (fun c2 => ?_)
      · rw [if_pos ⟨by simpa using c1, by simpa using c2⟩] at hap
        rw [← hap] at kk
        refine ⟨_, rfl, _, rfl, _, rfl, _, _, rfl, rfl, sL2, fun q hq => ?_⟩
        exact kk q _ (e1.trans (qH hq _)) qD
      · rw [if_neg (fun c => c2 (by simpa using c.2))] at hap
        exact ⟨_, rfl, _, _, _, _, rfl, hap, e1⟩
    · rw [if_neg (fun c => c1 (by simpa using c.1))] at hap
      exact qk ⟨_, rfl, _, _, _, _, rfl, hap, e1⟩
  · rintro σ H' ⟨b, o1, o2, o3, rfl, hap, e⟩
    rw [his.len, List.drop_length, kU] at hap
    rw [← hap] at kk
    exact kk H' e
def xK (ms : List Im) (i : Int) : Str := if i < 0 then "" else match ms[i.toNat]? with
  | some m => m.wd
  | none => ""
theorem kd {ms : List Im} {i : Nat} {m : Im} (h : ms[i]? = some m) {k : Int} (hk : k = (i : Int)) : xK ms k = m.wd := by
  subst hk
  unfold xK
  rw [if_neg (by omega)]
  have e : ((i : Int)).toNat = i := by omega
  rw [e, h]
def qGh : Sp := fun vs H Q _ => ∃ (z : Addr) (ms : List Im) (i : Int), vs = [.ref z, .int i] ∧ Tr H z ms ∧ Q (.str (xK ms i)) H
theorem x8 (T : Tx K mg a) : FnOk P w K mg base CX0 1 a.a_kind_at a.f_kind_at ["track", "place"] qGh := by
  refine T.d_kind_at.F.ok qF8 (fun vs H Q E h => ?_) (fun cdv A outer s H vs Q E hr h => ?_)
  · obtain ⟨z, ms, i, rfl, _⟩ := h
    rfl
  obtain ⟨z, ms, i, rfl, ⟨vs, hz, his⟩, q⟩ := h
  refine ⟨_, (qF (qh (PW.pt (xh (qL kH (pv 1) qB (qU _)) (jc (qL qBw (pv 1) (qd jY rfl T.b_len rfl (qA (pv 0) qE)) (qU _))))) (qG (qP qX)) qS)
      (qG (qP (qJ qI (qJ jC (pv 0) (pv 1) (fun _ _ => rfl)) qB (fun _ _ => rfl))))), ?_⟩
  try dsimp only [jo, qi]
  have hl := his.len
  refine ⟨_, rfl, _, _, rfl, rfl, _, rfl, ?_⟩
  by_cases h0 : i < 0
  · rw [decide_eq_true h0]
    have e : xK ms i = "" := by unfold xK; rw [if_pos h0]
    rw [e] at q
    exact qr (qr q)
  rw [decide_eq_false h0]
  refine qk ⟨_, rfl, _, rfl, z, _, rfl, .inl (SqL.of hz), _, _, rfl, rfl, _, rfl, ?_⟩
  by_cases h1 : ((vs.length : Nat) : Int) ≤ i
  · rw [decide_eq_true (show i ≥ ((vs.length : Nat) : Int) from h1)]
    have e : xK ms i = "" := by
      unfold xK
      rw [if_neg h0, List.getElem?_eq_none (by omega)]
    rw [e] at q
    exact qr q
  · rw [decide_eq_false (show ¬ i ≥ ((vs.length : Nat) : Int) from h1)]
    refine qk ?_
    have hi : i.toNat < ms.length := by omega
    have hm : ms[i.toNat]? = some ms[i.toNat] := List.getElem?_eq_getElem hi
    obtain ⟨v, hv, hI⟩ := his.get' hm
    obtain ⟨zi, xi, rfl, hzi, q0, _⟩ := hI.opn
    have ei : i = ((i.toNat : Nat) : Int) := by omega
    have hat : atI vs i = some (.ref zi) := by
      rw [ei]; exact jb hv
    have e : xK ms i = ms[i.toNat].wd := kd hm ei
    rw [e] at q
    exact ⟨_, rfl, _, rfl, z, _, _, _, rfl, rfl, SqL.of hz, hat, zi, xi, _, _, rfl, rfl, SqT.of hzi, q0, q⟩
def qF1 (ms : List Im) (i : Nat) : Int := ((ms.take i).map Im.mo).sum
theorem vf : ∀ (xs : List Im) (b : Int) (i0 : Nat) (m : Im) (ys : List Im), (∀ x ∈ xs, 0 ≤ x.mo) → 0 < m.mo → kU b i0 (xs ++ m :: ys) (b + (xs.map Im.mo).sum) = some (i0 + xs.length, 0)
  | [], b, i0, m, ys, _, hm => by
    rw [List.nil_append, kU, if_pos (by simp; omega)]
    simp
  | x :: xs, b, i0, m, ys, hx, hm => by
    have h0 := hx x (by simp)
    have hs : 0 ≤ (xs.map Im.mo).sum := by
      have : ∀ (zs : List Im), (∀ z ∈ zs, 0 ≤ z.mo) → 0 ≤ (zs.map Im.mo).sum := fun zs => by
        induction zs with
        | nil => intro _; simp
        | cons z zs ih => intro h; have := ih fun y hy => h y (by simp [hy]); have := h z (by simp); rw [List.map_cons, List.sum_cons]; omega
      exact this xs fun y hy => hx y (by simp [hy])
    have ih := vf xs (b + x.mo) (i0 + 1) m ys (fun y hy => hx y (by simp [hy])) hm
    rw [List.cons_append, kU, List.map_cons, List.sum_cons, if_neg (by omega)]
    have e : b + (x.mo + (xs.map Im.mo).sum) = b + x.mo + (xs.map Im.mo).sum := by omega
    rw [e, ih, List.length_cons]
    congr 2
    omega
def qAb : Sp := fun vs H Q _ => ∃ (z : Addr) (ms : List Im) (i : Int), vs = [.ref z, .int i] ∧ Tr H z ms ∧ Q (.int (if xK ms (i - 1) = "mix" then i - 2 else i - 1)) H
theorem qAo (T : Tx K mg a) : FnOk P w K mg base CX0 2 a.a_place_ahead a.f_place_ahead ["track", "place"] qAb := by
  refine T.d_place_ahead.F.ok qAr (fun vs H Q E h => ?_) (fun cdv A outer s H vs Q E hr h => ?_)
  · obtain ⟨z, ms, i, rfl, _⟩ := h
    rfl
  obtain ⟨z, ms, i, rfl, tT, q⟩ := h
  refine ⟨_, (qG (qP (wI (qL xj (qN T.d_kind_at (x8 T) hr rfl (qA (pv 0) (qA (qO jU (pv 1) qB) qE))) qX (qU _)) (qO jU (pv 1) qB) (qO jU (pv 1) qB)))), ?_⟩
  try dsimp only [jo, qi]
  refine ⟨_, rfl, _, rfl, _, _, rfl, rfl, z, ms, _, rfl, tT, rfl, _, rfl, xo (fun c => ?_) (fun c => ?_)⟩
  · rw [if_pos (by simpa using c)] at q
    exact ⟨_, rfl, _, _, rfl, rfl, q⟩
  · rw [if_neg (by simpa using c)] at q
    exact ⟨_, rfl, _, _, rfl, rfl, q⟩
def nbF (ms : List Im) (t : Int) : Option (Int × Int) := match kU 0 0 ms t with
  | some (i, d) => if d ≠ 0 ∨ (i : Int) = 0 then none else some (if xK ms ((i : Int) - 1) = "mix" then (i : Int) - 2 else (i : Int) - 1, (i : Int))
  | none => none
def cbF (ms : List Im) (t : Int) : Option (Int × Int) := match nbF ms t with
  | some (i, j) => if xK ms i = "clip" ∧ xK ms j = "clip" then some (i, j) else none
  | none => none
def PrR (H : Hp) (Q : VK) (r : Option (Int × Int)) : Prop := match r with
  | none => ∀ H', Same H H' → Q .non H'
  | some (i, j) => ∀ (p : Addr) (H' : Hp), Same H H' → H' p = some (.tup [.int i, .int j]) → Q (.ref p) H'
def wB : Sp := fun vs H Q _ => ∃ (z : Addr) (ms : List Im) (t : Int), vs = [.ref z, .int t] ∧ Tr H z ms ∧ PrR H Q (nbF ms t)
theorem vz (T : Tx K mg a) : FnOk P w K mg base CX0 4 a.a_neighbours_at a.f_neighbours_at ["track", "moment"] wB := by
  refine T.d_neighbours_at.F.ok sc_neighbours_at (fun vs H Q E h => ?_) (fun cdv A outer s H vs Q E hr h => ?_)
  · obtain ⟨z, ms, t, rfl, _⟩ := h
    rfl
  obtain ⟨z, ms, t, rfl, tT, kk⟩ := h
  refine ⟨_, (qF (qV (i := 2) sc_neighbours_at.nd rfl (Or.inl rfl) (qN T.d_item_at (qAy T) hr rfl (qA (pv 0) (qA (pv 1) qE))))
      (qF (qh (PW.pt (xh (qD1 (qFl (pv 2))) (xh (qL z8 (qJ qI (pv 2) qB (fun _ _ => rfl)) qB (qU _)) (jc (qL xj (qJ qI (pv 2) qB (fun _ _ => rfl)) qB (qU _)))))) (qG (qP qCo)) qS)
      (qG (qP (ql (qA (qN T.d_place_ahead (qAo T) hr rfl (qA (pv 0) (qA (qJ qI (pv 2) qB (fun _ _ => rfl)) qE))) (qA (qJ qI (pv 2) qB (fun _ _ => rfl)) qE))))))), ?_⟩
  try dsimp only [jo, qi]
  refine ⟨_, rfl, _, rfl, z, ms, _, rfl, tT, ?_⟩
  unfold nbF at kk
  cases hit : kU 0 0 ms t with
  | none =>
    rw [hit] at kk
    intro H1 e1
    exact ⟨_, rfl, _, rfl, qr (kk H1 e1)⟩
  | some x =>
    obtain ⟨i, d⟩ := x
    rw [hit] at kk
    dsimp only at kk
    intro p H1 e1 hp
    refine ⟨_, rfl, _, rfl, xo (fun c => absurd c (by simp)) (fun _ => ?_)⟩
    refine (qZ rfl (SqT.of hp) at1 ?_)
    refine ⟨rfl, _, rfl, xo (fun c => ?_) (fun c => ?_)⟩
    · rw [if_pos (.inl (by simpa using c))] at kk
      exact kk H1 e1
    · refine (qZ rfl (SqT.of hp) at0 ?_)
      refine ⟨rfl, _, rfl, xo (fun c2 => ?_) (fun c2 => ?_)⟩
      · rw [if_pos (.inr (by simpa using c2))] at kk
        exact kk H1 e1
      · rw [if_neg (fun z => z.elim (fun z => c (by simpa using z)) (fun z => c2 (by simpa using z)))] at kk
        refine ⟨_, rfl, qZ rfl (SqT.of hp) at0 ⟨z, ms, _, rfl, tT.same e1, ?_⟩⟩
        refine (qZ rfl (SqT.of hp) at0 ⟨sL2, fun q hq => ?_⟩)
        exact kk q _ (e1.trans (qH hq _)) qD
def kh : Sp := fun vs H Q _ => ∃ (z : Addr) (ms : List Im) (t : Int), vs = [.ref z, .int t] ∧ Tr H z ms ∧ PrR H Q (cbF ms t)
theorem zE (T : Tx K mg a) : FnOk P w K mg base CX0 5 a.a_clips_at_border a.f_clips_at_border ["track", "moment"] kh := by
  refine T.d_clips_at_border.F.ok sc_clips_at_border (fun vs H Q E h => ?_) (fun cdv A outer s H vs Q E hr h => ?_)
  · obtain ⟨z, ms, t, rfl, _⟩ := h
    rfl
  obtain ⟨z, ms, t, rfl, tT, kk⟩ := h
  refine ⟨_, (qF (qV (i := 2) sc_clips_at_border.nd rfl (Or.inl rfl) (qN T.d_neighbours_at (vz T) hr rfl (qA (pv 0) (qA (pv 1) qE))))
      (qF (qh (PW.pt (xh (qD1 (qFl (pv 2))) (xh (qL z8 (qN T.d_kind_at (x8 T) hr rfl (qA (pv 0) (qA (qJ qI (pv 2) qB (fun _ _ => rfl)) qE))) qX (qU _)) (jc (qL z8 (qN T.d_kind_at (x8 T) hr rfl (qA (pv 0) (qA (qJ qI (pv 2) qB (fun _ _ => rfl)) qE))) qX (qU _)))))) (qG (qP qCo)) qS)
      (qG (qP (pv 2))))), ?_⟩
  try dsimp only [jo, qi]
  refine ⟨_, rfl, _, rfl, z, ms, _, rfl, tT, ?_⟩
  unfold cbF at kk
  cases hit : nbF ms t with
  | none =>
    rw [hit] at kk
    intro H1 e1
    exact ⟨_, rfl, _, rfl, qr (kk H1 e1)⟩
  | some x =>
    obtain ⟨i, j⟩ := x
    rw [hit] at kk
    dsimp only at kk
    intro p H1 e1 hp
    refine ⟨_, rfl, _, rfl, xo (fun c => absurd c (by simp)) (fun _ => ?_)⟩
    refine ⟨_, rfl, qZ rfl (SqT.of hp) at0 ⟨z, ms, _, rfl, tT.same e1, ?_⟩⟩
    refine ⟨rfl, _, rfl, xo (fun c => ?_) (fun c => ?_)⟩
    · rw [if_neg (fun z => absurd c (by simpa using z.1))] at kk
      exact kk H1 e1
    · refine ⟨_, rfl, qZ rfl (SqT.of hp) at1 ⟨z, ms, _, rfl, tT.same e1, ?_⟩⟩
      refine ⟨rfl, _, rfl, xo (fun c2 => ?_) (fun c2 => ?_)⟩
      · rw [if_neg (fun z => absurd c2 (by simpa using z.2))] at kk
        exact kk H1 e1
      · rw [if_pos ⟨by simpa using c, by simpa using c2⟩] at kk
        exact ⟨_, rfl, kk p H1 e1 hp⟩
def TrsAt (H : Hp) : List (List Im) → List V → Prop
  | [], [] => True
  | ms :: r, v :: vs => (∃ z : Addr, v = .ref z ∧ Tr H z ms) ∧ TrsAt H r vs
  | _, _ => False
theorem TrsAt.same {H H' : Hp} (e : Same H H') : ∀ {ts : List (List Im)} {vs : List V}, TrsAt H ts vs → TrsAt H' ts vs
  | [], [], _ => trivial
  | _ :: _, _ :: _, ⟨⟨z, h1, h2⟩, h⟩ => ⟨⟨z, h1, h2.same e⟩, TrsAt.same e h⟩
  | [], _ :: _, h => h.elim
  | _ :: _, [], h => h.elim
theorem TrsAt.len {H : Hp} : ∀ {ts : List (List Im)} {vs : List V}, TrsAt H ts vs → vs.length = ts.length
  | [], [], _ => rfl
  | _ :: _, _ :: _, h => by rw [List.length_cons, List.length_cons, TrsAt.len h.2]
  | [], _ :: _, h => h.elim
  | _ :: _, [], h => h.elim
theorem TrsAt.get {H : Hp} : ∀ {ts : List (List Im)} {vs : List V} {i : Nat} {v : V}, TrsAt H ts vs → vs[i]? = some v → ∃ (ms : List Im) (z : Addr), ts[i]? = some ms ∧ v = .ref z ∧ Tr H z ms
  | [], [], _, _, _, h => by simp at h
  | ms :: _, u :: _, 0, v, h, e => by
    have e' : u = v := by simpa using e
    subst e'
    obtain ⟨⟨z, h1, h2⟩, _⟩ := h
    exact ⟨ms, z, rfl, h1, h2⟩
  | _ :: _, _ :: _, i + 1, v, h, e => by
    obtain ⟨ms, z, h1, h2⟩ := TrsAt.get (i := i) h.2 (by simpa using e)
    exact ⟨ms, z, by simpa using h1, h2⟩
  | [], _ :: _, _, _, h, _ => h.elim
  | _ :: _, [], _, _, h, _ => h.elim
def TabAt (H : Hp) (v : V) (ts : List (List Im)) : Prop := ∃ (tt tl ti : Addr) (zs : List V), v = .ref tt ∧ H tt = some (.tup [.ref tl, .ref ti]) ∧ H tl = some (.lst zs) ∧ TrsAt H ts zs
theorem TabAt.same {H H' : Hp} (e : Same H H') {v : V} {ts : List (List Im)} (h : TabAt H v ts) : TabAt H' v ts :=
  let ⟨tt, tl, ti, zs, h1, h2, h3, h4⟩ := h; ⟨tt, tl, ti, zs, h1, e _ _ h2, e _ _ h3, h4.same e⟩
theorem qK7 {H : Hp} {v : V} {n : Str} {p q r s l : Int} (h : IsI H (.clip n p q r s l) v) : Cp K H v n p q r s l := by
  obtain ⟨z, x, y, h0, hz, hx, hy⟩ := h
  exact ⟨z, x, y, h0, SqT.of hz, SqT.of hx, SqT.of hy⟩
def TabF (H : Hp) (v : V) (ts : List (List Im)) (tie : List Int) : Prop := ∃ (tt tl ti : Addr) (zs : List V), v = .ref tt ∧ H tt = some (.tup [.ref tl, .ref ti]) ∧ H tl = some (.lst zs) ∧ TrsAt H ts zs ∧ H ti = some (.lst (tie.map V.int))
theorem TabF.tab {H : Hp} {v : V} {ts : List (List Im)} {tie : List Int} (h : TabF H v ts tie) : TabAt H v ts := let ⟨tt, tl, ti, zs, h1, h2, h3, h4, _⟩ := h; ⟨tt, tl, ti, zs, h1, h2, h3, h4⟩
theorem TabF.same {H H' : Hp} (e : Same H H') {v : V} {ts : List (List Im)} {tie : List Int} (h : TabF H v ts tie) : TabF H' v ts tie :=
  let ⟨tt, tl, ti, zs, h1, h2, h3, h4, h5⟩ := h; ⟨tt, tl, ti, zs, h1, e _ _ h2, e _ _ h3, h4.same e, e _ _ h5⟩
def tabD (ts : List (List Im)) (tie : List Int) : D := .tup [.lst (ts.map fun ms => .lst (ms.map Im.d)), .lst ((tie.map V.int).map D.leaf)]
theorem TrsAt.rep {H : Hp} : ∀ {ts : List (List Im)} {vs : List V}, TrsAt H ts vs → Reps K H (ts.map fun ms => .lst (ms.map Im.d)) vs
  | [], [], _ => by unfold List.map Reps; trivial
  | _ :: _, _ :: _, ⟨⟨z, h1, h2⟩, r⟩ => by unfold List.map Reps; subst h1; exact ⟨h2.rep, r.rep⟩
  | [], _ :: _, h => h.elim
  | _ :: _, [], h => h.elim
theorem TabF.rep {H : Hp} {v : V} {ts : List (List Im)} {tie : List Int} (h : TabF H v ts tie) : Rep K H (tabD ts tie) v := by
  obtain ⟨tt, tl, ti, zs, rfl, h2, h3, h4, h5⟩ := h
  unfold tabD Rep
  refine ⟨tt, _, rfl, SqT.of h2, ?_⟩
  unfold Reps Reps Reps
  refine ⟨?_, qIx h5, trivial⟩
  unfold Rep
  exact ⟨tl, zs, rfl, SqL.of h3, h4.rep⟩
theorem qFk : ∀ ts : List (List Im), kB (ts.map fun ms => .lst (ms.map Im.d)) (ts.map fun ms => .lst (ms.map Im.d)) = true
  | [] => by simp [kB]
  | ms :: r => by
    unfold List.map kB
    rw [qFk r]
    have : eqD (.lst (ms.map Im.d)) (.lst (ms.map Im.d)) = true := by unfold eqD; exact qCx ms
    rw [this]; rfl
theorem qId : ∀ ts : List (List Im), wF (ts.map fun ms => .lst (ms.map Im.d)) ≤ 3
  | [] => by simp [wF]
  | ms :: r => by
    have h1 := qId r
    have h2 : dep (.lst (ms.map Im.d)) ≤ 3 := by have := qFm ms; unfold dep; omega
    unfold List.map wF
    omega
theorem qA6 (ts : List (List Im)) (tie : List Int) : eqD (tabD ts tie) (tabD ts tie) = true ∧ dep (tabD ts tie) ≤ 50 := by
  constructor
  · unfold tabD eqD kB kB kB
    have h1 : eqD (.lst (ts.map fun ms => .lst (ms.map Im.d))) (.lst (ts.map fun ms => .lst (ms.map Im.d))) = true := by unfold eqD; exact qFk ts
    have h2 : eqD (.lst ((tie.map V.int).map D.leaf)) (.lst ((tie.map V.int).map D.leaf)) = true := by unfold eqD; exact qFj tie
    rw [h1, h2]; rfl
  · have h1 := qId ts
    have h2 := qCv (tie.map V.int)
    unfold tabD dep wF wF wF dep
    omega
theorem wa {H : Hp} : ∀ {ts : List (List Im)} {vs : List V} {ms : List Im} {z : Addr}, TrsAt H ts vs → Tr H z ms → TrsAt H (ts ++ [ms]) (vs ++ [.ref z])
  | [], [], _, z, _, h => ⟨⟨z, rfl, h⟩, trivial⟩
  | _ :: _, _ :: _, _, _, ⟨h1, h2⟩, h => ⟨h1, wa h2 h⟩
  | [], _ :: _, _, _, h, _ => h.elim
  | _ :: _, [], _, _, h, _ => h.elim
theorem v8 {b : Bool} {A B : Prop} (h : b = false) (q : B) : if b = true then A else B := by subst h; exact q
theorem qDr {b : Bool} {A B : Prop} (h : b = true) (q : A) : if b = true then A else B := by subst h; exact q
theorem qB3 {H H' : Hp} (s : Same H H') {x : V} {t : Value} (h : qA4 K H x t) : qA4 K H' x t := by
  cases h with
  | non => exact .non
  | bl x => exact .bl x
  | int i => exact .int i
  | str z => exact .str z
  | flt x => exact .flt x
  | lst e => exact .lst (s _ _ e)
  | frz e => exact .frz (s _ _ e)
  | tup e => exact .tup (s _ _ e)
  | dK e => exact .dK (s _ _ e)
  | dT e => exact .dT (s _ _ e)
  | ins e cl ha hn htk hm => exact .ins (s _ _ e) cl ha hn htk hm
theorem FrB.same {H H' : Hp} (s : Same H H') {x : V} {b : Bool} (h : FrB K H x b) : FrB K H' x b := by
  cases h with
  | no ty e => exact .no (qB3 s ty) e
  | len e h => exact .len (s _ _ e) h
  | one e h => exact .one (s _ _ e) (h.same s)
  | two e h => exact .two (s _ _ e) (h.same s)
  | nums e => exact .nums (s _ _ e)
inductive NmB (K : W.Frag) (H : Hp) : V → Bool → Prop where
  | str (z : Str) (h : z.length ≤ 1000) : NmB K H (.str z) (wp z)
  | no {x : V} {t : Value} (ty : qA4 K H x t) (e : W.kitOne K t (.type "str") = some false) : NmB K H x false
def qD0 (K : W.Frag) : Sp := fun vs H Q _ => ∃ (x : V) (b : Bool), vs = [x] ∧ NmB K H x b ∧ ∀ H', Same H H' → Q (.bl b) H'
theorem vo (T : Tx K mg a) : FnOk P w K mg base CX0 1 a.a_is_name a.f_is_name ["thing"] (qD0 K) := by
  refine T.d_is_name.F.ok qGn (fun vs H Q E h => ?_) (fun cdv A outer s H vs Q E hr h => ?_)
  · obtain ⟨x, b, rfl, _⟩ := h
    rfl
  obtain ⟨x, b, rfl, hx, kk⟩ := h
  refine ⟨_, (qF (qh (jr (jP (qd jd rfl T.b_isinstance rfl (qA (pv 0) (qA (qDv rfl T.b_str rfl) qE))))) (qG (qP vc)) qS)
      (qF (qh (PW.pt (xh (qL kH (qd vn rfl T.b_len rfl (qA (pv 0) qE)) qB (qU _)) (jc (qL qBs (qd vn rfl T.b_len rfl (qA (pv 0) qE)) (xS (v := .int 8) rfl T.g_LONGEST_NAME ⟨_, rfl⟩) (qU _))))) (qG (qP vc)) qS)
      (qG (qP (qd (qG5 rfl) rfl T.b_all rfl (qA (wk [] [] rfl (qL7 (pv 0)) (fun _ _ _ _ => (xm qLz (pv 0) (xS (v := .str "abcdefghijklmnopqrstuvwxyz") rfl T.g_LETTERS ⟨_, rfl⟩) rfl))) qE)))))), ?_⟩
  try dsimp only [jo, qi]
  cases hx with
  | no ty e => exact ⟨_, rfl, _, _, _, false, rfl, ty, ⟨_, .inl ⟨rfl, e⟩⟩, false, rfl, qr (kk H (Same.refl _))⟩
  | str z hz =>
    have hsz : z.length ≤ sizeLine := Nat.le_of_lt (qc hz)
    refine ⟨_, rfl, _, _, _, true, rfl, .str z, ⟨_, .inl ⟨rfl, by kernel_rfl⟩⟩, true, rfl, qk ?_⟩
    refine ⟨_, rfl, z, rfl, hsz, _, _, rfl, rfl, _, rfl, ?_⟩
    by_cases h1 : (z.length : Int) < 1
    · rw [decide_eq_true h1]
      have e : wp z = false := by unfold wp; rw [decide_eq_false (by omega)]; rfl
      have := kk H (Same.refl _)
      rw [e] at this
      exact qr (qr this)
    rw [decide_eq_false h1]
    refine qk ⟨_, rfl, z, rfl, hsz, _, _, rfl, rfl, _, rfl, ?_⟩
    by_cases h2 : (8 : Int) < (z.length : Int)
    · rw [decide_eq_true h2]
      have e : wp z = false := by unfold wp; rw [decide_eq_false (by omega)]; rfl
      have := kk H (Same.refl _)
      rw [e] at this
      exact qr this
    rw [decide_eq_false h2]
    refine qk ?_
    refine ⟨_, rfl, z, rfl, qIr (fun i acc H' => H' = H ∧ acc = ((z.cps.toList.take i).map qN7).map V.bl) ⟨rfl, rfl⟩ ?_ ?_ ?_⟩
    · rintro i acc H' hi ⟨_, rfl⟩
      rw [List.length_map, List.length_map, List.length_take]
      exact qc (by have : z.cps.size = z.length := rfl; omega)
    · rintro i c acc H' hi hc ⟨rfl, rfl⟩
      refine ⟨_, rfl, _, _, rfl, rfl, Nxt.mk hi ⟨rfl, ?_⟩⟩
      have hc' : z.cps.toList[i]? = some c := by simpa using hc
      rw [List.take_succ, hc', List.map_append, List.map_append]
      rfl
    · rintro acc H' ⟨rfl, rfl⟩ D hD
      refine ⟨D, _, rfl, SqL.of qD, ?_⟩
      have e : ((z.cps.toList.take z.cps.size).map qN7).all id = wp z := by
        rw [List.take_of_length_le (by simp)]
        unfold wp
        rw [decide_eq_true (by omega : 1 ≤ z.length ∧ z.length ≤ 8), Bool.true_and, List.all_map]
        rfl
      rw [e]
      exact kk _ (qH hD _)
inductive LnB (H : Hp) : V → Bool → Prop where
  | int (i : Int) : LnB H (.int i) (decide (1 ≤ i))
  | no {x : V} (h : NoW H x) : LnB H x false
inductive CfB (K : W.Frag) (H : Hp) : V → Bool → Prop where
  | no {x : V} {t : Value} (ty : qA4 K H x t) (e : W.kitOne K t (.type "tuple") = some false) : CfB K H x false
  | len {z : Addr} {xs : List V} (e : H z = some (.tup xs)) (h : xs.length ≠ 5) : CfB K H (.ref z) false
  | word {z : Addr} {x0 x1 x2 x3 x4 : V} (e : H z = some (.tup [x0, x1, x2, x3, x4])) (hs : qM5 x0 (.str "clip") = true) (hn : x0 ≠ .str "clip") : CfB K H (.ref z) false
  | nm {z : Addr} {x1 x2 x3 x4 : V} (e : H z = some (.tup [.str "clip", x1, x2, x3, x4])) (h : NmB K H x1 false) : CfB K H (.ref z) false
  | st {z : Addr} {x1 x2 x3 x4 : V} (e : H z = some (.tup [.str "clip", x1, x2, x3, x4])) (h1 : NmB K H x1 true) (h2 : FrB K H x2 false) : CfB K H (.ref z) false
  | sp {z : Addr} {x1 x2 x3 x4 : V} (e : H z = some (.tup [.str "clip", x1, x2, x3, x4])) (h1 : NmB K H x1 true) (h2 : FrB K H x2 true) (h3 : FrB K H x3 false) : CfB K H (.ref z) false
  | ln {z : Addr} {x1 x2 x3 x4 : V} {b : Bool} (e : H z = some (.tup [.str "clip", x1, x2, x3, x4])) (h1 : NmB K H x1 true) (h2 : FrB K H x2 true) (h3 : FrB K H x3 true) (h4 : LnB H x4 b) : CfB K H (.ref z) b
theorem LnB.wh {H : Hp} {x : V} {b : Bool} (h : LnB H x b) : (∃ i : Int, x = .int i ∧ b = decide (1 ≤ i)) ∨ (NoW H x ∧ b = false) := by
  cases h with
  | int i => exact .inl ⟨i, rfl, rfl⟩
  | no h => exact .inr ⟨h, rfl⟩
def vy (K : W.Frag) : Sp := fun vs H Q _ => ∃ (v : V) (b : Bool), vs = [v] ∧ CfB K H v b ∧ ∀ H', Same H H' → Q (.bl b) H'
theorem vt (T : Tx K mg a) : FnOk P w K mg base CX0 3 a.a_has_clip_form a.f_has_clip_form ["item"] (vy K) := by
  refine T.d_has_clip_form.F.ok wC (fun vs H Q E h => ?_) (fun cdv A outer s H vs Q E hr h => ?_)
  · obtain ⟨v, b, rfl, _⟩ := h
    rfl
  obtain ⟨v, b, rfl, hv, kk⟩ := h
  refine ⟨_, (qF (qh (PW.pt (xh (jr (jP (qd jd rfl T.b_isinstance rfl (qA (pv 0) (qA (qDv rfl T.b_tuple rfl) qE))))) (jc (qL z8 (qd jY rfl T.b_len rfl (qA (pv 0) qE)) qB (qU _))))) (qG (qP vc)) qS)
      (qF (qh (PW.pt (xh (qL z8 (qJ qI (pv 0) qB (fun _ _ => rfl)) qX (qU _)) (jc (jr (jP (qN T.d_is_name (vo T) hr rfl (qA (qJ qI (pv 0) qB (fun _ _ => rfl)) qE))))))) (qG (qP vc)) qS)
      (qF (qh (PW.pt (xh (jr (jP (qN T.d_is_fraction (kL T) hr rfl (qA (qJ qI (pv 0) qB (fun _ _ => rfl)) qE)))) (jc (jr (jP (qN T.d_is_fraction (kL T) hr rfl (qA (qJ qI (pv 0) qB (fun _ _ => rfl)) qE))))))) (qG (qP vc)) qS)
      (qG (qP (kM (qN T.d_is_whole (qm T) hr rfl (qA (qJ qI (pv 0) qB (fun _ _ => rfl)) qE)) (vi (xm qBw (qJ qI (pv 0) qB (fun _ _ => rfl)) qB (qU _))))))))), ?_⟩
  try dsimp only [jo, qi]
  have five : ∀ {z : Addr} {x1 x2 x3 x4 : V} {H' : Hp}, H z = some (.tup [.str "clip", x1, x2, x3, x4]) → Same H H' → SqT K H' z [.str "clip", x1, x2, x3, x4] := fun e s => SqT.of (s _ _ e)
  cases hv with
  | no ty e => exact ⟨_, rfl, _, _, _, false, rfl, ty, ⟨_, .inl ⟨rfl, e⟩⟩, false, rfl, qr (qr (kk H (Same.refl _)))⟩
  | @len z xs e h =>
    refine ⟨_, rfl, _, _, _, true, rfl, .tup e, ⟨_, .inl ⟨rfl, by kernel_rfl⟩⟩, true, rfl, qk ?_⟩
    refine ⟨_, rfl, _, _, rfl, .inr (SqT.of e), rfl, _, rfl, ?_⟩
    have d : (!decide (V.int (xs.length : Int) = V.int 5)) = true := by
      have : ¬ (V.int (xs.length : Int) = V.int 5) := fun z => h (by injection z with z; omega)
      simp [this]
    rw [d]
    exact qr (kk H (Same.refl _))
  | @word z x0 x1 x2 x3 x4 e hs hn =>
    refine ⟨_, rfl, _, _, _, true, rfl, .tup e, ⟨_, .inl ⟨rfl, by kernel_rfl⟩⟩, true, rfl, qk ?_⟩
    refine ⟨_, rfl, _, _, rfl, .inr (SqT.of e), rfl, _, rfl, qk ?_⟩
    refine (qZ rfl (SqT.of e) qF9 ⟨hs, _, rfl, ?_⟩)
    rw [show (!decide (x0 = V.str "clip")) = true by simp [hn]]
    exact qr (qr (kk H (Same.refl _)))
  | @nm z x1 x2 x3 x4 e h =>
    refine ⟨_, rfl, _, _, _, true, rfl, .tup e, ⟨_, .inl ⟨rfl, by kernel_rfl⟩⟩, true, rfl, qk ?_⟩
    refine ⟨_, rfl, _, _, rfl, .inr (SqT.of e), rfl, _, rfl, qk ?_⟩
    refine (qZ rfl (SqT.of e) qF9 ⟨rfl, _, rfl, qHe rfl ?_⟩)
    exact (qZ rfl (SqT.of e) qAs ⟨x1, false, rfl, h, fun H1 s1 => ⟨false, rfl, qr (kk H1 s1)⟩⟩)
  | @st z x1 x2 x3 x4 e h1 h2 =>
    refine ⟨_, rfl, _, _, _, true, rfl, .tup e, ⟨_, .inl ⟨rfl, by kernel_rfl⟩⟩, true, rfl, qk ?_⟩
    refine ⟨_, rfl, _, _, rfl, .inr (SqT.of e), rfl, _, rfl, qk ?_⟩
    refine (qZ rfl (SqT.of e) qF9 ⟨rfl, _, rfl, qHe rfl ?_⟩)
    refine (qZ rfl (SqT.of e) qAs ⟨x1, true, rfl, h1, fun H1 s1 => ⟨true, rfl, qk ?_⟩⟩)
    exact ⟨_, rfl, _, _, _, _, rfl, rfl, five e s1, qIz, x2, false, rfl, h2.same s1, false, rfl, qr (qr (kk H1 s1))⟩
  | @sp z x1 x2 x3 x4 e h1 h2 h3 =>
    refine ⟨_, rfl, _, _, _, true, rfl, .tup e, ⟨_, .inl ⟨rfl, by kernel_rfl⟩⟩, true, rfl, qk ?_⟩
    refine ⟨_, rfl, _, _, rfl, .inr (SqT.of e), rfl, _, rfl, qk ?_⟩
    refine (qZ rfl (SqT.of e) qF9 ⟨rfl, _, rfl, qHe rfl ?_⟩)
    refine (qZ rfl (SqT.of e) qAs ⟨x1, true, rfl, h1, fun H1 s1 => ⟨true, rfl, qk ?_⟩⟩)
    refine ⟨_, rfl, _, _, _, _, rfl, rfl, five e s1, qIz, x2, true, rfl, h2.same s1, true, rfl, qk ?_⟩
    exact ⟨_, rfl, _, _, _, _, rfl, rfl, five e s1, qGr, x3, false, rfl, h3.same s1, false, rfl, qr (kk H1 s1)⟩
  | @ln z x1 x2 x3 x4 b e h1 h2 h3 h4 =>
    refine ⟨_, rfl, _, _, _, true, rfl, .tup e, ⟨_, .inl ⟨rfl, by kernel_rfl⟩⟩, true, rfl, qk ?_⟩
    refine ⟨_, rfl, _, _, rfl, .inr (SqT.of e), rfl, _, rfl, qk ?_⟩
    refine (qZ rfl (SqT.of e) qF9 ⟨rfl, _, rfl, qHe rfl ?_⟩)
    refine (qZ rfl (SqT.of e) qAs ⟨x1, true, rfl, h1, fun H1 s1 => ⟨true, rfl, qk ?_⟩⟩)
    refine ⟨_, rfl, _, _, _, _, rfl, rfl, five e s1, qIz, x2, true, rfl, h2.same s1, true, rfl, qk ?_⟩
    refine ⟨_, rfl, _, _, _, _, rfl, rfl, five e s1, qGr, x3, true, rfl, h3.same s1, true, rfl, qk ?_⟩
    rcases h4.wh with ⟨i, rfl, rfl⟩ | ⟨h5, rfl⟩
    · refine ⟨_, rfl, _, _, _, _, rfl, rfl, five e s1, qEi, _, true, rfl, .int i, true, rfl, qr ?_⟩
      exact ⟨_, rfl, _, _, _, _, rfl, rfl, five e s1, qEi, _, _, rfl, rfl, kk H1 s1⟩
    · exact ⟨_, rfl, _, _, _, _, rfl, rfl, five e s1, qEi, x4, false, rfl, .no (h5.same s1), false, rfl, qk (kk H1 s1)⟩
structure GF (n : Str) (p q r s len : Int) : Prop where
  hn : wp n = true
  hl : n.length ≤ 1000
  hb : Bn 700 p q r s
  gq : Int.gcd p q = 1
  gs : Int.gcd r s = 1
  l1 : 1 ≤ len
  bl : len.natAbs < 2 ^ 30
theorem Ch.form {H : Hp} {z : Addr} {n : Str} {p q r s len : Int} (h : Ch H z n p q r s len) (g : GF n p q r s len) : CfB K H (.ref z) true := by
  obtain ⟨z1, z2, e0, e1, e2⟩ := h.ex
  have d1 : (decide (1 ≤ q) && decide (Int.gcd p q = 1)) = true := by have := g.hb.q0; rw [g.gq]; simp; omega
  have d2 : (decide (1 ≤ s) && decide (Int.gcd r s = 1)) = true := by have := g.hb.s0; rw [g.gs]; simp; omega
  have d3 : decide (1 ≤ len) = true := decide_eq_true g.l1
  have f0 := NmB.str (K := K) (H := H) n g.hl
  have f1 := FrB.nums (K := K) e1
  have f2 := FrB.nums (K := K) e2
  have f3 := LnB.int (H := H) len
  rw [g.hn] at f0
  rw [d1] at f1
  rw [d2] at f2
  rw [d3] at f3
  exact .ln e0 f0 f1 f2 f3
inductive ItB (K : W.Frag) (H : Hp) : V → Addr → Bool → Prop where
  | form {v : V} {rd : Addr} (h : CfB K H v false) : ItB K H v rd false
  | reel {z rd : Addr} {kvs : List (Key × V)} {n : Str} {p q r s len : Int} (hc : Ch H z n p q r s len) (g : GF n p q r s len) (hk : H rd = some (.dK kvs)) (hv : qEf kvs (Sum.inr n) = none) : ItB K H (.ref z) rd false
  | pics {z rd : Addr} {n : Str} {p q r s len m : Int} {b : Bool} (hc : Ch H z n p q r s len) (g : GF n p q r s len) (hr : Reel H rd n m) (hb : b = true ↔ InR (Vk p q r s 0) (q * s) m ∧ InR (Vk p q r s (len - 1)) (q * s) m) : ItB K H (.ref z) rd b
def qAq (K : W.Frag) (N : Addr) : Sp := fun vs H Q E => ∃ (v : V) (rd : Addr) (b : Bool), vs = [v, .ref rd] ∧ ItB K H v rd b ∧ (b = true → ∀ H', Same H H' → Q .non H') ∧ (b = false → ∀ H', Same H H' → E (.ref N) none H')
theorem qAg (T : Tx K mg a) : FnOk P w K mg base (CXR P w) 6 a.a_check_clip a.f_check_clip ["item", "reels"] (qAq K a.k_NoClip) := by
  refine okX T.d_check_clip.F sc_check_clip (fun vs H Q E h => ?_) (fun cdv A outer s H vs Q E hr h => ?_)
  · obtain ⟨v, rd, b, rfl, _⟩ := h
    rfl
  obtain ⟨v, rd, b, rfl, hv, kg, kb⟩ := h
  have hu1 := qLl hr
  refine ⟨_, (qF (qh (jr (jP (qN T.d_has_clip_form (vt T) hr rfl (qA (pv 0) qE)))) (qG (jz rfl rfl T.c_NoClip T.x_NoClip (qA qX qE))) qS)
      (qF (qh (qD1 (qIc hu1 (qJ qI (pv 0) qB (fun _ _ => rfl)) (pv 1))) (qG (jz rfl rfl T.c_NoClip T.x_NoClip (qA qX qE))) qS)
      (qF (qV (i := 2) sc_check_clip.nd rfl (Or.inl rfl) (wf hu1 (pv 1) (qJ qI (pv 0) qB (fun _ _ => rfl)) (fun _ _ => rfl)))
      (qG (qh (PW.pt (xh (jr (jP (qN T.d_is_there (kR T) hr rfl (qA (qN T.d_picture_at (vD T) hr rfl (qA (pv 0) (qA qB qE))) (qA (pv 2) qE))))) (jc (jr (jP (qN T.d_is_there (kR T) hr rfl (qA (qN T.d_picture_at (vD T) hr rfl (qA (pv 0) (qA (qO jU (qJ qI (pv 0) qB (fun _ _ => rfl)) qB) qE))) (qA (pv 2) qE)))))))) (qG (jz rfl rfl T.c_NoClip T.x_NoClip (qA qX qE))) qS))))), ?_⟩
  try dsimp only [jo, qi]
  have one : (1 : Nat) ≤ sizeLine := by decide
  cases hv with
  | form h => exact ⟨_, rfl, v, false, rfl, h, fun H1 s1 => ⟨false, rfl, qr ⟨one, kb rfl H1 s1⟩⟩⟩
  | @reel z rd kvs n p q r s' len hc g hk hv =>
    refine ⟨_, rfl, _, true, rfl, hc.form g, fun H1 s1 => ⟨true, rfl, qk ?_⟩⟩
    obtain ⟨z1, z2, e0, _, _⟩ := (hc.same s1).ex
    have t1 : SqT K H1 z [.str "clip", .str n, .ref z1, .ref z2, .int len] := SqT.of e0
    refine ⟨_, rfl, z, _, _, _, rfl, rfl, t1, qAs, _, rfl, rd, none, rfl, .inl ⟨kvs, Sum.inr n, .inl (s1 _ _ hk), rfl, hv.symm⟩, _, rfl, qr ?_⟩
    exact ⟨one, kb rfl H1 s1⟩
  | @pics z rd n p q r s' len m b hc g hrd hb =>
    have hqs := Int.mul_pos g.hb.q0 g.hb.s0
    have h0 : ∀ {H' : Hp}, Same H H' → ∃ z1 z2, SqT K H' z [.str "clip", .str n, .ref z1, .ref z2, .int len] := fun e => let ⟨z1, z2, h1, _, _⟩ := (hc.same e).ex; ⟨z1, z2, SqT.of h1⟩
    refine ⟨_, rfl, _, true, rfl, hc.form g, fun H1 s1 => ⟨true, rfl, qk ?_⟩⟩
    obtain ⟨z1, z2, t1⟩ := h0 s1
    refine ⟨_, rfl, z, _, _, _, rfl, rfl, t1, qAs, _, rfl, rd, _, rfl, (hrd.same s1).get, _, rfl, qk ?_⟩
    refine ⟨_, rfl, _, rfl, z, _, _, _, rfl, rfl, t1, qAs, rd, _, rfl, (hrd.same s1).get, ?_⟩
    refine ⟨_, rfl, _, n, p, q, r, s', len, 0, rfl, (hc.same s1).cp, g.hb.q0, g.hb.s0, g.hb.bp, g.hb.bq, g.hb.br, g.hb.bs, vC (n := 30) (by decide), fun H2 s2 => ?_⟩
    have s2 := s1.trans s2
    refine ⟨_, rfl, _, m, rfl, _, rfl, ?_⟩
    have no : ∀ k : Int, ¬ InR (Vk p q r s' k) (q * s') m → thB ((p * s' + k * r * q).fdiv (q * s')) m = false := fun k i0 => by
      rw [Bool.eq_false_iff]
      intro z
      exact i0 ((qEv hqs).mp z)
    by_cases i0 : InR (Vk p q r s' 0) (q * s') m
    rotate_left
    · rw [no 0 i0]
      have bf : b = false := by rw [Bool.eq_false_iff]; intro z; exact i0 (hb.mp z).1
      exact qr (qr ⟨one, kb bf H2 s2⟩)
    have e : thB ((p * s' + 0 * r * q).fdiv (q * s')) m = true := (qEv hqs).mpr i0
    rw [e]
    refine qk ?_
    obtain ⟨z1, z2, t2⟩ := h0 s2
    have bl1 : (len - 1).natAbs < 2 ^ 700 := by
      have e : (2 : Nat) ^ 30 ≤ 2 ^ 700 := Nat.pow_le_pow_right (by decide) (by decide)
      have := g.bl
      have := g.l1
      omega
    refine ⟨_, rfl, _, rfl, z, _, _, _, rfl, rfl, t2, qEi, _, _, rfl, rfl, _, n, p, q, r, s', len, len - 1, rfl, (hc.same s2).cp, g.hb.q0, g.hb.s0, g.hb.bp, g.hb.bq, g.hb.br, g.hb.bs, bl1, fun H3 s3 => ?_⟩
    have s3 := s2.trans s3
    refine ⟨_, rfl, _, m, rfl, _, rfl, ?_⟩
    by_cases i1 : InR (Vk p q r s' (len - 1)) (q * s') m
    · have e : thB ((p * s' + (len - 1) * r * q).fdiv (q * s')) m = true := (qEv hqs).mpr i1
      rw [e]
      exact qk (kg (hb.mpr ⟨i0, i1⟩) H3 s3)
    · rw [no _ i1]
      have bf : b = false := by rw [Bool.eq_false_iff]; intro z; exact i1 (hb.mp z).2
      exact qr ⟨one, kb bf H3 s3⟩
abbrev Rls := Str → Option Int
def ReelsAt (H : Hp) (rd : Addr) (rl : Rls) : Prop := ∀ n N, rl n = some N → Reel H rd n N
theorem ReelsAt.same {H H' : Hp} {rd : Addr} {rl : Rls} (e : Same H H') (h : ReelsAt H rd rl) : ReelsAt H' rd rl := fun n N q => (h n N q).same e
theorem qB4 (T : Tx K mg a) : FnOk P w K mg base CX0 1 a.fi_Short a.gi_Short ["self", "most"] (qFe a.k_Short "most") := by
  refine T.i_Short.ok qHr (fun vs H Q E h => ?_) (fun cdv A outer s H vs Q E hr h => ?_)
  · obtain ⟨e, v, rfl, _⟩ := h
    rfl
  obtain ⟨e, v, rfl, he, kk⟩ := h
  refine ⟨_, qG (qKm (pv 0) (pv 1)), ?_⟩
  exact ⟨_, rfl, _, rfl, e, _, _, rfl, he, T.m_Short.ov, T.m_Short.hd, T.m_Short.sa, T.tk_Short, kk⟩
inductive Nu (H : Hp) : V → Option Int → Prop where
  | int (i : Int) : Nu H (.int i) (some i)
  | no {x : V} (h : NoW H x) : Nu H x none
theorem Nu.same {H H' : Hp} (s : Same H H') {x : V} {o : Option Int} : Nu H x o → Nu H' x o
  | .int i => .int i
  | .no h => .no (h.same s)
def qJn (L : Nat) (n t : Option Int) : Bool := match n, t with
  | some i, some m => decide (0 ≤ i) && decide (i < L) && decide (0 ≤ m)
  | _, _ => false
def wg (N : Addr) : Sp := fun vs H Q E => ∃ (tz tl td : Addr) (zs : List V) (n t : V) (on ot : Option Int), vs = [.ref tz, n, t] ∧ H tz = some (.tup [.ref tl, .ref td]) ∧ H tl = some (.lst zs) ∧ Nu H n on ∧ Nu H t ot ∧
  (qJn zs.length on ot = false → E (.ref N) none H) ∧ (qJn zs.length on ot = true → Q .non H)
theorem wc (T : Tx K mg a) : FnOk P w K mg base (CXR P w) 2 a.a_check_place a.f_check_place ["table", "number", "moment"] (wg a.k_NoPlace) := by
  refine okX T.d_check_place.F wv (fun vs H Q E h => ?_) (fun cdv A outer s H vs Q E hr h => ?_)
  · obtain ⟨tz, tl, td, zs, n, t, on, ot, rfl, _⟩ := h
    rfl
  obtain ⟨tz, tl, td, zs, n, t, on, ot, rfl, htz, htl, hn, ht, kb, kg⟩ := h
  refine ⟨_, (qF (qh (PW.pt (xh (jr (jP (qN T.d_is_whole (qm T) hr rfl (qA (pv 1) qE)))) (xh (qL kH (pv 1) qB (qU _)) (jc (qL qBw (pv 1) (qd jY rfl T.b_len rfl (qA (qJ qI (pv 0) qB (fun _ _ => rfl)) qE)) (qU _)))))) (qG (jz rfl rfl T.c_NoPlace T.x_NoPlace (qA qX qE))) qS)
      (qG (qh (PW.pt (xh (jr (jP (qN T.d_is_whole (qm T) hr rfl (qA (pv 2) qE)))) (jc (qL kH (pv 2) qB (qU _))))) (qG (jz rfl rfl T.c_NoPlace T.x_NoPlace (qA qX qE))) qS))), ?_⟩
  try dsimp only [jo, qi]
  have one : (1 : Nat) ≤ sizeLine := by decide
  cases hn with
  | no h =>
    have kb := kb (by unfold qJn; cases ot <;> rfl)
    exact ⟨_, rfl, n, false, rfl, .no h, false, rfl, qr (qr ⟨one, kb⟩)⟩
  | int n =>
  refine ⟨_, rfl, _, true, rfl, .int n, true, rfl, qk ?_⟩
  refine ⟨_, rfl, _, _, rfl, rfl, _, rfl, xo (fun c => ?_) (fun c => ?_)⟩
  · have hc : n < 0 := by simpa using c
    have kb := kb (by
      unfold qJn
      cases ot with
      | none => rfl
      | some m => dsimp only; rw [decide_eq_false (show ¬ 0 ≤ n by omega)]; rfl)
    exact qr ⟨one, kb⟩
  have h0 : ¬ n < 0 := by simpa using c
  refine ⟨_, rfl, qZ rfl (SqT.of htz) at0 ⟨tl, _, rfl, .inl (SqL.of htl), _, _, rfl, rfl, _, rfl, xo (fun c => ?_) (fun c => ?_)⟩⟩
  · have hc : (zs.length : Int) ≤ n := by simpa using c
    have kb := kb (by
      unfold qJn
      cases ot with
      | none => rfl
      | some m => dsimp only; rw [decide_eq_false (show ¬ n < zs.length by omega), Bool.and_false]; rfl)
    exact ⟨one, kb⟩
  have h1 : ¬ (zs.length : Int) ≤ n := by simpa using c
  cases ht with
  | no h =>
    have kb := kb rfl
    exact ⟨_, rfl, t, false, rfl, .no h, false, rfl, qr (qr ⟨one, kb⟩)⟩
  | int m =>
  refine ⟨_, rfl, _, true, rfl, .int m, true, rfl, qk ?_⟩
  have e : qJn zs.length (some n) (some m) = decide (0 ≤ m) := by
    unfold qJn
    dsimp only
    rw [decide_eq_true (show 0 ≤ n by omega), decide_eq_true (show n < zs.length by omega)]
    rfl
  rw [e] at kb kg
  refine ⟨_, rfl, _, _, rfl, rfl, _, rfl, xo (fun c => ?_) (fun c => ?_)⟩
  · have hc : m < 0 := by simpa using c
    exact ⟨one, kb (decide_eq_false (by omega))⟩
  · have hc : ¬ m < 0 := by simpa using c
    exact kg (decide_eq_true (by omega))
def qDq (K : W.Frag) : Sp := fun vs H Q _ => ∃ (v : V) (n : Str) (p q r s len lo hi : Int), vs = [v, .int lo, .int hi] ∧ IsI H (.clip n p q r s len) v ∧ Bn 700 p q r s ∧ lo.natAbs < 2 ^ 700 ∧
  ∀ (u : V) (H' : Hp), Same H H' → IsI H' (.clip n (plP p q r s lo) (plQ p q r s lo) r s (hi - lo)) u → Q u H'
theorem qDh (T : Tx K mg a) : FnOk P w K mg base CX0 5 a.a_clip_part a.f_clip_part ["clip", "low", "high"] (qDq K) := by
  refine T.d_clip_part.F.ok qDp (fun vs H Q E h => ?_) (fun cdv A outer s H vs Q E hr h => ?_)
  · obtain ⟨v, n, p, q, r, s, len, lo, hi, rfl, _⟩ := h
    rfl
  obtain ⟨v, n, p, q, r, s', len, lo, hi, rfl, hI, ⟨hq, hs, bp, bq, br, bs⟩, bl, kk⟩ := h
  refine ⟨_, (qG (qP (ql (qA qX (qA (qJ qI (pv 0) qB (fun _ _ => rfl)) (qA (qN T.d_place_at (zX T) hr rfl (qA (pv 0) (qA (pv 1) qE))) (qA (qJ qI (pv 0) qB (fun _ _ => rfl)) (qA (qO jU (pv 2) (pv 1)) qE)))))))), ?_⟩
  try dsimp only [jo, qi]
  obtain ⟨z, z1, z2, rfl, h0, h1, h2⟩ := id hI
  refine (qZ rfl (SqT.of h0) qAs ⟨_, rfl, _, rfl, _, n, p, q, r, s', len, lo, rfl, qK7 hI, hq, hs, bp, bq, br, bs, bl, fun y H1 s1 e1 => ?_⟩)
  refine (qZ rfl (SqT.of (s1 _ _ h0)) qGr ⟨_, rfl, _, rfl, _, _, rfl, rfl, sL5, fun t ht => ?_⟩)
  have s2 := qH ht (.tup [.str "clip", .str n, .ref y, .ref z2, .int (hi - lo)])
  exact kk _ _ (s1.trans s2) ⟨t, y, z2, rfl, qD, s2 _ _ e1, s2 _ _ (s1 _ _ h2)⟩
def qMd (p q r s l N : Int) : Int := vq (plP p q r s l * s) (1 * r * plQ p q r s l) (plQ p q r s l * s) N
def qMl (p q r s N : Int) : Int := vq (plP p q r s (-1) * s) (-1 * r * plQ p q r s (-1)) (plQ p q r s (-1) * s) N
structure Rc (n : Str) (p q r s l : Int) (rl : Rls) (N : Int) : Prop where
  g1 : Good 110 p q
  g2 : Good 110 r s
  bl : l.natAbs < 2 ^ 30
  l1 : 1 ≤ l
  rn : rl n = some N
  bN : N.natAbs < 2 ^ 700
theorem Rc.bn {n : Str} {p q r s l N : Int} {rl : Rls} (h : Rc n p q r s l rl N) : Bn 110 p q r s := ⟨h.g1.1, h.g2.1, h.g1.2.2.1, h.g1.2.2.2, h.g2.2.2.1, h.g2.2.2.2⟩
theorem IsIs.set {H : Hp} : ∀ {ms : List Im} {vs : List V} {i : Nat} {m : Im} {v : V}, IsIs H ms vs → IsI H m v → IsIs H (ms.set i m) (vs.set i v)
  | [], [], _, _, _, _, _ => trivial
  | _ :: _, _ :: _, 0, _, _, h, h' => ⟨h', h.2⟩
  | _ :: _, _ :: _, _ + 1, _, _, h, h' => ⟨h.1, h.2.set h'⟩
  | [], _ :: _, _, _, _, h, _ => h.elim
  | _ :: _, [], _, _, _, h, _ => h.elim
theorem qLb {n i : Nat} (h : i < n) : ixN n (i : Int) = some i := by
  unfold ixN
  rw [if_pos (by omega), if_pos (by omega)]
  congr 1
structure NewTab (H H' : Hp) (t : Addr) (ts : List (List Im)) (tie : List Int) : Prop where
  ex : ∃ (tl ti : Addr) (zs : List V), H' t = some (.tup [.ref tl, .ref ti]) ∧ H' tl = some (.lst zs) ∧ TrsAt H' ts zs ∧ H' ti = some (.lst (tie.map V.int)) ∧ H tl = none ∧ H ti = none ∧ tl ≠ ti ∧ ∀ b, V.ref b ∈ zs → H b = none ∧ b ≠ tl ∧ b ≠ ti
theorem NewTab.tab {H H' : Hp} {t : Addr} {ts : List (List Im)} {tie : List Int} (h : NewTab H H' t ts tie) : TabF H' (.ref t) ts tie := let ⟨tl, ti, zs, h1, h2, h3, h4, _⟩ := h.ex; ⟨t, tl, ti, zs, rfl, h1, h2, h3, h4⟩
theorem TrsAt.set {H : Hp} : ∀ {ts : List (List Im)} {vs : List V} {i : Nat} {ms : List Im} {z : Addr}, TrsAt H ts vs → Tr H z ms → TrsAt H (ts.set i ms) (vs.set i (.ref z))
  | [], [], _, _, _, _, _ => trivial
  | _ :: _, _ :: _, 0, _, z, h, h' => ⟨⟨z, rfl, h'⟩, h.2⟩
  | _ :: _, _ :: _, _ + 1, _, _, h, h' => ⟨h.1, h.2.set h'⟩
  | [], _ :: _, _, _, _, h, _ => h.elim
  | _ :: _, [], _, _, _, h, _ => h.elim
theorem TrsAt.refs {H : Hp} : ∀ {ts : List (List Im)} {vs : List V} {b : Addr}, TrsAt H ts vs → V.ref b ∈ vs → ∃ xs, H b = some (.lst xs)
  | [], [], _, _, h => by simp at h
  | _ :: _, _ :: _, b, ⟨⟨z, h1, ⟨xs, h2, _⟩⟩, r⟩, h => by
    rcases List.mem_cons.mp h with h | h
    · rw [h1] at h
      cases h
      exact ⟨xs, h2⟩
    · exact TrsAt.refs r h
  | [], _ :: _, _, h, _ => h.elim
  | _ :: _, [], _, h, _ => h.elim
def qCj : Sp := fun vs H Q _ => ∃ (tz y : Addr) (n : Nat) (ts : List (List Im)) (tie : List Int) (ms : List Im), vs = [.ref tz, .int (n : Int), .ref y] ∧ TabF H (.ref tz) ts tie ∧ Tr H y ms ∧ n < ts.length ∧ ts.length ≤ 300 ∧
  ∀ (t : Addr) (H' : Hp), Same H H' → (∀ H0 : Hp, Same H0 H → H0 y = none → NewTab H0 H' t (ts.set n ms) tie) → Q (.ref t) H'
theorem vB (T : Tx K mg a) : FnOk P w K mg base CX0 1 a.a_table_with a.f_table_with ["table", "number", "track"] qCj := by
  refine T.d_table_with.F.ok sc_table_with (fun vs H Q E h => ?_) (fun cdv A outer s H vs Q E hr h => ?_)
  · obtain ⟨tz, y, n, ts, tie, ms, rfl, _⟩ := h
    rfl
  obtain ⟨tz, y, n, ts, tie, ms, rfl, ⟨tt, tl, ti, zs, e0, h2, h3, h4, h5⟩, hy, hn, hl, kk⟩ := h
  cases e0
  have hzl := h4.len
  refine ⟨_, (qF (qJ7 (i := 3) [] [] sc_table_with.nd rfl rfl rfl (jZ (qJ qI (pv 0) qB (fun _ _ => rfl))) (fun _ _ _ _ => (kx (vH (K := K) rfl) rfl T.b_list rfl (qA (pv 0) qE))))
      (qF (qLw (pv 2) (qL8 (pv 3) (pv 1) qJc))
      (qG (qP (ql (qA (pv 3) (qA (kx z0 rfl T.b_list rfl (qA (qJ qI (pv 0) qB (fun _ _ => rfl)) qE)) qE))))))), ?_⟩
  try dsimp only [jo, qi]
  refine (qZ rfl (SqT.of h2) at0 ⟨tl, rfl, ⟨_, SqL.of h3⟩, ku (K := K) (a := tl) (xs := zs) (fun j acc H2 => TrsAt H2 (ts.take j) acc ∧ Same H H2 ∧ ∀ b, V.ref b ∈ acc → H b = none) ⟨trivial, Same.refl _, fun b z => absurd z (by simp)⟩ ?_ ?_ ?_⟩)
  · rintro j acc H2 hj ⟨ht, e2, _⟩
    exact ⟨SqL.of (e2 _ _ h3), qc (by rw [ht.len, List.length_take]; omega)⟩
  · rintro j x acc H2 hj hx ⟨ht, e2, fr⟩
    obtain ⟨ms1, z, hms, rfl, us, hz, his⟩ := h4.get hx
    refine ⟨_, rfl, z, us, rfl, .inl (SqL.of (e2 _ _ hz)), fun l hl' => Nxt.mk hj ⟨?_, e2.trans (qH hl' _), fun b hb => ?_⟩⟩
    · have w3 := qH hl' (.lst us)
      have etk : ts.take (j + 1) = ts.take j ++ [ms1] := by rw [List.take_add_one, hms]; rfl
      rw [etk]
      exact wa (ht.same w3) ⟨us, qD, his.ts (qg (e2.trans w3))⟩
    · rcases List.mem_append.mp hb with hb | hb
      · exact fr b hb
      · have : b = l := by simpa using hb
        subst this
        cases q0 : H b with
        | none => rfl
        | some o => rw [e2 _ _ q0] at hl'; cases hl'
  rintro acc H2 ⟨ht, e2, fr⟩ d hd
  rw [hzl, List.take_length] at ht
  have hal := ht.len
  have w3 := qH hd (.lst acc)
  have e3 := e2.trans w3
  have hd0 : H d = none := by
    cases q0 : H d with
    | none => rfl
    | some o => rw [e2 _ _ q0] at hd; cases hd
  refine ⟨_, rfl, _, rfl, _, rfl, d, acc, _, n, rfl, rfl, qD, qLb (by rw [hal]; exact hn), ?_⟩
  have uu : upd (upd H2 d (.lst acc)) d (.lst (acc.set n (.ref y))) = upd H2 d (.lst (acc.set n (.ref y))) := by
    funext b
    by_cases hb : b = d
    · rw [hb, qD, qD]
    · rw [qY hb, qY hb, qY hb]
  rw [uu]
  have w4 := qH hd (.lst (acc.set n (.ref y)))
  have e4 := e2.trans w4
  have hd4 : upd H2 d (.lst (acc.set n (.ref y))) d = some (.lst (acc.set n (.ref y))) := qD
  have ht4 : TrsAt (upd H2 d (.lst (acc.set n (.ref y)))) (ts.set n ms) (acc.set n (.ref y)) := (ht.same w4).set (hy.same e4)
  have nd : ∀ b, V.ref b ∈ acc → b ≠ d := fun b hb z => by
    obtain ⟨xs, q0⟩ := ht.refs hb
    rw [z, hd] at q0; cases q0
  have ny : y ≠ d := fun z => by
    obtain ⟨us, q0, _⟩ := id hy
    rw [z, hd0] at q0; cases q0
  generalize upd H2 d (.lst (acc.set n (.ref y))) = H4 at w4 e4 hd4 ht4 ⊢
  refine ⟨_, rfl, qZ rfl (SqT.of (e4 _ _ h2)) at1 ⟨ti, _, rfl, .inl (SqL.of (e4 _ _ h5)), fun l hl' => ?_⟩⟩
  have w5 := qH hl' (.lst (tie.map V.int))
  have e5 := e4.trans w5
  refine ⟨sL2, fun t ht' => ?_⟩
  have w6 := qH ht' (.tup [.ref d, .ref l])
  refine kk t _ (e5.trans w6) fun H0 s0 y0 => ?_
  have back : ∀ b, H b = none → H0 b = none := fun b hb => by
    cases q0 : H0 b with
    | none => rfl
    | some o => rw [s0 _ _ q0] at hb; cases hb
  have hl0 : H l = none := by
    cases q0 : H l with
    | none => rfl
    | some o => rw [e4 _ _ q0] at hl'; cases hl'
  have dl : d ≠ l := fun z => by rw [← z, hd4] at hl'; cases hl'
  refine ⟨d, l, _, qD, w6 _ _ (w5 _ _ hd4), (ht4.same w5).same w6, w6 _ _ qD, back _ hd0, back _ hl0, dl, fun b hb => ?_⟩
  obtain ⟨xs, q0⟩ := ht4.refs hb
  have bl : b ≠ l := fun z => by rw [z, hl'] at q0; cases q0
  rcases List.mem_or_eq_of_mem_set hb with hb | hb
  · exact ⟨back _ (fr b hb), nd b hb, bl⟩
  · cases hb
    exact ⟨y0, ny, bl⟩
theorem qMa {x0 x1 x2 x3 : V} : atI [x0, x1, x2, x3] 1 = some x1 := rfl
theorem qIe {x0 x1 x2 x3 : V} : atI [x0, x1, x2, x3] 2 = some x2 := rfl
theorem qB9 {x0 x1 x2 x3 : V} : atI [x0, x1, x2, x3] 3 = some x3 := rfl
theorem two : (2 : Nat) ≤ sizeLine := by decide
def Pos (ms : List Im) : Prop := ∀ m ∈ ms, 0 < m.mo ∧ m.wd ≠ "mix"
theorem qL4 : (4 : Nat) ≤ sizeLine := by decide
def Wd3 (wd : Str) : Prop := wd = "roll" ∨ wd = "slip" ∨ wd = "slide"
theorem zt {ms : List Im} {x : Int} (h : xK ms x = "clip") : ∃ (i : Nat) (n : Str) (p q r s l : Int), x = (i : Int) ∧ ms[i]? = some (.clip n p q r s l) := by
  unfold xK at h
  split at h
  · exact absurd h (by decide +kernel)
  · rename_i h0
    cases hm : ms[x.toNat]? with
    | none => rw [hm] at h; exact absurd h (by decide +kernel)
    | some m =>
      rw [hm] at h
      dsimp only at h
      cases m with
      | clip n p q r s l => exact ⟨x.toNat, n, p, q, r, s, l, by omega, hm⟩
      | gap => exact absurd (show ("gap" : Str) = "clip" from h) (by decide +kernel)
      | nest => exact absurd (show ("nest" : Str) = "clip" from h) (by decide +kernel)
      | mix => exact absurd (show ("mix" : Str) = "clip" from h) (by decide +kernel)
def kI (ms : List Im) (x : Int) : Im := (ms[x.toNat]?).getD (.gap 0)
def ItR (rl : Rls) (m : Im) : Prop := ∀ n p q r s l, m = .clip n p q r s l → ∃ N, Rc n p q r s l rl N
structure RollIn (H : Hp) (tz dz rd : Addr) (ts : List (List Im)) (tie : List Int) (wd : Str) (n t b : V) (on ot ob : Option Int) (rl : Rls) : Prop where
  tab : TabF H (.ref tz) ts tie
  deed : H dz = some (.tup [.str wd, n, t, b])
  hn : Nu H n on
  ht : Nu H t ot
  hb : Nu H b ob
  w3 : Wd3 wd
  tl : ts.length ≤ 300
  it : ∀ ms ∈ ts, ms.length ≤ 300 ∧ ∀ m ∈ ms, ItR rl m
  re : ReelsAt H rd rl
theorem RollIn.same {H H' : Hp} (e : Same H H') {tz dz rd : Addr} {ts : List (List Im)} {tie : List Int} {wd : Str} {n t b : V} {on ot ob : Option Int} {rl : Rls} (h : RollIn H tz dz rd ts tie wd n t b on ot ob rl) : RollIn H' tz dz rd ts tie wd n t b on ot ob rl :=
  ⟨h.tab.same e, e _ _ h.deed, h.hn.same e, h.ht.same e, h.hb.same e, h.w3, h.tl, h.it, h.re.same e⟩
theorem qMp {w : Str} : inV (.str w) [.str "clip", .str "nest"] = (decide (w = "clip") || decide (w = "nest")) := by
  unfold inV
  rw [Bool.eq_iff_iff]
  simp [eqV]
  constructor
  · rintro (h | h)
    · exact .inl h.symm
    · exact .inr h.symm
  · rintro (h | h)
    · exact .inl h.symm
    · exact .inr h.symm
def qBx (ms : List Im) (t : Int) : Bool := match kU 0 0 ms t with
  | some (i, d) => decide (d > 0) && (decide (xK ms (i : Int) = "clip") || decide (xK ms (i : Int) = "nest"))
  | none => false
def qAd : Sp := fun vs H Q _ => ∃ (z : Addr) (ms : List Im) (t : Int), vs = [.ref z, .int t] ∧ Tr H z ms ∧ ∀ H', Same H H' → Q (.bl (qBx ms t)) H'
theorem wx (T : Tx K mg a) : FnOk P w K mg base CX0 4 a.a_lies_within a.f_lies_within ["track", "moment"] qAd := by
  refine T.d_lies_within.F.ok sc_lies_within (fun vs H Q E h => ?_) (fun cdv A outer s H vs Q E hr h => ?_)
  · obtain ⟨z, ms, t, rfl, _⟩ := h
    rfl
  obtain ⟨z, ms, t, rfl, tT, kk⟩ := h
  refine ⟨_, (qF (qV (i := 2) sc_lies_within.nd rfl (Or.inl rfl) (qN T.d_item_at (qAy T) hr rfl (qA (pv 0) (qA (pv 1) qE))))
      (qG (qP (kM (qLv (qJ8 (pv 2))) (kM (xm qBs (qJ qI (pv 2) qB (fun _ _ => rfl)) qB (qU _)) (vi (xm jy (qN T.d_kind_at (x8 T) hr rfl (qA (pv 0) (qA (qJ qI (pv 2) qB (fun _ _ => rfl)) qE))) (ql (qA qX (qA qX qE))) rfl))))))), ?_⟩
  try dsimp only [jo, qi]
  refine ⟨_, rfl, _, rfl, z, ms, _, rfl, tT, ?_⟩
  unfold qBx at kk
  cases hit : kU 0 0 ms t with
  | none =>
    rw [hit] at kk
    intro H1 e1
    exact ⟨_, rfl, _, rfl, qk (kk H1 e1)⟩
  | some x =>
    obtain ⟨i, d⟩ := x
    rw [hit] at kk
    dsimp only at kk
    intro p H1 e1 hp
    refine ⟨_, rfl, _, rfl, qr ?_⟩
    refine (qZ rfl (SqT.of hp) at1 ⟨_, _, rfl, rfl, _, rfl, xo (fun c => ?_) (fun c => ?_)⟩)
    · have hd : d > 0 := by simpa using c
      rw [decide_eq_true hd, Bool.true_and] at kk
      refine ⟨_, rfl, qZ rfl (SqT.of hp) at0 ⟨z, ms, _, rfl, tT.same e1, sL2, fun q hq => ?_⟩⟩
      have := kk _ (e1.trans (qH hq (.tup [.str "clip", .str "nest"])))
      rw [← qMp] at this
      exact ⟨q, _, rfl, .inr (SqT.of qD), rfl, rfl, this⟩
    · have hd : ¬ d > 0 := by simpa using c
      rw [decide_eq_false hd, Bool.false_and] at kk
      exact kk H1 e1
def qK6 : Im → Int → Int → Im
  | .clip n p q r s _, lo, hi => .clip n (plP p q r s lo) (plQ p q r s lo) r s (hi - lo)
  | .nest n b _, lo, hi => .nest n (b + lo) (hi - lo)
  | .gap _, lo, hi => .gap (hi - lo)
  | .mix _, lo, hi => .gap (hi - lo)
def ImB (m : Im) : Prop := match m with
  | .clip _ p q r s _ => Bn 700 p q r s
  | _ => True
def qEd : Sp := fun vs H Q _ => ∃ (v : V) (m : Im) (lo hi : Int), vs = [v, .int lo, .int hi] ∧ IsI H m v ∧ ImB m ∧ lo.natAbs < 2 ^ 700 ∧ m.wd ≠ "mix" ∧ ∀ (u : V) (H' : Hp), Same H H' → IsI H' (qK6 m lo hi) u → Q u H'
theorem qC8 (T : Tx K mg a) : FnOk P w K mg base CX0 6 a.a_item_part a.f_item_part ["item", "low", "high"] qEd := by
  refine T.d_item_part.F.ok qDn (fun vs H Q E h => ?_) (fun cdv A outer s H vs Q E hr h => ?_)
  · obtain ⟨v, m, lo, hi, rfl, _⟩ := h
    rfl
  obtain ⟨v, m, lo, hi, rfl, hI, hB, bl, hnm, kk⟩ := h
  refine ⟨_, (qF (qh (qL xj (qJ qI (pv 0) qB (fun _ _ => rfl)) qX (qU _)) (qG (qP (qN T.d_clip_part (qDh T) hr rfl (qA (pv 0) (qA (pv 1) (qA (pv 2) qE)))))) qS)
      (qF (qh (qL xj (qJ qI (pv 0) qB (fun _ _ => rfl)) qX (qU _)) (qG (qP (ql (qA qX (qA (qJ qI (pv 0) qB (fun _ _ => rfl)) (qA (qO qp (qJ qI (pv 0) qB (fun _ _ => rfl)) (pv 1)) (qA (qO jU (pv 2) (pv 1)) qE))))))) qS)
      (qG (qP (ql (qA qX (qA (qO jU (pv 2) (pv 1)) qE))))))), ?_⟩
  try dsimp only [jo, qi]
  cases m with
  | mix l => exact absurd rfl hnm
  | clip n p q r s1 l =>
    obtain ⟨z, x, y, rfl, hz, hx, hy⟩ := id hI
    refine (qZ rfl (SqT.of hz) qF9 ⟨rfl, _, rfl, qr ?_⟩)
    exact ⟨_, rfl, _, rfl, _, rfl, _, n, p, q, r, s1, l, lo, hi, rfl, hI, hB, bl, kk⟩
  | nest n b l =>
    obtain ⟨z, rfl, hz⟩ := id hI
    have a0 : atI [V.str "nest", .str n, .int b, .int l] 0 = some (.str "nest") := rfl
    have a1 : atI [V.str "nest", .str n, .int b, .int l] 1 = some (.str n) := rfl
    have a2 : atI [V.str "nest", .str n, .int b, .int l] 2 = some (.int b) := rfl
    refine (qZ rfl (SqT.of hz) a0 ⟨rfl, _, rfl, qk ?_⟩)
    refine (qZ rfl (SqT.of hz) a0 ⟨rfl, _, rfl, qr ?_⟩)
    refine (qZ rfl (SqT.of hz) a1 (qZ rfl (SqT.of hz) a2 ⟨_, rfl, _, _, rfl, rfl, _, rfl, _, rfl, _, _, rfl, rfl, sL4, fun t ht => ?_⟩))
    exact kk _ _ (qH ht _) (isN qD)
  | gap l =>
    obtain ⟨z, rfl, hz⟩ := id hI
    refine (qZ rfl (SqT.of hz) at0 ⟨rfl, _, rfl, qk ?_⟩)
    refine (qZ rfl (SqT.of hz) at0 ⟨rfl, _, rfl, qk ?_⟩)
    refine ⟨_, rfl, _, rfl, _, _, rfl, rfl, sL2, fun t ht => ?_⟩
    exact kk _ _ (qH ht _) (isG qD)
def qGq (i j : Int) : Int := if j > i then j else i
def qLn (i j : Int) : Int := if j < i then j else i
def zo (lo hi : Int) : Int → List Im → List Im
  | _, [] => []
  | b, m :: r => (if m.wd = "mix" then (if lo < b ∧ b < hi then [m] else []) else if qGq lo b < qLn hi (b + m.mo) then [qK6 m (qGq lo b - b) (qLn hi (b + m.mo) - b)] else []) ++ zo lo hi (b + m.mo) r
theorem zj (lo hi : Int) : ∀ (b : Int) (ms : List Im), (zo lo hi b ms).length ≤ ms.length
  | _, [] => by simp [zo]
  | b, m :: r => by
    have := zj lo hi (b + m.mo) r
    rw [zo, List.length_append, List.length_cons]
    split <;> split <;> simp <;> omega
def MsB (ms : List Im) : Prop := (∀ m ∈ ms, ImB m ∧ 0 ≤ m.mo) ∧ ms.length ≤ 300
def wG : Sp := fun vs H Q _ => ∃ (z : Addr) (ms : List Im) (lo hi : Int), vs = [.ref z, .int lo, .int hi] ∧ Tr H z ms ∧ MsB ms ∧ 0 ≤ lo ∧ lo ≤ 2 ^ 500 ∧ ∀ (y : Addr) (H' : Hp), Same H H' → H y = none → Tr H' y (zo lo hi 0 ms) → Q (.ref y) H'
theorem zg (T : Tx K mg a) : FnOk P w K mg base CX0 7 a.a_part_of_track a.f_part_of_track ["track", "low", "high"] wG := by
  refine T.d_part_of_track.F.ok sc_part_of_track (fun vs H Q E h => ?_) (fun cdv A outer s H vs Q E hr h => ?_)
  · obtain ⟨z, ms, lo, hi, rfl, _⟩ := h
    rfl
  obtain ⟨z, ms, lo, hi, rfl, ⟨vs, hz, his⟩, ⟨hB, hln⟩, h0, h1, kk⟩ := h
  refine ⟨_, (qF (qV (i := 3) sc_part_of_track.nd rfl (Or.inl rfl) (jI qE))
      (qF (qV (i := 4) sc_part_of_track.nd rfl (Or.inl rfl) qB)
      (qF (xn PassesOwn.never rfl (jZ (pv 0)) (ja (i := 5) sc_part_of_track.nd rfl (Or.inl rfl)) (qF (qV (i := 6) sc_part_of_track.nd rfl (Or.inl rfl) (qO qp (pv 4) (qN T.d_moments_of (jN T) hr rfl (qA (pv 5) qE))))
      (qF (qV (i := 7) sc_part_of_track.nd rfl (Or.inl rfl) (qd (vI rfl) rfl T.b_max rfl (qA (pv 1) (qA (pv 4) qE))))
      (qF (qV (i := 8) sc_part_of_track.nd rfl (Or.inl rfl) (qd (zn rfl) rfl T.b_min rfl (qA (pv 2) (qA (pv 6) qE))))
      (qF (qh (qL xj (qJ qI (pv 5) qB (fun _ _ => rfl)) qX (qU _)) (qG (qh (PW.pt (zH (qL kH (pv 1) (pv 4) (qU _)) (xl (qL kH (pv 4) (pv 2) (qU _))))) (qG (jD (kj F.plainAttrs_list F.slot_list_append F.type_list_append q9 (pv 3) (qA (pv 5) qE)))) qS)) (qG (qh (qL kH (pv 7) (pv 8) (qU _)) (qG (jD (kj F.plainAttrs_list F.slot_list_append F.type_list_append q9 (pv 3) (qA (qN T.d_item_part (qC8 T) hr rfl (qA (pv 5) (qA (qO jU (pv 7) (pv 4)) (qA (qO jU (pv 8) (pv 4)) qE)))) qE)))) qS)))
      (qG (qV (i := 4) sc_part_of_track.nd rfl (Or.inl rfl) (pv 6))))))))
      (qG (qP (pv 3)))))), ?_⟩
  try dsimp only [jo, qi]
  refine ⟨sL0, fun y hy => ?_⟩
  have w0 := qH hy (.lst [])
  have hvl := his.len
  refine ⟨_, rfl, z, rfl, ⟨_, SqL.of (w0 _ _ hz)⟩, xZ (K := K) (a := z) (xs := vs) (fun i σ H' => ∃ (o1 o2 o3 o4 : Option V) (b : Int) (ps : List Im), σ = [some (.ref z), some (.int lo), some (.int hi), some (.ref y), some (.int b), o1, o2, o3, o4] ∧ Tr H' y ps ∧ ps ++ zo lo hi b (ms.drop i) = zo lo hi 0 ms ∧ ps.length ≤ i ∧ 0 ≤ b ∧ Same H H')
    ⟨none, none, none, none, 0, [], rfl, ⟨[], qD, trivial⟩, rfl, Nat.le_refl _, by decide, w0⟩ ?_ ?_ ?_⟩
  · rintro i σ H' hi' ⟨o1, o2, o3, o4, b, ps, rfl, _, _, _, _, e⟩
    exact SqL.of (e _ _ hz)
  · rintro i x σ H' hx ⟨o1, o2, o3, o4, b, ps, rfl, tP, hap, hpl, b0, e⟩
    obtain ⟨m, hm, hIx⟩ := his.get hx
    have hI := hIx.ts (qg e)
    have hin : i < ms.length := (glt hm)
    obtain ⟨hBm, hmo⟩ := hB m (List.mem_of_getElem? hm)
    obtain ⟨us, hyu, hisP⟩ := tP
    have hul := hisP.len
    rw [zp hm, zo] at hap
    refine ⟨_, rfl, _, rfl, x, m, rfl, hI, _, _, rfl, rfl, ?_⟩
    refine ⟨_, rfl, _, rfl, _, _, rfl, ?_⟩
    refine ⟨_, rfl, _, rfl, _, _, rfl, ?_⟩
    dsimp only
    change qOc _ _ _ _ _
    obtain ⟨zi, xi, rfl, hzi, a0, _⟩ := hI.opn
    have skip : ∀ (q : List Im), ps ++ ([] ++ q) = ps ++ q := fun q => by simp
    refine ⟨_, rfl, zi, xi, _, _, rfl, rfl, SqT.of hzi, a0, rfl, _, rfl, xo (fun c => ?_) (fun c => ?_)⟩
    · have hw : m.wd = "mix" := by simpa using c
      rw [if_pos hw] at hap
      refine ⟨_, rfl, _, rfl, _, _, rfl, rfl, _, rfl, xo (fun c1 => ?_) (fun c1 => ?_)⟩
      · refine ⟨_, rfl, _, rfl, _, _, rfl, rfl, _, rfl, xo (fun c2 => ?_) (fun c2 => ?_)⟩
        · rw [if_pos ⟨by simpa using c1, by simpa using c2⟩] at hap
          refine ⟨_, rfl, .inl ⟨rfl, _, SqL.of hyu⟩, _, rfl, y, _, _, rfl, rfl, hyu, qc (by omega), ?_⟩
          exact ⟨_, rfl, _, _, _, _, _, ps ++ [m], rfl, ⟨_, qD, (hisP.app (.one hI)).ts (zG hyu)⟩, by rw [List.append_assoc]; exact hap, by rw [List.length_append]; show ps.length + 1 ≤ i + 1; omega, by omega, jX e hy⟩
        · rw [if_neg (fun z => c2 (by simpa using z.2)), skip] at hap
          exact ⟨_, rfl, _, _, _, _, _, ps, rfl, ⟨_, hyu, hisP⟩, hap, by omega, by omega, e⟩
      · rw [if_neg (fun z => c1 (by simpa using z.1)), skip] at hap
        exact qk ⟨_, rfl, _, _, _, _, _, ps, rfl, ⟨_, hyu, hisP⟩, hap, by omega, by omega, e⟩
    · have hw : m.wd ≠ "mix" := by simpa using c
      rw [if_neg hw] at hap
      refine ⟨_, rfl, _, rfl, _, _, rfl, rfl, _, rfl, xo (fun c1 => ?_) (fun c1 => ?_)⟩
      · rw [if_pos (of_decide_eq_true (show decide (qGq lo b < qLn hi (b + m.mo)) = true from c1))] at hap
        refine ⟨_, rfl, .inl ⟨rfl, _, SqL.of hyu⟩, _, rfl, _, rfl, _, rfl, _, _, rfl, rfl, _, rfl, _, rfl, _, _, rfl, rfl, _, m, qGq lo b - b, qLn hi (b + m.mo) - b, rfl, hI, hBm, ?_, hw, fun u H5 e5 hI5 => ?_⟩
        · have : (qGq lo b - b).natAbs ≤ (2 ^ 500 : Nat) := by
            have h1' : lo.natAbs ≤ 2 ^ 500 := by
              have := Int.natAbs_of_nonneg h0
              have h1'' : ((lo.natAbs : Nat) : Int) ≤ ((2 ^ 500 : Nat) : Int) := by rw [this]; exact_mod_cast h1
              exact_mod_cast h1''
            refine Nat.le_trans ?_ h1'
            unfold qGq
            split <;> omega
          exact Nat.lt_of_le_of_lt this (Nat.pow_lt_pow_right (by decide) (by decide))
        refine ⟨y, _, _, rfl, rfl, e5 _ _ hyu, qc (by omega), ?_⟩
        exact ⟨_, rfl, _, _, _, _, _, ps ++ [qK6 m (qGq lo b - b) (qLn hi (b + m.mo) - b)], rfl, ⟨_, qD, ((hisP.ts (qg e5)).app (.one hI5)).ts (zG (e5 _ _ hyu))⟩, by rw [List.append_assoc]; exact hap, by rw [List.length_append]; show ps.length + 1 ≤ i + 1; omega, by omega, jX (e.trans e5) hy⟩
      · rw [if_neg (fun z => c1 (show decide (qGq lo b < qLn hi (b + m.mo)) = true from decide_eq_true z)), skip] at hap
        exact ⟨_, rfl, _, _, _, _, _, ps, rfl, ⟨_, hyu, hisP⟩, hap, by omega, by omega, e⟩
  · rintro σ H' ⟨o1, o2, o3, o4, b, ps, rfl, tP, hap, hpl, b0, e⟩
    rw [hvl, List.drop_length, zo, List.append_nil] at hap
    rw [hap] at tP
    exact ⟨_, rfl, kk y H' e hy tP⟩
inductive Dk where
  | cut (t : Int)
  | hel (t : Int)
  | opn (t l : Int)
  | cls (t u : Int)
  | lft (t u : Int)
  | lin (t : Int) (m : Im)
  | lov (t : Int) (m : Im)
def Dk.wd : Dk → Str
  | .cut _ => "cut"
  | .hel _ => "heal"
  | .opn .. => "open"
  | .cls .. => "close"
  | .lft .. => "lift"
  | .lin .. => "lay_in"
  | .lov .. => "lay_over"
def Dk.t : Dk → Int
  | .cut t => t
  | .hel t => t
  | .opn t _ => t
  | .cls t _ => t
  | .lft t _ => t
  | .lin t _ => t
  | .lov t _ => t
def Dk.hi : Dk → Int
  | .cut t => t
  | .hel t => t
  | .opn t _ => t
  | .cls _ u => u
  | .lft _ u => u
  | .lin t _ => t
  | .lov t m => t + m.mo
def Dk.laid : Dk → List Im
  | .opn _ l => [.gap l]
  | .lft t u => [.gap (u - t)]
  | .lin _ m => [m]
  | .lov _ m => [m]
  | _ => []
def Dk.push : Dk → Bool
  | .opn .. => true
  | .cls .. => true
  | .lin .. => true
  | _ => false
def DAt (H : Hp) (dz : Addr) (n : Int) : Dk → Prop
  | .cut t => H dz = some (.tup [.str "cut", .int n, .int t])
  | .hel t => H dz = some (.tup [.str "heal", .int n, .int t])
  | .opn t l => H dz = some (.tup [.str "open", .int n, .int t, .int l])
  | .cls t u => H dz = some (.tup [.str "close", .int n, .int t, .int u])
  | .lft t u => H dz = some (.tup [.str "lift", .int n, .int t, .int u])
  | .lin t m => ∃ v, H dz = some (.tup [.str "lay_in", .int n, .int t, v]) ∧ IsI H m v
  | .lov t m => ∃ v, H dz = some (.tup [.str "lay_over", .int n, .int t, v]) ∧ IsI H m v
theorem DAt.same {H H' : Hp} {dz : Addr} {n : Int} {d : Dk} (e : Same H H') (h : DAt H dz n d) : DAt H' dz n d := by
  cases d with
  | lin t m => obtain ⟨v, h1, h2⟩ := h; exact ⟨v, e _ _ h1, h2.ts (qg e)⟩
  | lov t m => obtain ⟨v, h1, h2⟩ := h; exact ⟨v, e _ _ h1, h2.ts (qg e)⟩
  | _ => exact e _ _ h
theorem DAt.opn {H : Hp} {dz : Addr} {n : Int} {d : Dk} (h : DAt H dz n d) : ∃ xs, H dz = some (.tup xs) ∧ atI xs 0 = some (.str d.wd) ∧ atI xs 1 = some (.int n) ∧ atI xs 2 = some (.int d.t) := by
  cases d with
  | lin t m => obtain ⟨v, h1, _⟩ := h; exact ⟨_, h1, rfl, rfl, rfl⟩
  | lov t m => obtain ⟨v, h1, _⟩ := h; exact ⟨_, h1, rfl, rfl, rfl⟩
  | _ => exact ⟨_, h, rfl, rfl, rfl⟩
theorem zK {w : Str} {ws : List V} {b : Bool} (h : inV (.str w) ws = b) : V.bl (if false = true then !inV (.str w) ws else inV (.str w) ws) = V.bl b := by
  rw [if_neg (by decide), h]
theorem qFq {w : Str} {ws : List V} {b : Bool} (h : inV (.str w) ws = b) : V.bl (if true = true then !inV (.str w) ws else inV (.str w) ws) = V.bl (!b) := by
  rw [if_pos rfl, h]
def qBg : Sp := fun vs H Q _ => ∃ (dz : Addr) (n : Int) (d : Dk), vs = [.ref dz] ∧ DAt H dz n d ∧ ∀ (p : Addr) (H' : Hp), Same H H' → H' p = some (.tup [.int d.t, .int d.hi]) → Q (.ref p) H'
theorem kX (T : Tx K mg a) : FnOk P w K mg base CX0 2 a.a_stretch_of a.f_stretch_of ["deed"] qBg := by
  refine T.d_stretch_of.F.ok qA9 (fun vs H Q E h => ?_) (fun cdv A outer s H vs Q E hr h => ?_)
  · obtain ⟨dz, n, d, rfl, _⟩ := h
    rfl
  obtain ⟨dz, n, d, rfl, hD, kk⟩ := h
  refine ⟨_, (qF (qh (qL jy (qJ qI (pv 0) qB (fun _ _ => rfl)) (ql (qA qX (qA qX qE))) rfl) (qG (qP (ql (qA (qJ qI (pv 0) qB (fun _ _ => rfl)) (qA (qJ qI (pv 0) qB (fun _ _ => rfl)) qE))))) qS)
      (qF (qh (qL xj (qJ qI (pv 0) qB (fun _ _ => rfl)) qX (qU _)) (qG (qP (ql (qA (qJ qI (pv 0) qB (fun _ _ => rfl)) (qA (qO qp (qJ qI (pv 0) qB (fun _ _ => rfl)) (qN T.d_moments_of (jN T) hr rfl (qA (qJ qI (pv 0) qB (fun _ _ => rfl)) qE))) qE))))) qS)
      (qG (qP (ql (qA (qJ qI (pv 0) qB (fun _ _ => rfl)) (qA (qJ qI (pv 0) qB (fun _ _ => rfl)) qE))))))), ?_⟩
  try dsimp only [jo, qi]
  obtain ⟨xs, hd, a0, a1, a2⟩ := hD.opn
  have two : (2 : Nat) ≤ sizeLine := by decide
  refine (qZ rfl (SqT.of hd) a0 ⟨two, fun q hq => ?_⟩)
  have w1 := qH hq (.tup [.str "close", .str "lift"])
  have hd1 := w1 _ _ hd
  cases d with
  | cls t u =>
    refine ⟨q, _, rfl, .inr (SqT.of qD), rfl, rfl, true, (zK (w := "close") (by decide +kernel)), qr ?_⟩
    exact (qZ rfl (SqT.of (w1 _ _ hD)) qIe (qZ rfl (SqT.of (w1 _ _ hD)) qB9 ⟨two, fun p hp => kk p _ (w1.trans (qH hp _)) qD⟩))
  | lft t u =>
    refine ⟨q, _, rfl, .inr (SqT.of qD), rfl, rfl, true, (zK (w := "lift") (by decide +kernel)), qr ?_⟩
    exact (qZ rfl (SqT.of (w1 _ _ hD)) qIe (qZ rfl (SqT.of (w1 _ _ hD)) qB9 ⟨two, fun p hp => kk p _ (w1.trans (qH hp _)) qD⟩))
  | lov t m =>
    obtain ⟨v, hv, hI⟩ := hD
    refine ⟨q, _, rfl, .inr (SqT.of qD), rfl, rfl, false, (zK (w := "lay_over") (by decide +kernel)), qk ?_⟩
    refine (qZ rfl (SqT.of hd1) a0 ⟨rfl, _, rfl, qr ?_⟩)
    exact (qZ rfl (SqT.of hd1) a2 (qZ rfl (SqT.of hd1) a2 (qZ rfl (SqT.of (w1 _ _ hv)) qB9 ⟨v, m, rfl, hI.ts (qg w1), _, _, rfl, rfl, two, fun p hp => kk p _ (w1.trans (qH hp _)) qD⟩)))
  | cut t =>
    refine ⟨q, _, rfl, .inr (SqT.of qD), rfl, rfl, false, (zK (w := "cut") (by decide +kernel)), qk ?_⟩
    refine (qZ rfl (SqT.of hd1) a0 ⟨rfl, _, rfl, qk ?_⟩)
    exact (qZ rfl (SqT.of hd1) a2 (qZ rfl (SqT.of hd1) a2 ⟨two, fun p hp => kk p _ (w1.trans (qH hp _)) qD⟩))
  | hel t =>
    refine ⟨q, _, rfl, .inr (SqT.of qD), rfl, rfl, false, (zK (w := "heal") (by decide +kernel)), qk ?_⟩
    refine (qZ rfl (SqT.of hd1) a0 ⟨rfl, _, rfl, qk ?_⟩)
    exact (qZ rfl (SqT.of hd1) a2 (qZ rfl (SqT.of hd1) a2 ⟨two, fun p hp => kk p _ (w1.trans (qH hp _)) qD⟩))
  | opn t l =>
    refine ⟨q, _, rfl, .inr (SqT.of qD), rfl, rfl, false, (zK (w := "open") (by decide +kernel)), qk ?_⟩
    refine (qZ rfl (SqT.of hd1) a0 ⟨rfl, _, rfl, qk ?_⟩)
    exact (qZ rfl (SqT.of hd1) a2 (qZ rfl (SqT.of hd1) a2 ⟨two, fun p hp => kk p _ (w1.trans (qH hp _)) qD⟩))
  | lin t m =>
    refine ⟨q, _, rfl, .inr (SqT.of qD), rfl, rfl, false, (zK (w := "lay_in") (by decide +kernel)), qk ?_⟩
    refine (qZ rfl (SqT.of hd1) a0 ⟨rfl, _, rfl, qk ?_⟩)
    exact (qZ rfl (SqT.of hd1) a2 (qZ rfl (SqT.of hd1) a2 ⟨two, fun p hp => kk p _ (w1.trans (qH hp _)) qD⟩))
def qGj : Sp := fun vs H Q _ => ∃ (dz : Addr) (n : Int) (d : Dk), vs = [.ref dz] ∧ DAt H dz n d ∧ ∀ (y : Addr) (H' : Hp), Same H H' → H y = none → Tr H' y d.laid → Q (.ref y) H'
theorem qA3 (T : Tx K mg a) : FnOk P w K mg base CX0 1 a.a_laid_by a.f_laid_by ["deed"] qGj := by
  refine T.d_laid_by.F.ok qGl (fun vs H Q E h => ?_) (fun cdv A outer s H vs Q E hr h => ?_)
  · obtain ⟨dz, n, d, rfl, _⟩ := h
    rfl
  obtain ⟨dz, n, d, rfl, hD, kk⟩ := h
  refine ⟨_, (qF (qh (qL jy (qJ qI (pv 0) qB (fun _ _ => rfl)) (xS (v := .ref a.n_LAYS) rfl T.g_LAYS rfl) rfl) (qG (qP (jI (qA (qJ qI (pv 0) qB (fun _ _ => rfl)) qE)))) qS)
      (qF (qh (qL xj (qJ qI (pv 0) qB (fun _ _ => rfl)) qX (qU _)) (qG (qP (jI (qA (ql (qA qX (qA (qJ qI (pv 0) qB (fun _ _ => rfl)) qE))) qE)))) qS)
      (qF (qh (qL xj (qJ qI (pv 0) qB (fun _ _ => rfl)) qX (qU _)) (qG (qP (jI (qA (ql (qA qX (qA (qO jU (qJ qI (pv 0) qB (fun _ _ => rfl)) (qJ qI (pv 0) qB (fun _ _ => rfl))) qE))) qE)))) qS)
      (qG (qP (jI qE)))))), ?_⟩
  try dsimp only [jo, qi]
  obtain ⟨xs, hd, a0, a1, a2⟩ := hD.opn
  have one : (1 : Nat) ≤ sizeLine := by decide
  have two : (2 : Nat) ≤ sizeLine := by decide
  have zero : (0 : Nat) ≤ sizeLine := by decide
  refine (qZ rfl (SqT.of hd) a0 ⟨a.n_LAYS, _, rfl, .inr (T.sq_LAYS _), rfl, rfl, ?_⟩)
  cases d with
  | lin t m =>
    obtain ⟨v, hv, hI⟩ := hD
    refine ⟨true, (zK (w := "lay_in") (by decide +kernel)), qr (qZ rfl (SqT.of hv) qB9 ⟨one, fun p hp => ?_⟩)⟩
    exact kk p _ (qH hp _) hp ⟨_, qD, hI.ts (qg (qH hp _)), trivial⟩
  | lov t m =>
    obtain ⟨v, hv, hI⟩ := hD
    refine ⟨true, (zK (w := "lay_over") (by decide +kernel)), qr (qZ rfl (SqT.of hv) qB9 ⟨one, fun p hp => ?_⟩)⟩
    exact kk p _ (qH hp _) hp ⟨_, qD, hI.ts (qg (qH hp _)), trivial⟩
  | opn t l =>
    refine ⟨false, (zK (w := "open") (by decide +kernel)), qk ?_⟩
    refine (qZ rfl (SqT.of hd) a0 ⟨rfl, _, rfl, qr ?_⟩)
    refine (qZ rfl (SqT.of hD) qB9 ⟨two, fun g hg => ⟨one, fun p hp => ?_⟩⟩)
    exact kk p _ ((qH hg _).trans (qH hp _)) ((qH hg _).free hp) ⟨_, qD, isG ((qH hp _) _ _ qD), trivial⟩
  | lft t u =>
    refine ⟨false, (zK (w := "lift") (by decide +kernel)), qk ?_⟩
    refine (qZ rfl (SqT.of hd) a0 ⟨rfl, _, rfl, qk ?_⟩)
    refine (qZ rfl (SqT.of hd) a0 ⟨rfl, _, rfl, qr ?_⟩)
    refine (qZ rfl (SqT.of hD) qB9 (qZ rfl (SqT.of hD) qIe ⟨_, _, rfl, rfl, two, fun g hg => ⟨one, fun p hp => ?_⟩⟩))
    exact kk p _ ((qH hg _).trans (qH hp _)) ((qH hg _).free hp) ⟨_, qD, isG ((qH hp _) _ _ qD), trivial⟩
  | cut t =>
    refine ⟨false, (zK (w := "cut") (by decide +kernel)), qk ?_⟩
    refine (qZ rfl (SqT.of hd) a0 ⟨rfl, _, rfl, qk ?_⟩)
    refine (qZ rfl (SqT.of hd) a0 ⟨rfl, _, rfl, qk ?_⟩)
    exact ⟨zero, fun p hp => kk p _ (qH hp _) hp ⟨[], qD, trivial⟩⟩
  | hel t =>
    refine ⟨false, (zK (w := "heal") (by decide +kernel)), qk ?_⟩
    refine (qZ rfl (SqT.of hd) a0 ⟨rfl, _, rfl, qk ?_⟩)
    refine (qZ rfl (SqT.of hd) a0 ⟨rfl, _, rfl, qk ?_⟩)
    exact ⟨zero, fun p hp => kk p _ (qH hp _) hp ⟨[], qD, trivial⟩⟩
  | cls t u =>
    refine ⟨false, (zK (w := "close") (by decide +kernel)), qk ?_⟩
    refine (qZ rfl (SqT.of hd) a0 ⟨rfl, _, rfl, qk ?_⟩)
    refine (qZ rfl (SqT.of hd) a0 ⟨rfl, _, rfl, qk ?_⟩)
    exact ⟨zero, fun p hp => kk p _ (qH hp _) hp ⟨[], qD, trivial⟩⟩
def chF (tie : List Int) (n : Int) (push : Bool) : List Int := if push = true ∧ n ∈ tie then n :: tie.filter (fun x => decide (x ≠ n)) else [n]
theorem qBf {i : Int} {ps : List Int} : inV (.int i) (ps.map V.int) = decide (i ∈ ps) := by
  unfold inV
  rw [Bool.eq_iff_iff]
  simp [eqV]
theorem vN (ps : List Int) : (ps.map V.int).all xc = true := by
  rw [List.all_map, List.all_eq_true]
  intro _ _
  rfl
theorem Dk.push_in (d : Dk) : inV (.str d.wd) [.str "lay_in", .str "open", .str "close"] = d.push := by
  cases d with
  | cut t => show inV (.str "cut") _ = false; decide +kernel
  | hel t => show inV (.str "heal") _ = false; decide +kernel
  | opn t l => show inV (.str "open") _ = true; decide +kernel
  | cls t u => show inV (.str "close") _ = true; decide +kernel
  | lft t u => show inV (.str "lift") _ = false; decide +kernel
  | lin t m => show inV (.str "lay_in") _ = true; decide +kernel
  | lov t m => show inV (.str "lay_over") _ = false; decide +kernel
def wN : Sp := fun vs H Q _ => ∃ (dz : Addr) (n : Int) (d : Dk), vs = [.ref dz] ∧ DAt H dz n d ∧ ∀ (y : Addr) (H' : Hp), Same H H' → H y = none → Tr H' y (d.laid.map fun m => .gap m.mo) → Q (.ref y) H'
theorem Dk.laid_len (d : Dk) : d.laid.length ≤ 1 := by cases d <;> simp [Dk.laid]
theorem wW (T : Tx K mg a) : FnOk P w K mg base CX0 2 a.a_laid_on_tied a.f_laid_on_tied ["deed"] wN := by
  refine T.d_laid_on_tied.F.ok wV (fun vs H Q E h => ?_) (fun cdv A outer s H vs Q E hr h => ?_)
  · obtain ⟨dz, n, d, rfl, _⟩ := h
    rfl
  obtain ⟨dz, n, d, rfl, hD, kk⟩ := h
  refine ⟨_, (qG (qP (wk [] [] rfl (jZ (qN T.d_laid_by (qA3 T) hr rfl (qA (pv 0) qE))) (fun _ _ _ _ => (ql (qA qX (qA (qN T.d_moments_of (jN T) hr rfl (qA (pv 0) qE)) qE))))))), ?_⟩
  try dsimp only [jo, qi]
  refine ⟨_, rfl, dz, n, d, rfl, hD, fun l H1 e1 hl ⟨us, hlu, his⟩ => ?_⟩
  have hll := d.laid_len
  have hul := his.len
  refine ⟨l, rfl, ⟨_, SqL.of hlu⟩, ku (K := K) (a := l) (xs := us) (fun j acc H2 => IsIs H2 ((d.laid.take j).map fun m => .gap m.mo) acc ∧ Same H1 H2) ⟨trivial, Same.refl _⟩ ?_ ?_ ?_⟩
  · rintro j acc H2 hj ⟨ht, e2⟩
    exact ⟨SqL.of (e2 _ _ hlu), qc (by rw [ht.len, List.length_map, List.length_take]; omega)⟩
  · rintro j x acc H2 hj hx ⟨ht, e2⟩
    obtain ⟨m, hm, hI⟩ := his.get hx
    refine ⟨_, rfl, x, m, rfl, hI.ts (qg e2), sL2, fun g hg => Nxt.mk hj ⟨?_, e2.trans (qH hg _)⟩⟩
    rw [List.take_add_one, hm, List.map_append]
    exact (ht.ts (qg (qH hg _))).app (.one (isG qD))
  rintro acc H2 ⟨ht, e2⟩ y hy
  rw [hul, List.take_length] at ht
  exact kk y _ ((e1.trans e2).trans (qH hy _)) ((e1.trans e2).free hy) ⟨_, qD, ht.ts (qg (qH hy _))⟩
def vO : Sp := fun vs H Q _ => ∃ (tz tl ti dz : Addr) (tie : List Int) (n : Int) (d : Dk), vs = [.ref tz, .ref dz] ∧ H tz = some (.tup [.ref tl, .ref ti]) ∧ H ti = some (.lst (tie.map V.int)) ∧ tie.length ≤ 300 ∧ DAt H dz n d ∧
  ∀ (y : Addr) (H' : Hp), Same H H' → H y = none → H' y = some (.lst ((chF tie n d.push).map V.int)) → Q (.ref y) H'
theorem zQ (T : Tx K mg a) : FnOk P w K mg base CX0 1 a.a_tracks_changed a.f_tracks_changed ["table", "deed"] vO := by
  refine T.d_tracks_changed.F.ok vT (fun vs H Q E h => ?_) (fun cdv A outer s H vs Q E hr h => ?_)
  · obtain ⟨tz, tl, ti, dz, tie, n, d, rfl, _⟩ := h
    rfl
  obtain ⟨tz, tl, ti, dz, tie, n, d, rfl, htz, hti, htl, hD, kk⟩ := h
  refine ⟨_, (qF (qh (PW.pt (xh (qL zr (qJ qI (pv 1) qB (fun _ _ => rfl)) (xS (v := .ref a.n_PUSHES) rfl T.g_PUSHES rfl) rfl) (jc (qL zr (qJ qI (pv 1) qB (fun _ _ => rfl)) (qJ qI (pv 0) qB (fun _ _ => rfl)) rfl)))) (qG (qP (jI (qA (qJ qI (pv 1) qB (fun _ _ => rfl)) qE)))) qS)
      (qG (qP (qO qAx (jI (qA (qJ qI (pv 1) qB (fun _ _ => rfl)) qE)) (qBj ["deed"] [1] rfl (jZ (qJ qI (pv 0) qB (fun _ _ => rfl))) (fun _ _ _ _ => (qL z8 (pv 0) (qJ (qA8 (K := K) rfl) (pv 1) qB (fun _ _ => rfl)) (qU _))) (fun _ _ _ _ => (pv 0))))))), ?_⟩
  try dsimp only [jo, qi]
  obtain ⟨xs, hd, a0, a1, a2⟩ := hD.opn
  have one : (1 : Nat) ≤ sizeLine := by decide
  have fin1 : ¬ (d.push = true ∧ n ∈ tie) → ∀ p, H p = none → Q (.ref p) (upd H p (.lst [.int n])) := fun hc p hp => by
    refine kk p _ (qH hp _) hp ?_
    unfold chF
    rw [if_neg hc, qD]
    rfl
  refine (qZ rfl (SqT.of hd) a0 ⟨a.n_PUSHES, _, rfl, .inr (T.sq_PUSHES _), rfl, rfl, !d.push, qFq d.push_in, ?_⟩)
  cases hp : d.push with
  | false =>
    refine qr (qr (qZ rfl (SqT.of hd) a1 ⟨one, fun p hp' => fin1 (fun z => ?_) p hp'⟩))
    rw [hp] at z
    exact absurd z.1 (by simp)
  | true =>
    refine qk (qZ rfl (SqT.of hd) a1 (qZ rfl (SqT.of htz) at1 ⟨ti, _, rfl, .inl (SqL.of hti), rfl, vN tie, !decide (n ∈ tie), ?_, ?_⟩))
    · show V.bl (!inV (.int n) (tie.map V.int)) = _
      rw [qBf]
    by_cases hm : n ∈ tie
    · rw [decide_eq_true hm]
      refine qk (qZ rfl (SqT.of hd) a1 ⟨one, fun l1 hl1 => ?_⟩)
      have w1 := qH hl1 (.lst [.int n])
      have k1 : upd H l1 (.lst [.int n]) l1 = some (.lst [.int n]) := qD
      have hl10 := hl1
      change _
      generalize upd H l1 (.lst [.int n]) = H1 at w1 k1
      refine (qZ rfl (SqT.of (w1 _ _ htz)) at1 ⟨ti, rfl, ⟨_, SqL.of (w1 _ _ hti)⟩, vM (K := K) (a := ti) (xs := tie.map V.int) (fun j acc H2 => acc = ((tie.take j).filter (fun x => decide (x ≠ n))).map V.int ∧ H2 = H1) ⟨rfl, rfl⟩ ?_ ?_ ?_⟩)
      · rintro j acc H2 hj ⟨rfl, rfl⟩
        refine ⟨SqL.of (w1 _ _ hti), qc ?_⟩
        rw [List.length_map]
        have := List.length_filter_le (fun x => decide (x ≠ n)) (tie.take j)
        have := List.length_take_le j tie
        rw [List.length_take] at *
        omega
      · rintro j x acc H2 hj hx ⟨rfl, rfl⟩
        obtain ⟨xi, hxi, rfl⟩ : ∃ xi : Int, tie[j]? = some xi ∧ x = .int xi := by
          rw [List.getElem?_map] at hx
          cases hq : tie[j]? with
          | none => rw [hq] at hx; cases hx
          | some k => rw [hq] at hx; cases hx; exact ⟨k, rfl, rfl⟩
        have etk : tie.take (j + 1) = tie.take j ++ [xi] := by rw [List.take_add_one, hxi]; rfl
        refine ⟨_, rfl, qZ rfl (SqT.of (w1 _ _ hd)) a1 ⟨rfl, _, rfl, xo (fun c => ?_) (fun c => ?_)⟩⟩
        · have hne : xi ≠ n := by simpa using c
          refine ⟨_, rfl, Nxt.mk hj ⟨?_, rfl⟩⟩
          rw [etk, List.filter_append, List.map_append]
          simp [hne]
        · have hne : xi = n := by simpa using c
          refine Nxt.mk hj ⟨?_, rfl⟩
          rw [etk, List.filter_append, List.map_append]
          simp [hne]
      rintro acc H2 ⟨rfl, rfl⟩ l2 hl2
      rw [List.length_map, List.take_length]
      have w2 := qH hl2 (.lst ((tie.filter (fun x => decide (x ≠ n))).map V.int))
      refine ⟨l1, l2, _, _, rfl, rfl, w2 _ _ k1, qD, ?_, fun y hy => ?_⟩
      · have := qc (n := 1 + ((tie.filter (fun x => decide (x ≠ n))).map V.int).length) (by
          rw [List.length_map]
          have := List.length_filter_le (fun x => decide (x ≠ n)) tie
          omega)
        show 1 + ((tie.filter (fun x => decide (x ≠ n))).map V.int).length ≤ sizeLine
        omega
      refine kk y _ ((w1.trans w2).trans (qH hy _)) ((w1.trans w2).free hy) ?_
      unfold chF
      rw [if_pos ⟨hp, hm⟩, qD]
      rfl
    · rw [decide_eq_false hm]
      exact qr (qZ rfl (SqT.of hd) a1 ⟨one, fun p hp' => fin1 (fun z => hm z.2) p hp'⟩)
def qBq : Sp := fun vs H Q _ => ∃ l : Int, vs = [.int l] ∧ Q (.int (l.fdiv 2)) H
theorem vF (T : Tx K mg a) : FnOk P w K mg base CX0 1 a.a_part_ahead a.f_part_ahead ["length"] qBq := by
  refine T.d_part_ahead.F.ok qBc (fun vs H Q E h => ?_) (fun cdv A outer s H vs Q E hr h => ?_)
  · obtain ⟨l, rfl, _⟩ := h
    rfl
  obtain ⟨l, rfl, kk⟩ := h
  refine ⟨_, (qG (qP (qO qf (pv 0) qB))), ?_⟩
  try dsimp only [jo, qi]
  exact ⟨_, rfl, _, _, rfl, rfl, cdB (by decide) (by decide), kk⟩
def qAl : Sp := fun vs H Q _ => ∃ l : Int, vs = [.int l] ∧ Q (.int (l - l.fdiv 2)) H
theorem kK (T : Tx K mg a) : FnOk P w K mg base CX0 1 a.a_part_behind a.f_part_behind ["length"] qAl := by
  refine T.d_part_behind.F.ok qAn (fun vs H Q E h => ?_) (fun cdv A outer s H vs Q E hr h => ?_)
  · obtain ⟨l, rfl, _⟩ := h
    rfl
  obtain ⟨l, rfl, kk⟩ := h
  refine ⟨_, (qG (qP (qO jU (pv 0) (qO qf (pv 0) qB)))), ?_⟩
  try dsimp only [jo, qi]
  exact ⟨_, rfl, _, rfl, _, _, rfl, rfl, cdB (by decide) (by decide), _, _, rfl, rfl, kk⟩
def vU : Int → List Im → List (Int × Int × Int)
  | _, [] => []
  | b, .mix l :: ms => (b - l.fdiv 2, b, b + (l - l.fdiv 2)) :: vU b ms
  | b, .clip _ _ _ _ _ l :: ms => vU (b + l) ms
  | b, .nest _ _ l :: ms => vU (b + l) ms
  | b, .gap l :: ms => vU (b + l) ms
theorem qEu {m : Im} (h : m.wd ≠ "mix") (b : Int) (ms : List Im) : vU b (m :: ms) = vU (b + m.mo) ms := by
  cases m with
  | mix l => exact absurd rfl h
  | _ => rfl
def SpAt (H : Hp) : List (Int × Int × Int) → List V → Prop
  | [], [] => True
  | (x, y, z) :: ss, v :: vs => (∃ p : Addr, v = .ref p ∧ H p = some (.tup [.int x, .int y, .int z])) ∧ SpAt H ss vs
  | _, _ => False
theorem SpAt.len {H : Hp} : ∀ {ss : List (Int × Int × Int)} {vs : List V}, SpAt H ss vs → vs.length = ss.length
  | [], [], _ => rfl
  | (_, _, _) :: _, _ :: _, h => by rw [List.length_cons, List.length_cons, SpAt.len h.2]
  | [], _ :: _, h => h.elim
  | (_, _, _) :: _, [], h => h.elim
theorem SpAt.ts {H H' : Hp} (e : TS H H') : ∀ {ss : List (Int × Int × Int)} {vs : List V}, SpAt H ss vs → SpAt H' ss vs
  | [], [], _ => trivial
  | (_, _, _) :: _, _ :: _, ⟨⟨p, h1, h2⟩, h⟩ => ⟨⟨p, h1, e _ _ h2⟩, SpAt.ts e h⟩
  | [], _ :: _, h => h.elim
  | (_, _, _) :: _, [], h => h.elim
theorem SpAt.app {H : Hp} : ∀ {ss : List (Int × Int × Int)} {vs : List V} {ss' : List (Int × Int × Int)} {vs' : List V}, SpAt H ss vs → SpAt H ss' vs' → SpAt H (ss ++ ss') (vs ++ vs')
  | [], [], _, _, _, h' => h'
  | (_, _, _) :: _, _ :: _, _, _, h, h' => ⟨h.1, h.2.app h'⟩
  | [], _ :: _, _, _, h, _ => h.elim
  | (_, _, _) :: _, [], _, _, h, _ => h.elim
theorem SpAt.one {H : Hp} {x y z : Int} {p : Addr} (h : H p = some (.tup [.int x, .int y, .int z])) : SpAt H [(x, y, z)] [.ref p] := ⟨⟨p, rfl, h⟩, trivial⟩
theorem SpAt.get {H : Hp} : ∀ {ss : List (Int × Int × Int)} {vs : List V} {i : Nat} {v : V}, SpAt H ss vs → vs[i]? = some v → ∃ (x y z : Int) (p : Addr), ss[i]? = some (x, y, z) ∧ v = .ref p ∧ H p = some (.tup [.int x, .int y, .int z])
  | [], [], _, _, _, h => by simp at h
  | (x, y, z) :: _, u :: _, 0, v, h, e => by
    have e' : u = v := by simpa using e
    subst e'
    obtain ⟨⟨p, h1, h2⟩, _⟩ := h
    exact ⟨x, y, z, p, rfl, h1, h2⟩
  | (_, _, _) :: ss, _ :: vs, i + 1, v, h, e => by
    obtain ⟨x, y, z, p, h1, h2⟩ := SpAt.get (i := i) h.2 (by simpa using e)
    exact ⟨x, y, z, p, by simpa using h1, h2⟩
  | [], _ :: _, _, _, h, _ => h.elim
  | (_, _, _) :: _, [], _, _, h, _ => h.elim
def qDi : Sp := fun vs H Q _ => ∃ (z : Addr) (ms : List Im), vs = [.ref z] ∧ Tr H z ms ∧ ms.length ≤ 300 ∧ ∀ (y : Addr) (us : List V) (H' : Hp), Same H H' → H y = none → H' y = some (.lst us) → SpAt H' (vU 0 ms) us → Q (.ref y) H'
theorem qC2 (T : Tx K mg a) : FnOk P w K mg base CX0 2 a.a_mix_spans a.f_mix_spans ["track"] qDi := by
  refine T.d_mix_spans.F.ok sc_mix_spans (fun vs H Q E h => ?_) (fun cdv A outer s H vs Q E hr h => ?_)
  · obtain ⟨z, ms, rfl, _⟩ := h
    rfl
  obtain ⟨z, ms, rfl, ⟨xs, hz, his⟩, hl, kk⟩ := h
  refine ⟨_, (qF (qV (i := 1) sc_mix_spans.nd rfl (Or.inl rfl) (jI qE))
      (qF (qV (i := 2) sc_mix_spans.nd rfl (Or.inl rfl) qB)
      (qF (xn PassesOwn.never rfl (jZ (pv 0)) (ja (i := 3) sc_mix_spans.nd rfl (Or.inl rfl)) (qF (qh (qL xj (qJ qI (pv 3) qB (fun _ _ => rfl)) qX (qU _)) (qG (jD (kj F.plainAttrs_list F.slot_list_append F.type_list_append q9 (pv 1) (qA (ql (qA (qO jU (pv 2) (qN T.d_part_ahead (vF T) hr rfl (qA (qJ qI (pv 3) qB (fun _ _ => rfl)) qE))) (qA (pv 2) (qA (qO qp (pv 2) (qN T.d_part_behind (kK T) hr rfl (qA (qJ qI (pv 3) qB (fun _ _ => rfl)) qE))) qE)))) qE)))) qS)
      (qG (qV (i := 2) sc_mix_spans.nd rfl (Or.inl rfl) (qO qp (pv 2) (qN T.d_moments_of (jN T) hr rfl (qA (pv 3) qE)))))))
      (qG (qP (pv 1)))))), ?_⟩
  try dsimp only [jo, qi]
  refine ⟨sL0, fun y hy => ?_⟩
  refine ⟨_, rfl, z, rfl, ⟨_, SqL.of ((qH hy _) _ _ hz)⟩, xZ (K := K) (a := z) (xs := xs) (fun i σ H' => ∃ (b : Int) (as : List (Int × Int × Int)) (o : Option V) (us : List V), σ = [some (.ref z), some (.ref y), some (.int b), o] ∧ H' y = some (.lst us) ∧ SpAt H' as us ∧ as.length ≤ i ∧ as ++ vU b (ms.drop i) = vU 0 ms ∧ Same H H')
    ⟨0, [], none, [], rfl, qD, trivial, by simp, rfl, qH hy _⟩ ?_ ?_ ?_⟩
  · rintro i σ H' hi ⟨b, as, o, us, rfl, _, _, _, _, e⟩
    exact SqL.of (e _ _ hz)
  · rintro i x σ H' hx ⟨b, as, o, us, rfl, hv, hsp, hal, hap, e⟩
    obtain ⟨m, hm, hIx⟩ := his.get hx
    have hI := hIx.ts (qg e)
    have hi : i < ms.length := (glt hm)
    rw [zp hm] at hap
    obtain ⟨zi, xi, rfl, hzi, h0, h1⟩ := hI.opn
    refine ⟨_, rfl, zi, xi, _, _, rfl, rfl, SqT.of hzi, h0, rfl, _, rfl, xo (fun c => ?_) (fun c => ?_)⟩
    · obtain ⟨l, rfl⟩ := qGp (by simpa using c)
      obtain ⟨z2, e2, hz2⟩ := id hI
      cases e2
      rw [vU] at hap
      refine ⟨_, rfl, .inl ⟨rfl, _, SqL.of hv⟩, _, rfl, qZ rfl (SqT.of hz2) at1 ⟨_, rfl, _, _, rfl, rfl, _, rfl, _, rfl, qZ rfl (SqT.of hz2) at1 ⟨_, rfl, _, _, rfl, rfl, sL3, fun g hg => ?_⟩⟩⟩
      have w1 := qH hg (.tup [.int (b - l.fdiv 2), .int b, .int (b + (l - l.fdiv 2))])
      refine ⟨y, _, _, rfl, rfl, w1 _ _ hv, qc (by rw [hsp.len]; omega), ?_⟩
      have t2 : TS (upd H' g (.tup [.int (b - l.fdiv 2), .int b, .int (b + (l - l.fdiv 2))])) (upd (upd H' g (.tup [.int (b - l.fdiv 2), .int b, .int (b + (l - l.fdiv 2))])) y (.lst (us ++ [.ref g]))) := zG (w1 _ _ hv)
      refine ⟨_, rfl, _, rfl, _, .mix l, rfl, (hI.ts (qg w1)).ts t2, _, _, rfl, rfl, b, as ++ [(b - l.fdiv 2, b, b + (l - l.fdiv 2))], some (.ref zi), us ++ [.ref g], ?_, qD, ((hsp.ts (qg w1)).app (.one qD)).ts t2, by simp; omega, ?_, jX (e.trans w1) hy⟩
      · show [some (V.ref z), some (V.ref y), some (V.int (b + 0)), some (V.ref zi)] = _
        rw [Int.add_zero]
      · rw [← hap]; simp
    · have hne : m.wd ≠ "mix" := by simpa using c
      rw [qEu hne] at hap
      exact ⟨_, rfl, _, rfl, _, m, rfl, hI, _, _, rfl, rfl, _, as, _, us, rfl, hv, hsp, by omega, hap, e⟩
  · rintro σ H' ⟨b, as, o, us, rfl, hv, hsp, hal, hap, e⟩
    rw [his.len, List.drop_length, vU, List.append_nil] at hap
    rw [hap] at hsp
    exact ⟨_, rfl, kk y us H' e hy hv hsp⟩
def lnO (o : Option Int) : Bool := match o with
  | some i => decide (1 ≤ i)
  | none => false
def qEa : Sp := fun vs H Q _ => ∃ (v : V) (o : Option Int), vs = [v] ∧ Nu H v o ∧ Q (.bl (lnO o)) H
theorem vp (T : Tx K mg a) : FnOk P w K mg base CX0 2 a.a_is_length a.f_is_length ["thing"] qEa := by
  refine T.d_is_length.F.ok qD2 (fun vs H Q E h => ?_) (fun cdv A outer s H vs Q E hr h => ?_)
  · obtain ⟨v, o, rfl, _⟩ := h
    rfl
  obtain ⟨v, o, rfl, hv, q⟩ := h
  refine ⟨_, (qG (qP (kM (qN T.d_is_whole (qm T) hr rfl (qA (pv 0) qE)) (vi (xm qBw (pv 0) qB (qU _)))))), ?_⟩
  try dsimp only [jo, qi]
  cases hv with
  | no h => exact ⟨_, rfl, v, false, rfl, .no h, false, rfl, qk q⟩
  | int i => exact ⟨_, rfl, _, true, rfl, .int i, true, rfl, qr ⟨_, rfl, _, _, rfl, rfl, q⟩⟩
inductive NsB (K : W.Frag) (H : Hp) : V → Bool → Prop where
  | no {x : V} {t : Value} (ty : qA4 K H x t) (e : W.kitOne K t (.type "tuple") = some false) : NsB K H x false
  | len {z : Addr} {xs : List V} (e : H z = some (.tup xs)) (h : xs.length ≠ 4) : NsB K H (.ref z) false
  | word {z : Addr} {w : Str} {x1 x2 x3 : V} (e : H z = some (.tup [.str w, x1, x2, x3])) (hn : w ≠ "nest") : NsB K H (.ref z) false
  | nums {z : Addr} {n : Str} {b l : Int} {c : Bool} (e : H z = some (.tup [.str "nest", .str n, .int b, .int l])) (hn : wp n = true) (hl : n.length ≤ 1000) (hc : c = (decide (0 ≤ b) && decide (1 ≤ l))) : NsB K H (.ref z) c
theorem NsB.same {H H' : Hp} (s : Same H H') {x : V} {b : Bool} (h : NsB K H x b) : NsB K H' x b := by
  cases h with
  | no ty e => exact .no (qB3 s ty) e
  | len e h => exact .len (s _ _ e) h
  | word e h => exact .word (s _ _ e) h
  | nums e h1 h2 h3 => exact .nums (s _ _ e) h1 h2 h3
def vv (K : W.Frag) : Sp := fun vs H Q _ => ∃ (v : V) (b : Bool), vs = [v] ∧ NsB K H v b ∧ ∀ H', Same H H' → Q (.bl b) H'
theorem vx (T : Tx K mg a) : FnOk P w K mg base CX0 3 a.a_has_nest_form a.f_has_nest_form ["item"] (vv K) := by
  refine T.d_has_nest_form.F.ok v0 (fun vs H Q E h => ?_) (fun cdv A outer s H vs Q E hr h => ?_)
  · obtain ⟨v, b, rfl, _⟩ := h
    rfl
  obtain ⟨v, b, rfl, hv, kk⟩ := h
  refine ⟨_, (qF (qh (PW.pt (xh (jr (jP (qd jd rfl T.b_isinstance rfl (qA (pv 0) (qA (qDv rfl T.b_tuple rfl) qE))))) (jc (qL z8 (qd jY rfl T.b_len rfl (qA (pv 0) qE)) qB (qU _))))) (qG (qP vc)) qS)
      (qF (qh (PW.pt (xh (qL z8 (qJ qI (pv 0) qB (fun _ _ => rfl)) qX (qU _)) (jc (jr (jP (qN T.d_is_name (vo T) hr rfl (qA (qJ qI (pv 0) qB (fun _ _ => rfl)) qE))))))) (qG (qP vc)) qS)
      (qG (qP (kM (qN T.d_is_whole (qm T) hr rfl (qA (qJ qI (pv 0) qB (fun _ _ => rfl)) qE)) (kM (xm qBw (qJ qI (pv 0) qB (fun _ _ => rfl)) qB (qU _)) (vi (qN T.d_is_length (vp T) hr rfl (qA (qJ qI (pv 0) qB (fun _ _ => rfl)) qE))))))))), ?_⟩
  try dsimp only [jo, qi]
  cases hv with
  | no ty e => exact ⟨_, rfl, _, _, _, false, rfl, ty, ⟨_, .inl ⟨rfl, e⟩⟩, false, rfl, qr (qr (kk H (Same.refl _)))⟩
  | @len z xs e h =>
    refine ⟨_, rfl, _, _, _, true, rfl, .tup e, ⟨_, .inl ⟨rfl, by kernel_rfl⟩⟩, true, rfl, qk ?_⟩
    refine ⟨_, rfl, _, _, rfl, .inr (SqT.of e), rfl, _, rfl, ?_⟩
    have d : (!decide (V.int (xs.length : Int) = V.int 4)) = true := by
      have : ¬ (V.int (xs.length : Int) = V.int 4) := fun z => h (by injection z with z; omega)
      simp [this]
    rw [d]
    exact qr (kk H (Same.refl _))
  | @word z w x1 x2 x3 e hn =>
    refine ⟨_, rfl, _, _, _, true, rfl, .tup e, ⟨_, .inl ⟨rfl, by kernel_rfl⟩⟩, true, rfl, qk ?_⟩
    refine ⟨_, rfl, _, _, rfl, .inr (SqT.of e), rfl, _, rfl, qk ?_⟩
    have a0 : atI [V.str w, x1, x2, x3] 0 = some (.str w) := rfl
    refine (qZ rfl (SqT.of e) a0 ⟨rfl, _, rfl, ?_⟩)
    have d : (!decide (V.str w = V.str "nest")) = true := by
      rw [qOx, decide_eq_false hn]; rfl
    rw [d]
    exact qr (qr (kk H (Same.refl _)))
  | @nums z n b l c e h1 h2 hc =>
    subst hc
    have a0 : atI [V.str "nest", .str n, .int b, .int l] 0 = some (.str "nest") := rfl
    have a1 : atI [V.str "nest", .str n, .int b, .int l] 1 = some (.str n) := rfl
    have a2 : atI [V.str "nest", .str n, .int b, .int l] 2 = some (.int b) := rfl
    have a3 : atI [V.str "nest", .str n, .int b, .int l] 3 = some (.int l) := rfl
    have fn := NmB.str (K := K) (H := H) n h2
    rw [h1] at fn
    refine ⟨_, rfl, _, _, _, true, rfl, .tup e, ⟨_, .inl ⟨rfl, by kernel_rfl⟩⟩, true, rfl, qk ?_⟩
    refine ⟨_, rfl, _, _, rfl, .inr (SqT.of e), rfl, _, rfl, qk ?_⟩
    refine (qZ rfl (SqT.of e) a0 ⟨rfl, _, rfl, qHe rfl ?_⟩)
    refine (qZ rfl (SqT.of e) a1 ⟨_, true, rfl, fn, fun H1 s1 => ⟨true, rfl, qk ?_⟩⟩)
    have e1 := SqT.of (K := K) (s1 _ _ e)
    refine ⟨_, rfl, _, _, _, _, rfl, rfl, e1, a2, _, true, rfl, .int b, true, rfl, qr ?_⟩
    have k1 := kk H1 s1
    refine ⟨_, rfl, _, _, _, _, rfl, rfl, e1, a2, _, _, rfl, rfl, _, rfl, ?_⟩
    by_cases hb : 0 ≤ b
    · rw [decide_eq_true hb, Bool.true_and] at k1
      rw [decide_eq_true hb]
      exact qr ⟨_, rfl, _, _, _, _, rfl, rfl, e1, a3, _, some l, rfl, .int l, k1⟩
    · rw [decide_eq_false hb, Bool.false_and] at k1
      rw [decide_eq_false hb]
      exact qk k1
def qAp (w : Str) (t : Int) (o : Option Int) : Bool := if w = "open" ∨ w = "mix" then lnO o else if w = "close" ∨ w = "lift" then (match o with | some u => decide (t < u) | none => false) else true
def qMy (H : Hp) (xs : List V) (w : Str) (t : Int) (o : Option Int) : Prop := atI xs 0 = some (.str w) ∧ atI xs 2 = some (.int t) ∧ ((w = "open" ∨ w = "mix" ∨ w = "close" ∨ w = "lift") → ∃ v, atI xs 3 = some v ∧ Nu H v o)
theorem qM7 {w : Str} : inV (.str w) [.str "open", .str "mix"] = decide (w = "open" ∨ w = "mix") := by
  unfold inV
  rw [Bool.eq_iff_iff]
  simp [eqV]
  constructor
  · rintro (h | h)
    · exact .inl h.symm
    · exact .inr h.symm
  · rintro (h | h)
    · exact .inl h.symm
    · exact .inr h.symm
theorem qLq {w : Str} : inV (.str w) [.str "close", .str "lift"] = decide (w = "close" ∨ w = "lift") := by
  unfold inV
  rw [Bool.eq_iff_iff]
  simp [eqV]
  constructor
  · rintro (h | h)
    · exact .inl h.symm
    · exact .inr h.symm
  · rintro (h | h)
    · exact .inl h.symm
    · exact .inr h.symm
def vV (N : Addr) : Sp := fun vs H Q E => ∃ (dz : Addr) (xs : List V) (w : Str) (t : Int) (o : Option Int), vs = [.ref dz] ∧ H dz = some (.tup xs) ∧ qMy H xs w t o ∧ (qAp w t o = false → ∀ H', Same H H' → E (.ref N) none H') ∧ (qAp w t o = true → ∀ H', Same H H' → Q .non H')
theorem vZ (T : Tx K mg a) : FnOk P w K mg base (CXR P w) 3 a.a_check_numbers a.f_check_numbers ["deed"] (vV a.k_NoPlace) := by
  refine okX T.d_check_numbers.F wE (fun vs H Q E h => ?_) (fun cdv A outer s H vs Q E hr h => ?_)
  · obtain ⟨dz, xs, w, t, o, rfl, _⟩ := h
    rfl
  obtain ⟨dz, xs, w, t, o, rfl, hd, ⟨a0, a2, a3⟩, kb, kg⟩ := h
  refine ⟨_, (qF (qh (PW.pt (zH (qL jy (qJ qI (pv 0) qB (fun _ _ => rfl)) (ql (qA qX (qA qX qE))) rfl) (xl (jr (jP (qN T.d_is_length (vp T) hr rfl (qA (qJ qI (pv 0) qB (fun _ _ => rfl)) qE))))))) (qG (jz rfl rfl T.c_NoPlace T.x_NoPlace (qA qX qE))) qS)
      (qG (qh (PW.pt (zH (qL jy (qJ qI (pv 0) qB (fun _ _ => rfl)) (ql (qA qX (qA qX qE))) rfl) (xl (PW.pt (xh (jr (jP (qN T.d_is_whole (qm T) hr rfl (qA (qJ qI (pv 0) qB (fun _ _ => rfl)) qE)))) (jc (qL qBw (qJ qI (pv 0) qB (fun _ _ => rfl)) (qJ qI (pv 0) qB (fun _ _ => rfl)) (qU _)))))))) (qG (jz rfl rfl T.c_NoPlace T.x_NoPlace (qA qX qE))) qS))), ?_⟩
  try dsimp only [jo, qi]
  have one : (1 : Nat) ≤ sizeLine := by decide
  have two : (2 : Nat) ≤ sizeLine := by decide
  refine (qZ rfl (SqT.of hd) a0 ⟨two, fun q hq => ⟨q, _, rfl, .inr (SqT.of qD), rfl, rfl, _, rfl, ?_⟩⟩)
  rw [qM7]
  have w1 := qH hq (.tup [.str "open", .str "mix"])
  have hd1 := w1 _ _ hd
  generalize upd H q (.tup [.str "open", .str "mix"]) = H1 at w1 hd1 ⊢
  by_cases h1 : w = "open" ∨ w = "mix"
  · have eb : qAp w t o = lnO o := by unfold qAp; rw [if_pos h1]
    rw [eb] at kb kg
    refine qDr (decide_eq_true h1) ?_
    obtain ⟨v, a3, hv⟩ := a3 (by rcases h1 with h | h; exact .inl h; exact .inr (.inl h))
    refine (qZ rfl (SqT.of hd1) a3 ⟨v, o, rfl, hv.same w1, _, rfl, ?_⟩)
    cases hb : lnO o with
    | false => exact qr ⟨one, kb hb _ w1⟩
    | true =>
      refine qk ?_
      refine (qZ rfl (SqT.of hd1) a0 ⟨two, fun q2 hq2 => ⟨q2, _, rfl, .inr (SqT.of qD), rfl, rfl, _, rfl, ?_⟩⟩)
      rw [qLq]
      have h2 : ¬ (w = "close" ∨ w = "lift") := by
        rcases h1 with rfl | rfl
        · rintro (h | h) <;> exact absurd h (by decide +kernel)
        · rintro (h | h) <;> exact absurd h (by decide +kernel)
      exact v8 (decide_eq_false h2) (qk (kg hb _ (w1.trans (qH hq2 _))))
  · refine v8 (decide_eq_false h1) (qk ?_)
    refine (qZ rfl (SqT.of hd1) a0 ⟨two, fun q2 hq2 => ⟨q2, _, rfl, .inr (SqT.of qD), rfl, rfl, _, rfl, ?_⟩⟩)
    rw [qLq]
    have w2 := qH hq2 (.tup [.str "close", .str "lift"])
    have w12 := w1.trans w2
    have hd2 := w2 _ _ hd1
    generalize upd H1 q2 (.tup [.str "close", .str "lift"]) = H2 at w2 w12 hd2 ⊢
    by_cases h2 : w = "close" ∨ w = "lift"
    · refine qDr (decide_eq_true h2) ?_
      obtain ⟨v, b3, hv⟩ := a3 (by rcases h2 with h | h; exact .inr (.inr (.inl h)); exact .inr (.inr (.inr h)))
      clear a3
      cases hv with
      | no h =>
        have eb : qAp w t none = false := by unfold qAp; rw [if_neg h1, if_pos h2]
        exact ⟨_, rfl, dz, _, _, _, rfl, rfl, SqT.of hd2, b3, v, false, rfl, .no (h.same w12), false, rfl, qr (qr ⟨one, kb eb _ w12⟩)⟩
      | int u =>
        have eb : qAp w t (some u) = decide (t < u) := by unfold qAp; rw [if_neg h1, if_pos h2]
        rw [eb] at kb kg
        refine ⟨_, rfl, dz, _, _, _, rfl, rfl, SqT.of hd2, b3, _, true, rfl, .int u, true, rfl, qk ?_⟩
        refine (qZ rfl (SqT.of hd2) a2 ⟨_, rfl, dz, _, _, _, rfl, rfl, SqT.of hd2, b3, _, _, rfl, rfl, _, rfl, xo (fun c => ?_) (fun c => ?_)⟩)
        · have hc : u ≤ t := by simpa using c
          exact ⟨one, kb (decide_eq_false (by omega)) _ w12⟩
        · have hc : ¬ u ≤ t := by simpa using c
          exact kg (decide_eq_true (by omega)) _ w12
    · have eb : qAp w t o = true := by unfold qAp; rw [if_neg h1, if_neg h2]
      exact v8 (decide_eq_false h2) (qk (kg eb _ w12))
def qLa (lo hi : Int) (s : Int × Int × Int) : Bool := (decide (s.1 < hi) && decide (lo < s.2.2)) || (decide (lo ≤ s.2.1) && decide (s.2.1 ≤ hi))
def vA (ms : List Im) (lo hi : Int) : Bool := (vU 0 ms).any (qLa lo hi)
def qAm : Sp := fun vs H Q _ => ∃ (z : Addr) (ms : List Im) (lo hi : Int), vs = [.ref z, .int lo, .int hi] ∧ Tr H z ms ∧ ms.length ≤ 300 ∧ ∀ H', Same H H' → Q (.bl (vA ms lo hi)) H'
theorem ww (T : Tx K mg a) : FnOk P w K mg base CX0 3 a.a_touches_mix a.f_touches_mix ["track", "low", "high"] qAm := by
  refine T.d_touches_mix.F.ok sc_touches_mix (fun vs H Q E h => ?_) (fun cdv A outer s H vs Q E hr h => ?_)
  · obtain ⟨z, ms, lo, hi, rfl, _⟩ := h
    rfl
  obtain ⟨z, ms, lo, hi, rfl, tT, hml, kk⟩ := h
  refine ⟨_, (qF (xn PassesOwn.never rfl (jZ (qN T.d_mix_spans (qC2 T) hr rfl (qA (pv 0) qE))) (ja (i := 3) sc_touches_mix.nd rfl (Or.inl rfl)) (qG (qh (qAz (PW.pt (xh (PW.pt (zH (qL kH (qJ qI (pv 3) qB (fun _ _ => rfl)) (pv 2) (qU _)) (xl (qL kH (pv 1) (qJ qI (pv 3) qB (fun _ _ => rfl)) (qU _))))) (jc (PW.pt (zH (qL qIm (pv 1) (qJ qI (pv 3) qB (fun _ _ => rfl)) (qU _)) (xl (qL qIm (qJ qI (pv 3) qB (fun _ _ => rfl)) (pv 2) (qU _))))))))) (qG (qP vc)) qS)))
      (qG (qP vc))), ?_⟩
  try dsimp only [jo, qi]
  unfold vA at kk
  refine ⟨_, rfl, z, ms, rfl, tT, hml, fun y us H1 e1 hy hy1 hsp => ?_⟩
  generalize vU 0 ms = ss at hsp kk
  refine ⟨y, rfl, ⟨_, SqL.of hy1⟩, xZ (K := K) (a := y) (xs := us) (fun i σ H' => ∃ o : Option V, σ = [some (.ref z), some (.int lo), some (.int hi), o] ∧ H' = H1 ∧ (ss.take i).any (qLa lo hi) = false) ⟨none, rfl, rfl, rfl⟩ ?_ ?_ ?_⟩
  · rintro i σ H' hi ⟨o, rfl, rfl, _⟩
    exact SqL.of hy1
  · rintro i x σ H' hx ⟨o, rfl, rfl, hno⟩
    obtain ⟨x0, x1, x2, p, hs, rfl, hp⟩ := hsp.get hx
    have q := SqT.of (K := K) hp
    have b0 : atI [V.int x0, .int x1, .int x2] 0 = some (.int x0) := rfl
    have b1 : atI [V.int x0, .int x1, .int x2] 1 = some (.int x1) := rfl
    have b2 : atI [V.int x0, .int x1, .int x2] 2 = some (.int x2) := rfl
    refine ⟨fun t' H2 => H2 = H' ∧ t' = qLa lo hi (x0, x1, x2), ?_, ?_⟩
    · unfold qLa
      dsimp only
      refine ⟨_, rfl, p, _, _, _, rfl, rfl, q, b0, _, rfl, _, _, rfl, rfl, _, rfl, ?_⟩
      by_cases h1 : x0 < hi
      · rw [decide_eq_true h1, Bool.true_and]
        refine qr ⟨_, rfl, _, rfl, p, _, _, _, rfl, rfl, q, b2, _, _, rfl, rfl, _, rfl, ?_⟩
        by_cases h2 : lo < x2
        · rw [decide_eq_true h2, Bool.true_or]
          exact qr ⟨rfl, rfl⟩
        rw [decide_eq_false h2, Bool.false_or]
        refine qk ⟨_, rfl, _, rfl, p, _, _, _, rfl, rfl, q, b1, _, _, rfl, rfl, _, rfl, ?_⟩
        by_cases h3 : lo ≤ x1
        · rw [decide_eq_true h3, Bool.true_and]
          exact qr ⟨_, rfl, p, _, _, _, rfl, rfl, q, b1, _, rfl, _, _, rfl, rfl, _, rfl, rfl, rfl⟩
        · rw [decide_eq_false h3, Bool.false_and]
          exact qk ⟨rfl, rfl⟩
      · rw [decide_eq_false h1, Bool.false_and, Bool.false_or]
        refine qk (qk ⟨_, rfl, _, rfl, p, _, _, _, rfl, rfl, q, b1, _, _, rfl, rfl, _, rfl, ?_⟩)
        by_cases h3 : lo ≤ x1
        · rw [decide_eq_true h3, Bool.true_and]
          exact qr ⟨_, rfl, p, _, _, _, rfl, rfl, q, b1, _, rfl, _, _, rfl, rfl, _, rfl, rfl, rfl⟩
        · rw [decide_eq_false h3, Bool.false_and]
          exact qk ⟨rfl, rfl⟩
    rintro t' H2 ⟨rfl, rfl⟩
    cases ht : qLa lo hi (x0, x1, x2) with
    | true =>
      have : ss.any (qLa lo hi) = true := List.any_eq_true.mpr ⟨_, List.mem_of_getElem? hs, ht⟩
      rw [this] at kk
      exact qr (kk _ e1)
    | false =>
      refine qk ⟨_, rfl, rfl, ?_⟩
      rw [List.take_add_one, hs, List.any_append, hno]
      show (false || (qLa lo hi (x0, x1, x2) || false)) = false
      rw [ht]; rfl
  · rintro σ H' ⟨o, rfl, rfl, hno⟩
    rw [hsp.len, List.take_length] at hno
    rw [hno] at kk
    exact kk _ e1
structure TabG (H : Hp) (tz : Addr) (ts : List (List Im)) (tie : List Int) (n : Nat) : Prop where
  tab : TabF H (.ref tz) ts tie
  ok : ∀ ms ∈ ts, MsB ms ∧ ms.length ≤ 100
  nt : n < ts.length
  len : ts.length ≤ 8
  tl : tie.length ≤ 8
  tin : ∀ x ∈ tie, ∃ k : Nat, x = (k : Int) ∧ k < ts.length
theorem TabG.same {H H' : Hp} {tz : Addr} {ts : List (List Im)} {tie : List Int} {n : Nat} (e : Same H H') (h : TabG H tz ts tie n) : TabG H' tz ts tie n := ⟨h.tab.same e, h.ok, h.nt, h.len, h.tl, h.tin⟩
theorem TabG.ch {H : Hp} {tz : Addr} {ts : List (List Im)} {tie : List Int} {n : Nat} (h : TabG H tz ts tie n) (push : Bool) : (chF tie (n : Int) push).length ≤ 10 ∧ ∀ x ∈ chF tie (n : Int) push, ∃ k : Nat, x = (k : Int) ∧ k < ts.length := by
  unfold chF
  split
  · refine ⟨?_, fun x hx => ?_⟩
    · rw [List.length_cons]
      have := List.length_filter_le (fun x => decide (x ≠ (n : Int))) tie
      have := h.tl
      omega
    · rcases List.mem_cons.mp hx with rfl | hx
      · exact ⟨n, rfl, h.nt⟩
      · exact h.tin x (List.mem_filter.mp hx).1
  · refine ⟨by show 1 ≤ 10; decide, fun x hx => ?_⟩
    have : x = (n : Int) := by simpa using hx
    exact ⟨n, this, h.nt⟩
def qt (ts : List (List Im)) (ns : List Int) (lo hi : Int) : Bool := ns.any fun k => vA (ts.getD k.toNat []) lo hi
def wS (M : Addr) : Sp := fun vs H Q E => ∃ (tz dz : Addr) (ts : List (List Im)) (tie : List Int) (n : Nat) (d : Dk), vs = [.ref tz, .ref dz] ∧ TabG H tz ts tie n ∧ DAt H dz (n : Int) d ∧
  (qt ts (chF tie (n : Int) d.push) d.t d.hi = true → ∀ H', Same H H' → E (.ref M) none H') ∧ (qt ts (chF tie (n : Int) d.push) d.t d.hi = false → ∀ H', Same H H' → Q .non H')
theorem wl (T : Tx K mg a) : FnOk P w K mg base (CXR P w) 4 a.a_check_mixes a.f_check_mixes ["table", "deed"] (wS a.k_Mixed) := by
  refine okX T.d_check_mixes.F sc_check_mixes (fun vs H Q E h => ?_) (fun cdv A outer s H vs Q E hr h => ?_)
  · obtain ⟨tz, dz, ts, tie, n, d, rfl, _⟩ := h
    rfl
  obtain ⟨tz, dz, ts, tie, n, d, rfl, hP, hD, kb, kg⟩ := h
  refine ⟨_, (qF (qV (i := 2) sc_check_mixes.nd rfl (Or.inl rfl) (qN T.d_stretch_of (kX T) hr rfl (qA (pv 1) qE)))
      (qG (xn (qN8 rfl rfl rfl rfl) rfl (jZ (qN T.d_tracks_changed (zQ T) hr rfl (qA (pv 0) (qA (pv 1) qE)))) (ja (i := 3) sc_check_mixes.nd rfl (Or.inl rfl)) (qG (qh (jP (qN T.d_touches_mix (ww T) hr rfl (qA (qJ jC (qJ qI (pv 0) qB (fun _ _ => rfl)) (pv 3) (fun _ _ => rfl)) (qA (qJ qI (pv 2) qB (fun _ _ => rfl)) (qA (qJ qI (pv 2) qB (fun _ _ => rfl)) qE))))) (qG (jz rfl rfl T.c_Mixed T.x_Mixed (qA qX qE))) qS))))), ?_⟩
  try dsimp only [jo, qi]
  have one : (1 : Nat) ≤ sizeLine := by decide
  obtain ⟨tt, tl, ti, zs, e0, g2, g3, g4, g5⟩ := id hP.tab
  cases e0
  have hzl := g4.len
  obtain ⟨hcl, hch⟩ := hP.ch d.push
  unfold qt at kb kg
  refine ⟨_, rfl, dz, _, d, rfl, hD, fun p H1 e1 hp => ?_⟩
  refine ⟨_, rfl, _, rfl, tz, tl, ti, dz, tie, _, d, rfl, e1 _ _ g2, e1 _ _ g5, by have := hP.tl; omega, hD.same e1, fun y H2 e2 hy hy2 => ?_⟩
  generalize chF tie (n : Int) d.push = ns at hy2 hcl hch kb kg
  refine ⟨y, rfl, ⟨_, SqL.of hy2⟩, xZ (K := K) (a := y) (xs := ns.map V.int) (fun i σ H' => ∃ o : Option V, σ = [some (.ref tz), some (.ref dz), some (.ref p), o] ∧ Same H2 H' ∧ (ns.take i).any (fun k => vA (ts.getD k.toNat []) d.t d.hi) = false) ⟨none, rfl, Same.refl _, rfl⟩ ?_ ?_ ?_⟩
  · rintro i σ H' hi ⟨o, rfl, e, _⟩
    exact SqL.of (e _ _ hy2)
  · rintro i x σ H' hx ⟨o, rfl, e, hno⟩
    obtain ⟨xi, hxi, rfl⟩ : ∃ xi : Int, ns[i]? = some xi ∧ x = .int xi := by
      rw [List.getElem?_map] at hx
      cases hq : ns[i]? with
      | none => rw [hq] at hx; cases hx
      | some k => rw [hq] at hx; cases hx; exact ⟨k, rfl, rfl⟩
    obtain ⟨k, rfl, hk⟩ := hch xi (List.mem_of_getElem? hxi)
    have e02 := e1.trans (e2.trans e)
    have ez : zs[k]? = some zs[k] := List.getElem?_eq_getElem (by omega)
    obtain ⟨ms, z, hms, ezz, tT⟩ := g4.get ez
    rw [ezz] at ez
    have egd : ts.getD ((k : Int)).toNat [] = ms := by rw [Int.toNat_natCast, List.getD_eq_getElem?_getD, hms]; rfl
    have hml := (hP.ok ms (List.mem_of_getElem? hms)).2
    refine (qZ rfl (SqT.of (e02 _ _ g2)) at0 ⟨_, rfl, tl, _, _, _, rfl, rfl, SqL.of (e02 _ _ g3), jb ez, qZ rfl (SqT.of ((e2.trans e) _ _ hp)) at0 (qZ rfl (SqT.of ((e2.trans e) _ _ hp)) at1 ⟨z, ms, _, _, rfl, tT.same e02, by omega, fun H3 e3 => ?_⟩)⟩)
    refine ⟨_, rfl, ?_⟩
    cases ht : vA ms d.t d.hi with
    | true =>
      refine qr ⟨one, kb ?_ _ (e02.trans e3)⟩
      exact List.any_eq_true.mpr ⟨_, List.mem_of_getElem? hxi, by rw [egd]; exact ht⟩
    | false =>
      refine qk ⟨_, rfl, e.trans e3, ?_⟩
      rw [List.take_add_one, hxi, List.any_append, hno]
      show (false || (vA (ts.getD ((k : Int)).toNat []) d.t d.hi || false)) = false
      rw [egd, ht]; rfl
  · rintro σ H' ⟨o, rfl, e, hno⟩
    rw [List.length_map, List.take_length] at hno
    exact kg hno H' (e1.trans (e2.trans e))
def qHm (ms : List Im) : Int := (ms.map Im.mo).sum
def qLf (ms : List Im) (lo hi : Int) (ls : List Im) : List Im := qAw 0 (zo 0 lo 0 ms ++ [.gap (qGq (lo - qHm ms) 0)] ++ ls ++ zo hi (qHm ms) 0 ms)
def qHd : Sp := fun vs H Q _ => ∃ (z l : Addr) (ms ls : List Im) (lo hi : Int), vs = [.ref z, .int lo, .int hi, .ref l] ∧ Tr H z ms ∧ Tr H l ls ∧ MsB ms ∧ ms.length ≤ 100 ∧ ls.length ≤ 10 ∧ 0 ≤ hi ∧ hi ≤ 2 ^ 500 ∧ ∀ (y : Addr) (H' : Hp), Same H H' → H y = none → Tr H' y (qLf ms lo hi ls) → Q (.ref y) H'
theorem qH2 (T : Tx K mg a) : FnOk P w K mg base CX0 8 a.a_relaid a.f_relaid ["track", "low", "high", "laid"] qHd := by
  refine T.d_relaid.F.ok sc_relaid (fun vs H Q E h => ?_) (fun cdv A outer s H vs Q E hr h => ?_)
  · obtain ⟨z, l, ms, ls, lo, hi, rfl, _⟩ := h
    rfl
  obtain ⟨z, l, ms, ls, lo, hi, rfl, tT, tL, hB, hl1, hl2, h0, h1, kk⟩ := h
  refine ⟨_, (qF (qV (i := 4) sc_relaid.nd rfl (Or.inl rfl) (ql (qA qX (qA (qd (vI rfl) rfl T.b_max rfl (qA (qO jU (pv 1) (qN T.d_length_of (vm T) hr rfl (qA (pv 0) qE))) (qA qB qE))) qE))))
      (qG (qP (qN T.d_one_form (qE7 T) hr rfl (qA (qO qAx (qO qAx (qO qAx (qN T.d_part_of_track (zg T) hr rfl (qA (pv 0) (qA qB (qA (pv 1) qE)))) (jI (qA (pv 4) qE))) (pv 3)) (qN T.d_part_of_track (zg T) hr rfl (qA (pv 0) (qA (pv 2) (qA (qN T.d_length_of (vm T) hr rfl (qA (pv 0) qE)) qE))))) qE))))), ?_⟩
  try dsimp only [jo, qi]
  have two : (2 : Nat) ≤ sizeLine := by decide
  have one : (1 : Nat) ≤ sizeLine := by decide
  have sm : ∀ j : Nat, j ≤ 1000 → j ≤ sizeLine := fun j h => by have := qc (n := j) (by omega); omega
  refine ⟨_, rfl, _, rfl, z, ms, rfl, tT, by omega, fun H1 e1 => ?_⟩
  refine ⟨_, _, rfl, rfl, _, _, rfl, two, fun g hg => ?_⟩
  have w2 := qH hg (.tup [.str "gap", .int (if (0 : Int) > lo - (ms.map Im.mo).sum then 0 else lo - (ms.map Im.mo).sum)])
  have kg : upd H1 g (.tup [.str "gap", .int (if (0 : Int) > lo - (ms.map Im.mo).sum then 0 else lo - (ms.map Im.mo).sum)]) g = some (.tup [.str "gap", .int (qGq (lo - qHm ms) 0)]) := qD
  have e2 := e1.trans w2
  change _
  generalize upd H1 g (.tup [.str "gap", .int (if (0 : Int) > lo - (ms.map Im.mo).sum then 0 else lo - (ms.map Im.mo).sum)]) = H2 at w2 kg e2
  refine ⟨_, rfl, _, rfl, z, ms, 0, lo, rfl, tT.same e2, hB, by decide, by decide, fun y1 H3 e3 hy1 ⟨us1, k1, i1⟩ => ?_⟩
  have n1 := i1.len
  have n1' := zj 0 lo 0 ms
  refine ⟨_, rfl, one, fun l2 hl2 => ?_⟩
  have w4 := qH hl2 (.lst [.ref g])
  refine ⟨y1, l2, _, _, rfl, rfl, w4 _ _ k1, qD, sm _ (by show us1.length + 1 ≤ 1000; omega), fun y2 hy2 => ?_⟩
  have w5 := qH hy2 (.lst (us1 ++ [.ref g]))
  have w45 := w4.trans w5
  have e5 := (e2.trans e3).trans w45
  have k2 : (upd (upd H3 l2 (.lst [.ref g])) y2 (.lst (us1 ++ [.ref g]))) y2 = some (.lst (us1 ++ [.ref g])) := qD
  have i2 : IsIs (upd (upd H3 l2 (.lst [.ref g])) y2 (.lst (us1 ++ [.ref g]))) (zo 0 lo 0 ms ++ [.gap (qGq (lo - qHm ms) 0)]) (us1 ++ [.ref g]) := (i1.ts (qg w45)).app (.one (isG ((e3.trans w45) _ _ kg)))
  change _
  generalize upd (upd H3 l2 (.lst [.ref g])) y2 (.lst (us1 ++ [.ref g])) = H5 at w45 e5 k2 i2
  obtain ⟨ul, kl, il⟩ := tL.same e5
  have nl := il.len
  have n2 := i2.len
  rw [List.length_append, List.length_append] at n2
  refine ⟨_, rfl, y2, l, _, _, rfl, rfl, k2, kl, sm _ (by rw [List.length_append]; show us1.length + 1 + ul.length ≤ 1000; omega), fun y3 hy3 => ?_⟩
  have w6 := qH hy3 (.lst (us1 ++ [.ref g] ++ ul))
  have e6 := e5.trans w6
  have k3 : (upd H5 y3 (.lst (us1 ++ [.ref g] ++ ul))) y3 = some (.lst (us1 ++ [.ref g] ++ ul)) := qD
  have i3 : IsIs (upd H5 y3 (.lst (us1 ++ [.ref g] ++ ul))) (zo 0 lo 0 ms ++ [.gap (qGq (lo - qHm ms) 0)] ++ ls) (us1 ++ [.ref g] ++ ul) := (i2.app il).ts (qg w6)
  change _
  generalize upd H5 y3 (.lst (us1 ++ [.ref g] ++ ul)) = H6 at w6 e6 k3 i3
  refine ⟨_, rfl, _, rfl, _, rfl, z, ms, rfl, tT.same e6, by omega, fun H7 e7 => ?_⟩
  refine ⟨z, ms, hi, qHm ms, rfl, tT.same (e6.trans e7), hB, h0, h1, fun y4 H8 e8 hy4 ⟨us4, k4, i4⟩ => ?_⟩
  have n4 := i4.len
  have n4' := zj hi (qHm ms) 0 ms
  have e78 := e7.trans e8
  have hlen : (us1 ++ [V.ref g] ++ ul).length = us1.length + 1 + ul.length := by rw [List.length_append, List.length_append]; rfl
  refine ⟨y3, y4, _, _, rfl, rfl, e78 _ _ k3, k4, sm _ (by omega), fun y5 hy5 => ?_⟩
  have w9 := qH hy5 (.lst (us1 ++ [.ref g] ++ ul ++ us4))
  have e9 := (e6.trans e78).trans w9
  refine ⟨y5, _, rfl, ⟨_, qD, ((i3.ts (qg e78)).app i4).ts (qg w9)⟩, ?_, fun y H10 e10 hy tY => kk y H10 (e9.trans e10) (e9.free hy) tY⟩
  rw [List.length_append, List.length_append, List.length_append]
  show (zo 0 lo 0 ms).length + 1 + ls.length + (zo hi (qHm ms) 0 ms).length ≤ 300
  omega
def LayOk (H : Hp) (rd : Addr) : Im → Prop
  | .clip n p q r s l => ∃ N, Reel H rd n N ∧ GF n p q r s l ∧ InR (Vk p q r s 0) (q * s) N ∧ InR (Vk p q r s (l - 1)) (q * s) N
  | .nest n b l => wp n = true ∧ n.length ≤ 1000 ∧ 0 ≤ b ∧ 1 ≤ l
  | _ => False
theorem LayOk.same {H H' : Hp} {rd : Addr} {m : Im} (e : Same H H') (h : LayOk H rd m) : LayOk H' rd m := by
  cases m with
  | clip n p q r s l => obtain ⟨N, h1, h2⟩ := h; exact ⟨N, h1.same e, h2⟩
  | nest n b l => exact h
  | gap => exact h
  | mix => exact h
def DOk (H : Hp) (rd : Addr) (ms : List Im) : Dk → Prop
  | .cut t => 0 ≤ t ∧ t ≤ 2 ^ 400 ∧ qBx ms t = true
  | .hel _ => False
  | .opn t l => 0 ≤ t ∧ t ≤ 2 ^ 400 ∧ 1 ≤ l
  | .cls t u => 0 ≤ t ∧ t < u ∧ u ≤ 2 ^ 400
  | .lft t u => 0 ≤ t ∧ t < u ∧ u ≤ 2 ^ 400
  | .lin t m => 0 ≤ t ∧ t ≤ 2 ^ 400 ∧ LayOk H rd m
  | .lov t m => 0 ≤ t ∧ t ≤ 2 ^ 400 ∧ LayOk H rd m ∧ 0 ≤ m.mo ∧ m.mo ≤ 2 ^ 400
def Dk.lay : Dk → Option Im
  | .lin _ m => some m
  | .lov _ m => some m
  | _ => none
theorem Dk.lay_in (d : Dk) : inV (.str d.wd) [.str "lay_in", .str "lay_over"] = d.lay.isSome := by
  cases d with
  | cut t => show inV (.str "cut") _ = false; decide +kernel
  | hel t => show inV (.str "heal") _ = false; decide +kernel
  | opn t l => show inV (.str "open") _ = false; decide +kernel
  | cls t u => show inV (.str "close") _ = false; decide +kernel
  | lft t u => show inV (.str "lift") _ = false; decide +kernel
  | lin t m => show inV (.str "lay_in") _ = true; decide +kernel
  | lov t m => show inV (.str "lay_over") _ = true; decide +kernel
theorem DAt.lay {H : Hp} {dz : Addr} {n : Int} {d : Dk} {m : Im} (h : DAt H dz n d) (hl : d.lay = some m) : ∃ xs v, H dz = some (.tup xs) ∧ atI xs 3 = some v ∧ IsI H m v := by
  cases d with
  | lin t m' => cases hl; obtain ⟨v, h1, h2⟩ := h; exact ⟨_, v, h1, rfl, h2⟩
  | lov t m' => cases hl; obtain ⟨v, h1, h2⟩ := h; exact ⟨_, v, h1, rfl, h2⟩
  | _ => cases hl
theorem DOk.lay {H : Hp} {rd : Addr} {ms : List Im} {d : Dk} {m : Im} (h : DOk H rd ms d) (hl : d.lay = some m) : LayOk H rd m := by
  cases d with
  | lin t m' => cases hl; exact h.2.2
  | lov t m' => cases hl; exact h.2.2.1
  | _ => cases hl
theorem DOk.ch {H : Hp} {rd : Addr} {ms : List Im} {d : Dk} (h : DOk H rd ms d) : inV (.str d.wd) [.str "cut", .str "lay_in", .str "open", .str "close", .str "lift", .str "lay_over"] = true := by
  cases d with
  | cut t => show inV (.str "cut") _ = true; decide +kernel
  | hel t => exact h.elim
  | opn t l => show inV (.str "open") _ = true; decide +kernel
  | cls t u => show inV (.str "close") _ = true; decide +kernel
  | lft t u => show inV (.str "lift") _ = true; decide +kernel
  | lin t m => show inV (.str "lay_in") _ = true; decide +kernel
  | lov t m => show inV (.str "lay_over") _ = true; decide +kernel
theorem Dk.cut_wd {d : Dk} (h : d.wd = "cut") : ∃ t, d = .cut t := by
  cases d with
  | cut t => exact ⟨t, rfl⟩
  | hel t => exact absurd (show ("heal" : Str) = "cut" from h) (by decide +kernel)
  | opn t l => exact absurd (show ("open" : Str) = "cut" from h) (by decide +kernel)
  | cls t l => exact absurd (show ("close" : Str) = "cut" from h) (by decide +kernel)
  | lft t l => exact absurd (show ("lift" : Str) = "cut" from h) (by decide +kernel)
  | lin t l => exact absurd (show ("lay_in" : Str) = "cut" from h) (by decide +kernel)
  | lov t l => exact absurd (show ("lay_over" : Str) = "cut" from h) (by decide +kernel)
theorem DOk.same {H H' : Hp} {rd : Addr} {ms : List Im} {d : Dk} (e : Same H H') (h : DOk H rd ms d) : DOk H' rd ms d := by
  cases d with
  | lin t m => exact ⟨h.1, h.2.1, h.2.2.same e⟩
  | lov t m => exact ⟨h.1, h.2.1, h.2.2.1.same e, h.2.2.2⟩
  | _ => exact h
theorem NmB.same {H H' : Hp} (s : Same H H') {x : V} {b : Bool} (h : NmB K H x b) : NmB K H' x b := by
  cases h with
  | str z h => exact .str z h
  | no ty e => exact .no (qB3 s ty) e
theorem LnB.same {H H' : Hp} (s : Same H H') {x : V} {b : Bool} (h : LnB H x b) : LnB H' x b := by
  cases h with
  | int i => exact .int i
  | no h => exact .no (h.same s)
theorem CfB.same {H H' : Hp} (s : Same H H') {x : V} {b : Bool} (h : CfB K H x b) : CfB K H' x b := by
  cases h with
  | no ty e => exact .no (qB3 s ty) e
  | len e h => exact .len (s _ _ e) h
  | word e h1 h2 => exact .word (s _ _ e) h1 h2
  | nm e h => exact .nm (s _ _ e) (h.same s)
  | st e h1 h2 => exact .st (s _ _ e) (h1.same s) (h2.same s)
  | sp e h1 h2 h3 => exact .sp (s _ _ e) (h1.same s) (h2.same s) (h3.same s)
  | ln e h1 h2 h3 h4 => exact .ln (s _ _ e) (h1.same s) (h2.same s) (h3.same s) (h4.same s)
theorem ItB.same {H H' : Hp} (s : Same H H') {x : V} {rd : Addr} {b : Bool} (h : ItB K H x rd b) : ItB K H' x rd b := by
  cases h with
  | form h => exact .form (h.same s)
  | reel hc g hk hv => exact .reel (hc.same s) g (s _ _ hk) hv
  | pics hc g hr hb => exact .pics (hc.same s) g (hr.same s) hb
inductive ChO (K : W.Frag) (H : Hp) (rd dz : Addr) (n : Nat) (ts : List (List Im)) (tie : List Int) (ms : List Im) : Nat → Prop where
  | cut0 {t : Int} (hd : H dz = some (.tup [.str "cut", .int (n : Int), .int t])) (h : qBx ms t = false) : ChO K H rd dz n ts tie ms 0
  | bad {w : Str} {t : Int} {x : V} (hw : w = "lay_in" ∨ w = "lay_over") (hd : H dz = some (.tup [.str w, .int (n : Int), .int t, x])) (h : NsB K H x false) (h2 : ItB K H x rd false) : ChO K H rd dz n ts tie ms 3
  | ok {d : Dk} {c : Nat} (hD : DAt H dz (n : Int) d) (hO : DOk H rd ms d) (hc : c = if qt ts (chF tie (n : Int) d.push) d.t d.hi = true then 1 else 2) : ChO K H rd dz n ts tie ms c
theorem ChO.same {H H' : Hp} (e : Same H H') {rd dz : Addr} {n : Nat} {ts : List (List Im)} {tie : List Int} {ms : List Im} {c : Nat} (h : ChO K H rd dz n ts tie ms c) : ChO K H' rd dz n ts tie ms c := by
  cases h with
  | cut0 hd h => exact .cut0 (e _ _ hd) h
  | bad hw hd h h2 => exact .bad hw (e _ _ hd) (h.same e) (h2.same e)
  | ok hD hO hc => exact .ok (hD.same e) (hO.same e) hc
def wD (K : W.Frag) (N M C : Addr) : Sp := fun vs H Q E => ∃ (tz dz rd : Addr) (ts : List (List Im)) (tie : List Int) (n : Nat) (ms : List Im) (c : Nat), vs = [.ref tz, .ref dz, .ref rd] ∧ TabG H tz ts tie n ∧ ts[n]? = some ms ∧ ChO K H rd dz n ts tie ms c ∧
  (c = 0 → ∀ H', Same H H' → E (.ref N) none H') ∧ (c = 1 → ∀ H', Same H H' → E (.ref M) none H') ∧ (c = 3 → ∀ H', Same H H' → E (.ref C) none H') ∧ (c = 2 → ∀ H', Same H H' → Q .non H')
theorem wA (T : Tx K mg a) : FnOk P w K mg base (CXR P w) 7 a.a_check_change a.f_check_change ["table", "deed", "reels"] (wD K a.k_NoPlace a.k_Mixed a.k_NoClip) := by
  refine okX T.d_check_change.F wP (fun vs H Q E h => ?_) (fun cdv A outer s H vs Q E hr h => ?_)
  · obtain ⟨tz, dz, rd, ts, tie, n, ms, c, rfl, _⟩ := h
    rfl
  obtain ⟨tz, dz, rd, ts, tie, n, ms, c, rfl, hP, hms, hC, k0, k1, k3, k2⟩ := h
  refine ⟨_, (qF (qh (qL zr (qJ qI (pv 1) qB (fun _ _ => rfl)) (xS (v := .ref a.n_CHANGES) rfl T.g_CHANGES rfl) rfl) (qG (jz rfl rfl T.c_NoPlace T.x_NoPlace (qA qX qE))) qS)
      (qF (zY (qh (PW.pt (zH (qL xj (qJ qI (pv 1) qB (fun _ _ => rfl)) qX (qU _)) (xl (jr (jP (qN T.d_lies_within (wx T) hr rfl (qA (qJ jC (qJ qI (pv 0) qB (fun _ _ => rfl)) (qJ qI (pv 1) qB (fun _ _ => rfl)) (fun _ _ => rfl)) (qA (qJ qI (pv 1) qB (fun _ _ => rfl)) qE)))))))) (qG (jz rfl rfl T.c_NoPlace T.x_NoPlace (qA qX qE))) qS))
      (qF (zY (qh (PW.pt (zH (qL jy (qJ qI (pv 1) qB (fun _ _ => rfl)) (xS (v := .ref a.n_LAYS) rfl T.g_LAYS rfl) rfl) (xl (jr (jP (qN T.d_has_nest_form (vx T) hr rfl (qA (qJ qI (pv 1) qB (fun _ _ => rfl)) qE))))))) (qG (jD (zw T.d_check_clip (qAg T) hr rfl (qA (qJ qI (pv 1) qB (fun _ _ => rfl)) (qA (pv 2) qE))))) qS))
      (qG (jD (zw T.d_check_mixes (wl T) hr rfl (qA (pv 0) (qA (pv 1) qE)))))))), ?_⟩
  try dsimp only [jo, qi]
  have one : (1 : Nat) ≤ sizeLine := by decide
  obtain ⟨tt, tl, ti, zs, e0, g2, g3, g4, g5⟩ := id hP.tab
  cases e0
  have hzl := g4.len
  have hnt := hP.nt
  have ez : zs[n]? = some (zs[n]'(by omega)) := List.getElem?_eq_getElem (by omega)
  obtain ⟨ms', z, hms', ezz, tT⟩ := g4.get ez
  rw [hms] at hms'
  cases hms'
  rw [ezz] at ez
  cases hC with
  | @cut0 t hd h =>
    have a0 : atI [V.str "cut", .int (n : Int), .int t] 0 = some (.str "cut") := rfl
    have a1 : atI [V.str "cut", .int (n : Int), .int t] 1 = some (.int (n : Int)) := rfl
    have a2 : atI [V.str "cut", .int (n : Int), .int t] 2 = some (.int t) := rfl
    refine (qZ rfl (SqT.of hd) a0 ⟨a.n_CHANGES, _, rfl, .inr (T.sq_CHANGES _), rfl, rfl, false, qFq (b := true) (by decide +kernel), qk ?_⟩)
    refine ⟨fun σ H1 => False, ?_, fun _ _ h => h.elim⟩
    refine (qZ rfl (SqT.of hd) a0 ⟨rfl, _, rfl, qDr (by decide +kernel) ?_⟩)
    refine (qZ rfl (SqT.of g2) at0 (qZ rfl (SqT.of hd) a1 ⟨tl, _, _, _, rfl, rfl, SqL.of g3, jb ez, qZ rfl (SqT.of hd) a2 ⟨z, ms, t, rfl, tT, fun H1 e1 => ?_⟩⟩))
    rw [h]
    exact ⟨false, rfl, qr ⟨one, k0 rfl H1 e1⟩⟩
  | @bad w t x hw hd h h2 =>
    have a0 : atI [V.str w, .int (n : Int), .int t, x] 0 = some (.str w) := rfl
    have a3 : atI [V.str w, .int (n : Int), .int t, x] 3 = some x := rfl
    have i1 : inV (.str w) [.str "cut", .str "lay_in", .str "open", .str "close", .str "lift", .str "lay_over"] = true := by rcases hw with rfl | rfl <;> decide +kernel
    have i2 : inV (.str w) [.str "lay_in", .str "lay_over"] = true := by rcases hw with rfl | rfl <;> decide +kernel
    have i3 : decide (V.str w = V.str "cut") = false := by rcases hw with rfl | rfl <;> decide +kernel
    refine (qZ rfl (SqT.of hd) a0 ⟨a.n_CHANGES, _, rfl, .inr (T.sq_CHANGES _), rfl, rfl, false, qFq i1, qk ?_⟩)
    refine ⟨fun σ H1 => σ = [some (.ref tz), some (.ref dz), some (.ref rd)] ∧ H1 = H, ?_, ?_⟩
    · exact (qZ rfl (SqT.of hd) a0 ⟨rfl, _, rfl, v8 i3 (qk ⟨rfl, rfl⟩)⟩)
    rintro σ H1 ⟨rfl, rfl⟩
    refine ⟨fun σ H1 => False, ?_, fun _ _ h => h.elim⟩
    refine (qZ rfl (SqT.of hd) a0 ⟨a.n_LAYS, _, rfl, .inr (T.sq_LAYS _), rfl, rfl, true, zK i2, qr ?_⟩)
    refine (qZ rfl (SqT.of hd) a3 ⟨x, false, rfl, h, fun H2 e2 => ⟨false, rfl, qr ?_⟩⟩)
    exact (qZ rfl (SqT.of (e2 _ _ hd)) a3 ⟨_, rfl, x, rd, false, rfl, h2.same e2, (fun h => by cases h), fun _ H3 e3 => k3 rfl H3 (e2.trans e3)⟩)
  | @ok d c hD hO hc =>
    obtain ⟨xs, hd, a0, a1, a2⟩ := hD.opn
    refine (qZ rfl (SqT.of hd) a0 ⟨a.n_CHANGES, _, rfl, .inr (T.sq_CHANGES _), rfl, rfl, false, qFq hO.ch, qk ?_⟩)
    refine ⟨fun σ H1 => σ = [some (.ref tz), some (.ref dz), some (.ref rd)] ∧ Same H H1, ?_, ?_⟩
    · refine (qZ rfl (SqT.of hd) a0 ⟨rfl, _, rfl, xo (fun c => ?_) (fun c => qk ⟨rfl, Same.refl _⟩)⟩)
      obtain ⟨t, rfl⟩ := Dk.cut_wd (by simpa using c)
      refine (qZ rfl (SqT.of g2) at0 (qZ rfl (SqT.of hd) a1 ⟨tl, _, _, _, rfl, rfl, SqL.of g3, jb ez, qZ rfl (SqT.of hd) a2 ⟨z, ms, t, rfl, tT, fun H1 e1 => ?_⟩⟩))
      rw [hO.2.2]
      exact ⟨true, rfl, qk ⟨rfl, e1⟩⟩
    rintro σ H1 ⟨rfl, e1⟩
    refine ⟨fun σ H2 => σ = [some (.ref tz), some (.ref dz), some (.ref rd)] ∧ Same H H2, ?_, ?_⟩
    · refine (qZ rfl (SqT.of (e1 _ _ hd)) a0 ⟨a.n_LAYS, _, rfl, .inr (T.sq_LAYS _), rfl, rfl, d.lay.isSome, zK d.lay_in, ?_⟩)
      cases hl : d.lay with
      | none => exact qk (qk ⟨rfl, e1⟩)
      | some m =>
        obtain ⟨xs', v, hd', a3, hI⟩ := (hD.same e1).lay hl
        have hL := (hO.lay hl).same e1
        cases m with
        | nest nn b l =>
          obtain ⟨zv, rfl, hz⟩ := id hI
          obtain ⟨h1, h2, h3, h4⟩ := hL
          refine qr (qZ rfl (SqT.of hd') a3 ⟨_, true, rfl, .nums hz h1 h2 (by rw [decide_eq_true h3, decide_eq_true h4]; rfl), fun H2 e2 => ?_⟩)
          exact ⟨true, rfl, qk ⟨rfl, e1.trans e2⟩⟩
        | gap l => exact hL.elim
        | mix l => exact hL.elim
        | clip nn p q r s1 l =>
          obtain ⟨zv, x', y', rfl, hz, hx', hy'⟩ := id hI
          obtain ⟨N, hr1, hg, i0, i1⟩ := hL
          refine qr (qZ rfl (SqT.of hd') a3 ⟨_, false, rfl, .len hz (by show 5 ≠ 4; decide), fun H2 e2 => ?_⟩)
          refine ⟨false, rfl, qr (qZ rfl (SqT.of (e2 _ _ hd')) a3 ⟨_, rfl, _, rd, true, rfl, .pics ⟨x', y', e2 _ _ hz, e2 _ _ hx', e2 _ _ hy'⟩ hg (hr1.same e2) ⟨fun _ => ⟨i0, i1⟩, fun _ => rfl⟩, fun _ H3 e3 => ?_, fun h => by cases h⟩)⟩
          exact ⟨rfl, (e1.trans e2).trans e3⟩
    rintro σ H2 ⟨rfl, e2⟩
    refine ⟨_, rfl, _, rfl, tz, dz, ts, tie, n, d, rfl, hP.same e2, hD.same e2, fun ht H3 e3 => ?_, fun ht H3 e3 => ?_⟩
    · rw [ht, if_pos rfl] at hc
      exact k1 hc H3 (e2.trans e3)
    · rw [ht, if_neg (by decide)] at hc
      exact k2 hc H3 (e2.trans e3)
theorem qI3 (vs : List V) (i : Nat) : qEe vs none (some (i : Int)) = vs.take i := by
  unfold qEe
  rw [HT.sIx_none, HT.sIx_nat, List.drop_zero, Nat.sub_zero]
  by_cases h : i ≤ vs.length
  · rw [Nat.min_eq_left h]
  · rw [Nat.min_eq_right (by omega), List.take_of_length_le (Nat.le_refl _), List.take_of_length_le (by omega)]
theorem qBk (vs : List V) (i : Nat) : qEe vs (some (i : Int)) none = vs.drop i := by
  unfold qEe
  rw [HT.sIx_none, HT.sIx_nat]
  by_cases h : i ≤ vs.length
  · rw [Nat.min_eq_left h, List.take_of_length_le (by rw [List.length_drop]; omega)]
  · rw [Nat.min_eq_right (by omega), List.drop_of_length_le (by omega), List.drop_of_length_le (by omega)]
    simp
theorem IsIs.take {H : Hp} : ∀ {ms : List Im} {vs : List V} {i : Nat}, IsIs H ms vs → IsIs H (ms.take i) (vs.take i)
  | [], [], _, _ => by simp [IsIs]
  | _ :: _, _ :: _, 0, _ => trivial
  | _ :: _, _ :: _, _ + 1, h => ⟨h.1, h.2.take⟩
  | [], _ :: _, _, h => h.elim
  | _ :: _, [], _, h => h.elim
theorem IsIs.drop {H : Hp} : ∀ {ms : List Im} {vs : List V} {i : Nat}, IsIs H ms vs → IsIs H (ms.drop i) (vs.drop i)
  | [], [], _, _ => by simp [IsIs]
  | _ :: _, _ :: _, 0, h => h
  | _ :: _, _ :: _, _ + 1, h => h.2.drop (i := _)
  | [], _ :: _, _, h => h.elim
  | _ :: _, [], _, h => h.elim
theorem DOk.hi {H : Hp} {rd : Addr} {ms : List Im} {d : Dk} (h : DOk H rd ms d) : 0 ≤ d.t ∧ 0 ≤ d.hi ∧ d.hi ≤ 2 ^ 500 := by
  have e : (2 : Int) ^ 400 + 2 ^ 400 ≤ 2 ^ 500 := by decide
  have e2 : (0 : Int) ≤ 2 ^ 400 := by decide
  generalize (2 : Int) ^ 500 = B at e ⊢
  cases d with
  | cut t => obtain ⟨h1, h2, _⟩ := h; exact ⟨h1, h1, by show t ≤ B; omega⟩
  | hel t => exact h.elim
  | opn t l => obtain ⟨h1, h2, _⟩ := h; exact ⟨h1, h1, by show t ≤ B; omega⟩
  | cls t u => obtain ⟨h1, h2, h3⟩ := h; exact ⟨h1, by show 0 ≤ u; omega, by show u ≤ B; omega⟩
  | lft t u => obtain ⟨h1, h2, h3⟩ := h; exact ⟨h1, by show 0 ≤ u; omega, by show u ≤ B; omega⟩
  | lin t m => obtain ⟨h1, h2, _⟩ := h; exact ⟨h1, h1, by show t ≤ B; omega⟩
  | lov t m => obtain ⟨h1, h2, h3, h4, h5⟩ := h; exact ⟨h1, by show 0 ≤ t + m.mo; omega, by show t + m.mo ≤ B; omega⟩
def qNs (ms : List Im) (t : Int) : Prop := cbF ms t = none ∨ ∃ i j : Int, cbF ms t = some (i, j) ∧ j ≠ i + 1
def ChW (w : Str) : Prop := w = "cut" ∨ w = "lay_in" ∨ w = "open" ∨ w = "close" ∨ w = "lift" ∨ w = "lay_over"
structure TabD (H : Hp) (tz rd : Addr) (rl : Rls) (ts : List (List Im)) (tie : List Int) : Prop where
  tab : TabF H (.ref tz) ts tie
  ok : ∀ ms ∈ ts, MsB ms ∧ ms.length ≤ 100 ∧ ∀ m ∈ ms, ItR rl m
  len : ts.length ≤ 8
  tl : tie.length ≤ 8
  tin : ∀ x ∈ tie, ∃ k : Nat, x = (k : Int) ∧ k < ts.length
  re : ReelsAt H rd rl
theorem TabD.g {H : Hp} {tz rd : Addr} {rl : Rls} {ts : List (List Im)} {tie : List Int} {n : Nat} (h : TabD H tz rd rl ts tie) (hn : n < ts.length) : TabG H tz ts tie n := ⟨h.tab, fun ms hm => ⟨(h.ok ms hm).1, (h.ok ms hm).2.1⟩, hn, h.len, h.tl, h.tin⟩
theorem TabD.same {H H' : Hp} {tz rd : Addr} {rl : Rls} {ts : List (List Im)} {tie : List Int} (e : Same H H') (h : TabD H tz rd rl ts tie) : TabD H' tz rd rl ts tie := ⟨h.tab.same e, h.ok, h.len, h.tl, h.tin, h.re.same e⟩
instance (w : Str) : Decidable (Wd3 w) := by unfold Wd3; infer_instance
theorem qBn {w : Str} : inV (.str w) [.str "roll", .str "slip", .str "slide"] = decide (Wd3 w) := by
  by_cases h1 : w = "roll"
  · subst h1; decide +kernel
  by_cases h2 : w = "slip"
  · subst h2; decide +kernel
  by_cases h3 : w = "slide"
  · subst h3; decide +kernel
  have : ¬ Wd3 w := by rintro (h | h | h); exact h1 h; exact h2 h; exact h3 h
  rw [decide_eq_false this]
  simp [inV, eqV, h1, h2, h3, Ne.symm h1, Ne.symm h2, Ne.symm h3]
def vR (d : Dk) (n k : Int) : List Im := if k = n then d.laid else d.laid.map fun m => .gap m.mo
def v9 (ts0 : List (List Im)) (d : Dk) (n : Int) (ns : List Int) : List (List Im) := ns.foldl (fun ts k => ts.set k.toNat (qLf (ts0.getD k.toNat []) d.t d.hi (vR d n k))) ts0
theorem zd (ts0 : List (List Im)) (d : Dk) (n : Int) : ∀ ns : List Int, (v9 ts0 d n ns).length = ts0.length := fun ns => by
  unfold v9
  have : ∀ (ns : List Int) (ts : List (List Im)), (ns.foldl (fun ts k => ts.set k.toNat (qLf (ts0.getD k.toNat []) d.t d.hi (vR d n k))) ts).length = ts.length := fun ns => by
    induction ns with
    | nil => intro ts; rfl
    | cons k ns ih => intro ts; rw [List.foldl_cons, ih, List.length_set]
  exact this ns ts0
theorem qFx (ts0 : List (List Im)) (d : Dk) (n : Int) (ns : List Int) (k : Int) : v9 ts0 d n (ns ++ [k]) = (v9 ts0 d n ns).set k.toNat (qLf (ts0.getD k.toNat []) d.t d.hi (vR d n k)) := by
  unfold v9
  rw [List.foldl_append]
  rfl
theorem NewTab.same {H H' H'' : Hp} (e : Same H' H'') {t : Addr} {ts : List (List Im)} {tie : List Int} (h : NewTab H H' t ts tie) : NewTab H H'' t ts tie :=
  let ⟨tl, ti, zs, h1, h2, h3, h4, h5⟩ := h.ex
  ⟨tl, ti, zs, e _ _ h1, e _ _ h2, h3.same e, e _ _ h4, h5⟩
theorem qMr (tie : List Int) (n : Int) (push : Bool) : chF tie n push ≠ [] := by
  unfold chF
  split <;> simp
def qDy : Sp := fun vs H Q _ => ∃ (tz dz rd : Addr) (ts : List (List Im)) (tie : List Int) (n : Nat) (d : Dk) (ms : List Im), vs = [.ref tz, .ref dz] ∧ TabG H tz ts tie n ∧ DAt H dz (n : Int) d ∧ DOk H rd ms d ∧
  ∀ (t : Addr) (H' : Hp), Same H H' → NewTab H H' t (v9 ts d (n : Int) (chF tie (n : Int) d.push)) tie → Q (.ref t) H'
theorem qDx (T : Tx K mg a) : FnOk P w K mg base CX0 9 a.a_changed a.f_changed ["table", "deed"] qDy := by
  refine T.d_changed.F.ok sc_changed (fun vs H Q E h => ?_) (fun cdv A outer s H vs Q E hr h => ?_)
  · obtain ⟨tz, dz, rd, ts, tie, n, d, ms, rfl, _⟩ := h
    rfl
  obtain ⟨tz, dz, rd, ts, tie, n, d, ms, rfl, hP, hD, hO, kk⟩ := h
  refine ⟨_, (qF (qV (i := 2) sc_changed.nd rfl (Or.inl rfl) (qN T.d_stretch_of (kX T) hr rfl (qA (pv 1) qE)))
      (qF (qV (i := 3) sc_changed.nd rfl (Or.inl rfl) (pv 0))
      (qF (xn PassesOwn.never rfl (jZ (qN T.d_tracks_changed (zQ T) hr rfl (qA (pv 0) (qA (pv 1) qE)))) (ja (i := 4) sc_changed.nd rfl (Or.inl rfl)) (qF (zY (qV (i := 5) sc_changed.nd rfl (Or.inl rfl) (wI (qL xj (pv 4) (qJ qI (pv 1) qB (fun _ _ => rfl)) (qU _)) (qN T.d_laid_by (qA3 T) hr rfl (qA (pv 1) qE)) (qN T.d_laid_on_tied (wW T) hr rfl (qA (pv 1) qE)))))
      (qG (qV (i := 3) sc_changed.nd rfl (Or.inl rfl) (qN T.d_table_with (vB T) hr rfl (qA (pv 3) (qA (pv 4) (qA (qN T.d_relaid (qH2 T) hr rfl (qA (qJ jC (qJ qI (pv 0) qB (fun _ _ => rfl)) (pv 4) (fun _ _ => rfl)) (qA (qJ qI (pv 2) qB (fun _ _ => rfl)) (qA (qJ qI (pv 2) qB (fun _ _ => rfl)) (qA (pv 5) qE))))) qE))))))))
      (qG (qP (pv 3)))))), ?_⟩
  try dsimp only [jo, qi]
  obtain ⟨tt, tl, ti, zs, e0, g2, g3, g4, g5⟩ := id hP.tab
  cases e0
  have hzl := g4.len
  obtain ⟨hcl, hch⟩ := hP.ch d.push
  have hne := qMr tie (n : Int) d.push
  obtain ⟨xs, hd, a0, a1, a2⟩ := hD.opn
  obtain ⟨ht0, hh0, hh1⟩ := hO.hi
  refine ⟨_, rfl, dz, _, d, rfl, hD, fun p H1 e1 hp => ?_⟩
  refine ⟨_, rfl, _, rfl, _, rfl, tz, tl, ti, dz, tie, _, d, rfl, e1 _ _ g2, e1 _ _ g5, by have := hP.tl; omega, hD.same e1, fun y H2 e2 hy hy2 => ?_⟩
  generalize chF tie (n : Int) d.push = ns at hy2 hcl hch hne kk
  refine ⟨y, rfl, ⟨_, SqL.of hy2⟩, xZ (K := K) (a := y) (xs := ns.map V.int) (fun i σ H' => ∃ (o1 o2 : Option V) (tt' : Addr), σ = [some (.ref tz), some (.ref dz), some (.ref p), some (.ref tt'), o1, o2] ∧ TabF H' (.ref tt') (v9 ts d (n : Int) (ns.take i)) tie ∧ (0 < i → NewTab H H' tt' (v9 ts d (n : Int) (ns.take i)) tie) ∧ Same H2 H') ⟨none, none, tz, rfl, (hP.tab.same e1).same e2, by omega, Same.refl _⟩ ?_ ?_ ?_⟩
  · rintro i σ H' hi ⟨o1, o2, tt', rfl, _, _, e⟩
    exact SqL.of (e _ _ hy2)
  · rintro i x σ H' hx ⟨o1, o2, tt', rfl, hT', _, e⟩
    obtain ⟨xi, hxi, rfl⟩ : ∃ xi : Int, ns[i]? = some xi ∧ x = .int xi := by
      rw [List.getElem?_map] at hx
      cases hq : ns[i]? with
      | none => rw [hq] at hx; cases hx
      | some k => rw [hq] at hx; cases hx; exact ⟨k, rfl, rfl⟩
    obtain ⟨k, rfl, hk⟩ := hch xi (List.mem_of_getElem? hxi)
    have e02 := e1.trans (e2.trans e)
    have ez : zs[k]? = some (zs[k]'(by omega)) := List.getElem?_eq_getElem (by omega)
    obtain ⟨ms1, z, hms, ezz, tT⟩ := g4.get ez
    rw [ezz] at ez
    obtain ⟨hMB, hM1⟩ := hP.ok ms1 (List.mem_of_getElem? hms)
    have dl := d.laid_len
    have egd : ts.getD ((k : Int)).toNat [] = ms1 := by rw [Int.toNat_natCast, List.getD_eq_getElem?_getD, hms]; rfl
    refine ⟨fun σ H3 => ∃ (l : Addr), σ = [some (.ref tz), some (.ref dz), some (.ref p), some (.ref tt'), some (.int (k : Int)), some (.ref l)] ∧ Same H' H3 ∧ Tr H3 l (vR d (n : Int) (k : Int)), ?_, ?_⟩
    · unfold vR
      refine ⟨_, rfl, qZ rfl (SqT.of (e02 _ _ hd)) a1 ⟨rfl, _, rfl, xo (fun c => ?_) (fun c => ?_)⟩⟩
      · have hc : (k : Int) = (n : Int) := by have : V.int (k : Int) = V.int (n : Int) := by simpa using c
                                              exact V.int.inj this
        rw [if_pos hc]
        exact ⟨_, rfl, dz, _, d, rfl, hD.same e02, fun l H3 e3 hl tL => ⟨l, rfl, e3, tL⟩⟩
      · have hc : ¬ (k : Int) = (n : Int) := fun z => by rw [z] at c; simp at c
        rw [if_neg hc]
        exact ⟨_, rfl, dz, _, d, rfl, hD.same e02, fun l H3 e3 hl tL => ⟨l, rfl, e3, tL⟩⟩
    rintro σ H3 ⟨l, rfl, e3, tL⟩
    have hls : (vR d (n : Int) (k : Int)).length ≤ 10 := by
      unfold vR
      split
      · omega
      · rw [List.length_map]; omega
    have e03 := e02.trans e3
    refine ⟨_, rfl, _, rfl, qZ rfl (SqT.of (e03 _ _ g2)) at0 ⟨_, rfl, tl, _, _, _, rfl, rfl, SqL.of (e03 _ _ g3), jb ez, qZ rfl (SqT.of ((e2.trans (e.trans e3)) _ _ hp)) at0 (qZ rfl (SqT.of ((e2.trans (e.trans e3)) _ _ hp)) at1 ⟨_, rfl, z, l, ms1, _, _, _, rfl, tT.same e03, tL, hMB, hM1, hls, hh0, hh1, fun yy H4 e4 hyy tY => ?_⟩)⟩⟩
    refine ⟨tt', yy, k, _, tie, _, rfl, (hT'.same e3).same e4, tY, by rw [zd]; omega, by rw [zd]; have := hP.len; omega, fun t H5 e5 hN => ?_⟩
    have ets : v9 ts d (n : Int) (ns.take (i + 1)) = (v9 ts d (n : Int) (ns.take i)).set k (qLf ms1 d.t d.hi (vR d (n : Int) (k : Int))) := by
      rw [List.take_add_one, hxi]
      show v9 ts d (n : Int) (ns.take i ++ [(k : Int)]) = _
      rw [qFx, egd, Int.toNat_natCast]
    rw [ets]
    exact ⟨_, _, t, rfl, (hN H3 e4 hyy).tab, fun _ => hN H (e03.trans e4) (e03.free hyy), ((e.trans e3).trans e4).trans e5⟩
  · rintro σ H' ⟨o1, o2, tt', rfl, _, hN, e⟩
    rw [List.length_map, List.take_length] at hN
    exact ⟨_, rfl, kk _ H' (e1.trans (e2.trans e)) (hN (List.length_pos_iff.mpr hne))⟩
def tbF (ms : List Im) (k : Nat) : Int := if k = 0 then 0 else match ms[k - 1]? with
  | some (.mix l) => l - l.fdiv 2
  | _ => 0
def teF (ms : List Im) (k : Nat) : Int := match ms[k + 1]? with
  | some (.mix l) => l.fdiv 2
  | _ => 0
theorem qDl {ms : List Im} {k : Int} (h : xK ms k = "mix") : ∃ l, 0 ≤ k ∧ ms[k.toNat]? = some (.mix l) := by
  unfold xK at h
  by_cases h0 : k < 0
  · rw [if_pos h0] at h
    exact absurd h (by decide +kernel)
  · rw [if_neg h0] at h
    cases hm : ms[k.toNat]? with
    | none => rw [hm] at h; exact absurd h (by decide +kernel)
    | some m =>
      rw [hm] at h
      obtain ⟨l, rfl⟩ := qGp h
      exact ⟨l, by omega, rfl⟩
def vL : Sp := fun vs H Q _ => ∃ (z : Addr) (ms : List Im) (k : Nat), vs = [.ref z, .int (k : Int)] ∧ Tr H z ms ∧ Q (.int (tbF ms k)) H
theorem vY (T : Tx K mg a) : FnOk P w K mg base CX0 2 a.a_taken_at_begin a.f_taken_at_begin ["track", "place"] vL := by
  refine T.d_taken_at_begin.F.ok vP (fun vs H Q E h => ?_) (fun cdv A outer s H vs Q E hr h => ?_)
  · obtain ⟨z, ms, k, rfl, _⟩ := h
    rfl
  obtain ⟨z, ms, k, rfl, tT, q⟩ := h
  refine ⟨_, (qF (qh (qL z8 (qN T.d_kind_at (x8 T) hr rfl (qA (pv 0) (qA (qO jU (pv 1) qB) qE))) qX (qU _)) (qG (qP qB)) qS)
      (qG (qP (qN T.d_part_behind (kK T) hr rfl (qA (qJ qI (qJ jC (pv 0) (qO jU (pv 1) qB) (fun _ _ => rfl)) qB (fun _ _ => rfl)) qE))))), ?_⟩
  try dsimp only [jo, qi]
  refine ⟨_, rfl, _, rfl, _, _, rfl, rfl, z, ms, _, rfl, tT, rfl, _, rfl, xo (fun c => ?_) (fun c => ?_)⟩
  · have hn : xK ms ((k : Int) - 1) ≠ "mix" := by simpa using c
    have e : tbF ms k = 0 := by
      unfold tbF
      by_cases k0 : k = 0
      · rw [if_pos k0]
      · rw [if_neg k0]
        split
        · next l hl => exact absurd (kd hl (by omega)) hn
        · rfl
    rw [e] at q
    exact q
  · have hk : xK ms ((k : Int) - 1) = "mix" := by simpa using c
    obtain ⟨l, k1, hl⟩ := qDl hk
    have ek : ((k : Int) - 1).toNat = k - 1 := by omega
    rw [ek] at hl
    have e : tbF ms k = l - l.fdiv 2 := by
      unfold tbF
      rw [if_neg (by omega), hl]
    rw [e] at q
    obtain ⟨vs, hz, his⟩ := tT
    obtain ⟨v, hv, hI⟩ := his.get' hl
    obtain ⟨zi, rfl, hzi⟩ := hI
    have hat : atI vs ((k : Int) - 1) = some (.ref zi) := by
      have e : (k : Int) - 1 = ((k - 1 : Nat) : Int) := by omega
      rw [e]; exact jb hv
    exact ⟨_, rfl, _, rfl, _, _, rfl, rfl, z, _, _, _, rfl, rfl, SqL.of hz, hat, ixT (SqT.of hzi) at1 ⟨l, rfl, q⟩⟩
def wX : Sp := fun vs H Q _ => ∃ (z : Addr) (ms : List Im) (k : Nat), vs = [.ref z, .int (k : Int)] ∧ Tr H z ms ∧ Q (.int (teF ms k)) H
theorem wO (T : Tx K mg a) : FnOk P w K mg base CX0 2 a.a_taken_at_end a.f_taken_at_end ["track", "place"] wX := by
  refine T.d_taken_at_end.F.ok wR (fun vs H Q E h => ?_) (fun cdv A outer s H vs Q E hr h => ?_)
  · obtain ⟨z, ms, k, rfl, _⟩ := h
    rfl
  obtain ⟨z, ms, k, rfl, tT, q⟩ := h
  refine ⟨_, (qF (qh (qL z8 (qN T.d_kind_at (x8 T) hr rfl (qA (pv 0) (qA (qO qp (pv 1) qB) qE))) qX (qU _)) (qG (qP qB)) qS)
      (qG (qP (qN T.d_part_ahead (vF T) hr rfl (qA (qJ qI (qJ jC (pv 0) (qO qp (pv 1) qB) (fun _ _ => rfl)) qB (fun _ _ => rfl)) qE))))), ?_⟩
  try dsimp only [jo, qi]
  refine ⟨_, rfl, _, rfl, _, _, rfl, rfl, z, ms, _, rfl, tT, rfl, _, rfl, xo (fun c => ?_) (fun c => ?_)⟩
  · have hn : xK ms ((k : Int) + 1) ≠ "mix" := by simpa using c
    have e : teF ms k = 0 := by
      unfold teF
      split
      · next l hl => exact absurd (kd hl (by omega)) hn
      · rfl
    rw [e] at q
    exact q
  · have hk : xK ms ((k : Int) + 1) = "mix" := by simpa using c
    obtain ⟨l, k1, hl⟩ := qDl hk
    have ek : ((k : Int) + 1).toNat = k + 1 := by omega
    rw [ek] at hl
    have e : teF ms k = l.fdiv 2 := by
      unfold teF
      rw [hl]
    rw [e] at q
    obtain ⟨vs, hz, his⟩ := tT
    obtain ⟨v, hv, hI⟩ := his.get' hl
    obtain ⟨zi, rfl, hzi⟩ := hI
    have hat : atI vs ((k : Int) + 1) = some (.ref zi) := by
      have e : (k : Int) + 1 = ((k + 1 : Nat) : Int) := by omega
      rw [e]; exact jb hv
    exact ⟨_, rfl, _, rfl, _, _, rfl, rfl, z, _, _, _, rfl, rfl, SqL.of hz, hat, ixT (SqT.of hzi) at1 ⟨l, rfl, q⟩⟩
def qNb (x y : Int) : Int := if y < x then y else x
def qOf (x y : Int) : Int := if y > x then y else x
def mmV (A B : Int) : Int := if B > A then qOf (2 * A + 1) 0 else qOf (2 * B) 0
def mmF (rl : Rls) (ms : List Im) (t : Int) : Option Int := match cbF ms t with
  | none => none
  | some (i, j) => match kI ms i, kI ms j with
    | .clip n p q r s l, .clip n' p' q' r' s' l' => (match rl n, rl n' with
      | some N, some N' => some (mmV (qNb (l - tbF ms i.toNat) (qMl p' q' r' s' N')) (qNb (l' - teF ms j.toNat) (qMd p q r s l N)))
      | _, _ => none)
    | _, _ => none
theorem wH {ms : List Im} {t : Int} {i j : Int} (h : cbF ms t = some (i, j)) : xK ms i = "clip" ∧ xK ms j = "clip" := by
  unfold cbF at h
  cases hn : nbF ms t with
  | none => rw [hn] at h; cases h
  | some r =>
    obtain ⟨x, y⟩ := r
    rw [hn] at h
    dsimp only at h
    split at h
    · rename_i c; cases h; exact c
    · cases h
def qC0 (N : Addr) : Sp := fun vs H Q E => ∃ (z rd : Addr) (ms : List Im) (t : V) (ot : Option Int) (rl : Rls), vs = [.ref z, t, .ref rd] ∧ Tr H z ms ∧ (∀ m ∈ ms, ItR rl m) ∧ ReelsAt H rd rl ∧ Nu H t ot ∧
  (ot.bind (mmF rl ms) = none → ∀ H', Same H H' → E (.ref N) none H') ∧ ∀ M, ot.bind (mmF rl ms) = some M → ∀ H', Same H H' → Q (.int M) H'
theorem vk (T : Tx K mg a) : FnOk P w K mg base (CXR P w) 6 a.a_most_mix a.f_most_mix ["track", "moment", "reels"] (qC0 a.k_NoPlace) := by
  refine okX T.d_most_mix.F sc_most_mix (fun vs H Q E h => ?_) (fun cdv A outer s H vs Q E hr h => ?_)
  · obtain ⟨z, rd, ms, t, ot, rl, rfl, _⟩ := h
    rfl
  obtain ⟨z, rd, ms, t, ot, rl, rfl, tT, hit, hrl, ht, kb, kg⟩ := h
  refine ⟨_, (qF (qV (i := 3) sc_most_mix.nd rfl (Or.inl rfl) (wI (jP (qN T.d_is_whole (qm T) hr rfl (qA (pv 1) qE))) (qN T.d_clips_at_border (zE T) hr rfl (qA (pv 0) (qA (pv 1) qE))) qCo))
      (qF (qh (qD1 (qFl (pv 3))) (qG (jz rfl rfl T.c_NoPlace T.x_NoPlace (qA qX qE))) qS)
      (qF (qV (i := 4) sc_most_mix.nd rfl (Or.inl rfl) (qJ jC (pv 0) (qJ qI (pv 3) qB (fun _ _ => rfl)) (fun _ _ => rfl)))
      (qF (qV (i := 5) sc_most_mix.nd rfl (Or.inl rfl) (qJ jC (pv 0) (qJ qI (pv 3) qB (fun _ _ => rfl)) (fun _ _ => rfl)))
      (qF (qV (i := 6) sc_most_mix.nd rfl (Or.inl rfl) (qd (zn rfl) rfl T.b_min rfl (qA (qO jU (qJ qI (pv 4) qB (fun _ _ => rfl)) (qN T.d_taken_at_begin (vY T) hr rfl (qA (pv 0) (qA (qJ qI (pv 3) qB (fun _ _ => rfl)) qE)))) (qA (qN T.d_head_room (qCm T) hr rfl (qA (pv 5) (qA (pv 2) qE))) qE))))
      (qF (qV (i := 7) sc_most_mix.nd rfl (Or.inl rfl) (qd (zn rfl) rfl T.b_min rfl (qA (qO jU (qJ qI (pv 5) qB (fun _ _ => rfl)) (qN T.d_taken_at_end (wO T) hr rfl (qA (pv 0) (qA (qJ qI (pv 3) qB (fun _ _ => rfl)) qE)))) (qA (qN T.d_tail_room (qDj T) hr rfl (qA (pv 4) (qA (pv 2) qE))) qE))))
      (qF (qh (qL qBs (pv 7) (pv 6) (qU _)) (qG (qP (qd (vI rfl) rfl T.b_max rfl (qA (qO qp (qO qo qB (pv 6)) qB) (qA qB qE))))) qS)
      (qG (qP (qd (vI rfl) rfl T.b_max rfl (qA (qO qo qB (pv 7)) (qA qB qE)))))))))))), ?_⟩
  try dsimp only [jo, qi]
  have one : (1 : Nat) ≤ sizeLine := by decide
  cases ht with
  | no h => exact ⟨_, rfl, t, false, rfl, .no h, false, rfl, qk ⟨_, rfl, _, rfl, qDr (by decide) ⟨one, kb rfl H (Same.refl _)⟩⟩⟩
  | int t =>
  replace kb : mmF rl ms t = none → ∀ H', Same H H' → E (.ref a.k_NoPlace) none H' := kb
  replace kg : ∀ M, mmF rl ms t = some M → ∀ H', Same H H' → Q (.int M) H' := kg
  refine ⟨_, rfl, _, true, rfl, .int t, true, rfl, qr ?_⟩
  refine ⟨_, rfl, _, rfl, z, ms, _, rfl, tT, ?_⟩
  unfold mmF at kb kg
  cases hcb : cbF ms t with
  | none =>
    rw [hcb] at kb
    intro H1 e1
    exact ⟨_, rfl, _, rfl, qDr (by decide) ⟨one, kb rfl H1 e1⟩⟩
  | some r =>
  obtain ⟨ii, jj⟩ := r
  rw [hcb] at kg
  obtain ⟨hk1, hk2⟩ := wH hcb
  obtain ⟨i, n, p, q, r, s1, l, rfl, hi⟩ := zt hk1
  obtain ⟨j, n', p', q', r', s2, l', rfl, hj⟩ := zt hk2
  obtain ⟨N, c1⟩ := hit _ (List.mem_of_getElem? hi) _ _ _ _ _ _ rfl
  obtain ⟨N', c2⟩ := hit _ (List.mem_of_getElem? hj) _ _ _ _ _ _ rfl
  have ei : kI ms (i : Int) = .clip n p q r s1 l := by unfold kI; rw [Int.toNat_natCast, hi]; rfl
  have ej : kI ms (j : Int) = .clip n' p' q' r' s2 l' := by unfold kI; rw [Int.toNat_natCast, hj]; rfl
  dsimp only at kg
  rw [ei, ej] at kg
  dsimp only at kg
  rw [c1.rn, c2.rn, Int.toNat_natCast, Int.toNat_natCast] at kg
  have kg := kg _ rfl
  intro pp H1 e1 hpp
  refine ⟨_, rfl, _, rfl, xo (fun c => absurd c (by simp)) (fun _ => ?_)⟩
  obtain ⟨vs, hz, his⟩ := tT.same e1
  obtain ⟨va, hva, Ia⟩ := his.get' hi
  obtain ⟨vb, hvb, Ib⟩ := his.get' hj
  refine ⟨_, rfl, qZ rfl (SqT.of hpp) at0 ⟨z, _, _, _, rfl, rfl, SqL.of hz, jb hva, ?_⟩⟩
  refine ⟨_, rfl, qZ rfl (SqT.of hpp) at1 ⟨z, _, _, _, rfl, rfl, SqL.of hz, jb hvb, ?_⟩⟩
  obtain ⟨za, xa, ya, rfl, hza, hxa, hya⟩ := id Ia
  obtain ⟨zb, xb, yb, rfl, hzb, hxb, hyb⟩ := id Ib
  have tT1 : Tr H1 z ms := ⟨vs, hz, his⟩
  refine (qZ rfl (SqT.of hza) qEi ⟨_, rfl, qZ rfl (SqT.of hpp) at0 ⟨z, ms, i, rfl, tT1, _, _, rfl, rfl, ?_⟩⟩)
  refine ⟨_, rfl, _, rfl, _, n', p', q', r', s2, l', N', rd, rfl, qK7 Ib, c2.g1, c2.g2, (hrl _ _ c2.rn).same e1, c2.bN, fun H2 e2 => ?_⟩
  refine ⟨_, _, rfl, ?_⟩
  refine (qZ rfl (SqT.of (e2 _ _ hzb)) qEi ⟨_, rfl, qZ rfl (SqT.of (e2 _ _ hpp)) at1 ⟨z, ms, j, rfl, tT1.same e2, _, _, rfl, rfl, ?_⟩⟩)
  refine ⟨_, rfl, _, rfl, _, n, p, q, r, s1, l, N, rd, rfl, qK7 (Ia.ts (qg e2)), c1.g1, c1.g2, c1.bl, (hrl _ _ c1.rn).same (e1.trans e2), c1.bN, fun H3 e3 => ?_⟩
  refine ⟨_, _, rfl, ?_⟩
  have kk' := kg H3 ((e1.trans e2).trans e3)
  unfold mmV qNb at kk'
  unfold qMl qMd at kk'
  dsimp only
  generalize (if vq (plP p' q' r' s2 (-1) * s2) (-1 * r' * plQ p' q' r' s2 (-1)) (plQ p' q' r' s2 (-1) * s2) N' < l - tbF ms i then vq (plP p' q' r' s2 (-1) * s2) (-1 * r' * plQ p' q' r' s2 (-1)) (plQ p' q' r' s2 (-1) * s2) N' else l - tbF ms i) = MA at kk' ⊢
  generalize (if vq (plP p q r s1 l * s1) (1 * r * plQ p q r s1 l) (plQ p q r s1 l * s1) N < l' - teF ms j then vq (plP p q r s1 l * s1) (1 * r * plQ p q r s1 l) (plQ p q r s1 l * s1) N else l' - teF ms j) = MB at kk' ⊢
  refine ⟨_, rfl, _, rfl, _, _, rfl, rfl, _, rfl, xo (fun c => ?_) (fun c => ?_)⟩
  · have c' : MB > MA := by simpa using c
    rw [if_pos c'] at kk'
    exact ⟨_, rfl, _, _, rfl, rfl, cmL (by decide) (by decide), _, _, rfl, rfl, _, _, rfl, kk'⟩
  · have c' : ¬ MB > MA := by simpa using c
    rw [if_neg c'] at kk'
    exact ⟨_, rfl, _, _, rfl, rfl, cmL (by decide) (by decide), _, _, rfl, kk'⟩
def qEj (N S : Addr) : Sp := fun vs H Q E => ∃ (tz dz rd : Addr) (ts : List (List Im)) (tie : List Int) (n0 : Nat) (ms : List Im) (t l : Int) (rl : Rls), vs = [.ref tz, .ref dz, .ref rd] ∧ TabG H tz ts tie n0 ∧ ts[n0]? = some ms ∧ H dz = some (.tup [.str "mix", .int (n0 : Int), .int t, .int l]) ∧ (∀ m ∈ ms, ItR rl m) ∧ ReelsAt H rd rl ∧
  (qNs ms t → ∀ H', Same H H' → E (.ref N) none H') ∧ (∀ (i : Nat) (M : Int), cbF ms t = some ((i : Int), ((i + 1 : Nat) : Int)) → mmF rl ms t = some M →
    (M < l → ∀ (dx : Addr) (H' : Hp), Same H H' → H' dx = some (.xd [("most", .int M)]) → E (.ref S) (some dx) H') ∧
    (l ≤ M → ∀ (t' : Addr) (H' : Hp), Same H H' → NewTab H H' t' (ts.set n0 (ms.take (i + 1) ++ [.mix l] ++ ms.drop (i + 1))) tie → Q (.ref t') H'))
theorem qLc {rl : Rls} {ms : List Im} {t i j : Int} (hit : ∀ m ∈ ms, ItR rl m) (h : cbF ms t = some (i, j)) : ∃ M, mmF rl ms t = some M := by
  obtain ⟨hk1, hk2⟩ := wH h
  obtain ⟨i, n, p, q, r, s1, l, rfl, hi⟩ := zt hk1
  obtain ⟨j, n', p', q', r', s2, l', rfl, hj⟩ := zt hk2
  obtain ⟨N, c1⟩ := hit _ (List.mem_of_getElem? hi) _ _ _ _ _ _ rfl
  obtain ⟨N', c2⟩ := hit _ (List.mem_of_getElem? hj) _ _ _ _ _ _ rfl
  have ei : kI ms (i : Int) = .clip n p q r s1 l := by unfold kI; rw [Int.toNat_natCast, hi]; rfl
  have ej : kI ms (j : Int) = .clip n' p' q' r' s2 l' := by unfold kI; rw [Int.toNat_natCast, hj]; rfl
  unfold mmF
  rw [h]
  dsimp only
  rw [ei, ej]
  dsimp only
  rw [c1.rn, c2.rn]
  exact ⟨_, rfl⟩
theorem qEm (T : Tx K mg a) : FnOk P w K mg base (CXR P w) 7 a.a_mixed a.f_mixed ["table", "deed", "reels"] (qEj a.k_NoPlace a.k_Short) := by
  refine okX T.d_mixed.F sc_mixed (fun vs H Q E h => ?_) (fun cdv A outer s H vs Q E hr h => ?_)
  · obtain ⟨tz, dz, rd, ts, tie, n0, ms, t, l, rl, rfl, _⟩ := h
    rfl
  obtain ⟨tz, dz, rd, ts, tie, n0, ms, t, l, rl, rfl, hP, hms, hd, hit, hrl, kb, kk⟩ := h
  refine ⟨_, (qF (qV (i := 3) sc_mixed.nd rfl (Or.inl rfl) (qJ jC (qJ qI (pv 0) qB (fun _ _ => rfl)) (qJ qI (pv 1) qB (fun _ _ => rfl)) (fun _ _ => rfl)))
      (qF (qV (i := 4) sc_mixed.nd rfl (Or.inl rfl) (qN T.d_clips_at_border (zE T) hr rfl (qA (pv 3) (qA (qJ qI (pv 1) qB (fun _ _ => rfl)) qE))))
      (qF (qh (PW.pt (xh (qD1 (qFl (pv 4))) (jc (qL z8 (qJ qI (pv 4) qB (fun _ _ => rfl)) (qO qp (qJ qI (pv 4) qB (fun _ _ => rfl)) qB) (qU _))))) (qG (jz rfl rfl T.c_NoPlace T.x_NoPlace (qA qX qE))) qS)
      (qF (qV (i := 5) sc_mixed.nd rfl (Or.inl rfl) (zw T.d_most_mix (vk T) hr rfl (qA (pv 3) (qA (qJ qI (pv 1) qB (fun _ _ => rfl)) (qA (pv 2) qE)))))
      (qF (qh (qL qBs (qJ qI (pv 1) qB (fun _ _ => rfl)) (pv 5) (qU _)) (qG (qHl T.m_Short (qB4 T) T.ib_Short (hr.mono (by decide)) rfl rfl T.c_Short (qA (pv 5) qE))) qS)
      (qG (qP (qN T.d_table_with (vB T) hr rfl (qA (pv 0) (qA (qJ qI (pv 1) qB (fun _ _ => rfl)) (qA (qO qAx (qO qAx (wL qE1 (pv 3) qE5 (vJ (qJ qI (pv 4) qB (fun _ _ => rfl)))) (jI (qA (ql (qA qX (qA (qJ qI (pv 1) qB (fun _ _ => rfl)) qE))) qE))) (wL qE1 (pv 3) (vJ (qJ qI (pv 4) qB (fun _ _ => rfl))) qE5)) qE))))))))))), ?_⟩
  try dsimp only [jo, qi]
  have one : (1 : Nat) ≤ sizeLine := by decide
  obtain ⟨tt, tl, ti, zs, e0, g2, g3, g4, g5⟩ := id hP.tab
  cases e0
  have hzl := g4.len
  have hnt := hP.nt
  have ez : zs[n0]? = some (zs[n0]'(by omega)) := List.getElem?_eq_getElem (by omega)
  obtain ⟨ms', z, hms', ezz, tT⟩ := g4.get ez
  rw [hms] at hms'
  cases hms'
  rw [ezz] at ez
  obtain ⟨hMB, hM1⟩ := hP.ok ms (List.mem_of_getElem? hms)
  have sm : ∀ j : Nat, j ≤ 1000 → j ≤ sizeLine := fun j h => by have := qc (n := j) (by omega); omega
  refine (qZ rfl (SqT.of g2) at0 (qZ rfl (SqT.of hd) qMa ⟨tl, _, _, _, rfl, rfl, SqL.of g3, jb ez, ?_⟩))
  refine ⟨_, rfl, qZ rfl (SqT.of hd) qIe ⟨z, ms, _, rfl, tT, ?_⟩⟩
  cases hcb : cbF ms t with
  | none =>
    intro H1 e1
    exact ⟨_, rfl, _, rfl, qDr (by decide) (qr ⟨one, kb (.inl hcb) H1 e1⟩)⟩
  | some rr =>
  obtain ⟨ii, jj⟩ := rr
  intro pz H1 e1 hpz
  refine ⟨_, rfl, _, rfl, xo (fun c => absurd c (by simp)) (fun _ => ?_)⟩
  refine (qZ rfl (SqT.of hpz) at1 (qZ rfl (SqT.of hpz) at0 ⟨_, _, rfl, rfl, rfl, _, rfl, ?_⟩))
  by_cases hij : jj = ii + 1
  case neg =>
    have hne : (!decide (V.int jj = V.int (ii + 1))) = true := by
      rw [decide_eq_false (fun z => hij (V.int.inj z))]; rfl
    exact qDr hne ⟨one, kb (.inr ⟨ii, jj, hcb, hij⟩) H1 e1⟩
  have hne : (!decide (V.int jj = V.int (ii + 1))) = false := by rw [hij]; simp
  refine v8 hne ?_
  obtain ⟨hk1, _⟩ := wH hcb
  obtain ⟨i, n, p, q, r, s1, l1, rfl, hi⟩ := zt hk1
  obtain rfl : jj = ((i + 1 : Nat) : Int) := by omega
  obtain ⟨M, hM⟩ := qLc hit hcb
  obtain ⟨kS, kQ⟩ := kk i M hcb hM
  refine ⟨_, rfl, qZ rfl (SqT.of (e1 _ _ hd)) qIe ⟨_, rfl, z, rd, ms, _, some t, rl, rfl, tT.same e1, hit, hrl.same e1, .int t, fun h => (by have h' : mmF rl ms t = none := h; rw [hM] at h'; cases h'), fun M' h H2 e2 => ?_⟩⟩
  obtain rfl : M' = M := by
    have h' : mmF rl ms t = some M' := h
    rw [hM] at h'
    exact (Option.some.inj h').symm
  have e12 := e1.trans e2
  refine (qZ rfl (SqT.of (e12 _ _ hd)) qB9 ⟨_, rfl, _, _, rfl, rfl, _, rfl, xo (fun c => ?_) (fun c => ?_)⟩)
  · have hc : M' < l := by simpa using c
    exact ⟨_, rfl, _, rfl, fun dx hdx => kS hc dx _ (e12.trans (qH hdx _)) qD⟩
  have hc : l ≤ M' := by have : ¬ M' < l := by simpa using c
                         omega
  refine ⟨_, rfl, qZ rfl (SqT.of (e12 _ _ hd)) qMa ?_⟩
  obtain ⟨vs, hz, his⟩ := tT.same e12
  have hvl := his.len
  have hpz2 := e2 _ _ hpz
  refine ⟨_, rfl, qZ rfl (SqT.of hpz2) at1 ⟨_, rfl, z, _, rfl, SqL.of hz, fun a1' ha1 => ?_⟩⟩
  rw [qI3]
  have v1 := qH ha1 (.lst (vs.take (i + 1)))
  refine (qZ rfl (SqT.of ((e12.trans v1) _ _ hd)) qB9 ⟨sL2, fun g hg => ⟨sL1, fun a2' ha2 => ?_⟩⟩)
  have vg := qH hg (.tup [.str "mix", .int l])
  have v2 := qH ha2 (.lst [.ref g])
  refine ⟨a1', a2', _, _, rfl, rfl, v2 _ _ (vg _ _ qD), qD, sm _ (by rw [List.length_take]; show min (i + 1) _ + 1 ≤ 1000; omega), fun a3 ha3 => ?_⟩
  have v3 := qH ha3 (.lst (vs.take (i + 1) ++ [.ref g]))
  have v13 := ((v1.trans vg).trans v2).trans v3
  have kg : (upd (upd (upd (upd H2 a1' (.lst (vs.take (i + 1)))) g (.tup [.str "mix", .int l])) a2' (.lst [.ref g])) a3 (.lst (vs.take (i + 1) ++ [.ref g]))) g = some (.tup [.str "mix", .int l]) := (v2.trans v3) _ _ qD
  have k3 : (upd (upd (upd (upd H2 a1' (.lst (vs.take (i + 1)))) g (.tup [.str "mix", .int l])) a2' (.lst [.ref g])) a3 (.lst (vs.take (i + 1) ++ [.ref g]))) a3 = some (.lst (vs.take (i + 1) ++ [.ref g])) := qD
  change _
  generalize upd (upd (upd (upd H2 a1' (.lst (vs.take (i + 1)))) g (.tup [.str "mix", .int l])) a2' (.lst [.ref g])) a3 (.lst (vs.take (i + 1) ++ [.ref g])) = H3 at v13 kg k3
  refine ⟨_, rfl, qZ rfl (SqT.of (v13 _ _ hpz2)) at1 ⟨_, rfl, z, _, rfl, SqL.of (v13 _ _ hz), fun a4 ha4 => ?_⟩⟩
  rw [qBk]
  have v4 := qH ha4 (.lst (vs.drop (i + 1)))
  refine ⟨a3, a4, _, _, rfl, rfl, v4 _ _ k3, qD, sm _ (by rw [List.length_append, List.length_take, List.length_drop]; show min (i + 1) _ + 1 + _ ≤ 1000; omega), fun a5 ha5 => ?_⟩
  have v5 := qH ha5 (.lst (vs.take (i + 1) ++ [.ref g] ++ vs.drop (i + 1)))
  have v45 := v4.trans v5
  have e5 := (e12.trans v13).trans v45
  have hisE := (his.ts (qg v13)).ts (qg v45)
  exact ⟨tz, a5, n0, ts, tie, ms.take (i + 1) ++ [.mix l] ++ ms.drop (i + 1), rfl, hP.tab.same e5, ⟨_, qD, (hisE.take.app (.one (isM (v45 _ _ kg)))).app hisE.drop⟩, hnt, by have := hP.len; omega, fun t' H6 e6 hN => kQ hc t' H6 (e5.trans e6) (hN H e5 (((e12.trans v13).trans v4).free ha5))⟩
inductive Res where
  | place
  | mixed
  | clip
  | short (M : Int)
  | good (ts : List (List Im))
def qNw : Nat → Res
  | 0 => .place
  | 1 => .mixed
  | _ => .clip
inductive DdX (K : W.Frag) (H : Hp) (rd dz : Addr) (rl : Rls) (ts : List (List Im)) (tie : List Int) : Res → Prop where
  | mix {n i : Nat} {t l M : Int} {ms : List Im} {r : Res} (hd : H dz = some (.tup [.str "mix", .int (n : Int), .int t, .int l])) (hm : ts[n]? = some ms) (h0 : 0 ≤ t) (hl : 1 ≤ l) (hc : cbF ms t = some ((i : Int), ((i + 1 : Nat) : Int))) (hM : mmF rl ms t = some M) (hr : r = if M < l then .short M else .good (ts.set n (ms.take (i + 1) ++ [.mix l] ++ ms.drop (i + 1)))) : DdX K H rd dz rl ts tie r
  | chg0 {xs : List V} {w : Str} {n : Nat} {t : Int} {o : Option Int} {ms : List Im} {c : Nat} (hd : H dz = some (.tup xs)) (hw : ChW w) (a1 : atI xs 1 = some (.int (n : Int))) (hN : qMy H xs w t o) (hm : ts[n]? = some ms) (h0 : 0 ≤ t) (hb : qAp w t o = true) (h : ChO K H rd dz n ts tie ms c) (hc : c ≠ 2) : DdX K H rd dz rl ts tie (qNw c)
  | chg {xs : List V} {w : Str} {n : Nat} {t : Int} {o : Option Int} {ms : List Im} {d : Dk} (hd : H dz = some (.tup xs)) (hw : ChW w) (a1 : atI xs 1 = some (.int (n : Int))) (hN : qMy H xs w t o) (hm : ts[n]? = some ms) (h0 : 0 ≤ t) (hb : qAp w t o = true) (hD : DAt H dz (n : Int) d) (hO : DOk H rd ms d) (ht : qt ts (chF tie (n : Int) d.push) d.t d.hi = false) : DdX K H rd dz rl ts tie (.good (v9 ts d (n : Int) (chF tie (n : Int) d.push)))
def wn (K : W.Frag) (N M C S : Addr) : Sp := fun vs H Q E => ∃ (tz dz rd : Addr) (rl : Rls) (ts : List (List Im)) (tie : List Int) (r : Res), vs = [.ref tz, .ref dz, .ref rd] ∧ TabD H tz rd rl ts tie ∧ DdX K H rd dz rl ts tie r ∧
  (r = .place → ∀ H', Same H H' → E (.ref N) none H') ∧ (r = .mixed → ∀ H', Same H H' → E (.ref M) none H') ∧ (r = .clip → ∀ H', Same H H' → E (.ref C) none H') ∧
  (∀ m, r = .short m → ∀ (dx : Addr) (H' : Hp), Same H H' → H' dx = some (.xd [("most", .int m)]) → E (.ref S) (some dx) H') ∧ (∀ ts', r = .good ts' → ∀ (t' : Addr) (H' : Hp), Same H H' → NewTab H H' t' ts' tie → Q (.ref t') H')
theorem NewTab.back {H H1 H' : Hp} (e1 : Same H H1) {t : Addr} {ts : List (List Im)} {tie : List Int} (h : NewTab H1 H' t ts tie) : NewTab H H' t ts tie :=
  let ⟨tl, ti, zs, q1, q2, q3, q4, q5, q6, q7, q8⟩ := h.ex
  ⟨tl, ti, zs, q1, q2, q3, q4, e1.free q5, e1.free q6, q7, fun b hb => ⟨e1.free (q8 b hb).1, (q8 b hb).2⟩⟩
theorem zy (T : Tx K mg a) : FnOk P w K mg base (CXR P w) 10 a.a_deed_done a.f_deed_done ["table", "deed", "reels"] (wn K a.k_NoPlace a.k_Mixed a.k_NoClip a.k_Short) := by
  refine okX T.d_deed_done.F qC3 (fun vs H Q E h => ?_) (fun cdv A outer s H vs Q E hr h => ?_)
  · obtain ⟨tz, dz, rd, rl, ts, tie, r, rfl, _⟩ := h
    rfl
  obtain ⟨tz, dz, rd, rl, ts, tie, r, rfl, hP, hC, k0, k1, k3, k4, k2⟩ := h
  refine ⟨_, (qF (qh (qL jy (qJ qI (pv 1) qB (fun _ _ => rfl)) (xS (v := .ref a.n_ROLLS) rfl T.g_ROLLS rfl) rfl) zh qS)
      (qF (jD (zw T.d_check_place (wc T) hr rfl (qA (pv 0) (qA (qJ qI (pv 1) qB (fun _ _ => rfl)) (qA (qJ qI (pv 1) qB (fun _ _ => rfl)) qE)))))
      (qF (jD (zw T.d_check_numbers (vZ T) hr rfl (qA (pv 1) qE)))
      (qF (qh (qL xj (qJ qI (pv 1) qB (fun _ _ => rfl)) qX (qU _)) zh qS)
      (qF (qh (qL xj (qJ qI (pv 1) qB (fun _ _ => rfl)) qX (qU _)) (qG (qP (zw T.d_mixed (qEm T) hr rfl (qA (pv 0) (qA (pv 1) (qA (pv 2) qE)))))) qS)
      (qF (qh (qL xj (qJ qI (pv 1) qB (fun _ _ => rfl)) qX (qU _)) zh qS)
      (qF (jD (zw T.d_check_change (wA T) hr rfl (qA (pv 0) (qA (pv 1) (qA (pv 2) qE)))))
      (qG (qP (qN T.d_changed (qDx T) hr rfl (qA (pv 0) (qA (pv 1) qE)))))))))))), ?_⟩
  try dsimp only [jo, qi]
  obtain ⟨tt, tl, ti, zs, e0, g2, g3, g4, g5⟩ := id hP.tab
  cases e0
  have hzl := g4.len
  have r0 := Same.refl H
  have pl : ∀ {n : Nat} {t : Int}, n < ts.length → 0 ≤ t → qJn zs.length (some (n : Int)) (some t) = true := fun {n t} h1 h2 => by
    unfold qJn
    dsimp only
    rw [hzl, decide_eq_true (show (0 : Int) ≤ (n : Int) by omega), decide_eq_true (show (n : Int) < ts.length by omega), decide_eq_true h2]
    rfl
  cases hC with
  | @mix n i t l M ms r hd hm h0 hl hc hM hr' =>
    have a0 : atI [V.str "mix", .int (n : Int), .int t, .int l] 0 = some (.str "mix") := rfl
    have a1 : atI [V.str "mix", .int (n : Int), .int t, .int l] 1 = some (.int (n : Int)) := rfl
    have a2 : atI [V.str "mix", .int (n : Int), .int t, .int l] 2 = some (.int t) := rfl
    have hw : ¬ Wd3 "mix" := by decide +kernel
    have hnb : qAp "mix" t (some l) = true := by
      unfold qAp
      rw [if_pos (.inr rfl)]
      exact decide_eq_true hl
    refine (qZ rfl (SqT.of hd) a0 ⟨a.n_ROLLS, _, rfl, .inr (T.sq_ROLLS _), rfl, rfl, false, zK (by rw [qBn]; exact decide_eq_false hw), qk ?_⟩)
    refine ⟨_, rfl, qZ rfl (SqT.of hd) a1 (qZ rfl (SqT.of hd) a2 ⟨tz, tl, ti, zs, _, _, some ((n : Int)), some t, rfl, g2, g3, .int _, .int _, fun hf => (by rw [pl (glt hm) h0] at hf; cases hf), fun _ => ?_⟩)⟩
    refine ⟨_, rfl, dz, _, "mix", t, some l, rfl, hd, ⟨a0, a2, fun _ => ⟨_, rfl, .int l⟩⟩, fun z => (by rw [hnb] at z; cases z), fun _ H1 e1 => ?_⟩
    have hG := (hP.g (glt hm)).same e1
    have hit := (hP.ok ms (List.mem_of_getElem? hm)).2.2
    refine (qZ rfl (SqT.of (e1 _ _ hd)) a0 ⟨rfl, _, rfl, v8 (by decide +kernel) ?_⟩)
    refine (qZ rfl (SqT.of (e1 _ _ hd)) a0 ⟨rfl, _, rfl, qDr (by decide +kernel) ?_⟩)
    refine ⟨_, rfl, _, rfl, _, rfl, tz, dz, rd, ts, tie, n, ms, t, l, rl, rfl, hG, hm, e1 _ _ hd, hit, hP.re.same e1, fun h H2 e2 => ?_, fun i' M' hc' hM' => ?_⟩
    · rcases h with h | ⟨x, y, h, hxy⟩
      · rw [hc] at h; cases h
      · rw [hc] at h
        cases h
        exact absurd (by omega) hxy
    · rw [hc] at hc'
      rw [hM] at hM'
      cases hM'
      have ei : i' = i := by
        have := congrArg Prod.fst (Option.some.inj hc')
        dsimp only at this
        omega
      subst ei
      refine ⟨fun hlt dx H2 e2 hx => ?_, fun hle t' H2 e2 hN => ?_⟩
      · rw [if_pos hlt] at hr'
        exact k4 _ hr' dx H2 (e1.trans e2) hx
      · rw [if_neg (by omega)] at hr'
        exact k2 _ hr' t' H2 (e1.trans e2) (hN.back e1)
  | @chg0 xs w n t o ms c hd hcw a1 hN hm h0 hb h hc2 =>
    have a0 := hN.1
    have a2 := hN.2.1
    have hw : ¬ Wd3 w := by rcases hcw with rfl | rfl | rfl | rfl | rfl | rfl <;> decide +kernel
    have w1 : decide (V.str w = V.str "heal") = false := by rcases hcw with rfl | rfl | rfl | rfl | rfl | rfl <;> decide +kernel
    have w2 : decide (V.str w = V.str "mix") = false := by rcases hcw with rfl | rfl | rfl | rfl | rfl | rfl <;> decide +kernel
    have w3 : decide (V.str w = V.str "unmix") = false := by rcases hcw with rfl | rfl | rfl | rfl | rfl | rfl <;> decide +kernel
    have hG := hP.g (glt hm)
    refine (qZ rfl (SqT.of hd) a0 ⟨a.n_ROLLS, _, rfl, .inr (T.sq_ROLLS _), rfl, rfl, false, zK (by rw [qBn]; exact decide_eq_false hw), qk ?_⟩)
    refine ⟨_, rfl, qZ rfl (SqT.of hd) a1 (qZ rfl (SqT.of hd) a2 ⟨tz, tl, ti, zs, _, _, some ((n : Int)), some t, rfl, g2, g3, .int _, .int _, fun hf => (by rw [pl (glt hm) h0] at hf; cases hf), fun _ => ?_⟩)⟩
    refine ⟨_, rfl, dz, xs, w, t, o, rfl, hd, hN, fun z => (by rw [hb] at z; cases z), fun _ H1 e1 => ?_⟩
    refine (qZ rfl (SqT.of (e1 _ _ hd)) a0 ⟨rfl, _, rfl, v8 w1 ?_⟩)
    refine (qZ rfl (SqT.of (e1 _ _ hd)) a0 ⟨rfl, _, rfl, v8 w2 ?_⟩)
    refine (qZ rfl (SqT.of (e1 _ _ hd)) a0 ⟨rfl, _, rfl, v8 w3 ?_⟩)
    refine ⟨_, rfl, _, rfl, _, rfl, tz, dz, rd, ts, tie, n, ms, c, rfl, hG.same e1, hm, h.same e1, fun hc H2 e2 => k0 (by rw [hc]; rfl) H2 (e1.trans e2), fun hc H2 e2 => k1 (by rw [hc]; rfl) H2 (e1.trans e2), fun hc H2 e2 => k3 (by rw [hc]; rfl) H2 (e1.trans e2), fun hc => absurd hc hc2⟩
  | @chg xs w n t o ms d hd hcw a1 hN hm h0 hb hD hO ht =>
    have a0 := hN.1
    have a2 := hN.2.1
    have hw : ¬ Wd3 w := by rcases hcw with rfl | rfl | rfl | rfl | rfl | rfl <;> decide +kernel
    have w1 : decide (V.str w = V.str "heal") = false := by rcases hcw with rfl | rfl | rfl | rfl | rfl | rfl <;> decide +kernel
    have w2 : decide (V.str w = V.str "mix") = false := by rcases hcw with rfl | rfl | rfl | rfl | rfl | rfl <;> decide +kernel
    have w3 : decide (V.str w = V.str "unmix") = false := by rcases hcw with rfl | rfl | rfl | rfl | rfl | rfl <;> decide +kernel
    have hG := hP.g (glt hm)
    refine (qZ rfl (SqT.of hd) a0 ⟨a.n_ROLLS, _, rfl, .inr (T.sq_ROLLS _), rfl, rfl, false, zK (by rw [qBn]; exact decide_eq_false hw), qk ?_⟩)
    refine ⟨_, rfl, qZ rfl (SqT.of hd) a1 (qZ rfl (SqT.of hd) a2 ⟨tz, tl, ti, zs, _, _, some ((n : Int)), some t, rfl, g2, g3, .int _, .int _, fun hf => (by rw [pl (glt hm) h0] at hf; cases hf), fun _ => ?_⟩)⟩
    refine ⟨_, rfl, dz, xs, w, t, o, rfl, hd, hN, fun z => (by rw [hb] at z; cases z), fun _ H1 e1 => ?_⟩
    refine (qZ rfl (SqT.of (e1 _ _ hd)) a0 ⟨rfl, _, rfl, v8 w1 ?_⟩)
    refine (qZ rfl (SqT.of (e1 _ _ hd)) a0 ⟨rfl, _, rfl, v8 w2 ?_⟩)
    refine (qZ rfl (SqT.of (e1 _ _ hd)) a0 ⟨rfl, _, rfl, v8 w3 ?_⟩)
    refine ⟨_, rfl, _, rfl, _, rfl, tz, dz, rd, ts, tie, n, ms, 2, rfl, hG.same e1, hm, (ChO.ok hD hO (by rw [ht]; rfl)).same e1, (fun hc => by cases hc), (fun hc => by cases hc), (fun hc => by cases hc), fun _ H2 e2 => ?_⟩
    have e12 := e1.trans e2
    exact ⟨_, rfl, _, rfl, tz, dz, rd, ts, tie, n, d, ms, rfl, hG.same e12, hD.same e12, hO.same e12, fun t' H3 e3 hN => k2 _ rfl t' H3 (e12.trans e3) (hN.back e12)⟩
def qAj : Sp := fun vs H Q _ => ∃ c n : Int, vs = [.int c, .int n] ∧ 0 ≤ n ∧ n ≤ 400 ∧
  ∀ (z : Addr) (xs : List Int) (H' : Hp), Same H H' → H z = none → H' z = some (.lst (xs.map V.int)) → xs.length = n.toNat → (∀ x ∈ xs, 0 ≤ x ∧ x < 10000000019) → Q (.ref z) H'
theorem kJ (T : Tx K mg a) : FnOk P w K mg base CX0 1 a.a__law_stream a.f__law_stream ["_law_cell", "_law_size"] qAj := by
  refine T.d__law_stream.F.ok sc__law_stream (fun vs H Q E h => ?_) (fun cdv A outer s H vs Q E hr h => ?_)
  · obtain ⟨c, n, rfl, _⟩ := h
    rfl
  obtain ⟨c, n, rfl, n0, n1, kk⟩ := h
  refine ⟨_, (qF (qV (i := 2) sc__law_stream.nd rfl (Or.inl rfl) (jI qE))
      (qF (qh (qL qBw (pv 0) (qO qJ4 qB qB) (qU _)) (qF (qV (i := 3) sc__law_stream.nd rfl (Or.inl rfl) (qO qf (pv 0) qB))
      (qF (xn PassesOwn.never rfl (zN rfl T.b_range (qA (pv 1) qE)) (ja (i := 4) sc__law_stream.nd rfl (Or.inl rfl)) (qF (jD (kj F.plainAttrs_list F.slot_list_append F.type_list_append q9 (pv 2) (qA (qO qj (pv 3) qB) qE)))
      (qG (qV (i := 3) sc__law_stream.nd rfl (Or.inl rfl) (qO qf (pv 3) qB)))))
      (qG (qP (qMi (pv 2)))))) qS)
      (qF (qV (i := 5) sc__law_stream.nd rfl (Or.inl rfl) (qO qj (qO qo (qO qp (qO qj (pv 0) qB) qB) qB) qB))
      (qF (xn PassesOwn.never rfl (zN rfl T.b_range (qA (pv 1) qE)) (ja (i := 4) sc__law_stream.nd rfl (Or.inl rfl)) (qF (qV (i := 5) sc__law_stream.nd rfl (Or.inl rfl) (qO qp (qO qp (qO qj (qO qo (pv 5) (qO qp (qO qf (pv 5) qB) qB)) qB) (pv 4)) qB))
      (qG (jD (kj F.plainAttrs_list F.slot_list_append F.type_list_append q9 (pv 2) (qA (pv 5) qE))))))
      (qG (qP (pv 2))))))), ?_⟩
  try dsimp only [jo, qi]
  refine ⟨sL0, fun z hz => ?_⟩
  have wz : ∀ (xs : List Int), Same H (upd H z (.lst (xs.map V.int))) := fun xs => qH hz _
  refine ⟨_, rfl, _, _, rfl, rfl, cpw (n := 40) (by decide), _, _, rfl, rfl, _, rfl, xo (fun _ => ?_) (fun _ => ?_)⟩
  · refine ⟨_, rfl, _, _, rfl, rfl, cdB (by decide) (by decide), ?_⟩
    refine ⟨_, rfl, n, rfl, by omega, by omega, zz (n := n.toNat) (fun i σ H' => ∃ (xs : List Int) (r : Int) (o p : Option V), σ = [some (.int c), some (.int n), some (.ref z), some (.int r), o, p] ∧ H' = upd H z (.lst (xs.map V.int)) ∧ xs.length = i ∧ (∀ x ∈ xs, 0 ≤ x ∧ x < 10000000019))
      ⟨[], _, none, none, rfl, rfl, rfl, (by simp)⟩ ?_ ?_⟩
    · rintro i σ H' hi ⟨xs, r, o, p, rfl, rfl, hl, hx⟩
      have f := fm r (show (0 : Int) < 10000000019 by decide)
      refine ⟨_, rfl, .inl ⟨rfl, _, SqL.of qD⟩, _, rfl, _, _, rfl, rfl, nz, z, _, _, rfl, rfl, qD, (by rw [List.length_map]; exact qc (by omega)), ?_⟩
      refine ⟨_, rfl, _, _, rfl, rfl, cdB (by decide) (by decide), xs ++ [r.fmod 10000000019], _, _, _, rfl, ?_, ?_, ?_⟩
      · rw [qE4, List.map_append]; rfl
      · rw [List.length_append, hl]; rfl
      · intro y hy
        rcases List.mem_append.mp hy with hy | hy
        · exact hx y hy
        · have e : y = r.fmod 10000000019 := by simpa using hy
          rw [e]; exact f
    · rintro σ H' ⟨xs, r, o, p, rfl, rfl, hl, hx⟩
      refine ⟨_, rfl, z, _, rfl, SqL.of qD, fun y hy => ?_⟩
      rw [← List.map_reverse]
      exact kk y xs.reverse _ ((wz xs).trans (qH hy _)) ((wz xs).free hy) qD (by rw [List.length_reverse]; exact hl) (fun x hx' => hx x (List.mem_reverse.mp hx'))
  · have f0 := fm c (show (0 : Int) < 2147483647 by decide)
    refine ⟨_, rfl, _, _, rfl, rfl, nz, _, _, rfl, rfl, _, _, rfl, rfl, cmR (by decide) (by decide), _, _, rfl, rfl, nz, ?_⟩
    have f1 := fm ((c.fmod 2147483647 + 1) * 48271) (show (0 : Int) < 2147483647 by decide)
    refine ⟨_, rfl, n, rfl, by omega, by omega, zz (n := n.toNat) (fun i σ H' => ∃ (xs : List Int) (r : Int) (o p : Option V), σ = [some (.int c), some (.int n), some (.ref z), o, p, some (.int r)] ∧ H' = upd H z (.lst (xs.map V.int)) ∧ xs.length = i ∧ (∀ x ∈ xs, 0 ≤ x ∧ x < 10000000019) ∧ 0 ≤ r ∧ r < 2147484647)
      ⟨[], _, none, none, rfl, rfl, rfl, (by simp), f1.1, by omega⟩ ?_ ?_⟩
    · rintro i σ H' hi ⟨xs, r, o, p, rfl, rfl, hl, hx, r0, r1⟩
      have f := fm (r * (r.fdiv 1009 + 69621)) (show (0 : Int) < 2147483647 by decide)
      refine ⟨_, rfl, _, rfl, _, _, rfl, rfl, cdB (by decide) (by decide), _, _, rfl, rfl, _, _, rfl, rfl, cmL (by omega) (by omega), _, _, rfl, rfl, nz, _, rfl, _, _, rfl, rfl, _, _, rfl, rfl, ?_⟩
      refine ⟨_, rfl, .inl ⟨rfl, _, SqL.of qD⟩, _, rfl, z, _, _, rfl, rfl, qD, (by rw [List.length_map]; exact qc (by omega)), ?_⟩
      refine ⟨xs ++ [(r * (r.fdiv 1009 + 69621)).fmod 2147483647 + (0 + (i : Int)) + 1], _, _, _, rfl, ?_, ?_, ?_, by omega, by omega⟩
      · rw [qE4, List.map_append]; rfl
      · rw [List.length_append, hl]; rfl
      · intro y hy
        rcases List.mem_append.mp hy with hy | hy
        · exact hx y hy
        · have e : y = (r * (r.fdiv 1009 + 69621)).fmod 2147483647 + (0 + (i : Int)) + 1 := by simpa using hy
          rw [e]; omega
    · rintro σ H' ⟨xs, r, o, p, rfl, rfl, hl, hx, _, _⟩
      exact ⟨_, rfl, kk z xs _ (wz xs) hz qD hl hx⟩
def SB (z : Addr) (H H' : Hp) : Prop := ∀ b u, b ≠ z → H b = some u → H' b = some u
theorem SB.refl (z : Addr) (H : Hp) : SB z H H := fun _ _ _ h => h
theorem SB.trans {z : Addr} {H H1 H2 : Hp} (a : SB z H H1) (b : SB z H1 H2) : SB z H H2 := fun c u n h => b c u n (a c u n h)
theorem jt {z : Addr} {H H' : Hp} (e : Same H H') : SB z H H' := fun b u _ h => e b u h
theorem qJu {z : Addr} {H : Hp} {o : HO} : SB z H (upd H z o) := fun b u n h => by rw [qY n]; exact h
theorem SB.ts {z : Addr} {H H' : Hp} {xs : List V} (e : SB z H H') (h : H z = some (.lst xs)) : TS H H' := fun b ys hb => e b _ (qCr hb h (by intro q; cases q)) hb
theorem SB.free {z : Addr} {H H' : Hp} (e : SB z H H') {y : Addr} (ny : y ≠ z) (h : H' y = none) : H y = none := by
  cases q : H y with
  | none => rfl
  | some u => rw [e y u ny q] at h; cases h
def wy : Sp := fun vs H Q _ => ∃ t b : Int, vs = [.int t, .int b] ∧ 0 < b ∧ b.natAbs < 2 ^ 8000 ∧ qIl H Q (xG t b) (jW t b)
theorem kN (T : Tx K mg a) : FnOk P w K mg base CX0 1 a.a__law_lowest a.f__law_lowest ["_law_top", "_law_bottom"] wy := by
  refine T.d__law_lowest.F.ok sc__law_lowest (fun vs H Q E h => ?_) (fun cdv A outer s H vs Q E hr h => ?_)
  · obtain ⟨t, b, rfl, _⟩ := h
    rfl
  obtain ⟨t, b, rfl, hb, hb2, k⟩ := h
  refine ⟨_, (qF (qV (i := 2) sc__law_lowest.nd rfl (Or.inl rfl) (qd qBr rfl T.b_abs rfl (qA (pv 0) qE)))
      (qF (qV (i := 3) sc__law_lowest.nd rfl (Or.inl rfl) (pv 1))
      (qF (qF3 PassesOwn.never (qL z8 (pv 3) qB (qU _)) (qG (qMn (i := 2) (j := 3) rfl sc__law_lowest.nd rfl rfl (by decide) rfl rfl (qA (pv 3) (qA (qO qj (pv 2) (pv 3)) qE)) rfl)))
      (qG (qP (ql (qA (qO qf (pv 0) (pv 2)) (qA (qO qf (pv 1) (pv 2)) qE)))))))), ?_⟩
  try dsimp only [jo, qi]
  refine ⟨_, rfl, t, rfl, _, rfl, ?_⟩
  refine qFu (fun σ H' => H' = H ∧ ∃ x y : Int, σ = [some (.int t), some (.int b), some (.int x), some (.int y)] ∧ 0 ≤ x ∧ 0 ≤ y ∧ Int.gcd x y = Int.gcd t b)
    (fun σ _ => match σ with | [_, _, _, some (.int y)] => y.natAbs | _ => 0) ⟨rfl, _, _, rfl, ?_, by omega, ?_⟩ ?_ ?_
  · split <;> omega
  · have e1 : (if t < 0 then -t else t) = ((t.natAbs : Nat) : Int) := by split <;> omega
    rw [e1]
    rfl
  · rintro σ H1 ⟨rfl, x, y, rfl, h0, h1, e⟩
    refine ⟨_, rfl, rfl, _, rfl, ?_⟩
    refine xo (fun c => ?_) (fun c => ?_)
    · have hy : y ≠ 0 := by simpa using c
      refine ⟨_, rfl, _, rfl, _, rfl, _, _, rfl, rfl, hy, _, _, rfl, ⟨rfl, y, x.fmod y, rfl, h1, Int.fmod_nonneg_of_pos x (by omega), ?_⟩, ?_⟩
      · rw [qF2]; exact e
      · exact qHt x y hy
    · have hy : y = 0 := by simpa using c
      subst hy
      have e2 : x = sg t b := by
        unfold sg
        rw [if_neg (by omega), ← e, Int.gcd_zero_right]
        omega
      obtain ⟨d1, d2⟩ := qFn (t := t) (b := b) (by omega) hb2
      have q' : qIl H1 Q (t.fdiv x) (b.fdiv x) := by rw [e2]; exact k
      exact ⟨_, rfl, _, rfl, _, _, rfl, rfl, (by rw [e2]; exact d1), _, rfl, _, rfl, _, _, rfl, rfl, (by rw [e2]; exact d2), sL2, q'⟩
  · rintro σ H1 Q1 Q2 hq h
    obtain ⟨v, e, s, k, hk, z⟩ := h
    exact ⟨v, e, s, k, hk, hq _ _ z⟩
theorem qBl {H : Hp} {zx : Addr} {ys : List Int} {x : Int} {Q : VK} (h : H zx = some (.lst ((ys ++ [x]).map V.int))) (q : ∀ H', SB zx H H' → H' zx = some (.lst (ys.map V.int)) → (∀ b, b ≠ zx → H' b = H b) → Q (.int x) H') : qOh (.ref zx) [] H Q := by
  refine ⟨zx, _, .int x, rfl, rfl, h, ?_, ?_⟩
  · rw [List.map_append, List.length_append, List.length_map]
    simp
  · have e : ((ys ++ [x]).map V.int).dropLast = ys.map V.int := by rw [List.map_append]; simp
    rw [e]
    exact q _ qJu qD fun b hb => qY hb
theorem xJ {α : Type} {xs : List α} {n : Nat} (h : xs.length = n + 1) : ∃ ys x, xs = ys ++ [x] ∧ ys.length = n := by
  have hne : xs ≠ [] := by intro q; rw [q] at h; simp at h
  exact ⟨xs.dropLast, xs.getLast hne, (List.dropLast_concat_getLast hne).symm, by rw [List.length_dropLast, h]; rfl⟩
def RE (H : Hp) (re : Addr) (A : Int) : Prop := Rd H re (.dK [(Sum.inr "a", .int A), (Sum.inr "reelb", .int 1000000000)]) ∧ 60 ≤ A ∧ A < 360
theorem qNy {z : Addr} {H H' : Hp} (e : SB z H H') {a : Addr} {u : HO} (n : a ≠ z) (h : Rd H a u) : Rd H' a u := by
  rcases h with h | ⟨o, h⟩
  · exact .inl (e _ _ n h)
  · exact .inr ⟨o, e _ _ n h⟩
theorem RE.ne {H : Hp} {re z : Addr} {A : Int} {xs : List V} (h : RE H re A) (hz : H z = some (.lst xs)) : re ≠ z := by
  rcases h.1 with q | ⟨o, q⟩
  · exact qCr q hz (by intro q; cases q)
  · exact qCr q hz (by intro q; cases q)
theorem RE.sb {z : Addr} {H H' : Hp} (e : SB z H H') {re : Addr} {A : Int} (n : re ≠ z) (h : RE H re A) : RE H' re A := ⟨qNy e n h.1, h.2⟩
theorem RE.same {H H' : Hp} (e : Same H H') {re : Addr} {A : Int} (h : RE H re A) : RE H' re A := ⟨qHy e h.1, h.2⟩
theorem RE.ga {H : Hp} {re : Addr} {A : Int} (h : RE H re A) : DGet H re (.str "a") (some (.int A)) := .inl ⟨_, Sum.inr "a", h.1, rfl, rfl⟩
theorem RE.gb {H : Hp} {re : Addr} {A : Int} (h : RE H re A) : DGet H re (.str "reelb") (some (.int 1000000000)) := .inl ⟨_, Sum.inr "reelb", h.1, rfl, rfl⟩
def stF (lo rs to bo len : Int) : Int := if to < 0 then lo * 7 * bo + rs * bo - 7 * (len - 1) * to else lo * 7 * bo + rs * bo
def ve (i : Int) : Int := if i < 0 then -i else i
def CF (A : Int) (m : Im) : Prop := ∃ (nm : Str) (N lo rs to bo len : Int), ((nm = "a" ∧ N = A) ∨ (nm = "reelb" ∧ N = 1000000000)) ∧ 1 ≤ len ∧ len ≤ 10 ∧ -6 ≤ to ∧ to ≤ 6 ∧ 1 ≤ bo ∧ bo ≤ 5 ∧ 0 ≤ lo ∧ lo + (((len - 1) * ve to).fdiv bo + 1) < N ∧ 0 ≤ rs ∧ rs < 7 ∧
  m = .clip nm (xG (stF lo rs to bo len) (7 * bo)) (jW (stF lo rs to bo len) (7 * bo)) (xG to bo) (jW to bo) len
theorem qF0 {x y X Y : Int} (hx : -X ≤ x ∧ x ≤ X) (hy : -Y ≤ y ∧ y ≤ Y) (hX : 0 ≤ X) (hY : 0 ≤ Y) : -(X * Y) ≤ x * y ∧ x * y ≤ X * Y := by
  have h1 : (x * y).natAbs ≤ X.natAbs * Y.natAbs := by
    rw [Int.natAbs_mul]
    exact Nat.mul_le_mul (by omega) (by omega)
  have h2 : ((X.natAbs * Y.natAbs : Nat) : Int) = X * Y := by
    rw [Int.natCast_mul]
    have e1 : (X.natAbs : Int) = X := by omega
    have e2 : (Y.natAbs : Int) = Y := by omega
    rw [e1, e2]
  omega
theorem qMb {lo rs to bo len : Int} (l0 : 0 ≤ lo) (l1 : lo ≤ 1000000000) (r0 : 0 ≤ rs) (r1 : rs < 7) (t0 : -6 ≤ to) (t1 : to ≤ 6) (b0 : 1 ≤ bo) (b1 : bo ≤ 5) (n0 : 1 ≤ len) (n1 : len ≤ 10) : (stF lo rs to bo len).natAbs < 2 ^ 60 := by
  have h1 := qF0 (x := lo * 7) (y := bo) (X := 7000000000) (Y := 5) ⟨by omega, by omega⟩ ⟨by omega, by omega⟩ (by decide) (by decide)
  have h2 := qF0 (x := rs) (y := bo) (X := 7) (Y := 5) ⟨by omega, by omega⟩ ⟨by omega, by omega⟩ (by decide) (by decide)
  have h3 := qF0 (x := 7 * (len - 1)) (y := to) (X := 63) (Y := 6) ⟨by omega, by omega⟩ ⟨by omega, by omega⟩ (by decide) (by decide)
  unfold stF
  split <;> omega
def rlE (A : Int) : Rls := fun n => if n = "a" then some A else if n = "reelb" then some 1000000000 else none
theorem CF.it {A : Int} {m : Im} (h : CF A m) (hA0 : 60 ≤ A) (hA : A < 360) : ItR (rlE A) m ∧ ImB m ∧ 1 ≤ m.mo ∧ m.mo ≤ 10 := by
  obtain ⟨nm, N, lo, rs, to, bo, len, hn, n0, n1, t0, t1, b0, b1, l0, l1, r0, r1, rfl⟩ := h
  have hf : 0 ≤ ((len - 1) * ve to).fdiv bo := by
    have := jL (p := (len - 1) * ve to) (q := bo) (by omega)
    have h0 : 0 ≤ (len - 1) * ve to := Int.mul_nonneg (by omega) (by unfold ve; split <;> omega)
    have : ¬ (((len - 1) * ve to).fdiv bo + 1 ≤ 0) := fun q => by
      have := Int.mul_le_mul_of_nonneg_right (c := bo) q (by omega)
      omega
    omega
  have lo1 : lo ≤ 1000000000 := by rcases hn with ⟨_, rfl⟩ | ⟨_, rfl⟩ <;> omega
  have hs := qMb l0 lo1 r0 r1 t0 t1 b0 b1 n0 n1
  have p110 : ∀ {i : Int}, i.natAbs < 2 ^ 60 → i.natAbs < 2 ^ 110 := fun h => Nat.lt_of_lt_of_le h (Nat.pow_le_pow_right (by decide) (by decide))
  have e60 : (100 : Nat) < 2 ^ 60 := by decide
  have g1 : Good 110 (xG (stF lo rs to bo len) (7 * bo)) (jW (stF lo rs to bo len) (7 * bo)) := qFp (by omega) (p110 hs) (p110 (by omega))
  have g2 : Good 110 (xG to bo) (jW to bo) := qFp (by omega) (p110 (by omega)) (p110 (by omega))
  have hr : rlE A nm = some N := by
    unfold rlE
    rcases hn with ⟨rfl, rfl⟩ | ⟨rfl, rfl⟩
    · rw [if_pos rfl]
    · rw [if_neg (by decide +kernel), if_pos rfl]
  have hc : Rc nm (xG (stF lo rs to bo len) (7 * bo)) (jW (stF lo rs to bo len) (7 * bo)) (xG to bo) (jW to bo) len (rlE A) N := ⟨g1, g2, Nat.lt_of_le_of_lt (show len.natAbs ≤ 10 by omega) (by decide), n0, hr, Nat.lt_of_le_of_lt (show N.natAbs ≤ 1000000000 by rcases hn with ⟨_, rfl⟩ | ⟨_, rfl⟩ <;> omega) (by decide)⟩
  refine ⟨fun n p q r s l e => ?_, hc.bn.mono (m := 700), n0, n1⟩
  cases e
  exact ⟨N, hc⟩
def qCs : Sp := fun vs H Q _ => ∃ (zx re : Addr) (xs : List Int) (A sz : Int), vs = [.ref zx, .ref re, .int sz] ∧ H zx = some (.lst (xs.map V.int)) ∧ 6 ≤ xs.length ∧ RE H re A ∧ 1 ≤ sz ∧ sz ≤ 10 ∧
  ∀ (v : V) (m : Im) (xs' : List Int) (H' : Hp), SB zx H H' → H' zx = some (.lst (xs'.map V.int)) → xs'.length + 6 = xs.length → CF A m → IsI H' m v → Q v H'
theorem vh (T : Tx K mg a) : FnOk P w K mg base CX0 2 a.a__law_clip a.f__law_clip ["_law_xs", "_law_reels_here", "_law_size"] qCs := by
  refine T.d__law_clip.F.ok sc__law_clip (fun vs H Q E h => ?_) (fun cdv A outer s H vs Q E hr h => ?_)
  · obtain ⟨zx, re, xs, A', sz, rfl, _⟩ := h
    rfl
  obtain ⟨zx, re, xs, A', sz, rfl, hz, hl, hre, hs1, hs2, kk⟩ := h
  have hu := hr.units
  have hu1 : (A.deeper (PyProof.Rows.envOfC (Str.ofString "_law_clip") (qC j2) s.heap.objs.size a.a__law_clip cdv)).units + 1 < cLine := by omega
  obtain ⟨n, hn⟩ : ∃ n, xs.length = n + 6 := ⟨xs.length - 6, by omega⟩
  obtain ⟨y1, x1, rfl, l1⟩ := xJ (n := n + 5) (by omega)
  obtain ⟨y2, x2, rfl, l2⟩ := xJ (n := n + 4) l1
  obtain ⟨y3, x3, rfl, l3⟩ := xJ (n := n + 3) l2
  obtain ⟨y4, x4, rfl, l4⟩ := xJ (n := n + 2) l3
  obtain ⟨y5, x5, rfl, l5⟩ := xJ (n := n + 1) l4
  obtain ⟨y6, x6, rfl, l6⟩ := xJ (n := n) l5
  have nre := hre.ne hz
  refine ⟨_, (qF (qV (i := 3) sc__law_clip.nd rfl (Or.inl rfl) (qJ jC (jI (qA qX (qA qX qE))) (qO qj (qO qf (ju F.plainAttrs_list F.slot_list_pop F.type_list_pop j7 (pv 0)) qB) qB) (fun _ _ => rfl)))
      (qF (qV (i := 4) sc__law_clip.nd rfl (Or.inl rfl) (qO qp qB (qO qj (qO qf (ju F.plainAttrs_list F.slot_list_pop F.type_list_pop j7 (pv 0)) qB) (pv 2))))
      (qF (qV (i := 5) sc__law_clip.nd rfl (Or.inl rfl) (qO jU (qO qj (qO qf (ju F.plainAttrs_list F.slot_list_pop F.type_list_pop j7 (pv 0)) qB) qB) qB))
      (qF (qV (i := 6) sc__law_clip.nd rfl (Or.inl rfl) (qO qp qB (qO qj (qO qf (ju F.plainAttrs_list F.slot_list_pop F.type_list_pop j7 (pv 0)) qB) qB)))
      (qF (qV (i := 7) sc__law_clip.nd rfl (Or.inl rfl) (qO qp (qO qf (qO qo (qO jU (pv 4) qB) (qd qBr rfl T.b_abs rfl (qA (pv 5) qE))) (pv 6)) qB))
      (qF (zY (qh (qL qBw (pv 7) (wf hu1 (pv 1) (pv 3) (fun _ _ => rfl)) (qU _)) (qF (qV (i := 5) sc__law_clip.nd rfl (Or.inl rfl) qB)
      (qG (qV (i := 7) sc__law_clip.nd rfl (Or.inl rfl) qB))) qS))
      (qF (qV (i := 8) sc__law_clip.nd rfl (Or.inl rfl) (qO qj (ju F.plainAttrs_list F.slot_list_pop F.type_list_pop j7 (pv 0)) (qO jU (wf hu1 (pv 1) (pv 3) (fun _ _ => rfl)) (pv 7))))
      (qF (qV (i := 9) sc__law_clip.nd rfl (Or.inl rfl) (qO qj (qO qf (ju F.plainAttrs_list F.slot_list_pop F.type_list_pop j7 (pv 0)) qB) qB))
      (qF (qV (i := 10) sc__law_clip.nd rfl (Or.inl rfl) (qO qp (qO qo (qO qo (pv 8) qB) (pv 6)) (qO qo (pv 9) (pv 6))))
      (qF (zY (qh (qL kH (pv 5) qB (qU _)) (qG (qV (i := 10) sc__law_clip.nd rfl (Or.inl rfl) (qO jU (pv 10) (qO qo (qO qo qB (qO jU (pv 4) qB)) (pv 5))))) qS))
      (qG (qP (ql (qA qX (qA (pv 3) (qA (qN T.d__law_lowest (kN T) hr rfl (qA (pv 10) (qA (qO qo qB (pv 6)) qE))) (qA (qN T.d__law_lowest (kN T) hr rfl (qA (pv 5) (qA (pv 6) qE))) (qA (pv 4) qE)))))))))))))))))), ?_⟩
  try dsimp only [jo, qi]
  refine ⟨sL2, fun ld hld => ?_⟩
  have w0 := qH hld (.lst [.str "a", .str "reelb"])
  have hz0 := w0 _ _ hz
  have nld : ld ≠ zx := (qR hz hld).symm
  refine ⟨_, rfl, .inl ⟨rfl, _, SqL.of hz0⟩, qBl hz0 fun H1 s1 hz1 k1 => ?_⟩
  have f1 := fm (x1.fdiv 3) (show (0 : Int) < 2 by decide)
  obtain ⟨v, hv, hor⟩ := at2 (x := V.str "a") (y := .str "reelb") f1.1 f1.2
  refine ⟨_, _, rfl, rfl, cdB (by decide) (by decide), _, _, rfl, rfl, nz, ld, _, _, v, rfl, rfl, SqL.of (s1 _ _ nld qD), hv, ?_⟩
  have sb1 : SB zx H H1 := (jt w0).trans s1
  have re1 := hre.sb sb1 nre
  obtain ⟨nm, N, rfl, hnm, hget⟩ : ∃ (nm : Str) (N : Int), v = .str nm ∧ ((nm = "a" ∧ N = A') ∨ (nm = "reelb" ∧ N = 1000000000)) ∧ ∀ {H' : Hp}, RE H' re A' → DGet H' re (.str nm) (some (.int N)) := by
    rcases hor with rfl | rfl
    · exact ⟨"a", A', rfl, .inl ⟨rfl, rfl⟩, fun h => h.ga⟩
    · exact ⟨"reelb", 1000000000, rfl, .inr ⟨rfl, rfl⟩, fun h => h.gb⟩
  have hN : 60 ≤ N ∧ N ≤ 1000000000 := by
    have := hre.2
    rcases hnm with ⟨_, rfl⟩ | ⟨_, rfl⟩ <;> omega
  refine ⟨_, rfl, .inl ⟨rfl, _, SqL.of hz1⟩, qBl hz1 fun H2 s2 hz2 k2 => ?_⟩
  have f2 := fm (x2.fdiv 3) (show (0 : Int) < sz by omega)
  refine ⟨_, _, rfl, rfl, cdB (by decide) (by decide), _, rfl, _, _, rfl, rfl, (by omega), _, _, rfl, rfl, ?_⟩
  refine ⟨_, rfl, .inl ⟨rfl, _, SqL.of hz2⟩, qBl hz2 fun H3 s3 hz3 k3 => ?_⟩
  have f3 := fm (x3.fdiv 3) (show (0 : Int) < 13 by decide)
  refine ⟨_, _, rfl, rfl, cdB (by decide) (by decide), _, _, rfl, rfl, nz, _, _, rfl, rfl, ?_⟩
  refine ⟨_, rfl, .inl ⟨rfl, _, SqL.of hz3⟩, qBl hz3 fun H4 s4 hz4 k4 => ?_⟩
  have f4 := fm (x4.fdiv 3) (show (0 : Int) < 5 by decide)
  refine ⟨_, _, rfl, rfl, cdB (by decide) (by decide), _, _, rfl, rfl, nz, _, _, rfl, rfl, ?_⟩
  have sb4 : SB zx H H4 := ((sb1.trans s2).trans s3).trans s4
  dsimp only
  generalize hlen : 1 + (x2.fdiv 3).fmod sz = len
  generalize hto : (x3.fdiv 3).fmod 13 - 6 = to
  generalize hbo : 1 + (x4.fdiv 3).fmod 5 = bo
  have n0 : 1 ≤ len := by omega
  have n1 : len ≤ 10 := by omega
  have t0 : -6 ≤ to := by omega
  have t1 : to ≤ 6 := by omega
  have b0 : 1 ≤ bo := by omega
  have b1 : bo ≤ 5 := by omega
  refine ⟨_, rfl, _, _, rfl, rfl, _, rfl, _, rfl, _, _, rfl, rfl, cmL (by omega) (by omega), _, rfl, _, _, rfl, rfl, cdB (by omega) (by omega), _, _, rfl, rfl, ?_⟩
  have ha : (if to < 0 then -to else to) = ve to := rfl
  rw [ha]
  have pos : ∀ i : Int, 0 ≤ i → 0 ≤ ((len - 1) * i).fdiv bo := fun i hi => by
    have h1 := jL (p := (len - 1) * i) (q := bo) (by omega)
    have h0 : 0 ≤ (len - 1) * i := Int.mul_nonneg (by omega) hi
    have : ¬ (((len - 1) * i).fdiv bo + 1 ≤ 0) := fun q => by
      have := Int.mul_le_mul_of_nonneg_right (c := bo) q (by omega)
      omega
    omega
  have abs0 : ∀ i : Int, 0 ≤ ve i := fun i => by unfold ve; split <;> omega
  refine ⟨fun σ' H' => H' = H4 ∧ ∃ to : Int, σ' = [some (.ref zx), some (.ref re), some (.int sz), some (.str nm), some (.int len), some (.int to), some (.int bo), some (.int (((len - 1) * ve to).fdiv bo + 1)), none, none, none] ∧ -6 ≤ to ∧ to ≤ 6 ∧ ((len - 1) * ve to).fdiv bo + 1 < N, ?_, ?_⟩
  · refine ⟨_, rfl, _, rfl, _, rfl, re, _, rfl, hget (hre.sb sb4 nre), _, _, rfl, rfl, _, rfl, xo (fun _ => ?_) (fun c => ?_)⟩
    · have ez : ((len - 1) * ve 0).fdiv bo + 1 = 1 := by
        have : ve 0 = 0 := rfl
        rw [this, Int.mul_zero, Int.zero_fdiv]; rfl
      refine ⟨rfl, 0, ?_, by decide, by decide, by rw [ez]; omega⟩
      rw [ez]
      rfl
    · exact ⟨rfl, to, rfl, t0, t1, by simpa using c⟩
  rintro σ' H' ⟨rfl, to, rfl, t0, t1, hfar⟩
  have hf0 := pos (ve to) (abs0 to)
  refine ⟨_, rfl, .inl ⟨rfl, _, SqL.of hz4⟩, qBl hz4 fun H5 s5 hz5 k5 => ?_⟩
  have sb5 := sb4.trans s5
  refine ⟨_, rfl, _, rfl, re, _, rfl, hget (hre.sb sb5 nre), _, rfl, _, _, rfl, rfl, _, _, rfl, rfl, (by omega), ?_⟩
  have f5 := fm x5 (show (0 : Int) < N - (((len - 1) * ve to).fdiv bo + 1) by omega)
  dsimp only
  generalize x5.fmod (N - (((len - 1) * ve to).fdiv bo + 1)) = lo at f5 ⊢
  refine ⟨_, rfl, .inl ⟨rfl, _, SqL.of hz5⟩, qBl hz5 fun H6 s6 hz6 k6 => ?_⟩
  have sb6 := sb5.trans s6
  have f6 := fm (x6.fdiv 3) (show (0 : Int) < 7 by decide)
  refine ⟨_, _, rfl, rfl, cdB (by decide) (by decide), _, _, rfl, rfl, nz, ?_⟩
  dsimp only
  generalize (x6.fdiv 3).fmod 7 = rs at f6 ⊢
  have m1 := qF0 (x := lo * 7) (y := bo) (X := 7000000000) (Y := 5) ⟨by omega, by omega⟩ ⟨by omega, by omega⟩ (by decide) (by decide)
  refine ⟨_, rfl, _, _, rfl, rfl, cmR (by decide) (by decide), _, rfl, _, _, rfl, rfl, cmR (by omega) (by omega), _, rfl, _, rfl, _, _, rfl, rfl, cmR (by omega) (by omega), _, _, rfl, rfl, ?_⟩
  refine ⟨fun σ' H' => H' = H6 ∧ ∃ st : Int, σ' = [some (.ref zx), some (.ref re), some (.int sz), some (.str nm), some (.int len), some (.int to), some (.int bo), some (.int (((len - 1) * ve to).fdiv bo + 1)), some (.int lo), some (.int rs), some (.int st)] ∧ st = stF lo rs to bo len, ?_, ?_⟩
  · refine ⟨_, rfl, _, _, rfl, rfl, _, rfl, xo (fun c => ?_) (fun c => ?_)⟩
    · have c' : to < 0 := by simpa using c
      refine ⟨_, rfl, _, rfl, _, _, rfl, rfl, _, _, rfl, rfl, cmL (by decide) (by decide), _, rfl, _, _, rfl, rfl, cmR (by omega) (by omega), _, _, rfl, rfl, rfl, _, rfl, ?_⟩
      unfold stF; rw [if_pos c']
    · have c' : ¬ to < 0 := by simpa using c
      refine ⟨rfl, _, rfl, ?_⟩
      unfold stF; rw [if_neg c']
  rintro σ' H' ⟨rfl, st, rfl, hst⟩
  refine ⟨_, rfl, _, rfl, _, rfl, _, _, rfl, rfl, cmL (by decide) (by decide), st, 7 * bo, rfl, by omega, ?_, fun p hp => ?_⟩
  · have : (7 * bo).natAbs < 2 ^ 6 := by omega
    exact Nat.lt_of_lt_of_le this (Nat.pow_le_pow_right (by decide) (by decide))
  have w7 := qH hp (.tup [.int (xG st (7 * bo)), .int (jW st (7 * bo))])
  refine ⟨_, rfl, _, rfl, to, bo, rfl, by omega, ?_, fun q hq => ?_⟩
  · have : bo.natAbs < 2 ^ 6 := by omega
    exact Nat.lt_of_lt_of_le this (Nat.pow_le_pow_right (by decide) (by decide))
  have w8 := qH hq (.tup [.int (xG to bo), .int (jW to bo)])
  refine ⟨_, rfl, sL5, fun u hu' => ?_⟩
  have w9 := qH hu' (.tup [.str "clip", .str nm, .ref p, .ref q, .int len])
  have w79 := (w7.trans w8).trans w9
  refine kk _ (.clip nm (xG st (7 * bo)) (jW st (7 * bo)) (xG to bo) (jW to bo) len) y6 _ (sb6.trans (jt w79)) (w79 _ _ hz6) (by simp) ?_ (isC qD (w9 _ _ (w8 _ _ qD)) (w9 _ _ qD))
  exact ⟨nm, N, lo, rs, to, bo, len, hnm, n0, n1, t0, t1, b0, b1, f5.1, by omega, f6.1, f6.2, by rw [hst]⟩
def TI (A : Int) (m : Im) : Prop := (∃ l, m = .gap l ∧ 1 ≤ l ∧ l ≤ 10) ∨ (∃ b l, m = .nest "low" b l ∧ 0 ≤ b ∧ b < 9 ∧ 1 ≤ l ∧ l ≤ 10) ∨ CF A m
def GG (ms : List Im) : Prop := ∀ (i : Nat) (l l' : Int), ms[i]? = some (.gap l) → ms[i + 1]? = some (.gap l') → False
def qC7 (ms : List Im) : Prop := ∀ l, ms[ms.length - 1]? ≠ some (.gap l)
theorem qEt {ms : List Im} {m : Im} (h : GG ms) (hl : qC7 ms ∨ ∀ l, m ≠ .gap l) : GG (ms ++ [m]) := by
  intro i l l' h1 h2
  have hi : i + 1 < (ms ++ [m]).length := (glt h2)
  rw [List.length_append, List.length_singleton] at hi
  by_cases hc : i + 1 < ms.length
  · rw [List.getElem?_append_left (by omega)] at h1
    rw [List.getElem?_append_left hc] at h2
    exact h i l l' h1 h2
  · have e : i + 1 = ms.length := by omega
    rw [List.getElem?_append_left (by omega)] at h1
    rw [List.getElem?_append_right (by omega), e, Nat.sub_self] at h2
    have e2 : m = .gap l' := by simpa using h2
    have e3 : ms.length - 1 = i := by omega
    rcases hl with hl | hl
    · exact hl l (by rw [e3]; exact h1)
    · exact hl l' e2
theorem qN0 {ms : List Im} (h : GG ms) : GG ms.dropLast := by
  intro i l l' h1 h2
  have hi := (glt h2)
  rw [List.length_dropLast] at hi
  rw [List.getElem?_dropLast, if_pos (by omega)] at h1 h2
  exact h i l l' h1 h2
theorem qMh {ms : List Im} {l : Int} (h : GG ms) (hl : ms[ms.length - 1]? = some (.gap l)) : qC7 ms.dropLast := by
  intro l' h1
  have hi := (glt h1)
  rw [List.length_dropLast] at hi h1
  rw [List.getElem?_dropLast, if_pos (by omega)] at h1
  have e : ms.length - 1 - 1 + 1 = ms.length - 1 := by omega
  exact h _ l' l h1 (by rw [e]; exact hl)
theorem qBa {z y : Addr} {H H' : Hp} {o : HO} (e : SB z H H') (h : H y = none) : SB z H (upd H' y o) := fun b u n hb => by
  rw [qY (qR hb h)]; exact e b u n hb
theorem qEk {H : Hp} {ms : List Im} {vs : List V} (h : IsIs H ms vs) (hne : ms ≠ []) : ∃ v m, vs[vs.length - 1]? = some v ∧ ms[ms.length - 1]? = some m ∧ IsI H m v := by
  have hl : 0 < ms.length := List.length_pos_iff.mpr hne
  have hi : vs.length - 1 < vs.length := by rw [h.len]; omega
  have ev : vs[vs.length - 1]? = some vs[vs.length - 1] := List.getElem?_eq_getElem hi
  obtain ⟨m, h1, h2⟩ := h.get ev
  refine ⟨_, m, ev, ?_, h2⟩
  rw [h.len] at h1
  exact h1
def qB1 : Sp := fun vs H Q _ => ∃ (zx re : Addr) (xs : List Int) (A : Int), vs = [.ref zx, .ref re, .int 10] ∧ H zx = some (.lst (xs.map V.int)) ∧ 36 ≤ xs.length ∧ RE H re A ∧
  ∀ (y : Addr) (ms : List Im) (xs' : List Int) (H' : Hp), SB zx H H' → H y = none → H' zx = some (.lst (xs'.map V.int)) → xs.length ≤ xs'.length + 36 → Tr H' y ms → ms.length ≤ 5 → (∀ m ∈ ms, TI A m) → GG ms → qC7 ms → Q (.ref y) H'
theorem qBb (T : Tx K mg a) : FnOk P w K mg base CX0 3 a.a__law_track a.f__law_track ["_law_xs", "_law_reels_here", "_law_size"] qB1 := by
  refine T.d__law_track.F.ok sc__law_track (fun vs H Q E h => ?_) (fun cdv A outer s H vs Q E hr h => ?_)
  · obtain ⟨zx, re, xs, A', rfl, _⟩ := h
    rfl
  obtain ⟨zx, re, xs, A', rfl, hz, hl, hre, kk⟩ := h
  have hu := hr.units
  have nre := hre.ne hz
  refine ⟨_, (qF (qV (i := 3) sc__law_track.nd rfl (Or.inl rfl) (jI qE))
      (qF (xn PassesOwn.never rfl (zN rfl T.b_range (qA (qO qj (qO qf (ju F.plainAttrs_list F.slot_list_pop F.type_list_pop j7 (pv 0)) qB) qB) qE)) (ja (i := 4) sc__law_track.nd rfl (Or.inl rfl)) (qF (qV (i := 5) sc__law_track.nd rfl (Or.inl rfl) (qO qj (qO qf (ju F.plainAttrs_list F.slot_list_pop F.type_list_pop j7 (pv 0)) qB) qB))
      (qG (qh (qAz (PW.pt (zH (qL xj (pv 5) qB (qU _)) (xl (PW.pt (xh (qL (qJw hu) (pv 3) (jI qE) (qU _)) (jc (qL z8 (qJ qI (qJ jC (pv 3) (qAh kO qB) (fun _ _ => rfl)) qB (fun _ _ => rfl)) qX (qU _))))))))) (qG (jD (kj F.plainAttrs_list F.slot_list_append F.type_list_append q9 (pv 3) (qA (ql (qA qX (qA (qO qp qB (qO qj (qO qf (ju F.plainAttrs_list F.slot_list_pop F.type_list_pop j7 (pv 0)) qB) (pv 2))) qE))) qE)))) (qG (qh (qL xj (pv 5) qB (qU _)) (qG (jD (kj F.plainAttrs_list F.slot_list_append F.type_list_append q9 (pv 3) (qA (ql (qA qX (qA qX (qA (qO qj (qO qf (ju F.plainAttrs_list F.slot_list_pop F.type_list_pop j7 (pv 0)) qB) qB) (qA (qO qp qB (qO qj (qO qf (ju F.plainAttrs_list F.slot_list_pop F.type_list_pop j7 (pv 0)) qB) (pv 2))) qE))))) qE)))) (qG (jD (kj F.plainAttrs_list F.slot_list_append F.type_list_append q9 (pv 3) (qA (qN T.d__law_clip (vh T) hr rfl (qA (pv 0) (qA (pv 1) (qA (pv 2) qE)))) qE))))))))))
      (qF (qh (qAz (PW.pt (zH (qL (qJt hu) (pv 3) (jI qE) (qU _)) (xl (qL xj (qJ qI (qJ jC (pv 3) (qAh kO qB) (fun _ _ => rfl)) qB (fun _ _ => rfl)) qX (qU _)))))) (qG (jD (ju F.plainAttrs_list F.slot_list_pop F.type_list_pop j7 (pv 3)))) qS)
      (qG (qP (pv 3)))))), ?_⟩
  try dsimp only [jo, qi]
  refine ⟨sL0, fun y hy => ?_⟩
  have w0 := qH hy (.lst [])
  have ny : y ≠ zx := (qR hz hy).symm
  obtain ⟨n, hn⟩ : ∃ n, xs.length = n + 1 := ⟨xs.length - 1, by omega⟩
  obtain ⟨y1, x1, rfl, l1⟩ := xJ hn
  refine ⟨_, rfl, .inl ⟨rfl, _, SqL.of (w0 _ _ hz)⟩, qBl (w0 _ _ hz) fun H1 s1 hz1 k1 => ?_⟩
  have f1 := fm (x1.fdiv 3) (show (0 : Int) < 6 by decide)
  refine ⟨_, _, rfl, rfl, cdB (by decide) (by decide), _, _, rfl, rfl, nz, _, rfl, by omega, by omega, zz (n := ((x1.fdiv 3).fmod 6).toNat) (fun i σ H' => ∃ (o1 o2 : Option V) (ms : List Im) (vs : List V) (xs' : List Int), σ = [some (.ref zx), some (.ref re), some (.int 10), some (.ref y), o1, o2] ∧ H' zx = some (.lst (xs'.map V.int)) ∧ n ≤ xs'.length + 7 * i ∧ H' y = some (.lst vs) ∧ IsIs H' ms vs ∧ ms.length ≤ i ∧ (∀ m ∈ ms, TI A' m) ∧ GG ms ∧ SB zx H H')
    ⟨none, none, [], [], y1, rfl, hz1, by omega, s1 _ _ ny qD, trivial, by simp, by simp, by intro i l l' h1; simp at h1, (jt w0).trans s1⟩ ?_ ?_⟩
  · rintro i σ H' hi ⟨o1, o2, ms, vs, xs', rfl, hzx, hxl, hv, hiv, hml, hti, hgg, sb⟩
    obtain ⟨n', hn'⟩ : ∃ n, xs'.length = n + 7 := ⟨xs'.length - 7, by omega⟩
    obtain ⟨u1, p1, rfl, lu1⟩ := xJ (n := n' + 6) (by omega)
    have hvl : vs.length ≤ i := by rw [hiv.len]; exact hml
    refine ⟨_, rfl, .inl ⟨rfl, _, SqL.of hzx⟩, qBl hzx fun H2 s2 hz2 k2 => ?_⟩
    have hiv2 := hiv.ts (s2.ts hzx)
    have hv2 := s2 _ _ ny hv
    have sb2 := sb.trans s2
    refine ⟨_, _, rfl, rfl, cdB (by decide) (by decide), _, _, rfl, rfl, nz, ?_⟩
    refine ⟨fun b H' => Same H2 H' ∧ (b = true → qC7 ms), ?_, ?_⟩
    · refine ⟨_, rfl, rfl, _, rfl, xo (fun _ => ?_) (fun _ => ⟨Same.refl _, by simp⟩)⟩
      refine ⟨_, rfl, sL0, fun en hen => qM4 ⟨vs, (qH hen _) _ _ hv2, hiv2.ts (qg (qH hen _))⟩ qD ⟨_, rfl, ?_⟩⟩
      have w3 := qH hen (.lst [])
      by_cases hne : ms = []
      · have e : ms.isEmpty = true := by rw [hne]; rfl
        rw [e]
        exact qr ⟨w3, fun _ l h => by rw [hne] at h; simp at h⟩
      · have e : ms.isEmpty = false := by
          cases ms with
          | nil => exact absurd rfl hne
          | cons => rfl
        rw [e]
        refine qk ?_
        obtain ⟨v, m, h1, h2, h4⟩ := qEk (hiv2.ts (qg w3)) hne
        obtain ⟨zi, xi, rfl, hzi, h0, _⟩ := h4.opn
        refine ⟨_, rfl, _, rfl, y, _, _, _, rfl, rfl, SqL.of (w3 _ _ hv2), qFz h1, zi, xi, _, _, rfl, rfl, SqT.of hzi, h0, rfl, _, rfl, w3, fun c l q => ?_⟩
        rw [h2] at q
        have q : m = .gap l := Option.some.inj q
        subst q
        revert c
        show (!decide (V.str "gap" = V.str "gap")) = true → False
        simp
    rintro b H3 ⟨w3, hb⟩
    have hv3 := w3 _ _ hv2
    have hiv3 := hiv2.ts (qg w3)
    have hz3 := w3 _ _ hz2
    have sb3 := sb2.trans (jt w3)
    cases b with
    | true =>
      refine qr ?_
      obtain ⟨u2, p2, rfl, lu2⟩ := xJ (n := n' + 5) lu1
      refine ⟨_, rfl, .inl ⟨rfl, _, SqL.of hv3⟩, _, rfl, .inl ⟨rfl, _, SqL.of hz3⟩, qBl hz3 fun H4 s4 hz4 k4 => ?_⟩
      have f2 := fm (p2.fdiv 3) (show (0 : Int) < 10 by decide)
      refine ⟨_, _, rfl, rfl, cdB (by decide) (by decide), _, rfl, _, _, rfl, rfl, nz, _, _, rfl, rfl, sL2, fun g hg => ?_⟩
      have w5 := qH hg (.tup [.str "gap", .int (1 + (p2.fdiv 3).fmod 10)])
      have hv5 := w5 _ _ (s4 _ _ ny hv3)
      refine ⟨y, _, _, rfl, rfl, hv5, qc (by omega), ?_⟩
      refine ⟨_, _, ms ++ [.gap (1 + (p2.fdiv 3).fmod 10)], _, u2, rfl, ?_, by omega, qD, (((hiv3.ts (s4.ts hz3)).ts (qg w5)).app (.one (isG qD))).ts (zG hv5), by simp; omega, ?_, qEt hgg (.inl (hb rfl)), qBa ((sb3.trans s4).trans (jt w5)) hy⟩
      · rw [qY ny.symm]; exact w5 _ _ hz4
      · intro m hm
        rcases List.mem_append.mp hm with hm | hm
        · exact hti m hm
        · have : m = .gap (1 + (p2.fdiv 3).fmod 10) := by simpa using hm
          exact .inl ⟨_, this, by omega, by omega⟩
    | false =>
      refine qk ?_
      refine ⟨_, rfl, rfl, _, rfl, xo (fun _ => ?_) (fun _ => ?_)⟩
      · obtain ⟨u2, p2, rfl, lu2⟩ := xJ (n := n' + 5) lu1
        obtain ⟨u3, p3, rfl, lu3⟩ := xJ (n := n' + 4) lu2
        refine ⟨_, rfl, .inl ⟨rfl, _, SqL.of hv3⟩, _, rfl, .inl ⟨rfl, _, SqL.of hz3⟩, qBl hz3 fun H4 s4 hz4 k4 => ?_⟩
        have f2 := fm (p2.fdiv 3) (show (0 : Int) < 9 by decide)
        refine ⟨_, _, rfl, rfl, cdB (by decide) (by decide), _, _, rfl, rfl, nz, _, rfl, .inl ⟨rfl, _, SqL.of hz4⟩, qBl hz4 fun H5 s5 hz5 k5 => ?_⟩
        have f3 := fm (p3.fdiv 3) (show (0 : Int) < 10 by decide)
        refine ⟨_, _, rfl, rfl, cdB (by decide) (by decide), _, rfl, _, _, rfl, rfl, nz, _, _, rfl, rfl, sL4, fun g hg => ?_⟩
        have w5 := qH hg (.tup [.str "nest", .str "low", .int ((p2.fdiv 3).fmod 9), .int (1 + (p3.fdiv 3).fmod 10)])
        have hv5 := w5 _ _ (s5 _ _ ny (s4 _ _ ny hv3))
        refine ⟨y, _, _, rfl, rfl, hv5, qc (by omega), ?_⟩
        refine ⟨_, _, ms ++ [.nest "low" ((p2.fdiv 3).fmod 9) (1 + (p3.fdiv 3).fmod 10)], _, u3, rfl, ?_, by omega, qD, ((((hiv3.ts (s4.ts hz3)).ts (s5.ts hz4)).ts (qg w5)).app (.one (isN qD))).ts (zG hv5), by simp; omega, ?_, qEt hgg (.inr fun l q => nomatch q), qBa (((sb3.trans s4).trans s5).trans (jt w5)) hy⟩
        · rw [qY ny.symm]; exact w5 _ _ hz5
        · intro m hm
          rcases List.mem_append.mp hm with hm | hm
          · exact hti m hm
          · have : m = .nest "low" ((p2.fdiv 3).fmod 9) (1 + (p3.fdiv 3).fmod 10) := by simpa using hm
            exact .inr (.inl ⟨_, _, this, by omega, by omega, by omega, by omega⟩)
      · refine ⟨_, rfl, .inl ⟨rfl, _, SqL.of hv3⟩, _, rfl, _, rfl, _, rfl, zx, re, u1, A', 10, rfl, hz3, by omega, hre.sb sb3 nre, by decide, by decide, fun v m u' H4 s4 hz4 hl4 hcf hI => ?_⟩
        have hv5 := s4 _ _ ny hv3
        refine ⟨y, _, _, rfl, rfl, hv5, qc (by omega), ?_⟩
        have hng : ∀ l, m ≠ .gap l := fun l q => by
          obtain ⟨_, _, _, _, _, _, _, _, _, _, _, _, _, _, _, _, _, _, e⟩ := hcf
          rw [q] at e
          cases e
        refine ⟨_, _, ms ++ [m], _, u', rfl, ?_, by omega, qD, ((hiv3.ts (s4.ts hz3)).app (.one hI)).ts (zG hv5), by simp; omega, ?_, qEt hgg (.inr hng), qBa (sb3.trans s4) hy⟩
        · rw [qY ny.symm]; exact hz4
        · intro m' hm
          rcases List.mem_append.mp hm with hm | hm
          · exact hti m' hm
          · have : m' = m := by simpa using hm
            rw [this]; exact .inr (.inr hcf)
  rintro σ H' ⟨o1, o2, ms, vs, xs', rfl, hzx, hxl, hv, hiv, hml, hti, hgg, sb⟩
  have hm5 : ms.length ≤ 5 := by omega
  have hxl' : (y1 ++ [x1]).length ≤ xs'.length + 36 := by rw [hn]; omega
  refine ⟨fun b H2 => Same H' H2 ∧ (b = true → ∃ l, ms[ms.length - 1]? = some (.gap l)) ∧ (b = false → qC7 ms), ?_, ?_⟩
  · refine ⟨_, rfl, sL0, fun en hen => qN1 ⟨vs, (qH hen _) _ _ hv, hiv.ts (qg (qH hen _))⟩ qD ⟨_, rfl, ?_⟩⟩
    have w3 := qH hen (.lst [])
    by_cases hne : ms = []
    · have e : ms.isEmpty = true := by rw [hne]; rfl
      rw [e]
      exact qk ⟨w3, by simp, fun _ l h => by rw [hne] at h; simp at h⟩
    · have e : ms.isEmpty = false := by
        cases ms with
        | nil => exact absurd rfl hne
        | cons => rfl
      rw [e]
      refine qr ?_
      obtain ⟨v, m, h1, h2, h4⟩ := qEk (hiv.ts (qg w3)) hne
      obtain ⟨zi, xi, rfl, hzi, h0, _⟩ := h4.opn
      refine ⟨_, rfl, _, rfl, y, _, _, _, rfl, rfl, SqL.of (w3 _ _ hv), qFz h1, zi, xi, _, _, rfl, rfl, SqT.of hzi, h0, rfl, _, rfl, w3, fun c => ?_, fun c l q => ?_⟩
      · obtain ⟨l, rfl⟩ := qLk (by simpa using c)
        exact ⟨l, h2⟩
      · rw [h2] at q
        have q : m = .gap l := Option.some.inj q
        subst q
        revert c
        show decide (V.str "gap" = V.str "gap") = false → False
        simp
  rintro b H2 ⟨w2, hb, hb'⟩
  have hv2 := w2 _ _ hv
  have hiv2 := hiv.ts (qg w2)
  cases b with
  | true =>
    obtain ⟨l, hl2⟩ := hb rfl
    have hne : ms ≠ [] := by intro q; rw [q] at hl2; simp at hl2
    obtain ⟨v, m, h1, h2, h4⟩ := qEk hiv2 hne
    refine qr ⟨_, rfl, .inl ⟨rfl, _, SqL.of hv2⟩, y, _, v, rfl, rfl, hv2, h1, _, rfl, ?_⟩
    refine kk y ms.dropLast xs' _ (qBa (sb.trans (jt w2)) hy) hy ?_ hxl' ⟨_, qD, hiv2.dl.ts (zG hv2)⟩ (by rw [List.length_dropLast]; omega) (fun m hm => hti m (List.dropLast_subset _ hm)) (qN0 hgg) (qMh hgg hl2)
    rw [qY ny.symm]; exact w2 _ _ hzx
  | false => exact qk ⟨_, rfl, kk y ms xs' _ (sb.trans (jt w2)) hy (w2 _ _ hzx) hxl' ⟨_, hv2, hiv2⟩ hm5 hti hgg (hb' rfl)⟩
def qB5 : Sp := fun vs H Q _ => ∃ c : Int, vs = [.int c] ∧ ∀ (re : Addr) (A : Int) (H' : Hp), Same H H' → H re = none → H' re = some (.dK [(Sum.inr "a", .int A), (Sum.inr "reelb", .int 1000000000)]) → 60 ≤ A → A < 360 → Q (.ref re) H'
theorem qCk (T : Tx K mg a) : FnOk P w K mg base CX0 1 a.a__law_reels a.f__law_reels ["_law_cell"] qB5 := by
  refine T.d__law_reels.F.ok qBp (fun vs H Q E h => ?_) (fun cdv A outer s H vs Q E hr h => ?_)
  · obtain ⟨c, rfl, _⟩ := h
    rfl
  obtain ⟨c, rfl, kk⟩ := h
  refine ⟨_, (qG (qP (qKp (qFs qX (qO qp qB (qO qj (pv 0) qB)) (qFs qX (qO qJ4 qB qB) qK5)) rfl rfl (by simp) (by decide)))), ?_⟩
  try dsimp only [jo, qi]
  refine fun re hre => ?_
  have f := fm c (show (0 : Int) < 300 by decide)
  refine ⟨_, rfl, _, _, rfl, rfl, nz, _, _, rfl, rfl, _, _, rfl, rfl, cpw (n := 9) (by decide), ?_⟩
  refine ⟨qD, [(Sum.inr "a", .int (60 + c.fmod 300)), (Sum.inr "reelb", .int (10 ^ (9 : Int).toNat))], rfl, (by show 2 ≤ 15; decide), ?_⟩
  rw [qE4]
  have em : ∀ x y : V, qAv [] [((Sum.inr ("a" : Str) : Key), x), (Sum.inr ("reelb" : Str), y)] = [(Sum.inr ("a" : Str), x), (Sum.inr ("reelb" : Str), y)] := fun x y => by rfl
  rw [em]
  have e9 : (10 : Int) ^ (9 : Int).toNat = 1000000000 := by decide
  rw [e9]
  exact kk re _ _ (qH hre _) hre qD (by omega) (by omega)
def qD4 (K : W.Frag) : Sp := fun vs H Q _ => ∃ (tz dz rd : Addr) (rl : Rls) (ts : List (List Im)) (tie : List Int) (r : Res), vs = [.ref tz, .ref dz, .ref rd] ∧ TabD H tz rd rl ts tie ∧ DdX K H rd dz rl ts tie r ∧ r ≠ .clip ∧ (∀ m, r ≠ .short m) ∧
  (r = .place → ∀ H', Same H H' → Q (.str "noplace") H') ∧ (r = .mixed → ∀ H', Same H H' → Q (.str "mixed") H') ∧ ∀ ts', r = .good ts' → ∀ (t' : Addr) (H' : Hp), Same H H' → NewTab H H' t' ts' tie → Q (.ref t') H'
theorem qD9 (T : Tx K mg a) : FnOk P w K mg base CX0 11 a.a__law_done a.f__law_done ["_law_table_here", "_law_deed_here", "_law_reels_here"] (qD4 K) := by
  refine T.d__law_done.F.ok sc__law_done (fun vs H Q E h => ?_) (fun cdv A outer s H vs Q E hr h => ?_)
  · obtain ⟨tz, dz, rd, rl, ts, tie, r, rfl, _⟩ := h
    rfl
  obtain ⟨tz, dz, rd, rl, ts, tie, r, rfl, hP, hD, nc, ns, k0, k1, k2⟩ := h
  obtain ⟨Exn, hEx⟩ : ∃ Exn : Value → Option Addr → Hp → Prop, Exn = fun B od H' => Same H H' ∧ ((B = .ref a.k_NoPlace ∧ r = .place) ∨ (B = .ref a.k_Mixed ∧ r = .mixed)) := ⟨_, rfl⟩
  refine ⟨_, (qF (qV (i := 3) sc__law_done.nd rfl (Or.inl rfl) qCo)
      (qF (qKe (Exn) sc__law_done.nd (fun _ => (qG (qV (i := 3) sc__law_done.nd rfl (Or.inl rfl) (zw T.d_deed_done (zy T) hr rfl (qA (pv 0) (qA (pv 1) (qA (pv 2) qE))))))) (PHs.cons .none rfl T.c_Mixed (fun _ _ => (qG (qV (i := 3) sc__law_done.nd rfl (Or.inl rfl) qX))) (PHs.cons .none rfl T.c_NoPlace (fun _ _ => (qG (qV (i := 3) sc__law_done.nd rfl (Or.inl rfl) qX))) PHs.nil)))
      (qG (qP (pv 3))))), ?_⟩
  try dsimp only [jo, qi]
  subst hEx
  refine ⟨?_, ?_⟩
  · refine ⟨_, rfl, _, rfl, _, rfl, tz, dz, rd, rl, ts, tie, r, rfl, hP, hD, fun h H' e => ⟨e, .inl ⟨rfl, h⟩⟩, fun h H' e => ⟨e, .inr ⟨rfl, h⟩⟩, fun h => absurd h nc, fun m h => absurd h (ns m), fun ts' h t' H' e hN => ?_⟩
    exact ⟨_, rfl, k2 ts' h t' H' e hN⟩
  · rintro ea ⟨B1, B2⟩ σ' H' ⟨sH, hB⟩ hn hl'
    obtain ⟨o1, o2, o3, o4, rfl⟩ : ∃ o1 o2 o3 o4, σ' = [o1, o2, o3, o4] := by
      match σ', hl' with
      | [o1, o2, o3, o4], _ => exact ⟨o1, o2, o3, o4, rfl⟩
    have eo : ∀ o : HO, Same H (upd H' ea o) := fun o => sH.trans (qH hn _)
    rcases hB with ⟨e1, h⟩ | ⟨e1, h⟩
    · dsimp only at e1; subst e1
      exact ⟨false, T.yPM, qk ⟨true, T.yPP, qr ⟨_, rfl, k0 h _ (eo _)⟩⟩⟩
    · dsimp only at e1; subst e1
      exact ⟨true, T.yMM, qr ⟨_, rfl, k1 h _ (eo _)⟩⟩
def qAk : Sp := fun vs H Q _ => ∃ (tz : Addr) (ts : List (List Im)) (tie : List Int), vs = [.ref tz] ∧ TabF H (.ref tz) ts tie ∧ ts.length ≤ 8 ∧ ∀ (t : Addr) (H' : Hp), Same H H' → TabF H' (.ref t) ts tie → Q (.ref t) H'
theorem qAc (T : Tx K mg a) : FnOk P w K mg base CX0 1 a.a__law_copied a.f__law_copied ["_law_table_here"] qAk := by
  refine T.d__law_copied.F.ok qAf (fun vs H Q E h => ?_) (fun cdv A outer s H vs Q E hr h => ?_)
  · obtain ⟨tz, ts, tie, rfl, _⟩ := h
    rfl
  obtain ⟨tz, ts, tie, rfl, ⟨tt, tl, ti, zs, e0, h2, h3, h4, h5⟩, hl, kk⟩ := h
  cases e0
  have hzl := h4.len
  refine ⟨_, (qG (qP (ql (qA (wk [] [] rfl (jZ (qJ qI (pv 0) qB (fun _ _ => rfl))) (fun _ _ _ _ => (kx (vH (K := K) rfl) rfl T.b_list rfl (qA (pv 0) qE)))) (qA (kx z0 rfl T.b_list rfl (qA (qJ qI (pv 0) qB (fun _ _ => rfl)) qE)) qE))))), ?_⟩
  try dsimp only [jo, qi]
  refine (qZ rfl (SqT.of h2) at0 ⟨tl, rfl, ⟨_, SqL.of h3⟩, ku (K := K) (a := tl) (xs := zs) (fun j acc H2 => TrsAt H2 (ts.take j) acc ∧ Same H H2) ⟨trivial, Same.refl _⟩ ?_ ?_ ?_⟩)
  · rintro j acc H2 hj ⟨ht, e2⟩
    exact ⟨SqL.of (e2 _ _ h3), qc (by rw [ht.len, List.length_take]; omega)⟩
  · rintro j x acc H2 hj hx ⟨ht, e2⟩
    obtain ⟨ms1, z, hms, rfl, us, hz, his⟩ := h4.get hx
    refine ⟨_, rfl, z, us, rfl, .inl (SqL.of (e2 _ _ hz)), fun l hl' => Nxt.mk hj ⟨?_, e2.trans (qH hl' _)⟩⟩
    have w3 := qH hl' (.lst us)
    have etk : ts.take (j + 1) = ts.take j ++ [ms1] := by rw [List.take_add_one, hms]; rfl
    rw [etk]
    exact wa (ht.same w3) ⟨us, qD, his.ts (qg (e2.trans w3))⟩
  rintro acc H2 ⟨ht, e2⟩ d hd
  rw [hzl, List.take_length] at ht
  have w3 := qH hd (.lst acc)
  have e3 := e2.trans w3
  refine (qZ rfl (SqT.of (e3 _ _ h2)) at1 ⟨ti, _, rfl, .inl (SqL.of (e3 _ _ h5)), fun l hl' => ⟨sL2, fun t ht' => ?_⟩⟩)
  have w5 := qH hl' (.lst (tie.map V.int))
  have w6 := qH ht' (.tup [.ref d, .ref l])
  exact kk t _ ((e3.trans w5).trans w6) ⟨t, d, l, acc, rfl, qD, (w5.trans w6) _ _ qD, ht.same ((w3.trans w5).trans w6), w6 _ _ qD⟩
def Dk.oth : Dk → Dk
  | .lin t m => .opn t m.mo
  | d => d
theorem qKq (d : Dk) : d.oth.t = d.t := by cases d <;> rfl
theorem qHg (d : Dk) : d.oth.hi = d.hi := by cases d <;> rfl
theorem qIs {d : Dk} (hp : d.push = true) : d.oth.laid = d.laid.map fun m => .gap m.mo := by
  cases d <;> first | rfl | cases hp
theorem wq (n : Int) (b : Bool) : chF [] n b = [n] := by
  unfold chF
  rw [if_neg (by simp)]
theorem chF_mem {tie : List Int} {n k : Int} {b : Bool} : k ∈ chF tie n b ↔ k = n ∨ (b = true ∧ n ∈ tie ∧ k ∈ tie) := by
  unfold chF
  split
  · rename_i h
    simp only [List.mem_cons, List.mem_filter, decide_eq_true_eq]
    constructor
    · rintro (h1 | ⟨h1, h2⟩)
      · exact .inl h1
      · exact .inr ⟨h.1, h.2, h1⟩
    · rintro (h1 | ⟨_, _, h1⟩)
      · exact .inl h1
      · by_cases hk : k = n
        · exact .inl hk
        · exact .inr ⟨h1, hk⟩
  · rename_i h
    simp only [List.mem_singleton]
    constructor
    · exact .inl
    · rintro (h1 | ⟨h1, h2, _⟩)
      · exact h1
      · exact absurd ⟨h1, h2⟩ h
theorem qJm {ts : List (List Im)} {i k : Nat} {ms : List Im} (hi : i < ts.length) : (ts.set i ms).getD k [] = if k = i then ms else ts.getD k [] := by
  rw [List.getD_eq_getElem?_getD, List.getD_eq_getElem?_getD, List.getElem?_set]
  by_cases h : i = k
  · subst h
    rw [if_pos rfl, if_pos hi, if_pos rfl]
    rfl
  · rw [if_neg h, if_neg (fun e => h e.symm)]
theorem qDb (ts0 : List (List Im)) (d : Dk) (n : Int) (k : Nat) (hk : k < ts0.length) : ∀ ns : List Int, (∀ x ∈ ns, 0 ≤ x) → (v9 ts0 d n ns).getD k [] = if (k : Int) ∈ ns then qLf (ts0.getD k []) d.t d.hi (vR d n (k : Int)) else ts0.getD k [] := by
  intro ns hns
  rw [← List.reverse_reverse ns] at hns ⊢
  generalize ns.reverse = rs at hns ⊢
  induction rs with
  | nil => rw [if_neg (by simp)]; rfl
  | cons x rs ih =>
    have ih' := ih fun y hy => hns y (by simp at hy ⊢; exact .inl hy)
    have hx : 0 ≤ x := hns x (by simp)
    rw [List.reverse_cons, qFx]
    by_cases hxl : x.toNat < ts0.length
    · rw [qJm (by rw [zd]; exact hxl), ih']
      by_cases hkx : k = x.toNat
      · have ex : x = (k : Int) := by omega
        subst ex
        rw [if_pos hkx, if_pos (by simp)]
        rfl
      · have ex : (k : Int) ≠ x := by omega
        rw [if_neg hkx]
        by_cases hm : (k : Int) ∈ rs.reverse
        · rw [if_pos hm, if_pos (List.mem_append_left _ hm)]
        · rw [if_neg hm, if_neg (by rw [List.mem_append, List.mem_singleton]; exact fun h => h.elim hm ex)]
    · rw [List.set_eq_of_length_le (by rw [zd]; omega), ih']
      have ex : (k : Int) ≠ x := by omega
      by_cases hm : (k : Int) ∈ rs.reverse
      · rw [if_pos hm, if_pos (List.mem_append_left _ hm)]
      · rw [if_neg hm, if_neg (by rw [List.mem_append, List.mem_singleton]; exact fun h => h.elim hm ex)]
theorem qKt {ts : List (List Im)} {tie : List Int} {d : Dk} {n : Nat} (hn : n < ts.length) (ht : ∀ x ∈ tie, 0 ≤ x) : (v9 ts d (n : Int) (chF tie (n : Int) d.push)).getD n [] = (v9 ts d (n : Int) (chF [] (n : Int) d.push)).getD n [] := by
  rw [qDb ts d _ n hn _ (fun x hx => (chF_mem.mp hx).elim (fun h => by omega) fun h => ht x h.2.2),
    qDb ts d _ n hn _ (fun x hx => (chF_mem.mp hx).elim (fun h => by omega) fun h => absurd h.2.2 (by simp)),
    if_pos (chF_mem.mpr (.inl rfl)), if_pos (chF_mem.mpr (.inl rfl))]
theorem qKs {ts : List (List Im)} {tie : List Int} {d : Dk} {n k : Nat} (hk : k < ts.length) (hkn : k ≠ n) (ht : ∀ x ∈ tie, 0 ≤ x) : (v9 ts d (n : Int) (chF tie (n : Int) d.push)).getD k [] = if d.push = true ∧ (n : Int) ∈ tie ∧ (k : Int) ∈ tie then (v9 ts d.oth (k : Int) (chF [] (k : Int) d.oth.push)).getD k [] else ts.getD k [] := by
  have e : (k : Int) ≠ (n : Int) := by omega
  rw [qDb ts d _ k hk _ (fun x hx => (chF_mem.mp hx).elim (fun h => by omega) fun h => ht x h.2.2)]
  by_cases h : d.push = true ∧ (n : Int) ∈ tie ∧ (k : Int) ∈ tie
  · rw [if_pos h, if_pos (chF_mem.mpr (.inr h)), wq, qDb ts d.oth _ k hk _ (fun x hx => by rw [List.mem_singleton] at hx; omega), if_pos (by simp), qKq, qHg]
    unfold vR
    rw [if_neg e, if_pos rfl, qIs h.1]
  · rw [if_neg h, if_neg fun hm => (chF_mem.mp hm).elim e h]
def qBt : Sp := fun vs H Q _ => ∃ (dz : Addr) (n k : Int) (d : Dk), vs = [.ref dz, .int k] ∧ DAt H dz n d ∧ d.push = true ∧ (∀ m, d.lay = some m → m.wd ≠ "mix") ∧ ∀ (dz' : Addr) (H' : Hp), Same H H' → DAt H' dz' k d.oth → Q (.ref dz') H'
theorem qBi (T : Tx K mg a) : FnOk P w K mg base CX0 1 a.a__law_other a.f__law_other ["_law_deed_here", "_law_number"] qBt := by
  refine T.d__law_other.F.ok qBh (fun vs H Q E h => ?_) (fun cdv A outer s H vs Q E hr h => ?_)
  · obtain ⟨dz, n, k, d, rfl, _⟩ := h
    rfl
  obtain ⟨dz, n, k, d, rfl, hD, hp, hm, kk⟩ := h
  have hu := hr.units
  refine ⟨_, (qF (qh (qL xj (qJ qI (pv 0) qB (fun _ _ => rfl)) qX (qU _)) (qG (qP (ql (qA qX (qA (pv 1) (qA (qJ qI (pv 0) qB (fun _ _ => rfl)) (qA (qJ qI (qJ qI (pv 0) qB (fun _ _ => rfl)) (qAh kO qB) (fun _ _ => rfl)) qE))))))) qS)
      (qG (qP (qO qKj (ql (qA (qJ qI (pv 0) qB (fun _ _ => rfl)) (qA (pv 1) qE))) (wL qL0 (pv 0) (vJ qB) qE5))))), ?_⟩
  try dsimp only [jo, qi]
  have r0 := Same.refl H
  cases d with
  | lin t m =>
    obtain ⟨v, hd, hi⟩ := hD
    obtain ⟨z, xs, rfl, hz, _, al⟩ := hi.opn
    refine ⟨_, rfl, dz, _, _, _, rfl, rfl, SqT.of hd, rfl, rfl, _, rfl, qr ?_⟩
    refine ⟨_, rfl, _, rfl, dz, _, _, _, rfl, rfl, SqT.of hd, rfl, _, rfl, dz, _, _, _, rfl, rfl, SqT.of hd, rfl, _, rfl, z, _, _, _, rfl, rfl, SqT.of hz, al, sL4, fun p hp' => ?_⟩
    refine kk p _ (qH hp' _) ?_
    show upd H p _ p = some (.tup [.str "open", .int k, .int t, .int m.mo])
    rw [qLx (hm m rfl)]
    exact qD
  | opn t l =>
    have hd : H dz = some (.tup [.str "open", .int n, .int t, .int l]) := hD
    refine ⟨_, rfl, dz, _, _, _, rfl, rfl, SqT.of hd, rfl, rfl, _, rfl, qk ?_⟩
    refine ⟨_, rfl, dz, _, _, _, rfl, rfl, SqT.of hd, rfl, _, rfl, sL2, fun p hp' => ?_⟩
    have w1 := qH hp' (.tup [.str "open", .int k])
    refine ⟨_, rfl, 2, rfl, dz, _, rfl, SqT.of (w1 _ _ hd), (fun h => absurd h.1 (by show ¬ (2 : Nat) = 0; decide)), fun q hq => ?_⟩
    have ec : qEe [.str "open", .int n, .int t, .int l] (some 2) none = [.int t, .int l] := qBk _ 2
    have w2 := qH hq (.tup (qEe [.str "open", .int n, .int t, .int l] (some 2) none))
    refine ⟨p, q, _, _, rfl, rfl, SqT.of (w2 _ _ qD), SqT.of qD, by simp, (by rw [ec]; show 4 ≤ sizeLine; decide), fun h => (by rw [ec] at h; cases h), fun _ r hr' => ?_⟩
    refine kk r _ ((w1.trans w2).trans (qH hr' _)) ?_
    show upd _ r _ r = some (.tup [.str "open", .int k, .int t, .int l])
    rw [ec]
    exact qD
  | cls t u =>
    have hd : H dz = some (.tup [.str "close", .int n, .int t, .int u]) := hD
    refine ⟨_, rfl, dz, _, _, _, rfl, rfl, SqT.of hd, rfl, rfl, _, rfl, qk ?_⟩
    refine ⟨_, rfl, dz, _, _, _, rfl, rfl, SqT.of hd, rfl, _, rfl, sL2, fun p hp' => ?_⟩
    have w1 := qH hp' (.tup [.str "close", .int k])
    refine ⟨_, rfl, 2, rfl, dz, _, rfl, SqT.of (w1 _ _ hd), (fun h => absurd h.1 (by show ¬ (2 : Nat) = 0; decide)), fun q hq => ?_⟩
    have ec : qEe [.str "close", .int n, .int t, .int u] (some 2) none = [.int t, .int u] := qBk _ 2
    have w2 := qH hq (.tup (qEe [.str "close", .int n, .int t, .int u] (some 2) none))
    refine ⟨p, q, _, _, rfl, rfl, SqT.of (w2 _ _ qD), SqT.of qD, by simp, (by rw [ec]; show 4 ≤ sizeLine; decide), fun h => (by rw [ec] at h; cases h), fun _ r hr' => ?_⟩
    refine kk r _ ((w1.trans w2).trans (qH hr' _)) ?_
    show upd _ r _ r = some (.tup [.str "close", .int k, .int t, .int u])
    rw [ec]
    exact qD
  | _ => cases hp
theorem qH0 : ∀ (zs : List Im), (∀ z ∈ zs, 0 ≤ z.mo) → 0 ≤ (zs.map Im.mo).sum := fun zs => by
  induction zs with
  | nil => intro _; simp
  | cons z zs ih => intro h; have := ih fun y hy => h y (by simp [hy]); have := h z (by simp); rw [List.map_cons, List.sum_cons]; omega
theorem qDo : ∀ (xs : List Im) (b : Int) (i0 : Nat), (∀ x ∈ xs, 0 ≤ x.mo) → kU b i0 xs (b + (xs.map Im.mo).sum) = none
  | [], b, i0, _ => rfl
  | x :: xs, b, i0, hx => by
    have h0 := hx x (by simp)
    have hs := qH0 xs fun y hy => hx y (by simp [hy])
    have ih := qDo xs (b + x.mo) (i0 + 1) fun y hy => hx y (by simp [hy])
    rw [kU, List.map_cons, List.sum_cons, if_neg (by omega)]
    rw [show b + (x.mo + (xs.map Im.mo).sum) = b + x.mo + (xs.map Im.mo).sum by omega]
    exact ih
theorem qMm {pre post : List Im} (h0 : ∀ m ∈ pre, 0 ≤ m.mo) (hl : ∀ i m, pre.length = i + 1 → pre[i]? = some m → m.wd ≠ "mix") (hp : ∀ m ∈ post, 0 < m.mo) :
    cbF (pre ++ post) (pre.map Im.mo).sum = none ∨ ∃ i : Nat, pre.length = i + 1 ∧ cbF (pre ++ post) (pre.map Im.mo).sum = some ((i : Int), ((i + 1 : Nat) : Int)) := by
  have hz : (pre.map Im.mo).sum = 0 + (pre.map Im.mo).sum := by omega
  cases post with
  | nil =>
    left
    unfold cbF nbF
    rw [List.append_nil, hz, qDo pre 0 0 h0]
  | cons m post =>
    have e := vf pre 0 0 m post h0 (hp m (by simp))
    rw [← hz, Nat.zero_add] at e
    unfold cbF nbF
    rw [e]
    dsimp only
    by_cases hn : pre.length = 0
    · left
      rw [if_pos (.inr (by omega))]
    · obtain ⟨i, hi⟩ : ∃ i, pre.length = i + 1 := ⟨pre.length - 1, by omega⟩
      obtain ⟨x, hx⟩ : ∃ x, pre[i]? = some x := ⟨_, List.getElem?_eq_getElem (by omega)⟩
      have hx' : (pre ++ m :: post)[i]? = some x := by rw [List.getElem?_append_left (by omega)]; exact hx
      have ek : xK (pre ++ m :: post) ((pre.length : Int) - 1) = x.wd := kd hx' (by omega)
      rw [if_neg (fun h => h.elim (fun h => h rfl) fun h => by omega), ek, if_neg (hl i x hi hx)]
      dsimp only
      by_cases hc : xK (pre ++ m :: post) ((pre.length : Int) - 1) = "clip" ∧ xK (pre ++ m :: post) (pre.length : Int) = "clip"
      · right
        refine ⟨i, hi, ?_⟩
        rw [if_pos hc, show (pre.length : Int) - 1 = (i : Int) by omega, show (pre.length : Int) = ((i + 1 : Nat) : Int) by omega]
      · left
        rw [if_neg hc]
structure Wk (A : Int) (ms0 : List Im) (j : Nat) (ms : List Im) : Prop where
  ex : ∃ pre : List Im, ms = pre ++ ms0.drop j ∧ (pre.map Im.mo).sum = qF1 ms0 j ∧ pre.length ≤ 2 * j ∧ (∀ i m, pre.length = i + 1 → pre[i]? = some m → m.wd ≠ "mix") ∧ ∀ m ∈ pre, TI A m ∨ ∃ l, m = .mix l ∧ 1 ≤ l ∧ l ≤ 5
theorem TI.mo {A : Int} {m : Im} (h : TI A m) : 1 ≤ m.mo ∧ m.mo ≤ 10 := by
  rcases h with ⟨l, rfl, h1, h2⟩ | ⟨b, l, rfl, _, _, h1, h2⟩ | ⟨nm, N, lo, rs, to, bo, len, _, h1, h2, _, _, _, _, _, _, _, _, rfl⟩
  · exact ⟨h1, h2⟩
  · exact ⟨h1, h2⟩
  · exact ⟨h1, h2⟩
theorem TI.nm {A : Int} {m : Im} (h : TI A m) : m.wd ≠ "mix" := by
  rcases h with ⟨l, rfl, h1, h2⟩ | ⟨b, l, rfl, _, _, h1, h2⟩ | ⟨nm, N, lo, rs, to, bo, len, _, h1, h2, _, _, _, _, _, _, _, _, rfl⟩
  · show ("gap" : Str) ≠ "mix"; decide +kernel
  · show ("nest" : Str) ≠ "mix"; decide +kernel
  · show ("clip" : Str) ≠ "mix"; decide +kernel
theorem Wk.start {A : Int} {ms0 : List Im} : Wk A ms0 0 ms0 := ⟨[], rfl, rfl, Nat.le_refl _, fun i m h => (by cases h), fun m h => absurd h (by simp)⟩
theorem qCw {ms : List Im} {j : Nat} {m : Im} (h : ms[j]? = some m) : qF1 ms (j + 1) = qF1 ms j + m.mo := by
  unfold qF1
  rw [List.take_add_one, h]
  simp
theorem qDe {xs : List Im} {x y : Im} {i : Nat} (hl : (xs ++ [x]).length = i + 1) (h : (xs ++ [x])[i]? = some y) : y = x := by
  rw [List.length_append, List.length_singleton] at hl
  rw [List.getElem?_append_right (by omega), show i - xs.length = 0 by omega] at h
  simpa using h.symm
theorem Wk.next {A : Int} {ms0 ms : List Im} {j : Nat} (h : Wk A ms0 j ms) (hT : ∀ m ∈ ms0, TI A m) : Wk A ms0 (j + 1) ms := by
  obtain ⟨pre, e, hs, hl, hn, hI⟩ := h.ex
  cases hj : ms0[j]? with
  | none =>
    have hjl : ms0.length ≤ j := List.getElem?_eq_none_iff.mp hj
    refine ⟨pre, ?_, ?_, by omega, hn, hI⟩
    · rw [e, List.drop_eq_nil_of_le hjl, List.drop_eq_nil_of_le (by omega)]
    · rw [hs]; unfold qF1; rw [List.take_of_length_le hjl, List.take_of_length_le (by omega)]
  | some m =>
    have hm := hT m (List.mem_of_getElem? hj)
    refine ⟨pre ++ [m], ?_, ?_, by rw [List.length_append, List.length_singleton]; omega, fun i y h1 h2 => ?_, fun y hy => ?_⟩
    · rw [e, zp hj]; simp
    · rw [qCw hj, List.map_append, List.sum_append, hs]; simp
    · rw [qDe h1 h2]; exact hm.nm
    · rcases List.mem_append.mp hy with h' | h'
      · exact hI y h'
      · rw [List.mem_singleton] at h'; subst h'; exact .inl hm
theorem Wk.cb {A : Int} {ms0 ms : List Im} {j : Nat} (h : Wk A ms0 j ms) (hT : ∀ m ∈ ms0, TI A m) : cbF ms (qF1 ms0 j) = none ∨ ∃ i : Nat, cbF ms (qF1 ms0 j) = some ((i : Int), ((i + 1 : Nat) : Int)) ∧ ∀ l : Int, 1 ≤ l → l ≤ 5 → Wk A ms0 (j + 1) (ms.take (i + 1) ++ [.mix l] ++ ms.drop (i + 1)) := by
  obtain ⟨pre, e, hs, hl, hn, hI⟩ := h.ex
  have h0 : ∀ m ∈ pre, 0 ≤ m.mo := fun m hm => by
    rcases hI m hm with h | ⟨l, rfl, _⟩
    · have := h.mo; omega
    · exact Int.le_refl _
  have hp : ∀ m ∈ ms0.drop j, 0 < m.mo := fun m hm => by have := (hT m (List.mem_of_mem_drop hm)).mo; omega
  have hc := qMm h0 hn hp
  rw [hs, ← e] at hc
  rcases hc with hc | ⟨i, hi, hc⟩
  · exact .inl hc
  refine .inr ⟨i, hc, fun l l1 l5 => ?_⟩
  have et : ms.take (i + 1) = pre := by rw [e, ← hi, List.take_left]
  have ed : ms.drop (i + 1) = ms0.drop j := by rw [e, ← hi, List.drop_left]
  rw [et, ed]
  obtain ⟨k1, k2⟩ := wH hc
  cases hj : ms0[j]? with
  | none =>
    have hjl : ms0.length ≤ j := List.getElem?_eq_none_iff.mp hj
    rw [List.drop_eq_nil_of_le hjl, List.append_nil] at e
    exfalso
    unfold xK at k2
    rw [if_neg (by omega), List.getElem?_eq_none (by rw [e, hi]; omega)] at k2
    exact absurd k2 (by decide +kernel)
  | some m =>
    have hm := hT m (List.mem_of_getElem? hj)
    refine ⟨pre ++ [.mix l] ++ [m], ?_, ?_, ?_, fun i y h1 h2 => ?_, fun y hy => ?_⟩
    · rw [zp hj]; simp
    · rw [qCw hj, List.map_append, List.sum_append, List.map_append, List.sum_append, hs]
      simp [Im.mo]
    · rw [List.length_append, List.length_append, List.length_singleton, List.length_singleton]; omega
    · rw [qDe h1 h2]; exact hm.nm
    · rcases List.mem_append.mp hy with h' | h'
      · rcases List.mem_append.mp h' with h'' | h''
        · exact hI y h''
        · rw [List.mem_singleton] at h''; exact .inr ⟨l, h'', l1, l5⟩
      · rw [List.mem_singleton] at h'; subst h'; exact .inl hm
theorem qNj {P : Program} {w : World} {K : W.Frag} {mg : Str → Option Value} {base : Heap} {k : Nat} {f : Addr} {fd : FuncData} {ps : List Str} {sp : Sp} (F : FnOk P w K mg base (CXR P w) k f fd ps sp) : FnOk P w K mg base CX0 k f fd ps (fun vs H Q _ => sp vs H Q fun _ _ _ => False) := by
  refine ⟨fun vs H Q E h => F.len _ _ _ _ h, fun A outer s H args us vs Q E hr he hb hv hs => codeAny_mono (F.run A outer s H args us vs Q (fun _ _ _ => False) hr he hb hv hs) fun r s' hq => ?_⟩
  cases r with
  | error e =>
    obtain ⟨_, _, _, _, _, _, _, _, _, q⟩ := hq
    exact q.elim
  | ok fl => cases fl <;> exact hq
def qDa (K : W.Frag) : Sp := fun vs H Q _ => ∃ (tz dz rd : Addr) (rl : Rls) (ts : List (List Im)) (tie : List Int) (ts' : List (List Im)), vs = [.ref tz, .ref dz, .ref rd] ∧ TabD H tz rd rl ts tie ∧ DdX K H rd dz rl ts tie (.good ts') ∧ ∀ (t' : Addr) (H' : Hp), Same H H' → NewTab H H' t' ts' tie → Q (.ref t') H'
theorem vj (T : Tx K mg a) : FnOk P w K mg base CX0 10 a.a_deed_done a.f_deed_done ["table", "deed", "reels"] (qDa K) :=
  (qNj (zy T)).imp fun vs H Q E h => by
    obtain ⟨tz, dz, rd, rl, ts, tie, ts', rfl, hP, hD, kk⟩ := h
    exact ⟨tz, dz, rd, rl, ts, tie, _, rfl, hP, hD, (fun h => by cases h), (fun h => by cases h), (fun h => by cases h), (fun m h => by cases h), fun ts'' h => by cases h; exact kk⟩
theorem RE.at {H : Hp} {re : Addr} {A : Int} (h : RE H re A) : ReelsAt H re (rlE A) := by
  intro n N e
  unfold rlE at e
  split at e
  · rename_i hn; cases e; subst hn; exact ⟨_, h.1, rfl⟩
  · split at e
    · rename_i hn; cases e; subst hn; exact ⟨_, h.1, rfl⟩
    · cases e
def TM (A : Int) (m : Im) : Prop := TI A m ∨ ∃ l, m = .mix l ∧ 1 ≤ l ∧ l ≤ 5
theorem TM.it {A : Int} {m : Im} (h : TM A m) (hA0 : 60 ≤ A) (hA : A < 360) : ItR (rlE A) m ∧ ImB m ∧ 0 ≤ m.mo ∧ m.mo ≤ 10 := by
  rcases h with (⟨l, rfl, h1, h2⟩ | ⟨b, l, rfl, _, _, h1, h2⟩ | h) | ⟨l, rfl, h1, h2⟩
  · exact ⟨fun n p q r s l e => (by cases e), trivial, by show 0 ≤ l; omega, h2⟩
  · exact ⟨fun n p q r s l e => (by cases e), trivial, by show 0 ≤ l; omega, h2⟩
  · obtain ⟨q1, q2, q3, q4⟩ := h.it hA0 hA
    exact ⟨q1, q2, by omega, q4⟩
  · exact ⟨fun n p q r s l e => (by cases e), trivial, by show (0 : Int) ≤ 0; decide, by show (0 : Int) ≤ 10; decide⟩
structure TbM (A : Int) (ts : List (List Im)) (tie : List Int) : Prop where
  l3 : ts.length = 3
  ms : ∀ ms ∈ ts, ms.length ≤ 17 ∧ ∀ m ∈ ms, TM A m
  tl : tie.length ≤ 3
  tin : ∀ x ∈ tie, ∃ k : Nat, x = (k : Int) ∧ k < ts.length
theorem TbM.tabD {A : Int} {H : Hp} {tz re : Addr} {ts : List (List Im)} {tie : List Int} (h : TbM A ts tie) (ht : TabF H (.ref tz) ts tie) (hr : RE H re A) : TabD H tz re (rlE A) ts tie := by
  refine ⟨ht, fun ms hm => ?_, by have := h.l3; omega, by have := h.tl; omega, h.tin, hr.at⟩
  obtain ⟨q1, q2⟩ := h.ms ms hm
  exact ⟨⟨fun m hm' => ⟨((q2 m hm').it hr.2.1 hr.2.2).2.1, ((q2 m hm').it hr.2.1 hr.2.2).2.2.1⟩, by omega⟩, by omega, fun m hm' => ((q2 m hm').it hr.2.1 hr.2.2).1⟩
theorem Wk.tm {A : Int} {ms0 ms : List Im} {j : Nat} (h : Wk A ms0 j ms) (hT : ∀ m ∈ ms0, TI A m) (hl : ms0.length ≤ 5) (hj : j ≤ 6) : ms.length ≤ 17 ∧ ∀ m ∈ ms, TM A m := by
  obtain ⟨pre, e, hs, hn, _, hI⟩ := h.ex
  subst e
  refine ⟨by rw [List.length_append, List.length_drop]; omega, fun m hm => ?_⟩
  rcases List.mem_append.mp hm with h' | h'
  · exact hI m h'
  · exact .inl (hT m (List.mem_of_mem_drop h'))
def qN3 (K : W.Frag) (C : Addr) (i : Option Nat) (tb : (Value → Option Addr → L2.St → Hp → Prop) → L2.TS) (ts : L2.TS) : L2.TS := fun D σ H => ∃ Ex, qMc K Ex C i (tb Ex) ts D σ H
theorem qLm {X : Cx} {body : List Stmt} {b₀ : Stmt} {suite : List Stmt} {x : Str} {C : Addr} {nm : Option Str} {i : Option Nat} {np hpos pos : PySem.Pos} {tb : (Value → Option Addr → L2.St → Hp → Prop) → L2.TS} {ts : L2.TS}
    (hcl : qD6 X nm i) (hN : X.N.Nodup) (hg : Gl X x) (hm : X.mg x = some (.ref C))
    (hb : ∀ Ex l, PSs ((pnX X l).wish (XES (pnX X l) Ex)) body (tb Ex)) (hs : ∀ l ea, PSs (hdX (pnX X l) ea).nox (b₀ :: suite) ts)
    (hstk : X.stack = X.env :: X.outer := by rfl) (hfr : X.env.frame = some X.env.locals := by rfl) (hex : X.ex = [] := by rfl) (hdb : (x == ("__debug__" : Str)) = false := by decide) :
    PS X (.Try body [.ExceptHandler (some (.Name x np)) nm (b₀ :: suite) hpos] [] [] pos) (qN3 X.K C i tb ts) := by
  have q := fun Ex => qKn (np := np) (hpos := hpos) (pos := pos) Ex hcl hN hg hm (hb Ex) hs hstk hfr hex hdb
  unfold L2.PS at q ⊢
  rintro pins s σ H D I ⟨Ex, h⟩
  exact q Ex pins s σ H D I h
theorem qHp : ∀ (ms : List Im) (b : Int) (j : Nat) (x : Int), (∀ m ∈ ms, m.wd ≠ "mix") → (b :: zI b ms)[j]? = some x → x = b + qF1 ms j ∧ 0 ≤ x - b ∨ (∃ m ∈ ms, m.mo < 0)
  | [], b, 0, x, _, h => by
    have e : x = b := by simpa using h.symm
    left
    rw [e]
    exact ⟨by simp [qF1], by omega⟩
  | [], b, j + 1, x, _, h => by simp [zI] at h
  | m :: ms, b, 0, x, _, h => by
    have e : x = b := by simpa using h.symm
    left
    rw [e]
    exact ⟨by simp [qF1], by omega⟩
  | m :: ms, b, j + 1, x, hw, h => by
    have hm := hw m (by simp)
    rw [List.getElem?_cons_succ, kP hm] at h
    have em := qLx hm
    rcases qHp ms (b + m.l) j x (fun y hy => hw y (by simp [hy])) h with ⟨e, h0⟩ | ⟨y, hy, h0⟩
    · by_cases hn : m.mo < 0
      · exact .inr ⟨m, by simp, hn⟩
      · left
        have eb : qF1 (m :: ms) (j + 1) = m.mo + qF1 ms j := by unfold qF1; rw [List.take_succ_cons, List.map_cons, List.sum_cons]
        rw [eb]
        constructor <;> omega
    · exact .inr ⟨y, by simp [hy], h0⟩
theorem TbM.set {A : Int} {ts : List (List Im)} {tie : List Int} {ms : List Im} (h : TbM A ts tie) (i : Nat) (hm : ms.length ≤ 17 ∧ ∀ m ∈ ms, TM A m) : TbM A (ts.set i ms) tie := by
  refine ⟨by rw [List.length_set]; exact h.l3, fun x hx => ?_, h.tl, fun x hx => by rw [List.length_set]; exact h.tin x hx⟩
  rcases List.mem_or_eq_of_mem_set hx with h' | h'
  · exact h.ms x h'
  · subst h'; exact hm
theorem qIv {ts : List (List Im)} {i : Nat} {ms : List Im} (h : ts[i]? = some ms) : ts.set i ms = ts := by
  apply List.ext_getElem?
  intro k
  rw [List.getElem?_set]
  split
  · rename_i e
    subst e
    rw [if_pos (glt h), h]
  · rfl
def qCd : Sp := fun vs H Q _ => ∃ (tz re : Addr) (ts : List (List Im)) (tie : List Int) (A c : Int), vs = [.ref tz, .ref re, .int c] ∧ TabF H (.ref tz) ts tie ∧ TbM A ts tie ∧ (∀ ms ∈ ts, ms.length ≤ 5 ∧ ∀ m ∈ ms, TI A m) ∧ RE H re A ∧ 0 ≤ c ∧ c < 2147483700 ∧
  ∀ (t' : Addr) (ts' : List (List Im)) (H' : Hp), Same H H' → TabF H' (.ref t') ts' tie → TbM A ts' tie → Q (.ref t') H'
theorem qB6 (T : Tx K mg a) : FnOk P w K mg base CX0 11 a.a__law_mixed a.f__law_mixed ["_law_table_here", "_law_reels_here", "_law_cell"] qCd := by
  refine T.d__law_mixed.F.ok sc__law_mixed (fun vs H Q E h => ?_) (fun cdv A outer s H vs Q E hr h => ?_)
  · obtain ⟨tz, re, ts, tie, A', c, rfl, _⟩ := h
    rfl
  obtain ⟨tz, re, ts, tie, A', c, rfl, hT, hM, hI, hre, c0, c1, kk⟩ := h
  refine ⟨_, (qF (xn PassesOwn.never rfl (zN rfl T.b_range (qA (qd jY rfl T.b_len rfl (qA (qJ qI (pv 0) qB (fun _ _ => rfl)) qE)) qE)) (ja (i := 3) sc__law_mixed.nd rfl (Or.inl rfl)) (qG (xn PassesOwn.never rfl (jZ (qN T.d_borders_of (qBd T) hr rfl (qA (qJ jC (qJ qI (pv 0) qB (fun _ _ => rfl)) (pv 3) (fun _ _ => rfl)) qE))) (ja (i := 4) sc__law_mixed.nd rfl (Or.inl rfl)) (qF (qV (i := 2) sc__law_mixed.nd rfl (Or.inl rfl) (qO qj (qO qp (qO qo (pv 2) qB) qB) qB))
      (qF (zY (qLm .none sc__law_mixed.nd rfl T.c_NoPlace (fun _ _ => (qG (qV (i := 5) sc__law_mixed.nd rfl (Or.inl rfl) (qJa T.d_most_mix (vk T) hr rfl (qA (qJ (qJo (K := K) rfl) (qJ (qA8 (K := K) rfl) (pv 0) qB (fun _ _ => rfl)) (pv 3) (fun _ _ => rfl)) (qA (pv 4) (qA (pv 1) qE))))))) (fun _ _ => (qG (qV (i := 5) sc__law_mixed.nd rfl (Or.inl rfl) qB)))))
      (qG (qh (qAz (PW.pt (zH (qL qBs (pv 5) qB (qU _)) (xl (qL qBs (qO qj (qO qf (pv 2) qB) qB) qB (qU _)))))) (qG (qV (i := 0) sc__law_mixed.nd rfl (Or.inl rfl) (qN T.d_deed_done (vj T) hr rfl (qA (pv 0) (qA (ql (qA qX (qA (pv 3) (qA (pv 4) (qA (qO qp qB (qO qj (qO qf (pv 2) qB) (qd (zn rfl) rfl T.b_min rfl (qA (pv 5) (qA qB qE))))) qE))))) (qA (pv 1) qE)))))) qS)))))))
      (qG (qP (pv 0)))), ?_⟩
  try dsimp only [jo, qi]
  obtain ⟨tt, tl, ti, zs, e0, g2, g3, g4, g5⟩ := id hT
  cases e0
  have hzl := g4.len
  have l3 := hM.l3
  refine ⟨_, rfl, tz, _, _, _, rfl, rfl, SqT.of g2, at0, tl, zs, rfl, .inl (SqL.of g3), _, rfl, by omega, by omega, zz (n := ((zs.length : Nat) : Int).toNat) (fun i σ H' => ∃ (t1 : Addr) (ts1 : List (List Im)) (c : Int) (o1 o2 o3 : Option V), σ = [some (.ref t1), some (.ref re), some (.int c), o1, o2, o3] ∧ TabF H' (.ref t1) ts1 tie ∧ TbM A' ts1 tie ∧ (∀ k ms, i ≤ k → ts1[k]? = some ms → ms.length ≤ 5 ∧ ∀ m ∈ ms, TI A' m) ∧ 0 ≤ c ∧ c < 2147483700 ∧ Same H H')
    ⟨tz, ts, c, none, none, none, rfl, hT, hM, fun k ms _ hk => hI ms (List.mem_of_getElem? hk), c0, c1, Same.refl _⟩ ?_ ?_⟩
  · rintro i σ H' hi ⟨t1, ts1, c, o1, o2, o3, rfl, hT1, hM1, hI1, c0, c1, e⟩
    obtain ⟨_, tl1, ti1, zs1, e0, q2, q3, q4, q5⟩ := id hT1
    cases e0
    have hzl1 := q4.len
    have l31 := hM1.l3
    obtain ⟨v1, hv1⟩ : ∃ v, zs1[i]? = some v := ⟨_, List.getElem?_eq_getElem (by omega)⟩
    obtain ⟨ms0, z, hms, rfl, tT⟩ := q4.get hv1
    have ai : atI zs1 (0 + (i : Int)) = some (.ref z) := by rw [Int.zero_add]; exact jb hv1
    obtain ⟨m5, mT⟩ := hI1 i ms0 (Nat.le_refl _) hms
    refine (qZ rfl (SqT.of q2) at0 ⟨_, rfl, tl1, _, _, _, rfl, rfl, SqL.of q3, ai, z, ms0, rfl, tT, by omega, fun y H2 e2 hy hy2 => ?_⟩)
    refine ⟨y, rfl, ⟨_, SqL.of hy2⟩, xZ (K := K) (a := y) (xs := (0 :: zI 0 ms0).map V.int) (fun j σ H' => ∃ (t2 : Addr) (ms : List Im) (c : Int) (o2 o3 : Option V), σ = [some (.ref t2), some (.ref re), some (.int c), some (.int (0 + (i : Int))), o2, o3] ∧ TabF H' (.ref t2) (ts1.set i ms) tie ∧ Wk A' ms0 j ms ∧ 0 ≤ c ∧ c < 2147483700 ∧ Same H2 H') ⟨t1, ms0, c, o2, o3, rfl, ?_, Wk.start, c0, c1, Same.refl _⟩ ?_ ?_ ?_⟩
    · rw [qIv hms]; exact hT1.same e2
    · rintro j σ H3 hj ⟨t2, ms, c, o2, o3, rfl, _, _, _, _, e3⟩
      exact SqL.of (e3 _ _ hy2)
    · rintro j x σ H3 hx ⟨t2, ms, c, o2, o3, rfl, hT2, hW, c0, c1, e3⟩
      obtain ⟨t, ht, rfl⟩ : ∃ t : Int, (0 :: zI 0 ms0)[j]? = some t ∧ x = .int t := by
        rw [List.getElem?_map] at hx
        cases hq : (0 :: zI 0 ms0)[j]? with
        | none => rw [hq] at hx; cases hx
        | some k => rw [hq] at hx; cases hx; exact ⟨k, rfl, rfl⟩
      have hj6 : j ≤ 6 := by
        have h1 := (glt ht)
        rw [List.length_cons] at h1
        have := kY 0 ms0
        omega
      obtain ⟨et, ht0⟩ : t = qF1 ms0 j ∧ 0 ≤ t := by
        rcases qHp ms0 0 j t (fun m hm => (mT m hm).nm) ht with h | ⟨m, hm, h⟩
        · omega
        · have := (mT m hm).mo; omega
      have hMs := hM1.set i (hW.tm mT m5 hj6)
      have eH3 := (e.trans e2).trans e3
      have hre3 := hre.same eH3
      have hD3 := hMs.tabD hT2 hre3
      have f0 := fm (c * 48271 + 11) (show (0 : Int) < 2147483647 by decide)
      refine ⟨_, rfl, _, _, rfl, rfl, cmR (by decide) (by decide), _, _, rfl, rfl, _, _, rfl, rfl, nz, ?_⟩
      dsimp only
      generalize (c * 48271 + 11).fmod 2147483647 = c' at f0 ⊢
      obtain ⟨_, tl2, ti2, zs2, e0, r2, r3, r4, r5⟩ := id hT2
      cases e0
      have hil : i < ts1.length := by omega
      have hms2 : (ts1.set i ms)[i]? = some ms := by rw [List.getElem?_set, if_pos rfl, if_pos hil]
      obtain ⟨v2, hv2⟩ : ∃ v, zs2[i]? = some v := ⟨_, List.getElem?_eq_getElem (by rw [r4.len, List.length_set]; omega)⟩
      obtain ⟨ms', z2, hms', rfl, tT2⟩ := r4.get hv2
      rw [hms2] at hms'
      cases hms'
      have ai2 : atI zs2 (0 + (i : Int)) = some (.ref z2) := by rw [Int.zero_add]; exact jb hv2
      refine ⟨fun σ H' => ∃ M : Int, σ = [some (.ref t2), some (.ref re), some (.int c'), some (.int (0 + (i : Int))), some (.int t), some (.int M)] ∧ Same H3 H' ∧ (0 < M → mmF (rlE A') ms t = some M), ?_, ?_⟩
      · refine ⟨fun B od σ' H' => B = .ref a.k_NoPlace ∧ Same H3 H' ∧ σ' = [some (.ref t2), some (.ref re), some (.int c'), some (.int (0 + (i : Int))), some (.int t), o3], ?_, ?_⟩
        · exact (qZ rfl (SqT.of r2) at0 ⟨_, rfl, tl2, _, _, _, rfl, rfl, SqL.of r3, ai2, _, rfl, _, rfl, z2, re, ms, _, some t, rlE A', rfl, tT2, (hD3.ok ms (List.mem_of_getElem? hms2)).2.2, hD3.re, .int t, fun _ H' e' => ⟨rfl, e', rfl⟩, fun M h H' e' => ⟨M, rfl, e', fun _ => h⟩⟩)
        · rintro ea ⟨B1, B2⟩ σ' H' ⟨hB, sH, rfl⟩ hn hl'
          dsimp only at hB
          subst hB
          exact ⟨T.yPP, 0, rfl, sH.trans (qH hn _), fun h => absurd h (by decide)⟩
      rintro σ H4 ⟨M, rfl, e4, hMM⟩
      refine ⟨fun b H' => H' = H4 ∧ (b = true → 0 < M), ?_, ?_⟩
      · refine ⟨_, rfl, _, _, rfl, rfl, _, rfl, xo (fun q => ?_) (fun _ => ⟨rfl, by simp⟩)⟩
        have hp : 0 < M := by simpa using q
        exact ⟨_, rfl, _, _, rfl, rfl, cdB (by decide) (by decide), _, _, rfl, rfl, nz, _, _, rfl, rfl, _, rfl, rfl, fun _ => hp⟩
      rintro b H' ⟨rfl, hp⟩
      cases b with
      | false => exact qk ⟨t2, ms, c', _, _, rfl, hT2.same e4, hW.next mT, f0.1, by omega, e3.trans e4⟩
      | true =>
      have hp := hp rfl
      have hmm := hMM hp
      rcases hW.cb mT with hc | ⟨i2, hc, hWn⟩
      · rw [← et] at hc
        unfold mmF at hmm
        rw [hc] at hmm
        cases hmm
      rw [← et] at hc
      have hq : 0 < (if (5 : Int) < M then 5 else M) ∧ (if (5 : Int) < M then 5 else M) ≤ M ∧ (if (5 : Int) < M then 5 else M) ≤ 5 := by split <;> omega
      refine qr ⟨_, rfl, _, rfl, _, rfl, _, rfl, _, _, rfl, rfl, cdB (by decide) (by decide), _, rfl, _, _, rfl, _, _, rfl, rfl, (by omega), _, _, rfl, rfl, qL4, fun p hp' => ?_⟩
      have f1 := fm (c'.fdiv 21) hq.1
      generalize (c'.fdiv 21).fmod (if (5 : Int) < M then 5 else M) = u at f1
      have w5 := qH hp' (.tup [.str "mix", .int (0 + (i : Int)), .int t, .int (1 + u)])
      have e5 := e4.trans w5
      refine ⟨_, rfl, t2, p, re, rlE A', _, tie, _, rfl, hD3.same e5, .mix (n := i) (i := i2) (t := t) (l := 1 + u) (M := M) (ms := ms) (by rw [show HO.tup [V.str "mix", .int (i : Int), .int t, .int (1 + u)] = HO.tup [V.str "mix", .int (0 + (i : Int)), .int t, .int (1 + u)] by rw [Int.zero_add]]; exact qD) hms2 ht0 (by omega) hc hmm (by rw [if_neg (by omega)]), fun t' H' e' hN => ?_⟩
      refine ⟨t', _, c', _, _, rfl, ?_, hWn (1 + u) (by omega) (by omega), f0.1, by omega, (e3.trans e5).trans e'⟩
      have hN' := hN.tab
      rw [List.set_set] at hN'
      exact hN'
    · rintro σ H3 ⟨t2, ms, c, o2, o3, rfl, hT2, hW, c0, c1, e3⟩
      have hj6 : ((0 :: zI 0 ms0).map V.int).length ≤ 6 := by
        rw [List.length_map, List.length_cons]
        have := kY 0 ms0
        omega
      refine ⟨t2, ts1.set i ms, c, _, _, _, rfl, hT2, hM1.set i (hW.tm mT m5 hj6), fun k ms' hk h => ?_, c0, c1, (e.trans e2).trans e3⟩
      rw [List.getElem?_set, if_neg (by omega)] at h
      exact hI1 k ms' (by omega) h
  · rintro σ H' ⟨t1, ts1, c, o1, o2, o3, rfl, hT1, hM1, hI1, c0, c1, e⟩
    exact ⟨_, rfl, kk t1 ts1 _ e hT1 hM1⟩
theorem qNi {x b : Int} (hx : 0 ≤ x) (hb : 0 < b) : 0 ≤ x.fdiv b := by
  have h := (jL (p := x) hb).2
  by_cases c : 0 ≤ x.fdiv b
  · exact c
  · have := Int.mul_le_mul_of_nonneg_right (c := b) (show x.fdiv b + 1 ≤ 0 by omega) (by omega)
    omega
theorem qNc {lo rs to bo len N : Int} (b0 : 1 ≤ bo) (n0 : 1 ≤ len) (l0 : 0 ≤ lo) (l1 : lo + (((len - 1) * ve to).fdiv bo + 1) < N) (r0 : 0 ≤ rs) (r1 : rs < 7) :
    (0 ≤ stF lo rs to bo len ∧ stF lo rs to bo len < N * (7 * bo)) ∧ 0 ≤ stF lo rs to bo len + 7 * (len - 1) * to ∧ stF lo rs to bo len + 7 * (len - 1) * to < N * (7 * bo) := by
  have hf := jL (p := (len - 1) * ve to) (q := bo) (by omega)
  have hx : 0 ≤ (len - 1) * ve to := Int.mul_nonneg (by omega) (by unfold ve; split <;> omega)
  have hF := qNi hx (show 0 < bo by omega)
  generalize ((len - 1) * ve to).fdiv bo = F at *
  have m1 : 0 ≤ bo * (7 * lo + rs) := Int.mul_nonneg (by omega) (by omega)
  have m2 : bo * (7 * (lo + F + 1) + rs) < bo * (7 * N) := Int.mul_lt_mul_of_pos_left (by omega) (by omega)
  have m3 : bo * (7 * lo + rs) < bo * (7 * N) := Int.mul_lt_mul_of_pos_left (by omega) (by omega)
  have e1 : lo * 7 * bo + rs * bo = bo * (7 * lo + rs) := by grind
  have e2 : N * (7 * bo) = bo * (7 * N) := by grind
  have e3 : bo * (7 * (lo + F + 1) + rs) = bo * (7 * lo + rs) + 7 * ((F + 1) * bo) := by grind
  unfold stF
  rw [e2]
  by_cases ht : to < 0
  · rw [if_pos ht]
    have ea : ve to = -to := by unfold ve; rw [if_pos ht]
    rw [ea] at hf hx
    have e4 : 7 * (len - 1) * to = -(7 * ((len - 1) * -to)) := by grind
    rw [e4, e1]
    generalize (len - 1) * -to = X at *
    generalize bo * (7 * lo + rs) = Y at *
    generalize (F + 1) * bo = Z at *
    generalize bo * (7 * N) = W at *
    generalize bo * (7 * (lo + F + 1) + rs) = U at *
    exact ⟨⟨by omega, by omega⟩, by omega, by omega⟩
  · rw [if_neg ht]
    have ea : ve to = to := by unfold ve; rw [if_neg ht]
    rw [ea] at hf hx
    have e4 : 7 * (len - 1) * to = 7 * ((len - 1) * to) := by grind
    rw [e4, e1]
    generalize (len - 1) * to = X at *
    generalize bo * (7 * lo + rs) = Y at *
    generalize (F + 1) * bo = Z at *
    generalize bo * (7 * N) = W at *
    generalize bo * (7 * (lo + F + 1) + rs) = U at *
    exact ⟨⟨by omega, by omega⟩, by omega, by omega⟩
theorem qG8 {st to bo k N : Int} (b0 : 1 ≤ bo) (h0 : 0 ≤ st + 7 * k * to) (h1 : st + 7 * k * to < N * (7 * bo)) : InR (Vk (xG st (7 * bo)) (jW st (7 * bo)) (xG to bo) (jW to bo) k) (jW st (7 * bo) * jW to bo) N := by
  have c1 := zR st (7 * bo)
  have c2 := zR to bo
  have q0 := xU (t := st) (b := 7 * bo) (by omega)
  have s0 := xU (t := to) (b := bo) (by omega)
  generalize xG st (7 * bo) = p at *
  generalize jW st (7 * bo) = q at *
  generalize xG to bo = r at *
  generalize jW to bo = s at *
  refine (qHx (Int.mul_pos q0 s0) (show 0 < 7 * bo by omega) ?_).mpr ⟨h0, h1⟩
  unfold Vk
  have e1 : (p * s + k * r * q) * (7 * bo) = s * (p * (7 * bo)) + 7 * k * q * (r * bo) := by grind
  rw [e1, c1, c2]
  grind
theorem CF.lay {A : Int} {m : Im} (h : CF A m) {H : Hp} {re : Addr} (hr : RE H re A) : LayOk H re m := by
  obtain ⟨hit, _⟩ := h.it hr.2.1 hr.2.2
  obtain ⟨nm, N, lo, rs, to, bo, len, hn, n0, n1, t0, t1, b0, b1, l0, l1, r0, r1, rfl⟩ := h
  obtain ⟨N', hc⟩ := hit _ _ _ _ _ _ rfl
  obtain ⟨i0, i1⟩ := qNc (to := to) b0 n0 l0 l1 r0 r1
  have hrl : rlE A nm = some N := by
    unfold rlE
    rcases hn with ⟨rfl, rfl⟩ | ⟨rfl, rfl⟩
    · rw [if_pos rfl]
    · rw [if_neg (by decide +kernel), if_pos rfl]
  have hnm : wp nm = true ∧ nm.length ≤ 1000 := by
    rcases hn with ⟨rfl, rfl⟩ | ⟨rfl, rfl⟩ <;> exact ⟨by decide +kernel, by decide +kernel⟩
  refine ⟨N, hr.at _ _ hrl, ⟨hnm.1, hnm.2, hc.bn.mono (m := 700), hc.g1.2.1, hc.g2.2.1, hc.l1, hc.bl⟩, ?_, ?_⟩
  · exact qG8 b0 (by simpa using i0.1) (by simpa using i0.2)
  · exact qG8 b0 i1.1 i1.2
def LayG (A : Int) (m : Im) : Prop := (∃ b l, m = .nest "low" b l ∧ 0 ≤ b ∧ b < 5 ∧ 1 ≤ l ∧ l ≤ 8) ∨ CF A m
theorem LayG.ok {A : Int} {m : Im} (h : LayG A m) {H : Hp} {re : Addr} (hr : RE H re A) : LayOk H re m ∧ m.wd ≠ "mix" ∧ 1 ≤ m.mo ∧ m.mo ≤ 10 := by
  rcases h with ⟨b, l, rfl, b0, _, l1, l2⟩ | h
  · exact ⟨⟨by decide +kernel, by decide +kernel, b0, l1⟩, by show ("nest" : Str) ≠ "mix"; decide +kernel, l1, by show l ≤ 10; omega⟩
  · refine ⟨h.lay hr, TI.nm (.inr (.inr h)), (h.it hr.2.1 hr.2.2).2.2.1, (h.it hr.2.1 hr.2.2).2.2.2⟩
def DkG (A last : Int) : Dk → Prop
  | .opn t l => 0 ≤ t ∧ t < last + 6 ∧ 1 ≤ l ∧ l ≤ 12
  | .cls t u => 0 ≤ t ∧ t < last + 6 ∧ t < u ∧ u ≤ t + 12
  | .lft t u => 0 ≤ t ∧ t < last + 6 ∧ t < u ∧ u ≤ t + 12
  | .lin t m => 0 ≤ t ∧ t < last + 6 ∧ LayG A m
  | .lov t m => 0 ≤ t ∧ t < last + 6 ∧ LayG A m
  | _ => False
theorem DkG.ok {A last : Int} {d : Dk} (h : DkG A last d) {H : Hp} {re : Addr} {ms : List Im} (hr : RE H re A) (hl : last ≤ 1000000) : DOk H re ms d := by
  have e : (1000100 : Int) ≤ 2 ^ 400 := by decide
  unfold DOk
  generalize (2 : Int) ^ 400 = B at e ⊢
  cases d with
  | cut t => exact h.elim
  | hel t => exact h.elim
  | opn t l => obtain ⟨h1, h2, h3, _⟩ := h; exact ⟨h1, by omega, h3⟩
  | cls t u => obtain ⟨h1, h2, h3, h4⟩ := h; exact ⟨h1, h3, by omega⟩
  | lft t u => obtain ⟨h1, h2, h3, h4⟩ := h; exact ⟨h1, h3, by omega⟩
  | lin t m => obtain ⟨h1, h2, h3⟩ := h; exact ⟨h1, by omega, (h3.ok hr).1⟩
  | lov t m => obtain ⟨h1, h2, h3⟩ := h; obtain ⟨q1, _, q3, q4⟩ := h3.ok hr; exact ⟨h1, by omega, q1, by omega, by omega⟩
theorem DkG.lay {A last : Int} {d : Dk} (h : DkG A last d) {H : Hp} {re : Addr} (hr : RE H re A) : ∀ m, d.lay = some m → m.wd ≠ "mix" ∧ 1 ≤ m.mo := by
  intro m hm
  cases d with
  | lin t m' => cases hm; exact ⟨(h.2.2.ok hr).2.1, (h.2.2.ok hr).2.2.1⟩
  | lov t m' => cases hm; exact ⟨(h.2.2.ok hr).2.1, (h.2.2.ok hr).2.2.1⟩
  | _ => cases hm
theorem DOk.oth {H : Hp} {rd : Addr} {ms ms' : List Im} {d : Dk} (h : DOk H rd ms d) (hp : d.push = true) (hm : ∀ m, d.lay = some m → m.wd ≠ "mix" ∧ 1 ≤ m.mo) : DOk H rd ms' d.oth := by
  cases d with
  | lin t m => exact ⟨h.1, h.2.1, (hm m rfl).2⟩
  | opn t l => exact h
  | cls t u => exact h
  | _ => cases hp
theorem qEy {H : Hp} {rd dz : Addr} {rl : Rls} {ts : List (List Im)} {tie : List Int} {n : Nat} {ms : List Im} {d : Dk} (hm : ts[n]? = some ms) (hD : DAt H dz (n : Int) d) (hO : DOk H rd ms d) :
    DdX K H rd dz rl ts tie (if qt ts (chF tie (n : Int) d.push) d.t d.hi = true then .mixed else .good (v9 ts d (n : Int) (chF tie (n : Int) d.push))) := by
  obtain ⟨xs, w, o, hd, hw, a1, hN, h0, hb⟩ : ∃ xs w o, H dz = some (.tup xs) ∧ ChW w ∧ atI xs 1 = some (.int (n : Int)) ∧ qMy H xs w d.t o ∧ 0 ≤ d.t ∧ qAp w d.t o = true := by
    cases d with
    | cut t => exact ⟨_, "cut", none, hD, .inl rfl, rfl, ⟨rfl, rfl, fun z => absurd z (by decide +kernel)⟩, hO.1, by unfold qAp; rw [if_neg (by decide +kernel), if_neg (by decide +kernel)]⟩
    | hel t => exact hO.elim
    | opn t l => exact ⟨_, "open", some l, hD, .inr (.inr (.inl rfl)), rfl, ⟨rfl, rfl, fun _ => ⟨_, rfl, .int l⟩⟩, hO.1, by unfold qAp; rw [if_pos (.inl rfl)]; exact decide_eq_true hO.2.2⟩
    | cls t u => exact ⟨_, "close", some u, hD, .inr (.inr (.inr (.inl rfl))), rfl, ⟨rfl, rfl, fun _ => ⟨_, rfl, .int u⟩⟩, hO.1, by unfold qAp; rw [if_neg (by decide +kernel), if_pos (.inl rfl)]; exact decide_eq_true hO.2.1⟩
    | lft t u => exact ⟨_, "lift", some u, hD, .inr (.inr (.inr (.inr (.inl rfl)))), rfl, ⟨rfl, rfl, fun _ => ⟨_, rfl, .int u⟩⟩, hO.1, by unfold qAp; rw [if_neg (by decide +kernel), if_pos (.inr rfl)]; exact decide_eq_true hO.2.1⟩
    | lin t m =>
      obtain ⟨v, hd, hi⟩ := hD
      exact ⟨_, "lay_in", none, hd, .inr (.inl rfl), rfl, ⟨rfl, rfl, fun z => absurd z (by decide +kernel)⟩, hO.1, by unfold qAp; rw [if_neg (by decide +kernel), if_neg (by decide +kernel)]⟩
    | lov t m =>
      obtain ⟨v, hd, hi⟩ := hD
      exact ⟨_, "lay_over", none, hd, .inr (.inr (.inr (.inr (.inr rfl)))), rfl, ⟨rfl, rfl, fun z => absurd z (by decide +kernel)⟩, hO.1, by unfold qAp; rw [if_neg (by decide +kernel), if_neg (by decide +kernel)]⟩
  cases ht : qt ts (chF tie (n : Int) d.push) d.t d.hi with
  | true => rw [if_pos rfl]; exact .chg0 (c := 1) hd hw a1 hN hm h0 hb (.ok hD hO (by rw [ht]; rfl)) (by decide)
  | false => rw [if_neg (by decide)]; exact .chg hd hw a1 hN hm h0 hb hD hO ht
theorem qJ6 {xs : List V} {i : Int} (h0 : 0 ≤ i) (h1 : i < (xs.length : Int)) : ∃ v, atI xs i = some v ∧ v ∈ xs := by
  obtain ⟨k, rfl⟩ := Int.eq_ofNat_of_zero_le h0
  have hk : k < xs.length := by omega
  exact ⟨xs[k], jb (List.getElem?_eq_getElem hk), List.getElem_mem hk⟩
theorem TrsAt.sb {z : Addr} {H H' : Hp} {us : List V} (e : SB z H H') (hz : H z = some (.lst us)) : ∀ {ts : List (List Im)} {vs : List V}, (∀ b, V.ref b ∈ vs → b ≠ z) → TrsAt H ts vs → TrsAt H' ts vs
  | [], [], _, _ => trivial
  | _ :: _, v :: vs, hn, ⟨⟨y, h1, ⟨ys, h2, h3⟩⟩, r⟩ => by
    subst h1
    exact ⟨⟨y, rfl, ys, e _ _ (hn y (by simp)) h2, h3.ts (e.ts hz)⟩, TrsAt.sb e hz (fun b hb => hn b (by simp [hb])) r⟩
  | [], _ :: _, _, h => h.elim
  | _ :: _, [], _, h => h.elim
def qBy : Sp := fun vs H Q _ => ∃ (c : Int) (re : Addr) (A : Int), vs = [.int c, .ref re, .int 3, .int 10] ∧ RE H re A ∧
  ∀ (t' : Addr) (ts : List (List Im)) (tie : List Int) (H' : Hp), Same H H' → TabF H' (.ref t') ts tie → TbM A ts tie → Q (.ref t') H'
theorem qB7 (T : Tx K mg a) : FnOk P w K mg base CX0 12 a.a__law_table a.f__law_table ["_law_cell", "_law_reels_here", "_law_tracks", "_law_size"] qBy := by
  refine T.d__law_table.F.ok sc__law_table (fun vs H Q E h => ?_) (fun cdv A outer s H vs Q E hr h => ?_)
  · obtain ⟨c, re, A', rfl, _⟩ := h
    rfl
  obtain ⟨c, re, A', rfl, hre, kk⟩ := h
  refine ⟨_, (qF (qV (i := 4) sc__law_table.nd rfl (Or.inr rfl) (qN T.d__law_stream (kJ T) hr rfl (qA (pv 0) (qA qB qE))))
      (qF (qV (i := 5) sc__law_table.nd rfl (Or.inl rfl) (qJ jC (jI (qA (jI qE) (qA (jI (qA qB (qA qB qE))) (qA (jI (qA qB (qA qB qE))) (qA (jI (qA qB (qA qB (qA qB qE)))) (qA (jI (qA qB qE)) qE)))))) (qO qj (qO qf (ju F.plainAttrs_list F.slot_list_pop F.type_list_pop j7 (pv 4)) qB) qB) (fun _ _ => rfl)))
      (qF (qV (i := 6) sc__law_table.nd rfl (Or.inl rfl) (ql (qA (wk ["_law_reels_here", "_law_size", "_law_xs"] [1, 3, 4] rfl (zN rfl T.b_range (qA (pv 2) qE)) (fun _ _ _ _ => (qN T.d__law_track (qBb T) hr rfl (qA (pv 3) (qA (pv 1) (qA (pv 2) qE)))))) (qA (qBj ["_law_tracks"] [2] rfl (jZ (pv 5)) (fun _ _ _ _ => (qL kH (pv 0) (pv 1) (qU _))) (fun _ _ _ _ => (pv 0))) qE))))
      (qF (qh (qL qBs (qO qj (qO qf (ju F.plainAttrs_list F.slot_list_pop F.type_list_pop j7 (pv 4)) qB) qB) qB (qU _)) (qG (qP (qN T.d__law_mixed (qB6 T) hr rfl (qA (pv 6) (qA (pv 1) (qA (qO qp (qO qj (pv 0) qB) qB) qE)))))) qS)
      (qG (qP (pv 6))))))), ?_⟩
  try dsimp only [jo, qi]
  refine ⟨_, rfl, c, 200, rfl, by decide, by decide, fun xz xs H1 e1 hxz hxs hxl _ => ?_⟩
  obtain ⟨y1, x1, rfl, l1⟩ := xJ (n := 199) (by rw [hxl]; decide)
  refine ⟨sL0, fun a0 h0 => ⟨sL2, fun a1 h1 => ⟨sL2, fun a2 h2 => ⟨sL3, fun a3 h3 => ⟨sL1, fun a4 h4 => ⟨sL5, fun ld hld => ?_⟩⟩⟩⟩⟩⟩
  have w0 := qH h0 (.lst [])
  have w1 := qH h1 (.lst [.int 0, .int 1])
  have w2 := qH h2 (.lst [.int 1, .int 2])
  have w3 := qH h3 (.lst [.int 0, .int 1, .int 2])
  have w4 := qH h4 (.lst [.int 2])
  have w5 := qH hld (.lst [.ref a0, .ref a1, .ref a2, .ref a3, .ref a4])
  have k0 : upd H1 a0 (.lst []) a0 = some (.lst []) := qD
  generalize upd H1 a0 (.lst []) = G0 at *
  have k1 : upd G0 a1 (.lst [.int 0, .int 1]) a1 = some (.lst [.int 0, .int 1]) := qD
  generalize upd G0 a1 (.lst [.int 0, .int 1]) = G1 at *
  have k2 : upd G1 a2 (.lst [.int 1, .int 2]) a2 = some (.lst [.int 1, .int 2]) := qD
  generalize upd G1 a2 (.lst [.int 1, .int 2]) = G2 at *
  have k3 : upd G2 a3 (.lst [.int 0, .int 1, .int 2]) a3 = some (.lst [.int 0, .int 1, .int 2]) := qD
  generalize upd G2 a3 (.lst [.int 0, .int 1, .int 2]) = G3 at *
  have k4 : upd G3 a4 (.lst [.int 2]) a4 = some (.lst [.int 2]) := qD
  generalize upd G3 a4 (.lst [.int 2]) = G4 at *
  have k5 : upd G4 ld (.lst [.ref a0, .ref a1, .ref a2, .ref a3, .ref a4]) ld = some (.lst [.ref a0, .ref a1, .ref a2, .ref a3, .ref a4]) := qD
  have nld : ld ≠ xz := (qR ((w0.trans (w1.trans (w2.trans (w3.trans w4)))) _ _ hxs) hld).symm
  generalize upd G4 ld (.lst [.ref a0, .ref a1, .ref a2, .ref a3, .ref a4]) = G5 at *
  have hx5 := ((w0.trans (w1.trans (w2.trans (w3.trans w4)))).trans w5) _ _ hxs
  refine ⟨_, rfl, .inl ⟨rfl, _, SqL.of hx5⟩, qBl hx5 fun H2 s2 hz2 _ => ?_⟩
  have f1 := fm (x1.fdiv 3) (show (0 : Int) < 5 by decide)
  obtain ⟨v, hv, hmem⟩ := qJ6 (xs := [V.ref a0, .ref a1, .ref a2, .ref a3, .ref a4]) (i := (x1.fdiv 3).fmod 5) f1.1 (show _ < ((5 : Nat) : Int) by omega)
  refine ⟨_, _, rfl, rfl, cdB (by decide) (by decide), _, _, rfl, rfl, nz, ld, _, _, v, rfl, rfl, SqL.of (s2 _ _ nld k5), hv, ?_⟩
  obtain ⟨li, is, rfl, hli, hil, hin⟩ : ∃ (li : Addr) (is : List Int), v = .ref li ∧ G5 li = some (.lst (is.map V.int)) ∧ is.length ≤ 3 ∧ ∀ x ∈ is, ∃ k : Nat, x = (k : Int) ∧ k < 3 := by
    simp only [List.mem_cons, List.not_mem_nil, or_false] at hmem
    rcases hmem with rfl | rfl | rfl | rfl | rfl
    · exact ⟨a0, [], rfl, (w1.trans (w2.trans (w3.trans (w4.trans w5)))) _ _ k0, by simp, by simp⟩
    · exact ⟨a1, [0, 1], rfl, (w2.trans (w3.trans (w4.trans w5))) _ _ k1, by simp, fun x hx => by
        simp only [List.mem_cons, List.not_mem_nil, or_false] at hx
        rcases hx with rfl | rfl
        · exact ⟨0, rfl, by decide⟩
        · exact ⟨1, rfl, by decide⟩⟩
    · exact ⟨a2, [1, 2], rfl, (w3.trans (w4.trans w5)) _ _ k2, by simp, fun x hx => by
        simp only [List.mem_cons, List.not_mem_nil, or_false] at hx
        rcases hx with rfl | rfl
        · exact ⟨1, rfl, by decide⟩
        · exact ⟨2, rfl, by decide⟩⟩
    · exact ⟨a3, [0, 1, 2], rfl, (w4.trans w5) _ _ k3, by simp, fun x hx => by
        simp only [List.mem_cons, List.not_mem_nil, or_false] at hx
        rcases hx with rfl | rfl | rfl
        · exact ⟨0, rfl, by decide⟩
        · exact ⟨1, rfl, by decide⟩
        · exact ⟨2, rfl, by decide⟩⟩
    · exact ⟨a4, [2], rfl, w5 _ _ k4, by simp, fun x hx => by
        simp only [List.mem_cons, List.not_mem_nil, or_false] at hx
        subst hx
        exact ⟨2, rfl, by decide⟩⟩
  have w15 : Same H1 G5 := (w0.trans (w1.trans (w2.trans (w3.trans w4)))).trans w5
  have sH : SB xz H H2 := (jt (e1.trans w15)).trans s2
  have nli : li ≠ xz ∨ li = xz := by by_cases h : li = xz; exact .inr h; exact .inl h
  have nli : li ≠ xz := by
    intro e
    rcases (by simpa using hmem : V.ref li = .ref a0 ∨ V.ref li = .ref a1 ∨ V.ref li = .ref a2 ∨ V.ref li = .ref a3 ∨ V.ref li = .ref a4) with h | h | h | h | h
    · cases h; rw [e, hxs] at h0; cases h0
    · cases h; rw [e, w0 _ _ hxs] at h1; cases h1
    · cases h; rw [e, (w0.trans w1) _ _ hxs] at h2; cases h2
    · cases h; rw [e, (w0.trans (w1.trans w2)) _ _ hxs] at h3; cases h3
    · cases h; rw [e, (w0.trans (w1.trans (w2.trans w3))) _ _ hxs] at h4; cases h4
  have hli2 := s2 _ _ nli hli
  have nre : re ≠ xz := by
    rcases hre.1 with q | ⟨o, q⟩
    · exact qR q hxz
    · exact qR q hxz
  clear w0 w1 w2 w3 w4 w5 k0 k1 k2 k3 k4 k5 h0 h1 h2 h3 h4 hld hmem hv
  refine ⟨_, rfl, 3, rfl, by decide, by decide, qGi (n := 3) (fun i acc H3 => ∃ (ts : List (List Im)) (xs' : List Int), TrsAt H3 ts acc ∧ ts.length = i ∧ (∀ ms ∈ ts, ms.length ≤ 5 ∧ ∀ m ∈ ms, TI A' m) ∧ H3 xz = some (.lst (xs'.map V.int)) ∧ 199 ≤ xs'.length + 36 * i ∧ (∀ b, V.ref b ∈ acc → b ≠ xz) ∧ SB xz H2 H3) ⟨[], y1, trivial, rfl, by simp, hz2, by omega, by simp, SB.refl _ _⟩ ?_ ?_ ?_⟩
  · rintro i acc H3 hi ⟨ts, xs', hT, hl, _⟩
    exact qc (by rw [hT.len]; omega)
  · rintro i acc H3 hi ⟨ts, xs', hT, hl, hI, hz3, hlx, hne, sb⟩
    refine ⟨_, rfl, _, rfl, _, rfl, xz, re, xs', A', rfl, hz3, by omega, hre.sb (sH.trans sb) nre, fun y ms xs'' H4 s4 hy hz4 hl4 tT m5 mT _ _ => ?_⟩
    have ny : y ≠ xz := fun e => by rw [e, hz3] at hy; cases hy
    refine Nxt.mk hi ⟨ts ++ [ms], xs'', wa (hT.sb s4 hz3 hne) tT, by simp [hl], fun ms' hm' => ?_, hz4, by omega, fun b hb => ?_, sb.trans s4⟩
    · rcases List.mem_append.mp hm' with h | h
      · exact hI ms' h
      · rw [List.mem_singleton] at h; subst h; exact ⟨m5, mT⟩
    · rcases List.mem_append.mp hb with h | h
      · exact hne b h
      · rw [List.mem_singleton] at h; cases h; exact ny
  rintro acc H3 ⟨ts, xs', hT, hl, hI, hz3, hlx, hne, sb⟩ tl htl
  have w3 := qH htl (.lst acc)
  have kl : upd H3 tl (.lst acc) tl = some (.lst acc) := qD
  have ntl : tl ≠ xz := (qR hz3 htl).symm
  generalize upd H3 tl (.lst acc) = H4 at w3 kl
  have hli4 := w3 _ _ (sb _ _ nli hli2)
  refine ⟨_, rfl, li, rfl, ⟨_, SqL.of hli4⟩, vM (K := K) (a := li) (xs := is.map V.int) (fun j acc H5 => acc = (is.take j).map V.int ∧ H5 = H4) ⟨rfl, rfl⟩ ?_ ?_ ?_⟩
  · rintro j acc H5 hj ⟨rfl, rfl⟩
    refine ⟨SqL.of hli4, qc ?_⟩
    rw [List.length_map, List.length_take]
    omega
  · rintro j x acc H5 hj hx ⟨rfl, rfl⟩
    obtain ⟨xi, hxi, rfl⟩ : ∃ xi : Int, is[j]? = some xi ∧ x = .int xi := by
      rw [List.getElem?_map] at hx
      cases hq : is[j]? with
      | none => rw [hq] at hx; cases hx
      | some k => rw [hq] at hx; cases hx; exact ⟨k, rfl, rfl⟩
    obtain ⟨k, rfl, hk⟩ := hin xi (List.mem_of_getElem? hxi)
    refine ⟨_, rfl, _, rfl, _, _, rfl, rfl, _, rfl, xo (fun _ => ?_) (fun c => ?_)⟩
    · refine ⟨_, rfl, Nxt.mk hj ⟨?_, rfl⟩⟩
      rw [List.take_add_one, hxi]
      simp
    · exact absurd (by simp; omega) c
  rintro acc' H5 ⟨rfl, rfl⟩ ti hti
  rw [List.length_map, List.take_length] at *
  have w5 := qH hti (.lst (is.map V.int))
  have ki : upd H5 ti (.lst (is.map V.int)) ti = some (.lst (is.map V.int)) := qD
  have nti : ti ≠ xz := (qR (w3 _ _ hz3) hti).symm
  generalize upd H5 ti (.lst (is.map V.int)) = H6 at w5 ki
  refine ⟨sL2, fun tz htz => ?_⟩
  have w6 := qH htz (.tup [.ref tl, .ref ti])
  have kz : upd H6 tz (.tup [.ref tl, .ref ti]) tz = some (.tup [.ref tl, .ref ti]) := qD
  generalize upd H6 tz (.tup [.ref tl, .ref ti]) = H7 at w6 kz
  have w37 := w3.trans (w5.trans w6)
  have hz7 := w37 _ _ hz3
  obtain ⟨y2, x2, rfl, l2⟩ := xJ (xs := xs') (n := xs'.length - 1) (by omega)
  refine ⟨_, rfl, .inl ⟨rfl, _, SqL.of hz7⟩, qBl hz7 fun H8 s8 hz8 _ => ?_⟩
  have sb8 : SB xz H H8 := ((sH.trans sb).trans (jt w37)).trans s8
  have e8 : Same H H8 := fun b u hb => sb8 b u (qR hb hxz) hb
  have hT8 : TrsAt H8 ts acc := (hT.same w37).sb s8 hz7 hne
  have hF : TabF H8 (.ref tz) ts is := ⟨tz, tl, ti, acc, rfl, s8 _ _ (qCr kz hz7 (by intro q; cases q)) kz, s8 _ _ ntl ((w5.trans w6) _ _ kl), hT8, s8 _ _ nti (w6 _ _ ki)⟩
  have hM : TbM A' ts is := ⟨hl, fun ms hm => ⟨by have := (hI ms hm).1; omega, fun m hm' => .inl ((hI ms hm).2 m hm')⟩, hil, fun x hx => by rw [hl]; exact hin x hx⟩
  refine ⟨_, _, rfl, rfl, cdB (by decide) (by decide), _, _, rfl, rfl, nz, _, _, rfl, rfl, _, rfl, xo (fun _ => ?_) (fun _ => ?_)⟩
  · have f0 := fm c (show (0 : Int) < 2147483647 by decide)
    refine ⟨_, rfl, _, rfl, _, rfl, _, _, rfl, rfl, nz, _, _, rfl, rfl, tz, re, ts, is, A', _, rfl, hF, hM, hI, hre.same e8, by omega, by omega, fun t' ts' H9 e9 hT9 hM9 => ?_⟩
    exact kk t' ts' is H9 (e8.trans e9) hT9 hM9
  · exact ⟨_, rfl, kk tz ts is _ e8 hF hM⟩
theorem qNp {x y : Str} (h : decide (V.str x = V.str y) = true) : x = y := V.str.inj (of_decide_eq_true h)
theorem qOa {x y : Str} (h : ¬ decide (V.str x = V.str y) = true) : x ≠ y := fun e => h (by rw [e]; exact decide_eq_true rfl)
def qDu : Sp := fun vs H Q _ => ∃ (zx re : Addr) (n last A : Int) (xs : List Int), vs = [.ref zx, .int n, .ref re, .int last] ∧ H zx = some (.lst (xs.map V.int)) ∧ 11 ≤ xs.length ∧ RE H re A ∧ 0 ≤ last ∧
  ∀ (dz : Addr) (d : Dk) (H' : Hp), SB zx H H' → DAt H' dz n d → DkG A last d → Q (.ref dz) H'
theorem qDf (T : Tx K mg a) : FnOk P w K mg base CX0 3 a.a__law_deed a.f__law_deed ["_law_xs", "_law_number", "_law_reels_here", "_law_last"] qDu := by
  refine T.d__law_deed.F.ok sc__law_deed (fun vs H Q E h => ?_) (fun cdv A outer s H vs Q E hr h => ?_)
  · obtain ⟨zx, re, n, last, A', xs, rfl, _⟩ := h
    rfl
  obtain ⟨zx, re, n, last, A', xs, rfl, hz, hl, hre, l0, kk⟩ := h
  obtain ⟨k, hk⟩ : ∃ k, xs.length = k + 11 := ⟨xs.length - 11, by omega⟩
  obtain ⟨y1, x1, rfl, l1⟩ := xJ (n := k + 10) hk
  obtain ⟨y2, x2, rfl, l2⟩ := xJ (n := k + 9) l1
  obtain ⟨y3, x3, rfl, l3⟩ := xJ (n := k + 8) l2
  obtain ⟨y4, x4, rfl, l4⟩ := xJ (n := k + 7) l3
  obtain ⟨y5, x5, rfl, l5⟩ := xJ (n := k + 6) l4
  have nre := hre.ne hz
  refine ⟨_, (qF (qV (i := 4) sc__law_deed.nd rfl (Or.inl rfl) (qJ jC (jI (qA qX (qA qX (qA qX (qA qX (qA qX (qA qX (qA qX qE)))))))) (qO qj (qO qf (ju F.plainAttrs_list F.slot_list_pop F.type_list_pop j7 (pv 0)) qB) qB) (fun _ _ => rfl)))
      (qF (qV (i := 5) sc__law_deed.nd rfl (Or.inl rfl) (qO qj (qO qf (ju F.plainAttrs_list F.slot_list_pop F.type_list_pop j7 (pv 0)) qB) (qO qp (pv 3) qB)))
      (qF (qV (i := 6) sc__law_deed.nd rfl (Or.inl rfl) (qO qp qB (qO qj (qO qf (ju F.plainAttrs_list F.slot_list_pop F.type_list_pop j7 (pv 0)) qB) qB)))
      (qF (qh (qL xj (pv 4) qX (qU _)) (qG (qP (ql (qA (pv 4) (qA (pv 1) (qA (pv 5) (qA (pv 6) qE))))))) qS)
      (qF (qh (qAz (PW.pt (xh (qL xj (pv 4) qX (qU _)) (jc (qL xj (pv 4) qX (qU _)))))) (qG (qP (ql (qA (pv 4) (qA (pv 1) (qA (pv 5) (qA (qO qp (pv 5) (pv 6)) qE))))))) qS)
      (qF (qV (i := 7) sc__law_deed.nd rfl (Or.inl rfl) (ql (qA qX (qA qX (qA (qO qj (qO qf (ju F.plainAttrs_list F.slot_list_pop F.type_list_pop j7 (pv 0)) qB) qB) (qA (qO qp qB (qO qj (pv 6) qB)) qE))))))
      (qF (zY (qh (qL qBs (qO qj (qO qf (ju F.plainAttrs_list F.slot_list_pop F.type_list_pop j7 (pv 0)) qB) qB) qB (qU _)) (qG (qV (i := 7) sc__law_deed.nd rfl (Or.inl rfl) (qN T.d__law_clip (vh T) hr rfl (qA (pv 0) (qA (pv 2) (qA qB qE)))))) qS))
      (qG (qP (ql (qA (pv 4) (qA (pv 1) (qA (pv 5) (qA (pv 7) qE)))))))))))))), ?_⟩
  try dsimp only [jo, qi]
  refine ⟨(by show 7 ≤ sizeLine; decide), fun ld hld => ?_⟩
  have w0 := qH hld (.lst [.str "lay_in", .str "open", .str "close", .str "lift", .str "lay_over", .str "lay_in", .str "close"])
  have hz0 := w0 _ _ hz
  have nld : ld ≠ zx := (qR hz hld).symm
  refine ⟨_, rfl, .inl ⟨rfl, _, SqL.of hz0⟩, qBl hz0 fun H1 s1 hz1 _ => ?_⟩
  have f1 := fm (x1.fdiv 3) (show (0 : Int) < 7 by decide)
  obtain ⟨v, hv, hmem⟩ := qJ6 (xs := [V.str "lay_in", .str "open", .str "close", .str "lift", .str "lay_over", .str "lay_in", .str "close"]) (i := (x1.fdiv 3).fmod 7) f1.1 (show _ < ((7 : Nat) : Int) by omega)
  refine ⟨_, _, rfl, rfl, cdB (by decide) (by decide), _, _, rfl, rfl, nz, ld, _, _, v, rfl, rfl, SqL.of (s1 _ _ nld qD), hv, ?_⟩
  obtain ⟨w, rfl, hw⟩ : ∃ w : Str, v = .str w ∧ (w = "open" ∨ w = "close" ∨ w = "lift" ∨ w = "lay_in" ∨ w = "lay_over") := by
    simp only [List.mem_cons, List.not_mem_nil, or_false] at hmem
    rcases hmem with rfl | rfl | rfl | rfl | rfl | rfl | rfl
    · exact ⟨_, rfl, .inr (.inr (.inr (.inl rfl)))⟩
    · exact ⟨_, rfl, .inl rfl⟩
    · exact ⟨_, rfl, .inr (.inl rfl)⟩
    · exact ⟨_, rfl, .inr (.inr (.inl rfl))⟩
    · exact ⟨_, rfl, .inr (.inr (.inr (.inr rfl)))⟩
    · exact ⟨_, rfl, .inr (.inr (.inr (.inl rfl)))⟩
    · exact ⟨_, rfl, .inr (.inl rfl)⟩
  have sb1 : SB zx H H1 := (jt w0).trans s1
  refine ⟨_, rfl, .inl ⟨rfl, _, SqL.of hz1⟩, qBl hz1 fun H2 s2 hz2 _ => ?_⟩
  have f2 := fm (x2.fdiv 3) (show (0 : Int) < last + 6 by omega)
  refine ⟨_, _, rfl, rfl, cdB (by decide) (by decide), _, rfl, _, _, rfl, rfl, _, _, rfl, rfl, (by omega), ?_⟩
  refine ⟨_, rfl, .inl ⟨rfl, _, SqL.of hz2⟩, qBl hz2 fun H3 s3 hz3 _ => ?_⟩
  have f3 := fm (x3.fdiv 3) (show (0 : Int) < 12 by decide)
  refine ⟨_, _, rfl, rfl, cdB (by decide) (by decide), _, _, rfl, rfl, nz, _, _, rfl, rfl, ?_⟩
  dsimp only
  generalize (x2.fdiv 3).fmod (last + 6) = t at f2 ⊢
  generalize (x3.fdiv 3).fmod 12 = l at f3 ⊢
  have sb3 := (sb1.trans s2).trans s3
  refine ⟨_, rfl, rfl, _, rfl, xo (fun c => ?_) (fun c => ?_)⟩
  · have hw' := qNp c
    subst hw'
    refine ⟨_, rfl, _, rfl, _, rfl, _, rfl, qL4, fun dz hdz => ?_⟩
    exact kk dz (.opn t (1 + l)) _ (sb3.trans (jt (qH hdz _))) qD ⟨f2.1, f2.2, by omega, by omega⟩
  have no := qOa c
  refine ⟨fun b H' => H' = H3 ∧ (b = true ↔ (w = "close" ∨ w = "lift")), ?_, ?_⟩
  · refine ⟨_, rfl, rfl, _, rfl, xo (fun c => ?_) (fun c => ?_)⟩
    · exact ⟨rfl, fun _ => .inl (qNp c), fun _ => rfl⟩
    · refine ⟨_, rfl, rfl, _, rfl, rfl, fun c2 => .inr (qNp c2), fun h => ?_⟩
      rcases h with h | h
      · exact absurd h (qOa c)
      · rw [h]; exact decide_eq_true rfl
  rintro b H' ⟨rfl, hb⟩
  cases b with
  | true =>
    refine qr ⟨_, rfl, _, rfl, _, rfl, _, rfl, _, rfl, _, _, rfl, rfl, qL4, fun dz hdz => ?_⟩
    have sbd := sb3.trans (jt (qH hdz (.tup [.str w, .int n, .int t, .int (t + (1 + l))])))
    rcases hb.mp rfl with h | h
    · subst h
      exact kk dz (.cls t (t + (1 + l))) _ sbd qD ⟨f2.1, f2.2, by omega, by omega⟩
    · subst h
      exact kk dz (.lft t (t + (1 + l))) _ sbd qD ⟨f2.1, f2.2, by omega, by omega⟩
  | false =>
  have nc : w ≠ "close" ∧ w ≠ "lift" := ⟨fun h => Bool.false_ne_true (hb.mpr (.inl h)), fun h => Bool.false_ne_true (hb.mpr (.inr h))⟩
  refine qk ⟨_, rfl, .inl ⟨rfl, _, SqL.of hz3⟩, qBl hz3 fun H4 s4 hz4 _ => ?_⟩
  have f4 := fm (x4.fdiv 3) (show (0 : Int) < 5 by decide)
  have f5 := fm (1 + l) (show (0 : Int) < 8 by decide)
  refine ⟨_, _, rfl, rfl, cdB (by decide) (by decide), _, _, rfl, rfl, nz, _, rfl, _, _, rfl, rfl, nz, _, _, rfl, rfl, qL4, fun g hg => ?_⟩
  have w4 := qH hg (.tup [.str "nest", .str "low", .int ((x4.fdiv 3).fmod 5), .int (1 + (1 + l).fmod 8)])
  have kg : upd H4 g (.tup [.str "nest", .str "low", .int ((x4.fdiv 3).fmod 5), .int (1 + (1 + l).fmod 8)]) g = some (.tup [.str "nest", .str "low", .int ((x4.fdiv 3).fmod 5), .int (1 + (1 + l).fmod 8)]) := qD
  dsimp only at w4 kg ⊢
  generalize upd H4 g (.tup [.str "nest", .str "low", .int ((x4.fdiv 3).fmod 5), .int (1 + (1 + l).fmod 8)]) = H5 at w4 kg ⊢
  have hz5 := w4 _ _ hz4
  have sb5 := (sb3.trans s4).trans (jt w4)
  refine ⟨fun σ' H' => ∃ (v : V) (m : Im), σ' = [some (.ref zx), some (.int n), some (.ref re), some (.int last), some (.str w), some (.int t), some (.int (1 + l)), some v] ∧ SB zx H H' ∧ IsI H' m v ∧ LayG A' m, ?_, ?_⟩
  · refine ⟨_, rfl, .inl ⟨rfl, _, SqL.of hz5⟩, qBl hz5 fun H6 s6 hz6 _ => ?_⟩
    refine ⟨_, _, rfl, rfl, cdB (by decide) (by decide), _, _, rfl, rfl, nz, _, _, rfl, rfl, _, rfl, xo (fun _ => ?_) (fun _ => ?_)⟩
    · refine ⟨_, rfl, _, rfl, zx, re, y5, A', 8, rfl, hz6, by omega, hre.sb (sb5.trans s6) nre, by decide, by decide, fun v m u' H7 s7 hz7 _ hcf hI => ?_⟩
      exact ⟨v, m, rfl, (sb5.trans s6).trans s7, hI, .inr hcf⟩
    · exact ⟨_, .nest "low" ((x4.fdiv 3).fmod 5) (1 + (1 + l).fmod 8), rfl, sb5.trans s6, isN (s6 _ _ (qCr kg hz5 (by intro q; cases q)) kg), .inl ⟨_, _, rfl, f4.1, f4.2, by omega, by omega⟩⟩
  rintro σ' H' ⟨v, m, rfl, sb', hI, hG⟩
  refine ⟨_, rfl, _, rfl, _, rfl, _, rfl, qL4, fun dz hdz => ?_⟩
  have wd := qH hdz (.tup [.str w, .int n, .int t, v])
  rcases hw with h | h | h | h | h
  · exact absurd h no
  · exact absurd h nc.1
  · exact absurd h nc.2
  · subst h
    exact kk dz (.lin t m) _ (sb'.trans (jt wd)) ⟨v, qD, hI.ts (qg wd)⟩ ⟨f2.1, f2.2, hG⟩
  · subst h
    exact kk dz (.lov t m) _ (sb'.trans (jt wd)) ⟨v, qD, hI.ts (qg wd)⟩ ⟨f2.1, f2.2, hG⟩
def qAi : Sp := fun vs H Q _ => ∃ (tz dz rd : Addr) (rl : Rls) (ts : List (List Im)) (tie : List Int) (n : Nat) (ms : List Im) (d : Dk), vs = [.ref tz, .ref dz, .ref rd] ∧ TabD H tz rd rl ts tie ∧ ts[n]? = some ms ∧ DAt H dz (n : Int) d ∧ DOk H rd ms d ∧
  (qt ts (chF tie (n : Int) d.push) d.t d.hi = true → ∀ H', Same H H' → Q (.str "mixed") H') ∧ (qt ts (chF tie (n : Int) d.push) d.t d.hi = false → ∀ (t' : Addr) (H' : Hp), Same H H' → NewTab H H' t' (v9 ts d (n : Int) (chF tie (n : Int) d.push)) tie → Q (.ref t') H')
theorem zF (T : Tx K mg a) : FnOk P w K mg base CX0 11 a.a__law_done a.f__law_done ["_law_table_here", "_law_deed_here", "_law_reels_here"] qAi :=
  (qD9 T).imp fun vs H Q E h => by
    obtain ⟨tz, dz, rd, rl, ts, tie, n, ms, d, rfl, hP, hm, hD, hO, k1, k2⟩ := h
    have hx := qEy (K := K) (rl := rl) (tie := tie) hm hD hO
    cases ht : qt ts (chF tie (n : Int) d.push) d.t d.hi with
    | true =>
      rw [ht, if_pos rfl] at hx
      exact ⟨tz, dz, rd, rl, ts, tie, _, rfl, hP, hx, (fun h => by cases h), (fun m h => by cases h), (fun h => by cases h), fun _ => k1 ht, fun ts' h => by cases h⟩
    | false =>
      rw [ht, if_neg (by decide)] at hx
      exact ⟨tz, dz, rd, rl, ts, tie, _, rfl, hP, hx, (fun h => by cases h), (fun m h => by cases h), (fun h => by cases h), (fun h => by cases h), fun ts' h => by cases h; exact k2 ht⟩
theorem qHf {neg : Bool} {H : Hp} {x y : Str} {Q : VK} (q : Q (.bl (if neg then !decide (x = y) else decide (x = y))) H) : qLj K neg (.str x) (.str y) H Q := by
  refine ⟨.leaf (.str x), .leaf (.str y), ⟨rfl, rfl⟩, ⟨rfl, rfl⟩, by unfold dep; omega, ?_⟩
  have e : eqD (.leaf (.str x)) (.leaf (.str y)) = decide (x = y) := by
    unfold eqD eqV
    by_cases h : x = y
    · rw [decide_eq_true h, h]; simp
    · rw [decide_eq_false h]; simpa using h
  rw [e]
  exact q
theorem qJf {neg : Bool} {H : Hp} {t : Addr} {ts : List (List Im)} {tie : List Int} {y : Str} {Q : VK} (h : TabF H (.ref t) ts tie) (q : Q (.bl neg) H) : qLj K neg (.ref t) (.str y) H Q := by
  refine ⟨tabD ts tie, .leaf (.str y), h.rep, ⟨rfl, rfl⟩, by have := (qA6 ts tie).2; omega, ?_⟩
  have e : eqD (tabD ts tie) (.leaf (.str y)) = false := by unfold tabD eqD; rfl
  rw [e]
  cases neg <;> exact q
theorem qF5 {neg : Bool} {σ : L2.St} {H : Hp} {x y : Str} {Q : VK} (q : Q (.bl (if neg then !decide (x = y) else decide (x = y))) H) : tC (.str y) σ H (fun u H2 => qLj K neg (.str x) u H2 Q) := qHf q
theorem qDd {neg : Bool} {σ : L2.St} {H : Hp} {t : Addr} {ts : List (List Im)} {tie : List Int} {y : Str} {Q : VK} (h : TabF H (.ref t) ts tie) (q : Q (.bl neg) H) : tC (.str y) σ H (fun u H2 => qLj K neg (.ref t) u H2 Q) := qJf h q
theorem vS {neg : Bool} {H : Hp} {x y : Addr} {ts : List (List Im)} {tie : List Int} {Q : VK} (h1 : TabF H (.ref x) ts tie) (h2 : TabF H (.ref y) ts tie) (q : Q (.bl (!neg)) H) : qLj K neg (.ref x) (.ref y) H Q := by
  refine ⟨tabD ts tie, tabD ts tie, h1.rep, h2.rep, by have := (qA6 ts tie).2; omega, ?_⟩
  rw [(qA6 ts tie).1]
  cases neg <;> exact q
theorem TabF.at {H : Hp} {t : Addr} {ts : List (List Im)} {tie : List Int} {i : Nat} (h : TabF H (.ref t) ts tie) (hi : i < ts.length) : ∃ (tl ti : Addr) (zs : List V) (z : Addr), H t = some (.tup [.ref tl, .ref ti]) ∧ H tl = some (.lst zs) ∧ zs[i]? = some (.ref z) ∧ Tr H z (ts.getD i []) := by
  obtain ⟨_, tl, ti, zs, e0, h2, h3, h4, h5⟩ := h
  cases e0
  obtain ⟨v, hv⟩ : ∃ v, zs[i]? = some v := ⟨_, List.getElem?_eq_getElem (by rw [h4.len]; exact hi)⟩
  obtain ⟨ms, z, hms, rfl, tT⟩ := h4.get hv
  refine ⟨tl, ti, zs, z, h2, h3, hv, ?_⟩
  rw [List.getD_eq_getElem?_getD, hms]
  exact tT
theorem NewTab.at {H H' : Hp} {t : Addr} {ts : List (List Im)} {tie : List Int} {i : Nat} (h : NewTab H H' t ts tie) (hi : i < ts.length) : ∃ (tl ti : Addr) (zs : List V) (z : Addr), H' t = some (.tup [.ref tl, .ref ti]) ∧ H' tl = some (.lst zs) ∧ zs[i]? = some (.ref z) ∧ H z = none ∧ Tr H' z (ts.getD i []) := by
  obtain ⟨tl, ti, zs, h1, h2, h3, h4, _, _, _, hn⟩ := h.ex
  obtain ⟨v, hv⟩ : ∃ v, zs[i]? = some v := ⟨_, List.getElem?_eq_getElem (by rw [h3.len]; exact hi)⟩
  obtain ⟨ms, z, hms, rfl, tT⟩ := h3.get hv
  refine ⟨tl, ti, zs, z, h1, h2, hv, (hn z (List.mem_of_getElem? hv)).1, ?_⟩
  rw [List.getD_eq_getElem?_getD, hms]
  exact tT
theorem TrsAt.updN {H : Hp} {y : Addr} {us : List V} {o : HO} (hy : H y = some (.lst us)) : ∀ {ts : List (List Im)} {vs : List V}, (∀ b, V.ref b ∈ vs → b ≠ y) → TrsAt H ts vs → TrsAt (upd H y o) ts vs := fun hn h => h.sb (qJu (z := y)) hy hn
def qEz : Sp := fun vs H Q _ => ∃ (tz dz rd : Addr) (A : Int) (ts : List (List Im)) (tie : List Int) (n : Nat) (ms : List Im) (d : Dk), vs = [.ref tz, .ref dz, .ref rd] ∧ TabF H (.ref tz) ts tie ∧ TbM A ts tie ∧ RE H rd A ∧ ts[n]? = some ms ∧ DAt H dz (n : Int) d ∧ DOk H rd ms d ∧ (∀ m, d.lay = some m → m.wd ≠ "mix" ∧ 1 ≤ m.mo) ∧
  (qt ts (chF tie (n : Int) d.push) d.t d.hi = true → ∀ H', Same H H' → Q (.str "mixed") H') ∧ (qt ts (chF tie (n : Int) d.push) d.t d.hi = false → ∀ (t' : Addr) (H' : Hp), Same H H' → TabF H' (.ref t') (v9 ts d (n : Int) (chF tie (n : Int) d.push)) tie → Q (.ref t') H')
theorem qIw (d : Dk) : inV (.str d.wd) [.str "lay_in", .str "open", .str "close"] = d.push := d.push_in
theorem wQ (T : Tx K mg a) : FnOk P w K mg base CX0 12 a.a__law_due a.f__law_due ["_law_table_here", "_law_deed_here", "_law_reels_here"] qEz := by
  refine T.d__law_due.F.ok sc__law_due (fun vs H Q E h => ?_) (fun cdv A outer s H vs Q E hr h => ?_)
  · obtain ⟨tz, dz, rd, A', ts, tie, n, ms, d, rfl, _⟩ := h
    rfl
  obtain ⟨tz, dz, rd, A', ts, tie, n, ms, d, rfl, hT, hM, hre, hm, hD, hO, hlay, k1, k2⟩ := h
  have hu := hr.units
  refine ⟨_, (qF (qV (i := 3) sc__law_due.nd rfl (Or.inl rfl) (jI qE))
      (qF (xn PassesOwn.never rfl (zN rfl T.b_range (qA qB qE)) (ja (i := 4) sc__law_due.nd rfl (Or.inl rfl)) (qF (qV (i := 5) sc__law_due.nd rfl (Or.inl rfl) (pv 0))
      (qF (zY (qh (qL xj (pv 4) (qJ qI (pv 1) qB (fun _ _ => rfl)) (qU _)) (qG (qV (i := 5) sc__law_due.nd rfl (Or.inl rfl) (qN T.d__law_done (zF T) hr rfl (qA (ql (qA (qJ qI (pv 0) qB (fun _ _ => rfl)) (qA (jI qE) qE))) (qA (pv 1) (qA (pv 2) qE)))))) (qG (qh (qAz (PW.pt (zH (qL jy (qJ qI (pv 1) qB (fun _ _ => rfl)) (ql (qA qX (qA qX (qA qX qE)))) rfl) (zH (qL jy (qJ qI (pv 1) qB (fun _ _ => rfl)) (qJ qI (pv 0) qB (fun _ _ => rfl)) rfl) (xl (qL jy (pv 4) (qJ qI (pv 0) qB (fun _ _ => rfl)) rfl)))))) (qG (qV (i := 5) sc__law_due.nd rfl (Or.inl rfl) (qN T.d__law_done (zF T) hr rfl (qA (ql (qA (qJ qI (pv 0) qB (fun _ _ => rfl)) (qA (jI qE) qE))) (qA (qN T.d__law_other (qBi T) hr rfl (qA (pv 1) (qA (pv 4) qE))) (qA (pv 2) qE)))))) qS))))
      (qF (qh (qL (qJ3 hu) (pv 5) qX (qU _)) (qG (qP qX)) qS)
      (qG (jD (kj F.plainAttrs_list F.slot_list_append F.type_list_append q9 (pv 3) (qA (qJ jC (qJ qI (pv 5) qB (fun _ _ => rfl)) (pv 4) (fun _ _ => rfl)) qE))))))))
      (qG (qP (ql (qA (pv 3) (qA (qJ qI (pv 0) qB (fun _ _ => rfl)) qE))))))), ?_⟩
  try dsimp only [jo, qi]
  have l3 := hM.l3
  have hn3 : n < 3 := by have := (glt hm); omega
  have ht0 : ∀ x ∈ tie, 0 ≤ x := fun x hx => by obtain ⟨k, rfl, _⟩ := hM.tin x hx; omega
  obtain ⟨G, hG⟩ : ∃ G, v9 ts d (n : Int) (chF tie (n : Int) d.push) = G := ⟨_, rfl⟩
  have gl : G.length = 3 := by rw [← hG, zd]; exact l3
  rw [hG] at k2
  have hM0 : TbM A' ts [] := ⟨l3, hM.ms, by simp, by simp⟩
  obtain ⟨_, tl, ti, zs, e0, g2, g3, g4, g5⟩ := id hT
  cases e0
  have hzl := g4.len
  obtain ⟨xs, hd, a0, a1, a2⟩ := hD.opn
  have touched : ∀ k : Int, k ∈ chF tie (n : Int) d.push → vA (ts.getD k.toNat []) d.t d.hi = true → qt ts (chF tie (n : Int) d.push) d.t d.hi = true := fun k hk h => List.any_eq_true.mpr ⟨k, hk, h⟩
  refine ⟨sL0, fun y hy => ?_⟩
  have w0 := qH hy (.lst [])
  have ky : upd H y (.lst []) y = some (.lst []) := qD
  generalize upd H y (.lst []) = H0 at w0 ky
  refine ⟨3, rfl, by decide, by decide, zz (n := 3) (fun i σ H' => ∃ (o1 o2 : Option V) (acc : List V), σ = [some (.ref tz), some (.ref dz), some (.ref rd), some (.ref y), o1, o2] ∧ H' y = some (.lst acc) ∧ TrsAt H' (G.take i) acc ∧ (∀ b, V.ref b ∈ acc → b ≠ y) ∧ Same H H' ∧ ∀ k : Nat, k < i → (k : Int) ∈ chF tie (n : Int) d.push → vA (ts.getD k []) d.t d.hi = false)
    ⟨none, none, [], rfl, ky, trivial, by simp, w0, fun k hk => absurd hk (by omega)⟩ ?_ ?_⟩
  · rintro i σ H1 hi ⟨o1, o2, acc, rfl, hy1, hT1, hne, e1, hk1⟩
    have accl : acc.length ≤ 3 := by rw [hT1.len, List.length_take]; omega
    have eG : ∀ (k : Nat), k < 3 → G.getD k [] = if k = n then (v9 ts d (n : Int) (chF [] (n : Int) d.push)).getD n [] else if d.push = true ∧ (n : Int) ∈ tie ∧ (k : Int) ∈ tie then (v9 ts d.oth (k : Int) (chF [] (k : Int) d.oth.push)).getD k [] else ts.getD k [] := fun k hk => by
      by_cases h : k = n
      · subst h
        rw [if_pos rfl, ← hG]
        exact qKt (by omega) ht0
      · rw [if_neg h, ← hG]
        exact qKs (by omega) h ht0
    have eGi := eG i hi
    refine ⟨_, rfl, ?_⟩
    refine ⟨fun σ' H2 => ∃ v : V, σ' = [some (.ref tz), some (.ref dz), some (.ref rd), some (.ref y), some (.int (0 + (i : Int))), some v] ∧ Same H1 H2 ∧ ((v = .str "mixed" ∧ qt ts (chF tie (n : Int) d.push) d.t d.hi = true) ∨
      ∃ (t' tl' ti' z' : Addr) (zs' : List V) (ts' : List (List Im)) (tie' : List Int), v = .ref t' ∧ TabF H2 (.ref t') ts' tie' ∧ H2 t' = some (.tup [.ref tl', .ref ti']) ∧ H2 tl' = some (.lst zs') ∧ zs'[i]? = some (.ref z') ∧ z' ≠ y ∧ Tr H2 z' (G.getD i []) ∧ ((i : Int) ∈ chF tie (n : Int) d.push → vA (ts.getD i []) d.t d.hi = false)), ?_, ?_⟩
    · refine ⟨_, rfl, qZ rfl (SqT.of (e1 _ _ hd)) a1 ⟨rfl, _, rfl, xo (fun c => ?_) (fun c => ?_)⟩⟩
      · have hin : i = n := by
          have : V.int (0 + (i : Int)) = V.int (n : Int) := of_decide_eq_true c
          have := V.int.inj this
          omega
        subst hin
        rw [if_pos rfl] at eGi
        refine (qZ rfl (SqT.of (e1 _ _ g2)) at0 ⟨sL0, fun e he => ⟨sL2, fun t0 ht0' => ?_⟩⟩)
        have w2 := qH he (.lst [])
        have ke : upd H1 e (.lst []) e = some (.lst []) := qD
        generalize upd H1 e (.lst []) = H2 at w2 ke ht0' ⊢
        have w3 := qH ht0' (.tup [.ref tl, .ref e])
        have kt : upd H2 t0 (.tup [.ref tl, .ref e]) t0 = some (.tup [.ref tl, .ref e]) := qD
        generalize upd H2 t0 (.tup [.ref tl, .ref e]) = H3 at w3 kt ⊢
        have e3 := e1.trans (w2.trans w3)
        have hF3 : TabF H3 (.ref t0) ts [] := ⟨t0, tl, e, zs, rfl, kt, e3 _ _ g3, g4.same e3, w3 _ _ ke⟩
        refine ⟨_, rfl, _, rfl, t0, dz, rd, rlE A', ts, [], i, ms, d, rfl, hM0.tabD hF3 (hre.same e3), hm, hD.same e3, hO.same e3, fun ht H4 e4 => ?_, fun ht t' H4 e4 hN => ?_⟩
        · refine ⟨_, rfl, (w2.trans w3).trans e4, .inl ⟨rfl, ?_⟩⟩
          rw [wq] at ht
          exact touched _ (chF_mem.mpr (.inl rfl)) (by simpa [qt] using ht)
        · obtain ⟨tl', ti', zs', z', q1, q2, q3, q4, q5⟩ := hN.at (i := i) (by rw [zd]; omega)
          rw [← eGi] at q5
          refine ⟨_, rfl, (w2.trans w3).trans e4, .inr ⟨t', tl', ti', z', zs', _, _, rfl, hN.tab, q1, q2, q3, (fun e => by rw [e, (w2.trans w3) _ _ hy1] at q4; cases q4), q5, fun _ => ?_⟩⟩
          rw [wq] at ht
          simpa [qt] using ht
      · have hin : i ≠ n := fun h => c (by subst h; rw [Int.zero_add]; exact decide_eq_true rfl)
        rw [if_neg hin] at eGi
        refine ⟨fun b H2 => Same H1 H2 ∧ (b = true ↔ (d.push = true ∧ (n : Int) ∈ tie ∧ (i : Int) ∈ tie)), ?_, ?_⟩
        · refine (qZ rfl (SqT.of (e1 _ _ hd)) a0 ⟨sL3, fun q hq => ?_⟩)
          have w2 := qH hq (.tup [.str "lay_in", .str "open", .str "close"])
          have kq : upd H1 q (.tup [.str "lay_in", .str "open", .str "close"]) q = some (.tup [.str "lay_in", .str "open", .str "close"]) := qD
          generalize upd H1 q (.tup [.str "lay_in", .str "open", .str "close"]) = H2 at w2 kq ⊢
          have e2 := e1.trans w2
          refine ⟨q, _, rfl, .inr (SqT.of kq), rfl, rfl, d.push, zK (qIw d), ?_⟩
          cases hp : d.push with
          | false => exact qk ⟨w2, by simp⟩
          | true =>
            refine qr (qZ rfl (SqT.of (e2 _ _ hd)) a1 (qZ rfl (SqT.of (e2 _ _ g2)) at1 ⟨ti, _, rfl, .inl (SqL.of (e2 _ _ g5)), rfl, vN tie, decide ((n : Int) ∈ tie), ?_, ?_⟩))
            · show V.bl (inV (.int (n : Int)) (tie.map V.int)) = _
              rw [qBf]
            by_cases hnt : (n : Int) ∈ tie
            · rw [decide_eq_true hnt]
              refine qr ⟨_, rfl, qZ rfl (SqT.of (e2 _ _ g2)) at1 ⟨ti, _, rfl, .inl (SqL.of (e2 _ _ g5)), rfl, vN tie, decide ((i : Int) ∈ tie), ?_, w2, ?_⟩⟩
              · show V.bl (inV (.int (0 + (i : Int))) (tie.map V.int)) = _
                rw [qBf, Int.zero_add]
              · simp [hnt]
            · rw [decide_eq_false hnt]
              exact qk ⟨w2, by simp [hnt]⟩
        rintro b H2 ⟨w2, hb⟩
        have e2 := e1.trans w2
        cases b with
        | true =>
          obtain ⟨hp, hnt, hit⟩ := hb.mp rfl
          rw [if_pos ⟨hp, hnt, hit⟩] at eGi
          obtain ⟨ms', hms'⟩ : ∃ ms', ts[i]? = some ms' := ⟨_, List.getElem?_eq_getElem (by omega)⟩
          refine qr (qZ rfl (SqT.of (e2 _ _ g2)) at0 ⟨sL0, fun e he => ⟨sL2, fun t0 ht0' => ?_⟩⟩)
          have v2 := qH he (.lst [])
          have ke : upd H2 e (.lst []) e = some (.lst []) := qD
          generalize upd H2 e (.lst []) = H3 at v2 ke ht0' ⊢
          have v3 := qH ht0' (.tup [.ref tl, .ref e])
          have kt : upd H3 t0 (.tup [.ref tl, .ref e]) t0 = some (.tup [.ref tl, .ref e]) := qD
          generalize upd H3 t0 (.tup [.ref tl, .ref e]) = H4 at v3 kt ⊢
          have e4 := e2.trans (v2.trans v3)
          refine ⟨_, rfl, _, rfl, dz, (n : Int), 0 + (i : Int), d, rfl, hD.same e4, hp, fun m hm' => (hlay m hm').1, fun dz' H5 e5 hD' => ?_⟩
          have e45 := e4.trans e5
          have hF5 : TabF H5 (.ref t0) ts [] := ⟨t0, tl, e, zs, rfl, e5 _ _ kt, e45 _ _ g3, g4.same e45, (v3.trans e5) _ _ ke⟩
          rw [Int.zero_add] at hD'
          refine ⟨_, rfl, t0, dz', rd, rlE A', ts, [], i, ms', d.oth, rfl, hM0.tabD hF5 (hre.same e45), hms', hD', (hO.same e45).oth hp hlay, fun ht H6 e6 => ?_, fun ht t' H6 e6 hN => ?_⟩
          · refine ⟨_, rfl, w2.trans ((v2.trans v3).trans (e5.trans e6)), .inl ⟨rfl, ?_⟩⟩
            rw [wq, qKq, qHg] at ht
            exact touched (i : Int) (chF_mem.mpr (.inr ⟨hp, hnt, hit⟩)) (by simpa [qt] using ht)
          · obtain ⟨tl', ti', zs', z', q1, q2, q3, q4, q5⟩ := hN.at (i := i) (by rw [zd]; omega)
            rw [← eGi] at q5
            refine ⟨_, rfl, w2.trans ((v2.trans v3).trans (e5.trans e6)), .inr ⟨t', tl', ti', z', zs', _, _, rfl, hN.tab, q1, q2, q3, (fun e => by rw [e, (w2.trans ((v2.trans v3).trans e5)) _ _ hy1] at q4; cases q4), q5, fun _ => ?_⟩⟩
            rw [wq, qKq, qHg] at ht
            simpa [qt] using ht
        | false =>
          have hnb : ¬ (d.push = true ∧ (n : Int) ∈ tie ∧ (i : Int) ∈ tie) := fun h => Bool.false_ne_true (hb.mpr h)
          rw [if_neg hnb] at eGi
          obtain ⟨tl', ti', zs', z', q1, q2, q3, q5⟩ := hT.at (i := i) (by omega)
          obtain ⟨us, q6, _⟩ := id q5
          have q5' := q5.same e2
          rw [← eGi] at q5'
          refine qk ⟨_, rfl, w2, .inr ⟨tz, tl', ti', z', zs', _, _, rfl, hT.same e2, e2 _ _ q1, e2 _ _ q2, q3, qR q6 hy, q5', fun h => ?_⟩⟩
          rcases chF_mem.mp h with h | h
          · omega
          · exact absurd h hnb
    rintro σ' H2 ⟨v, rfl, e2, hv⟩
    rcases hv with ⟨rfl, ht⟩ | ⟨t', tl', ti', z', zs', ts', tie', rfl, hF, q1, q2, q3, q4, q5, q6⟩
    · exact ⟨_, rfl, qF5 (neg := false) ⟨true, by rw [decide_eq_true rfl]; rfl, qr (k1 ht _ (e1.trans e2))⟩⟩
    · refine ⟨_, rfl, qDd (neg := false) hF ⟨false, rfl, qk ?_⟩⟩
      have ai : atI zs' (0 + (i : Int)) = some (.ref z') := by rw [Int.zero_add]; exact jb q3
      have hy2 := e2 _ _ hy1
      refine ⟨_, rfl, .inl ⟨rfl, _, SqL.of hy2⟩, qZ rfl (SqT.of q1) at0 ⟨_, rfl, tl', _, _, _, rfl, rfl, SqL.of q2, ai, y, _, _, rfl, rfl, hy2, qc (by omega), ?_⟩⟩
      have hne' : ∀ b, V.ref b ∈ acc ++ [.ref z'] → b ≠ y := fun b hb => by
        rcases List.mem_append.mp hb with h | h
        · exact hne b h
        · rw [List.mem_singleton] at h; cases h; exact q4
      have etk : G.take (i + 1) = G.take i ++ [G.getD i []] := by
        rw [List.take_add_one, List.getD_eq_getElem?_getD, List.getElem?_eq_getElem (by omega)]
        rfl
      refine ⟨_, _, acc ++ [.ref z'], rfl, qD, ?_, hne', jX (e1.trans e2) hy, fun k hk hc => ?_⟩
      · rw [etk]
        exact (wa (hT1.same e2) q5).updN hy2 hne'
      · by_cases hki : k = i
        · subst hki; exact q6 hc
        · exact hk1 k (by omega) hc
  · rintro σ H1 ⟨o1, o2, acc, rfl, hy1, hT1, hne, e1, hk1⟩
    rw [List.take_of_length_le (by omega)] at hT1
    refine ⟨_, rfl, qZ rfl (SqT.of (e1 _ _ g2)) at1 ⟨sL2, fun t ht => ?_⟩⟩
    have w2 := qH ht (.tup [.ref y, .ref ti])
    refine k2 ?_ t _ (e1.trans w2) ⟨t, y, ti, acc, rfl, qD, w2 _ _ hy1, hT1.same w2, w2 _ _ (e1 _ _ g5)⟩
    rw [← Bool.not_eq_true]
    intro h
    obtain ⟨k, hk, hb⟩ := List.any_eq_true.mp h
    obtain ⟨j, rfl, hj⟩ : ∃ j : Nat, k = (j : Int) ∧ j < 3 := by
      rcases chF_mem.mp hk with h | ⟨_, _, h⟩
      · exact ⟨n, h, hn3⟩
      · obtain ⟨j, h1, h2⟩ := hM.tin k h
        exact ⟨j, h1, by omega⟩
    rw [Int.toNat_natCast, hk1 j hj hk] at hb
    cases hb
theorem qJi : ∀ (zs : List Im), (∀ z ∈ zs, z.mo ≤ 10) → (zs.map Im.mo).sum ≤ 10 * (zs.length : Int) := fun zs => by
  induction zs with
  | nil => intro _; simp
  | cons z zs ih => intro h; have := ih fun y hy => h y (by simp [hy]); have := h z (by simp); rw [List.map_cons, List.sum_cons, List.length_cons]; omega
theorem qHz {A : Int} {ts : List (List Im)} {tie : List Int} (hM : TbM A ts tie) (d : Dk) (n : Int) (ns : List Int) (hns : ∀ x ∈ ns, 0 ≤ x) {k : Nat} (hk : k < ts.length) : ((v9 ts d n ns).getD k []).length ≤ 80 := by
  have hml : (ts.getD k []).length ≤ 17 := by
    rw [List.getD_eq_getElem?_getD, List.getElem?_eq_getElem hk]
    exact (hM.ms _ (List.getElem_mem hk)).1
  rw [qDb ts d n k hk ns hns]
  split
  · unfold qLf
    have h1 := qCg 0 (zo 0 d.t 0 (ts.getD k []) ++ [.gap (qGq (d.t - qHm (ts.getD k [])) 0)] ++ vR d n (k : Int) ++ zo d.hi (qHm (ts.getD k [])) 0 (ts.getD k []))
    have h2 := zj 0 d.t 0 (ts.getD k [])
    have h3 := zj d.hi (qHm (ts.getD k [])) 0 (ts.getD k [])
    have h4 : (vR d n (k : Int)).length ≤ 1 := by
      unfold vR
      split
      · exact d.laid_len
      · rw [List.length_map]; exact d.laid_len
    rw [List.length_append, List.length_append, List.length_append, List.length_singleton] at h1
    omega
  · omega
theorem TrsAt.len' {H : Hp} {ts : List (List Im)} {vs : List V} {N : Nat} (h : TrsAt H ts vs) (hN : ∀ k, k < ts.length → (ts.getD k []).length ≤ N) : ∀ b, V.ref b ∈ vs → ∃ xs, H b = some (.lst xs) ∧ xs.length ≤ N := fun b hb => by
  obtain ⟨i, hi, e⟩ := List.mem_iff_getElem.mp hb
  obtain ⟨ms, z, hms, ez, ⟨xs, q1, q2⟩⟩ := h.get (List.getElem?_eq_getElem hi)
  rw [e] at ez
  cases ez
  refine ⟨xs, q1, ?_⟩
  rw [q2.len]
  have := hN i (by have := h.len; omega)
  rwa [List.getD_eq_getElem?_getD, hms] at this
set_option maxHeartbeats 8000000 in
theorem qLt (T : Tx K mg a) : FnOk P w K mg base CX0 13 a.a_law a.f_law ["_law_script"] (qJe K) := by
  refine T.d_law.F.ok sc_law (fun vs H Q E h => ?_) (fun cdv A outer s H vs Q E hr h => ?_)
  · obtain ⟨a, ns, rfl, _⟩ := h
    rfl
  obtain ⟨zs, ns, rfl, hS, hlen, kk⟩ := h
  have hu := hr.units
  refine ⟨_, (qF (qV (i := 1) sc_law.nd rfl (Or.inl rfl) (qN T.d__law_reels (qCk T) hr rfl (qA (qN T.d__law_cell_at (zq T) hr rfl (qA (pv 0) (qA qB qE))) qE)))
      (qF (qV (i := 2) sc_law.nd rfl (Or.inl rfl) (qN T.d__law_table (qB7 T) hr rfl (qA (qN T.d__law_cell_at (zq T) hr rfl (qA (pv 0) (qA qB qE))) (qA (pv 1) (qA qB (qA qB qE))))))
      (qF (qV (i := 3) sc_law.nd rfl (Or.inl rfl) (qN T.d__law_copied (qAc T) hr rfl (qA (pv 2) qE)))
      (qF (xn PassesOwn.never rfl (jZ (wL qE1 (pv 0) (vJ qB) (vJ qB))) (ja (i := 4) sc_law.nd rfl (Or.inl rfl)) (qF (qV (i := 5) sc_law.nd rfl (Or.inl rfl) (qN T.d__law_stream (kJ T) hr rfl (qA (pv 4) (qA qB qE))))
      (qF (qV (i := 6) sc_law.nd rfl (Or.inl rfl) (qO qj (qO qf (ju F.plainAttrs_list F.slot_list_pop F.type_list_pop j7 (pv 5)) qB) qB))
      (qF (qV (i := 7) sc_law.nd rfl (Or.inl rfl) (qd (qCp rfl) rfl T.b_sum rfl (qA (qBj [] [] rfl (jZ (qJ jC (qJ qI (pv 2) qB (fun _ _ => rfl)) (pv 6) (fun _ _ => rfl))) (fun _ _ _ _ => (qL z8 (qJ (qA8 (K := K) rfl) (pv 0) qB (fun _ _ => rfl)) qX (qU _))) (fun _ _ _ _ => (qJ (qA8 (K := K) rfl) (pv 0) (qAh kO qB) (fun _ _ => rfl)))) qE)))
      (qF (qV (i := 8) sc_law.nd rfl (Or.inl rfl) (qN T.d__law_deed (qDf T) hr rfl (qA (pv 5) (qA (pv 6) (qA (pv 1) (qA (pv 7) qE))))))
      (qF (qV (i := 9) sc_law.nd rfl (Or.inl rfl) (qN T.d__law_done (zF T) hr rfl (qA (pv 2) (qA (pv 8) (qA (pv 1) qE)))))
      (qF (qh (PW.pt (xh (qL (qD7 hu) (pv 9) (qN T.d__law_due (wQ T) hr rfl (qA (pv 2) (qA (pv 8) (qA (pv 1) qE)))) (qU _)) (jc (qL (qD7 hu) (pv 2) (pv 3) (qU _))))) (qG (qP vc)) qS)
      (qG (qh (qL (qD7 hu) (pv 9) qX (qU _)) (qF (xn PassesOwn.never rfl (jZ (qJ qI (pv 9) qB (fun _ _ => rfl))) (ja (i := 10) sc_law.nd rfl (Or.inl rfl)) (qG (jD (kj F.plainAttrs_list F.slot_list_append F.type_list_append q9 (pv 10) (qA (ql (qA qX (qA qB qE))) qE)))))
      (qF (jD (ju F.plainAttrs_list F.slot_list_clear F.type_list_clear qIq (qJ jC (qJ qI (pv 9) qB (fun _ _ => rfl)) (qO qj (pv 4) qB) (fun _ _ => rfl))))
      (qF (jD (kj F.plainAttrs_list F.slot_list_append F.type_list_append q9 (qJ qI (pv 9) qB (fun _ _ => rfl)) (qA qB qE)))
      (qF (qV (i := 11) sc_law.nd rfl (Or.inl rfl) (qN T.d__law_due (wQ T) hr rfl (qA (pv 2) (qA (pv 8) (qA (pv 1) qE)))))
      (qG (qh (PW.pt (xh (qL (qD7 hu) (pv 2) (pv 3) (qU _)) (jc (qL (qD7 hu) (qN T.d_deed_done (vj T) hr rfl (qA (pv 2) (qA (pv 8) (qA (pv 1) qE)))) (pv 11) (qU _))))) (qG (qP vc)) qS)))))) qS)))))))))
      (qG (qP (xm (qJ3 hu) (pv 2) (pv 3) (qU _)))))))), ?_⟩
  try dsimp only [jo, qi]
  refine ⟨_, rfl, zs, ns, 1, rfl, hS, hlen, by decide, fun c1 => ?_⟩
  refine ⟨c1, rfl, fun re A' H1 e1 _ hre1 A0 A1 => ?_⟩
  have hre : RE H1 re A' := ⟨.inl hre1, A0, A1⟩
  refine ⟨_, rfl, zs, ns, 0, rfl, e1.seq hS, hlen, by decide, fun c0 => ⟨_, rfl, c0, re, A', rfl, hre, fun tz ts tie H2 e2 hT hM => ?_⟩⟩
  have l3 := hM.l3
  refine ⟨_, rfl, tz, ts, tie, rfl, hT, by omega, fun cz H3 e3 hC => ?_⟩
  obtain ⟨cs, hcut, hcl⟩ := qI2 ns (some 2) (some 7)
  refine ⟨_, rfl, 2, rfl, 7, rfl, zs, _, rfl, (e1.trans (e2.trans e3)).seq hS, fun zc hzc => ?_⟩
  rw [hcut]
  have w4 := qH hzc (.lst (cs.map V.int))
  have kc : upd H3 zc (.lst (cs.map V.int)) zc = some (.lst (cs.map V.int)) := qD
  generalize upd H3 zc (.lst (cs.map V.int)) = H4 at w4 kc ⊢
  have hT4 := hT.same (e3.trans w4)
  have hC4 := hC.same w4
  have hre4 := hre.same (e2.trans (e3.trans w4))
  have ht0 : ∀ x ∈ tie, 0 ≤ x := fun x hx => by obtain ⟨k, rfl, _⟩ := hM.tin x hx; omega
  clear hT hC hre
  refine ⟨zc, rfl, ⟨_, SqL.of kc⟩, xZ (K := K) (a := zc) (xs := cs.map V.int) (fun i σ H' => ∃ (o1 o2 o3 o4 o5 o6 o7 o8 : Option V), σ = [some (.ref zs), some (.ref re), some (.ref tz), some (.ref cz), o1, o2, o3, o4, o5, o6, o7, o8] ∧ Same H4 H') ⟨none, none, none, none, none, none, none, none, rfl, Same.refl _⟩ ?_ ?_ ?_⟩
  · rintro i σ H' hi' ⟨o1, o2, o3, o4, o5, o6, o7, o8, rfl, e⟩
    exact SqL.of (e _ _ kc)
  · rintro i x σ H' hx ⟨o1, o2, o3, o4, o5, o6, o7, o8, rfl, e⟩
    obtain ⟨c, rfl⟩ : ∃ c : Int, x = .int c := by
      rw [List.getElem?_map] at hx
      cases hq : cs[i]? with
      | none => rw [hq] at hx; cases hx
      | some k => rw [hq] at hx; cases hx; exact ⟨k, rfl⟩
    refine ⟨_, rfl, c, 30, rfl, by decide, by decide, fun xz xs H5 e5 hxz hxs hxl _ => ?_⟩
    obtain ⟨y1, x1, rfl, l1⟩ := xJ (n := 29) (by rw [hxl]; decide)
    refine ⟨_, rfl, .inl ⟨rfl, _, SqL.of hxs⟩, qBl hxs fun H6 s6 hz6 _ => ?_⟩
    have f1 := fm (x1.fdiv 3) (show (0 : Int) < 3 by decide)
    refine ⟨_, _, rfl, rfl, cdB (by decide) (by decide), _, _, rfl, rfl, nz, ?_⟩
    dsimp only
    obtain ⟨n, hn, hn3⟩ : ∃ n : Nat, (x1.fdiv 3).fmod 3 = (n : Int) ∧ n < 3 := ⟨((x1.fdiv 3).fmod 3).toNat, by omega, by omega⟩
    rw [hn]
    have e6 : Same H' H6 := fun b u hb => s6 b u (qR hb hxz) (e5 b u hb)
    have E6 : Same H4 H6 := e.trans e6
    obtain ⟨tl, ti, zs', z, q1, q2, q3, q5⟩ := (hT4.same E6).at (i := n) (by omega)
    obtain ⟨ms, hms⟩ : ∃ ms, ts[n]? = some ms := ⟨_, List.getElem?_eq_getElem (by omega)⟩
    have em : ts.getD n [] = ms := by rw [List.getD_eq_getElem?_getD, hms]; rfl
    rw [em] at q5
    obtain ⟨us, hz, his⟩ := id q5
    obtain ⟨m17, mTM⟩ := hM.ms ms (List.mem_of_getElem? hms)
    have hul := his.len
    refine (qZ rfl (SqT.of q1) at0 ⟨_, rfl, tl, _, _, _, rfl, rfl, SqL.of q2, jb q3, z, rfl, ⟨_, SqL.of hz⟩, vM (K := K) (a := z) (xs := us) (fun j acc H7 => H7 = H6 ∧ ∃ js : List Int, acc = js.map V.int ∧ js.length ≤ j ∧ js.sum = ((ms.take j).map Im.mo).sum) ⟨rfl, [], rfl, by simp, rfl⟩ ?_ ?_ ?_⟩)
    · rintro j acc H7 hj ⟨rfl, js, rfl, hjl, _⟩
      exact ⟨SqL.of hz, qc (by rw [List.length_map]; omega)⟩
    · rintro j x acc H7 hj hx ⟨rfl, js, rfl, hjl, hjs⟩
      obtain ⟨m, hm, hI⟩ := his.get hx
      obtain ⟨zi, xi, rfl, hzi, b0, bl⟩ := hI.opn
      have etk : ((ms.take (j + 1)).map Im.mo).sum = ((ms.take j).map Im.mo).sum + m.mo := by rw [List.take_add_one, hm]; simp
      refine ⟨_, rfl, zi, xi, _, _, rfl, rfl, SqT.of hzi, b0, rfl, _, rfl, xo (fun c => ?_) (fun c => ?_)⟩
      · refine ⟨_, rfl, _, rfl, zi, xi, _, _, rfl, rfl, SqT.of hzi, bl, Nxt.mk hj ⟨rfl, js ++ [m.l], by simp, by simp; omega, ?_⟩⟩
        have hw : m.wd ≠ "mix" := by simpa using c
        rw [etk, qLx hw, List.sum_append, hjs]
        simp
      · have hw : m.wd = "mix" := by simpa using c
        obtain ⟨l, rfl⟩ := qGp hw
        exact Nxt.mk hj ⟨rfl, js, rfl, by omega, by rw [etk, hjs]; simp [Im.mo]⟩
    rintro acc H7 ⟨rfl, js, rfl, _, hjs⟩ dd hdd
    rw [hul, List.take_length] at hjs
    refine ⟨dd, js, rfl, SqL.of qD, ?_⟩
    have j0 : 0 ≤ js.sum := by rw [hjs]; exact qH0 ms fun m hm => ((mTM m hm).it A0 A1).2.2.1
    have j1 : js.sum ≤ 170 := by
      have := qJi ms fun m hm => ((mTM m hm).it A0 A1).2.2.2
      rw [hjs]
      omega
    have w8 := qH hdd (.lst (js.map V.int))
    generalize upd H7 dd (.lst (js.map V.int)) = H8 at w8 ⊢
    generalize js.sum = last at j0 j1 ⊢
    have E8 := E6.trans w8
    refine ⟨_, rfl, _, rfl, _, rfl, _, rfl, xz, re, (n : Int), last, A', y1, rfl, w8 _ _ hz6, by omega, hre4.same E8, j0, fun dz d H9 s9 hD hG => ?_⟩
    have e9 : Same H' H9 := fun b u hb => s9 b u (qR hb hxz) ((e6.trans w8) b u hb)
    have E9 : Same H4 H9 := e.trans e9
    have hre9 := hre4.same E9
    have hT9 := hT4.same E9
    have hC9 := hC4.same E9
    have hO := hG.ok (ms := ms) hre9 (by omega)
    have hlay := hG.lay hre9
    have hTD9 := hM.tabD hT9 hre9
    clear hz6 s9 w8 E8 hdd hz his q1 q2 q3 q5 s6 e6 E6 hxs e5
    refine ⟨_, rfl, _, rfl, _, rfl, tz, dz, re, rlE A', ts, tie, n, ms, d, rfl, hTD9, hms, hD, hO, fun ht H10 e10 => ?_, fun ht t' H10 e10 hN => ?_⟩
    · refine ⟨_, rfl, _, rfl, _, rfl, _, rfl, tz, dz, re, A', ts, tie, n, ms, d, rfl, hT9.same e10, hM, hre9.same e10, hms, hD.same e10, hO.same e10, hlay, fun _ H11 e11 => ?_, fun h => absurd (h.symm.trans ht) (by decide)⟩
      have e911 := e10.trans e11
      refine qHf (neg := true) ⟨false, by rw [decide_eq_true rfl]; rfl, qk ?_⟩
      refine ⟨_, rfl, _, rfl, vS (neg := true) (hT9.same e911) (hC9.same e911) ⟨false, rfl, qk ?_⟩⟩
      refine ⟨_, rfl, qF5 (neg := true) ⟨false, by rw [decide_eq_true rfl]; rfl, qk ?_⟩⟩
      exact ⟨_, _, _, _, _, _, _, _, rfl, E9.trans e911⟩
    obtain ⟨G, hG'⟩ : ∃ G, v9 ts d (n : Int) (chF tie (n : Int) d.push) = G := ⟨_, rfl⟩
    have gsm : ∀ k, k < G.length → (G.getD k []).length ≤ 80 := fun k hk => by
      rw [← hG', zd] at hk
      rw [← hG']
      exact qHz hM d _ _ (fun x hx => (chF_mem.mp hx).elim (fun h => by omega) fun h => ht0 x h.2.2) hk
    have gl : G.length = 3 := by rw [← hG', zd]; exact l3
    have hx := qEy (K := K) (rl := rlE A') (tie := tie) hms hD hO
    rw [ht, if_neg (by decide)] at hx
    rw [hG'] at hN hx
    refine ⟨_, rfl, _, rfl, _, rfl, _, rfl, tz, dz, re, A', ts, tie, n, ms, d, rfl, hT9.same e10, hM, hre9.same e10, hms, hD.same e10, hO.same e10, hlay, fun h => absurd (h.symm.trans ht) (by decide), fun _ t2 H11 e11 hT2 => ?_⟩
    rw [hG'] at hT2
    have e911 := e10.trans e11
    refine vS (neg := true) (hN.tab.same e11) hT2 ⟨false, rfl, qk ?_⟩
    refine ⟨_, rfl, _, rfl, vS (neg := true) (hT9.same e911) (hC9.same e911) ⟨false, rfl, qk ?_⟩⟩
    refine ⟨_, rfl, qDd (neg := true) (hN.tab.same e11) ⟨true, rfl, qr ?_⟩⟩
    obtain ⟨tl', ti', zs2, n1, n2, n3, n4, f1', f2', nn, f3⟩ := hN.ex
    have zl : zs2.length = 3 := by rw [n3.len]; exact gl
    have hb0 := (n3.same e11).len' gsm
    refine ⟨_, rfl, t', _, _, _, rfl, rfl, SqT.of (e11 _ _ n1), at0, tl', rfl, ⟨_, SqL.of (e11 _ _ n2)⟩, xZ (K := K) (a := tl') (xs := zs2) (fun j σ H12 => ∃ o : Option V, σ = [some (.ref zs), some (.ref re), some (.ref tz), some (.ref cz), some (.int c), some (.ref xz), some (.int (n : Int)), some (.int last), some (.ref dz), some (.ref t'), o, o8] ∧ Same H9 H12 ∧ H12 t' = some (.tup [.ref tl', .ref ti']) ∧ H12 tl' = some (.lst zs2) ∧ H12 ti' = some (.lst (tie.map V.int)) ∧ ∀ b, V.ref b ∈ zs2 → ∃ xs, H12 b = some (.lst xs) ∧ xs.length ≤ 80 + j)
      ⟨o7, rfl, e911, e11 _ _ n1, e11 _ _ n2, e11 _ _ n4, hb0⟩ ?_ ?_ ?_⟩
    · rintro j σ H12 hj ⟨o, rfl, _, _, h2, _⟩
      exact SqL.of h2
    · rintro j x σ H12 hx' ⟨o, rfl, hs, h1, h2, h3, h4⟩
      have hj := (glt hx')
      obtain ⟨_, b, _, rfl, _⟩ := n3.get hx'
      have hbm := List.mem_of_getElem? hx'
      obtain ⟨xs, hb, hbl⟩ := h4 b hbm
      obtain ⟨hbn, hbt, hbi⟩ := f3 b hbm
      refine ⟨_, rfl, .inl ⟨rfl, _, SqL.of hb⟩, sL2, fun g hg => ?_⟩
      have w := qH hg (.tup [.str "gap", .int 1])
      refine ⟨b, _, _, rfl, rfl, w _ _ hb, qc (by omega), ?_⟩
      refine ⟨_, rfl, jX (hs.trans w) hbn, ?_, ?_, ?_, fun b2 hb2 => ?_⟩
      · rw [qY (qCr h1 hb (by intro q; cases q))]; exact w _ _ h1
      · rw [qY hbt.symm]; exact w _ _ h2
      · rw [qY hbi.symm]; exact w _ _ h3
      · by_cases e : b2 = b
        · subst e
          exact ⟨_, qD, by rw [List.length_append]; show xs.length + 1 ≤ _; omega⟩
        · obtain ⟨xs2, h5, h6⟩ := h4 b2 hb2
          exact ⟨xs2, by rw [qY e]; exact w _ _ h5, by omega⟩
    rintro σ H12 ⟨o, rfl, hs, h1, h2, h3, h4⟩
    have f2 := fm c (show (0 : Int) < 3 by decide)
    obtain ⟨k, hk, hk3⟩ : ∃ k : Nat, c.fmod 3 = (k : Int) ∧ k < 3 := ⟨(c.fmod 3).toNat, by omega, by omega⟩
    obtain ⟨v, hv⟩ : ∃ v, zs2[k]? = some v := ⟨_, List.getElem?_eq_getElem (by omega)⟩
    obtain ⟨_, b, _, rfl, _⟩ := n3.get hv
    have hbm := List.mem_of_getElem? hv
    obtain ⟨xs, hb, hbl⟩ := h4 b hbm
    obtain ⟨hbn, hbt, hbi⟩ := f3 b hbm
    have hak : atI zs2 (c.fmod 3) = some (.ref b) := by rw [hk]; exact jb hv
    refine (qZ rfl (SqT.of h1) at0 ⟨_, rfl, _, _, rfl, rfl, nz, tl', _, _, _, rfl, rfl, SqL.of h2, hak, .inl ⟨rfl, _, SqL.of hb⟩, b, _, rfl, rfl, hb, ?_⟩)
    have h1' : upd H12 b (.lst []) t' = some (.tup [.ref tl', .ref ti']) := by rw [qY (qCr h1 hb (by intro q; cases q))]; exact h1
    have h3' : upd H12 b (.lst []) ti' = some (.lst (tie.map V.int)) := by rw [qY hbi.symm]; exact h3
    have hs' : Same H9 (upd H12 b (.lst [])) := jX hs hbn
    generalize upd H12 b (.lst []) = H13 at h1' h3' hs' ⊢
    refine (qZ rfl (SqT.of h1') at1 ⟨.inl ⟨rfl, _, SqL.of h3'⟩, ti', _, _, rfl, rfl, h3', qc (by rw [List.length_map]; have := hM.tl; omega), ?_⟩)
    have hs2 : Same H9 (upd H13 ti' (.lst (tie.map V.int ++ [.int 2]))) := jX hs' f2'
    generalize upd H13 ti' (.lst (tie.map V.int ++ [.int 2])) = H14 at hs2 ⊢
    refine ⟨_, rfl, _, rfl, _, rfl, tz, dz, re, A', ts, tie, n, ms, d, rfl, hT9.same hs2, hM, hre9.same hs2, hms, hD.same hs2, hO.same hs2, hlay, fun h => absurd (h.symm.trans ht) (by decide), fun _ t3 H15 e15 hT3 => ?_⟩
    rw [hG'] at hT3
    have hs3 := hs2.trans e15
    refine ⟨_, rfl, _, rfl, vS (neg := true) (hT9.same hs3) (hC9.same hs3) ⟨false, rfl, qk ?_⟩⟩
    have hx3 := qEy (K := K) (rl := rlE A') (tie := tie) hms (hD.same hs3) (hO.same hs3)
    rw [ht, if_neg (by decide), hG'] at hx3
    refine ⟨_, rfl, _, rfl, _, rfl, tz, dz, re, rlE A', ts, tie, G, rfl, hTD9.same hs3, hx3, fun t4 H16 e16 hN4 => ?_⟩
    refine ⟨_, rfl, vS (neg := true) hN4.tab (hT3.same e16) ⟨false, rfl, qk ?_⟩⟩
    exact ⟨_, _, _, _, _, _, _, _, rfl, E9.trans (hs3.trans e16)⟩
  rintro σ H' ⟨o1, o2, o3, o4, o5, o6, o7, o8, rfl, e⟩
  exact ⟨_, rfl, _, rfl, vS (neg := false) (hT4.same e) (hC4.same e) (kk _)⟩
end
theorem all_mk {l : W.OpenLaw} {w : World} {K : W.Frag} {h : Heap} {mg : Str → Option Value} {fa f0 f1 f2 f3 f4 f5 f6 f7 f8 f9 f10 f11 f12 f13 f14 f15 f16 f17 f18 f19 f20 f21 f22 f23 f24 f25 f26 f27 f28 f29 f30 f31 f32 f33 f34 f35 f36 f37 f38 f39 f40 f41 f42 f43 f44 f45 f46 f47 f48 f49 f50 f51 f52 f53 f54 f55 f56 f57 f58 f59 f60 f61 f62 f63 f64 f65 f66 f67 f68 f69 f70 f71 f72 f73 f74 f75 f76 f77 f78 f79 f80 f81 f82 f83 f84 C0 C1 C2 C3 C4 C5 nNOUGHT nROLLS nLAYS nPUSHES nCHANGES fmShort : Addr} (X : K.In h) (G : h.Ns mainGlobals mg) (hfa : mg "law" = some (.ref fa))
    {od0 an0 od1 an1 od2 an2 od3 an3 od4 an4 od5 an5 od6 an6 od7 an7 od8 an8 od9 an9 od10 an10 od11 an11 od12 an12 od13 an13 od14 an14 od15 an15 od16 an16 od17 an17 od18 an18 od19 an19 od20 an20 od21 an21 od22 an22 od23 an23 od24 an24 od25 an25 od26 an26 od27 an27 od28 an28 od29 an29 od30 an30 od31 an31 od32 an32 od33 an33 od34 an34 od35 an35 od36 an36 od37 an37 od38 an38 od39 an39 od40 an40 od41 an41 od42 an42 od43 an43 od44 an44 od45 an45 od46 an46 od47 an47 od48 an48 od49 an49 od50 an50 od51 an51 od52 an52 od53 an53 od54 an54 od55 an55 od56 an56 od57 an57 od58 an58 od59 an59 od60 an60 od61 an61 od62 an62 od63 an63 od64 an64 od65 an65 od66 an66 od67 an67 od68 an68 od69 an69 od70 an70 od71 an71 od72 an72 od73 an73 od74 an74 od75 an75 od76 an76 od77 an77 od78 an78 od79 an79 od80 an80 od81 an81 od82 an82 od83 an83 od84 an84 odNOUGHT odROLLS odLAYS odPUSHES odCHANGES odmShort anmShort : Option Addr} {sl0 sl1 sl2 sl3 sl4 sl5 sl6 sl7 sl8 sl9 sl10 sl11 sl12 sl13 sl14 sl15 sl16 sl17 sl18 sl19 sl20 sl21 sl22 sl23 sl24 sl25 sl26 sl27 sl28 sl29 sl30 sl31 sl32 sl33 sl34 sl35 sl36 sl37 sl38 sl39 sl40 sl41 sl42 sl43 sl44 sl45 sl46 sl47 sl48 sl49 sl50 sl51 sl52 sl53 sl54 sl55 sl56 sl57 sl58 sl59 sl60 sl61 sl62 sl63 sl64 sl65 sl66 sl67 sl68 sl69 sl70 sl71 sl72 sl73 sl74 sl75 sl76 sl77 sl78 sl79 sl80 sl81 sl82 sl83 sl84 slNOUGHT slROLLS slLAYS slPUSHES slCHANGES slmShort : Array (Option Value)} {oc0 kV0 dc0 pm0 cd0 ct0 oc1 kV1 dc1 pm1 cd1 ct1 oc2 kV2 dc2 pm2 cd2 ct2 oc3 kV3 dc3 pm3 cd3 ct3 oc4 kV4 dc4 pm4 cd4 ct4 oc5 kV5 dc5 pm5 cd5 ct5 oc6 kV6 dc6 pm6 cd6 ct6 oc7 kV7 dc7 pm7 cd7 ct7 oc8 kV8 dc8 pm8 cd8 ct8 oc9 kV9 dc9 pm9 cd9 ct9 oc10 kV10 dc10 pm10 cd10 ct10 oc11 kV11 dc11 pm11 cd11 ct11 oc12 kV12 dc12 pm12 cd12 ct12 oc13 kV13 dc13 pm13 cd13 ct13 oc14 kV14 dc14 pm14 cd14 ct14 oc15 kV15 dc15 pm15 cd15 ct15 oc16 kV16 dc16 pm16 cd16 ct16 oc17 kV17 dc17 pm17 cd17 ct17 oc18 kV18 dc18 pm18 cd18 ct18 oc19 kV19 dc19 pm19 cd19 ct19 oc20 kV20 dc20 pm20 cd20 ct20 oc21 kV21 dc21 pm21 cd21 ct21 oc22 kV22 dc22 pm22 cd22 ct22 oc23 kV23 dc23 pm23 cd23 ct23 oc24 kV24 dc24 pm24 cd24 ct24 oc25 kV25 dc25 pm25 cd25 ct25 oc26 kV26 dc26 pm26 cd26 ct26 oc27 kV27 dc27 pm27 cd27 ct27 oc28 kV28 dc28 pm28 cd28 ct28 oc29 kV29 dc29 pm29 cd29 ct29 oc30 kV30 dc30 pm30 cd30 ct30 oc31 kV31 dc31 pm31 cd31 ct31 oc32 kV32 dc32 pm32 cd32 ct32 oc33 kV33 dc33 pm33 cd33 ct33 oc34 kV34 dc34 pm34 cd34 ct34 oc35 kV35 dc35 pm35 cd35 ct35 oc36 kV36 dc36 pm36 cd36 ct36 oc37 kV37 dc37 pm37 cd37 ct37 oc38 kV38 dc38 pm38 cd38 ct38 oc39 kV39 dc39 pm39 cd39 ct39 oc40 kV40 dc40 pm40 cd40 ct40 oc41 kV41 dc41 pm41 cd41 ct41 oc42 kV42 dc42 pm42 cd42 ct42 oc43 kV43 dc43 pm43 cd43 ct43 oc44 kV44 dc44 pm44 cd44 ct44 oc45 kV45 dc45 pm45 cd45 ct45 oc46 kV46 dc46 pm46 cd46 ct46 oc47 kV47 dc47 pm47 cd47 ct47 oc48 kV48 dc48 pm48 cd48 ct48 oc49 kV49 dc49 pm49 cd49 ct49 oc50 kV50 dc50 pm50 cd50 ct50 oc51 kV51 dc51 pm51 cd51 ct51 oc52 kV52 dc52 pm52 cd52 ct52 oc53 kV53 dc53 pm53 cd53 ct53 oc54 kV54 dc54 pm54 cd54 ct54 oc55 kV55 dc55 pm55 cd55 ct55 oc56 kV56 dc56 pm56 cd56 ct56 oc57 kV57 dc57 pm57 cd57 ct57 oc58 kV58 dc58 pm58 cd58 ct58 oc59 kV59 dc59 pm59 cd59 ct59 oc60 kV60 dc60 pm60 cd60 ct60 oc61 kV61 dc61 pm61 cd61 ct61 oc62 kV62 dc62 pm62 cd62 ct62 oc63 kV63 dc63 pm63 cd63 ct63 oc64 kV64 dc64 pm64 cd64 ct64 oc65 kV65 dc65 pm65 cd65 ct65 oc66 kV66 dc66 pm66 cd66 ct66 oc67 kV67 dc67 pm67 cd67 ct67 oc68 kV68 dc68 pm68 cd68 ct68 oc69 kV69 dc69 pm69 cd69 ct69 oc70 kV70 dc70 pm70 cd70 ct70 oc71 kV71 dc71 pm71 cd71 ct71 oc72 kV72 dc72 pm72 cd72 ct72 oc73 kV73 dc73 pm73 cd73 ct73 oc74 kV74 dc74 pm74 cd74 ct74 oc75 kV75 dc75 pm75 cd75 ct75 oc76 kV76 dc76 pm76 cd76 ct76 oc77 kV77 dc77 pm77 cd77 ct77 oc78 kV78 dc78 pm78 cd78 ct78 oc79 kV79 dc79 pm79 cd79 ct79 oc80 kV80 dc80 pm80 cd80 ct80 oc81 kV81 dc81 pm81 cd81 ct81 oc82 kV82 dc82 pm82 cd82 ct82 oc83 kV83 dc83 pm83 cd83 ct83 oc84 kV84 dc84 pm84 cd84 ct84 ocmShort kVmShort dcmShort pmmShort cdmShort ctmShort : Value} {tLETTERS tLONGEST_NAME tMOST_ROOM tNOUGHT_0 tNOUGHT_1 tMOST_BY tROLLS_0 tROLLS_1 tROLLS_2 tLAYS_0 tLAYS_1 tPUSHES_0 tPUSHES_1 tPUSHES_2 tCHANGES_0 tCHANGES_1 tCHANGES_2 tCHANGES_3 tCHANGES_4 tCHANGES_5 : Tok} {nnNOUGHT nnROLLS nnLAYS nnPUSHES nnCHANGES : Nat}
    (a0 : W.nsIn K mainGlobals "is_whole" = some (some (.ref f0))) (l0 : K.lookup f0 = some ⟨oc0, od0, .func (W.fnOf "is_whole" "is_whole" (qM xy) (qK xy) (qC xy) .none kV0 dc0 pm0 an0 cd0 ct0), sl0⟩) (c0 : W.codeIn K cd0 "is_whole" = true) (k0 : W.keepIn K (.ref f0) = true)
    (a1 : W.nsIn K mainGlobals "common_divisor" = some (some (.ref f1))) (l1 : K.lookup f1 = some ⟨oc1, od1, .func (W.fnOf "common_divisor" "common_divisor" (qM qz) (qK qz) (qC qz) .none kV1 dc1 pm1 an1 cd1 ct1), sl1⟩) (c1 : W.codeIn K cd1 "common_divisor" = true) (k1 : W.keepIn K (.ref f1) = true)
    (a2 : W.nsIn K mainGlobals "is_fraction" = some (some (.ref f2))) (l2 : K.lookup f2 = some ⟨oc2, od2, .func (W.fnOf "is_fraction" "is_fraction" (qM jp) (qK jp) (qC jp) .none kV2 dc2 pm2 an2 cd2 ct2), sl2⟩) (c2 : W.codeIn K cd2 "is_fraction" = true) (k2 : W.keepIn K (.ref f2) = true)
    (a3 : W.nsIn K mainGlobals "fraction" = some (some (.ref f3))) (l3 : K.lookup f3 = some ⟨oc3, od3, .func (W.fnOf "fraction" "fraction" (qM zB) (qK zB) (qC zB) .none kV3 dc3 pm3 an3 cd3 ct3), sl3⟩) (c3 : W.codeIn K cd3 "fraction" = true) (k3 : W.keepIn K (.ref f3) = true)
    (a4 : W.nsIn K mainGlobals "sum_of" = some (some (.ref f4))) (l4 : K.lookup f4 = some ⟨oc4, od4, .func (W.fnOf "sum_of" "sum_of" (qM kE) (qK kE) (qC kE) .none kV4 dc4 pm4 an4 cd4 ct4), sl4⟩) (c4 : W.codeIn K cd4 "sum_of" = true) (k4 : W.keepIn K (.ref f4) = true)
    (a5 : W.nsIn K mainGlobals "less_by" = some (some (.ref f5))) (l5 : K.lookup f5 = some ⟨oc5, od5, .func (W.fnOf "less_by" "less_by" (qM zV) (qK zV) (qC zV) .none kV5 dc5 pm5 an5 cd5 ct5), sl5⟩) (c5 : W.codeIn K cd5 "less_by" = true) (k5 : W.keepIn K (.ref f5) = true)
    (a6 : W.nsIn K mainGlobals "times_of" = some (some (.ref f6))) (l6 : K.lookup f6 = some ⟨oc6, od6, .func (W.fnOf "times_of" "times_of" (qM xu) (qK xu) (qC xu) .none kV6 dc6 pm6 an6 cd6 ct6), sl6⟩) (c6 : W.codeIn K cd6 "times_of" = true) (k6 : W.keepIn K (.ref f6) = true)
    (a7 : W.nsIn K mainGlobals "quotient" = some (some (.ref f7))) (l7 : K.lookup f7 = some ⟨oc7, od7, .func (W.fnOf "quotient" "quotient" (qM xx) (qK xx) (qC xx) .none kV7 dc7 pm7 an7 cd7 ct7), sl7⟩) (c7 : W.codeIn K cd7 "quotient" = true) (k7 : W.keepIn K (.ref f7) = true)
    (a8 : W.nsIn K mainGlobals "is_before" = some (some (.ref f8))) (l8 : K.lookup f8 = some ⟨oc8, od8, .func (W.fnOf "is_before" "is_before" (qM xP) (qK xP) (qC xP) .none kV8 dc8 pm8 an8 cd8 ct8), sl8⟩) (c8 : W.codeIn K cd8 "is_before" = true) (k8 : W.keepIn K (.ref f8) = true)
    (a9 : W.nsIn K mainGlobals "floor_of" = some (some (.ref f9))) (l9 : K.lookup f9 = some ⟨oc9, od9, .func (W.fnOf "floor_of" "floor_of" (qM xv) (qK xv) (qC xv) .none kV9 dc9 pm9 an9 cd9 ct9), sl9⟩) (c9 : W.codeIn K cd9 "floor_of" = true) (k9 : W.keepIn K (.ref f9) = true)
    (a10 : W.nsIn K mainGlobals "is_name" = some (some (.ref f10))) (l10 : K.lookup f10 = some ⟨oc10, od10, .func (W.fnOf "is_name" "is_name" (qM zM) (qK zM) (qC zM) .none kV10 dc10 pm10 an10 cd10 ct10), sl10⟩) (c10 : W.codeIn K cd10 "is_name" = true) (k10 : W.keepIn K (.ref f10) = true)
    (a11 : W.nsIn K mainGlobals "has_clip_form" = some (some (.ref f11))) (l11 : K.lookup f11 = some ⟨oc11, od11, .func (W.fnOf "has_clip_form" "has_clip_form" (qM jJ) (qK jJ) (qC jJ) .none kV11 dc11 pm11 an11 cd11 ct11), sl11⟩) (c11 : W.codeIn K cd11 "has_clip_form" = true) (k11 : W.keepIn K (.ref f11) = true)
    (a12 : W.nsIn K mainGlobals "place_at" = some (some (.ref f12))) (l12 : K.lookup f12 = some ⟨oc12, od12, .func (W.fnOf "place_at" "place_at" (qM x9) (qK x9) (qC x9) .none kV12 dc12 pm12 an12 cd12 ct12), sl12⟩) (c12 : W.codeIn K cd12 "place_at" = true) (k12 : W.keepIn K (.ref f12) = true)
    (a13 : W.nsIn K mainGlobals "picture_at" = some (some (.ref f13))) (l13 : K.lookup f13 = some ⟨oc13, od13, .func (W.fnOf "picture_at" "picture_at" (qM xF) (qK xF) (qC xF) .none kV13 dc13 pm13 an13 cd13 ct13), sl13⟩) (c13 : W.codeIn K cd13 "picture_at" = true) (k13 : W.keepIn K (.ref f13) = true)
    (a14 : W.nsIn K mainGlobals "is_there" = some (some (.ref f14))) (l14 : K.lookup f14 = some ⟨oc14, od14, .func (W.fnOf "is_there" "is_there" (qM xr) (qK xr) (qC xr) .none kV14 dc14 pm14 an14 cd14 ct14), sl14⟩) (c14 : W.codeIn K cd14 "is_there" = true) (k14 : W.keepIn K (.ref f14) = true)
    (a15 : W.nsIn K mainGlobals "check_clip" = some (some (.ref f15))) (l15 : K.lookup f15 = some ⟨oc15, od15, .func (W.fnOf "check_clip" "check_clip" (qM j6) (qK j6) (qC j6) .none kV15 dc15 pm15 an15 cd15 ct15), sl15⟩) (c15 : W.codeIn K cd15 "check_clip" = true) (k15 : W.keepIn K (.ref f15) = true)
    (a16 : W.nsIn K mainGlobals "clip_part" = some (some (.ref f16))) (l16 : K.lookup f16 = some ⟨oc16, od16, .func (W.fnOf "clip_part" "clip_part" (qM xX) (qK xX) (qC xX) .none kV16 dc16 pm16 an16 cd16 ct16), sl16⟩) (c16 : W.codeIn K cd16 "clip_part" = true) (k16 : W.keepIn K (.ref f16) = true)
    (a17 : W.nsIn K mainGlobals "goes_on" = some (some (.ref f17))) (l17 : K.lookup f17 = some ⟨oc17, od17, .func (W.fnOf "goes_on" "goes_on" (qM z7) (qK z7) (qC z7) .none kV17 dc17 pm17 an17 cd17 ct17), sl17⟩) (c17 : W.codeIn K cd17 "goes_on" = true) (k17 : W.keepIn K (.ref f17) = true)
    (a18 : W.nsIn K mainGlobals "moments_there" = some (some (.ref f18))) (l18 : K.lookup f18 = some ⟨oc18, od18, .func (W.fnOf "moments_there" "moments_there" (qM jE) (qK jE) (qC jE) .none kV18 dc18 pm18 an18 cd18 ct18), sl18⟩) (c18 : W.codeIn K cd18 "moments_there" = true) (k18 : W.keepIn K (.ref f18) = true)
    (a19 : W.nsIn K mainGlobals "head_room" = some (some (.ref f19))) (l19 : K.lookup f19 = some ⟨oc19, od19, .func (W.fnOf "head_room" "head_room" (qM xT) (qK xT) (qC xT) .none kV19 dc19 pm19 an19 cd19 ct19), sl19⟩) (c19 : W.codeIn K cd19 "head_room" = true) (k19 : W.keepIn K (.ref f19) = true)
    (a20 : W.nsIn K mainGlobals "tail_room" = some (some (.ref f20))) (l20 : K.lookup f20 = some ⟨oc20, od20, .func (W.fnOf "tail_room" "tail_room" (qM xM) (qK xM) (qC xM) .none kV20 dc20 pm20 an20 cd20 ct20), sl20⟩) (c20 : W.codeIn K cd20 "tail_room" = true) (k20 : W.keepIn K (.ref f20) = true)
    (a21 : W.nsIn K mainGlobals "is_length" = some (some (.ref f21))) (l21 : K.lookup f21 = some ⟨oc21, od21, .func (W.fnOf "is_length" "is_length" (qM xO) (qK xO) (qC xO) .none kV21 dc21 pm21 an21 cd21 ct21), sl21⟩) (c21 : W.codeIn K cd21 "is_length" = true) (k21 : W.keepIn K (.ref f21) = true)
    (a22 : W.nsIn K mainGlobals "has_nest_form" = some (some (.ref f22))) (l22 : K.lookup f22 = some ⟨oc22, od22, .func (W.fnOf "has_nest_form" "has_nest_form" (qM jK) (qK jK) (qC jK) .none kV22 dc22 pm22 an22 cd22 ct22), sl22⟩) (c22 : W.codeIn K cd22 "has_nest_form" = true) (k22 : W.keepIn K (.ref f22) = true)
    (a23 : W.nsIn K mainGlobals "moments_of" = some (some (.ref f23))) (l23 : K.lookup f23 = some ⟨oc23, od23, .func (W.fnOf "moments_of" "moments_of" (qM xA) (qK xA) (qC xA) .none kV23 dc23 pm23 an23 cd23 ct23), sl23⟩) (c23 : W.codeIn K cd23 "moments_of" = true) (k23 : W.keepIn K (.ref f23) = true)
    (a24 : W.nsIn K mainGlobals "one_form" = some (some (.ref f24))) (l24 : K.lookup f24 = some ⟨oc24, od24, .func (W.fnOf "one_form" "one_form" (qM zA) (qK zA) (qC zA) .none kV24 dc24 pm24 an24 cd24 ct24), sl24⟩) (c24 : W.codeIn K cd24 "one_form" = true) (k24 : W.keepIn K (.ref f24) = true)
    (a25 : W.nsIn K mainGlobals "length_of" = some (some (.ref f25))) (l25 : K.lookup f25 = some ⟨oc25, od25, .func (W.fnOf "length_of" "length_of" (qM xY) (qK xY) (qC xY) .none kV25 dc25 pm25 an25 cd25 ct25), sl25⟩) (c25 : W.codeIn K cd25 "length_of" = true) (k25 : W.keepIn K (.ref f25) = true)
    (a26 : W.nsIn K mainGlobals "borders_of" = some (some (.ref f26))) (l26 : K.lookup f26 = some ⟨oc26, od26, .func (W.fnOf "borders_of" "borders_of" (qM j8) (qK j8) (qC j8) .none kV26 dc26 pm26 an26 cd26 ct26), sl26⟩) (c26 : W.codeIn K cd26 "borders_of" = true) (k26 : W.keepIn K (.ref f26) = true)
    (a27 : W.nsIn K mainGlobals "item_at" = some (some (.ref f27))) (l27 : K.lookup f27 = some ⟨oc27, od27, .func (W.fnOf "item_at" "item_at" (qM zT) (qK zT) (qC zT) .none kV27 dc27 pm27 an27 cd27 ct27), sl27⟩) (c27 : W.codeIn K cd27 "item_at" = true) (k27 : W.keepIn K (.ref f27) = true)
    (a28 : W.nsIn K mainGlobals "kind_at" = some (some (.ref f28))) (l28 : K.lookup f28 = some ⟨oc28, od28, .func (W.fnOf "kind_at" "kind_at" (qM zS) (qK zS) (qC zS) .none kV28 dc28 pm28 an28 cd28 ct28), sl28⟩) (c28 : W.codeIn K cd28 "kind_at" = true) (k28 : W.keepIn K (.ref f28) = true)
    (a29 : W.nsIn K mainGlobals "place_ahead" = some (some (.ref f29))) (l29 : K.lookup f29 = some ⟨oc29, od29, .func (W.fnOf "place_ahead" "place_ahead" (qM jm) (qK jm) (qC jm) .none kV29 dc29 pm29 an29 cd29 ct29), sl29⟩) (c29 : W.codeIn K cd29 "place_ahead" = true) (k29 : W.keepIn K (.ref f29) = true)
    (a30 : W.nsIn K mainGlobals "place_behind" = some (some (.ref f30))) (l30 : K.lookup f30 = some ⟨oc30, od30, .func (W.fnOf "place_behind" "place_behind" (qM jx) (qK jx) (qC jx) .none kV30 dc30 pm30 an30 cd30 ct30), sl30⟩) (c30 : W.codeIn K cd30 "place_behind" = true) (k30 : W.keepIn K (.ref f30) = true)
    (a31 : W.nsIn K mainGlobals "neighbours_at" = some (some (.ref f31))) (l31 : K.lookup f31 = some ⟨oc31, od31, .func (W.fnOf "neighbours_at" "neighbours_at" (qM jH) (qK jH) (qC jH) .none kV31 dc31 pm31 an31 cd31 ct31), sl31⟩) (c31 : W.codeIn K cd31 "neighbours_at" = true) (k31 : W.keepIn K (.ref f31) = true)
    (a32 : W.nsIn K mainGlobals "clips_at_border" = some (some (.ref f32))) (l32 : K.lookup f32 = some ⟨oc32, od32, .func (W.fnOf "clips_at_border" "clips_at_border" (qM qq) (qK qq) (qC qq) .none kV32 dc32 pm32 an32 cd32 ct32), sl32⟩) (c32 : W.codeIn K cd32 "clips_at_border" = true) (k32 : W.keepIn K (.ref f32) = true)
    (a33 : W.nsIn K mainGlobals "lies_within" = some (some (.ref f33))) (l33 : K.lookup f33 = some ⟨oc33, od33, .func (W.fnOf "lies_within" "lies_within" (qM jk) (qK jk) (qC jk) .none kV33 dc33 pm33 an33 cd33 ct33), sl33⟩) (c33 : W.codeIn K cd33 "lies_within" = true) (k33 : W.keepIn K (.ref f33) = true)
    (a34 : W.nsIn K mainGlobals "item_part" = some (some (.ref f34))) (l34 : K.lookup f34 = some ⟨oc34, od34, .func (W.fnOf "item_part" "item_part" (qM xR) (qK xR) (qC xR) .none kV34 dc34 pm34 an34 cd34 ct34), sl34⟩) (c34 : W.codeIn K cd34 "item_part" = true) (k34 : W.keepIn K (.ref f34) = true)
    (a35 : W.nsIn K mainGlobals "part_of_track" = some (some (.ref f35))) (l35 : K.lookup f35 = some ⟨oc35, od35, .func (W.fnOf "part_of_track" "part_of_track" (qM jG) (qK jG) (qC jG) .none kV35 dc35 pm35 an35 cd35 ct35), sl35⟩) (c35 : W.codeIn K cd35 "part_of_track" = true) (k35 : W.keepIn K (.ref f35) = true)
    (a36 : W.nsIn K mainGlobals "part_ahead" = some (some (.ref f36))) (l36 : K.lookup f36 = some ⟨oc36, od36, .func (W.fnOf "part_ahead" "part_ahead" (qM j5) (qK j5) (qC j5) .none kV36 dc36 pm36 an36 cd36 ct36), sl36⟩) (c36 : W.codeIn K cd36 "part_ahead" = true) (k36 : W.keepIn K (.ref f36) = true)
    (a37 : W.nsIn K mainGlobals "part_behind" = some (some (.ref f37))) (l37 : K.lookup f37 = some ⟨oc37, od37, .func (W.fnOf "part_behind" "part_behind" (qM jq) (qK jq) (qC jq) .none kV37 dc37 pm37 an37 cd37 ct37), sl37⟩) (c37 : W.codeIn K cd37 "part_behind" = true) (k37 : W.keepIn K (.ref f37) = true)
    (a38 : W.nsIn K mainGlobals "mix_spans" = some (some (.ref f38))) (l38 : K.lookup f38 = some ⟨oc38, od38, .func (W.fnOf "mix_spans" "mix_spans" (qM xN) (qK xN) (qC xN) .none kV38 dc38 pm38 an38 cd38 ct38), sl38⟩) (c38 : W.codeIn K cd38 "mix_spans" = true) (k38 : W.keepIn K (.ref f38) = true)
    (a39 : W.nsIn K mainGlobals "taken_at_begin" = some (some (.ref f39))) (l39 : K.lookup f39 = some ⟨oc39, od39, .func (W.fnOf "taken_at_begin" "taken_at_begin" (qM qx) (qK qx) (qC qx) .none kV39 dc39 pm39 an39 cd39 ct39), sl39⟩) (c39 : W.codeIn K cd39 "taken_at_begin" = true) (k39 : W.keepIn K (.ref f39) = true)
    (a40 : W.nsIn K mainGlobals "taken_at_end" = some (some (.ref f40))) (l40 : K.lookup f40 = some ⟨oc40, od40, .func (W.fnOf "taken_at_end" "taken_at_end" (qM jS) (qK jS) (qC jS) .none kV40 dc40 pm40 an40 cd40 ct40), sl40⟩) (c40 : W.codeIn K cd40 "taken_at_end" = true) (k40 : W.keepIn K (.ref f40) = true)
    (a41 : W.nsIn K mainGlobals "most_mix" = some (some (.ref f41))) (l41 : K.lookup f41 = some ⟨oc41, od41, .func (W.fnOf "most_mix" "most_mix" (qM xw) (qK xw) (qC xw) .none kV41 dc41 pm41 an41 cd41 ct41), sl41⟩) (c41 : W.codeIn K cd41 "most_mix" = true) (k41 : W.keepIn K (.ref f41) = true)
    (a42 : W.nsIn K mainGlobals "check_place" = some (some (.ref f42))) (l42 : K.lookup f42 = some ⟨oc42, od42, .func (W.fnOf "check_place" "check_place" (qM jh) (qK jh) (qC jh) .none kV42 dc42 pm42 an42 cd42 ct42), sl42⟩) (c42 : W.codeIn K cd42 "check_place" = true) (k42 : W.keepIn K (.ref f42) = true)
    (a43 : W.nsIn K mainGlobals "check_by" = some (some (.ref f43))) (l43 : K.lookup f43 = some ⟨oc43, od43, .func (W.fnOf "check_by" "check_by" (qM zJ) (qK zJ) (qC zJ) .none kV43 dc43 pm43 an43 cd43 ct43), sl43⟩) (c43 : W.codeIn K cd43 "check_by" = true) (k43 : W.keepIn K (.ref f43) = true)
    (a44 : W.nsIn K mainGlobals "clip_there" = some (some (.ref f44))) (l44 : K.lookup f44 = some ⟨oc44, od44, .func (W.fnOf "clip_there" "clip_there" (qM xk) (qK xk) (qC xk) .none kV44 dc44 pm44 an44 cd44 ct44), sl44⟩) (c44 : W.codeIn K cd44 "clip_there" = true) (k44 : W.keepIn K (.ref f44) = true)
    (a45 : W.nsIn K mainGlobals "clip_and_sides" = some (some (.ref f45))) (l45 : K.lookup f45 = some ⟨oc45, od45, .func (W.fnOf "clip_and_sides" "clip_and_sides" (qM jO) (qK jO) (qC jO) .none kV45 dc45 pm45 an45 cd45 ct45), sl45⟩) (c45 : W.codeIn K cd45 "clip_and_sides" = true) (k45 : W.keepIn K (.ref f45) = true)
    (a46 : W.nsIn K mainGlobals "places_named" = some (some (.ref f46))) (l46 : K.lookup f46 = some ⟨oc46, od46, .func (W.fnOf "places_named" "places_named" (qM jv) (qK jv) (qC jv) .none kV46 dc46 pm46 an46 cd46 ct46), sl46⟩) (c46 : W.codeIn K cd46 "places_named" = true) (k46 : W.keepIn K (.ref f46) = true)
    (a47 : W.nsIn K mainGlobals "has_mix" = some (some (.ref f47))) (l47 : K.lookup f47 = some ⟨oc47, od47, .func (W.fnOf "has_mix" "has_mix" (qM zu) (qK zu) (qC zu) .none kV47 dc47 pm47 an47 cd47 ct47), sl47⟩) (c47 : W.codeIn K cd47 "has_mix" = true) (k47 : W.keepIn K (.ref f47) = true)
    (a48 : W.nsIn K mainGlobals "check_short" = some (some (.ref f48))) (l48 : K.lookup f48 = some ⟨oc48, od48, .func (W.fnOf "check_short" "check_short" (qM xH) (qK xH) (qC xH) .none kV48 dc48 pm48 an48 cd48 ct48), sl48⟩) (c48 : W.codeIn K cd48 "check_short" = true) (k48 : W.keepIn K (.ref f48) = true)
    (a49 : W.nsIn K mainGlobals "most_slip" = some (some (.ref f49))) (l49 : K.lookup f49 = some ⟨oc49, od49, .func (W.fnOf "most_slip" "most_slip" (qM zD) (qK zD) (qC zD) .none kV49 dc49 pm49 an49 cd49 ct49), sl49⟩) (c49 : W.codeIn K cd49 "most_slip" = true) (k49 : W.keepIn K (.ref f49) = true)
    (a50 : W.nsIn K mainGlobals "most_roll" = some (some (.ref f50))) (l50 : K.lookup f50 = some ⟨oc50, od50, .func (W.fnOf "most_roll" "most_roll" (qM zC) (qK zC) (qC zC) .none kV50 dc50 pm50 an50 cd50 ct50), sl50⟩) (c50 : W.codeIn K cd50 "most_roll" = true) (k50 : W.keepIn K (.ref f50) = true)
    (a51 : W.nsIn K mainGlobals "slipped" = some (some (.ref f51))) (l51 : K.lookup f51 = some ⟨oc51, od51, .func (W.fnOf "slipped" "slipped" (qM zk) (qK zk) (qC zk) .none kV51 dc51 pm51 an51 cd51 ct51), sl51⟩) (c51 : W.codeIn K cd51 "slipped" = true) (k51 : W.keepIn K (.ref f51) = true)
    (a52 : W.nsIn K mainGlobals "with_rolled_ends" = some (some (.ref f52))) (l52 : K.lookup f52 = some ⟨oc52, od52, .func (W.fnOf "with_rolled_ends" "with_rolled_ends" (qM jB) (qK jB) (qC jB) .none kV52 dc52 pm52 an52 cd52 ct52), sl52⟩) (c52 : W.codeIn K cd52 "with_rolled_ends" = true) (k52 : W.keepIn K (.ref f52) = true)
    (a53 : W.nsIn K mainGlobals "table_with" = some (some (.ref f53))) (l53 : K.lookup f53 = some ⟨oc53, od53, .func (W.fnOf "table_with" "table_with" (qM j4) (qK j4) (qC j4) .none kV53 dc53 pm53 an53 cd53 ct53), sl53⟩) (c53 : W.codeIn K cd53 "table_with" = true) (k53 : W.keepIn K (.ref f53) = true)
    (a54 : W.nsIn K mainGlobals "rolled" = some (some (.ref f54))) (l54 : K.lookup f54 = some ⟨oc54, od54, .func (W.fnOf "rolled" "rolled" (qM kZ) (qK kZ) (qC kZ) .none kV54 dc54 pm54 an54 cd54 ct54), sl54⟩) (c54 : W.codeIn K cd54 "rolled" = true) (k54 : W.keepIn K (.ref f54) = true)
    (a55 : W.nsIn K mainGlobals "stretch_of" = some (some (.ref f55))) (l55 : K.lookup f55 = some ⟨oc55, od55, .func (W.fnOf "stretch_of" "stretch_of" (qM j3) (qK j3) (qC j3) .none kV55 dc55 pm55 an55 cd55 ct55), sl55⟩) (c55 : W.codeIn K cd55 "stretch_of" = true) (k55 : W.keepIn K (.ref f55) = true)
    (a56 : W.nsIn K mainGlobals "laid_by" = some (some (.ref f56))) (l56 : K.lookup f56 = some ⟨oc56, od56, .func (W.fnOf "laid_by" "laid_by" (qM zO) (qK zO) (qC zO) .none kV56 dc56 pm56 an56 cd56 ct56), sl56⟩) (c56 : W.codeIn K cd56 "laid_by" = true) (k56 : W.keepIn K (.ref f56) = true)
    (a57 : W.nsIn K mainGlobals "laid_on_tied" = some (some (.ref f57))) (l57 : K.lookup f57 = some ⟨oc57, od57, .func (W.fnOf "laid_on_tied" "laid_on_tied" (qM jQ) (qK jQ) (qC jQ) .none kV57 dc57 pm57 an57 cd57 ct57), sl57⟩) (c57 : W.codeIn K cd57 "laid_on_tied" = true) (k57 : W.keepIn K (.ref f57) = true)
    (a58 : W.nsIn K mainGlobals "tracks_changed" = some (some (.ref f58))) (l58 : K.lookup f58 = some ⟨oc58, od58, .func (W.fnOf "tracks_changed" "tracks_changed" (qM qy) (qK qy) (qC qy) .none kV58 dc58 pm58 an58 cd58 ct58), sl58⟩) (c58 : W.codeIn K cd58 "tracks_changed" = true) (k58 : W.keepIn K (.ref f58) = true)
    (a59 : W.nsIn K mainGlobals "check_numbers" = some (some (.ref f59))) (l59 : K.lookup f59 = some ⟨oc59, od59, .func (W.fnOf "check_numbers" "check_numbers" (qM jF) (qK jF) (qC jF) .none kV59 dc59 pm59 an59 cd59 ct59), sl59⟩) (c59 : W.codeIn K cd59 "check_numbers" = true) (k59 : W.keepIn K (.ref f59) = true)
    (a60 : W.nsIn K mainGlobals "touches_mix" = some (some (.ref f60))) (l60 : K.lookup f60 = some ⟨oc60, od60, .func (W.fnOf "touches_mix" "touches_mix" (qM jg) (qK jg) (qC jg) .none kV60 dc60 pm60 an60 cd60 ct60), sl60⟩) (c60 : W.codeIn K cd60 "touches_mix" = true) (k60 : W.keepIn K (.ref f60) = true)
    (a61 : W.nsIn K mainGlobals "check_mixes" = some (some (.ref f61))) (l61 : K.lookup f61 = some ⟨oc61, od61, .func (W.fnOf "check_mixes" "check_mixes" (qM jn) (qK jn) (qC jn) .none kV61 dc61 pm61 an61 cd61 ct61), sl61⟩) (c61 : W.codeIn K cd61 "check_mixes" = true) (k61 : W.keepIn K (.ref f61) = true)
    (a62 : W.nsIn K mainGlobals "check_change" = some (some (.ref f62))) (l62 : K.lookup f62 = some ⟨oc62, od62, .func (W.fnOf "check_change" "check_change" (qM jR) (qK jR) (qC jR) .none kV62 dc62 pm62 an62 cd62 ct62), sl62⟩) (c62 : W.codeIn K cd62 "check_change" = true) (k62 : W.keepIn K (.ref f62) = true)
    (a63 : W.nsIn K mainGlobals "nest_goes_on" = some (some (.ref f63))) (l63 : K.lookup f63 = some ⟨oc63, od63, .func (W.fnOf "nest_goes_on" "nest_goes_on" (qM jw) (qK jw) (qC jw) .none kV63 dc63 pm63 an63 cd63 ct63), sl63⟩) (c63 : W.codeIn K cd63 "nest_goes_on" = true) (k63 : W.keepIn K (.ref f63) = true)
    (a64 : W.nsIn K mainGlobals "can_heal" = some (some (.ref f64))) (l64 : K.lookup f64 = some ⟨oc64, od64, .func (W.fnOf "can_heal" "can_heal" (qM zP) (qK zP) (qC zP) .none kV64 dc64 pm64 an64 cd64 ct64), sl64⟩) (c64 : W.codeIn K cd64 "can_heal" = true) (k64 : W.keepIn K (.ref f64) = true)
    (a65 : W.nsIn K mainGlobals "healed" = some (some (.ref f65))) (l65 : K.lookup f65 = some ⟨oc65, od65, .func (W.fnOf "healed" "healed" (qM kf) (qK kf) (qC kf) .none kV65 dc65 pm65 an65 cd65 ct65), sl65⟩) (c65 : W.codeIn K cd65 "healed" = true) (k65 : W.keepIn K (.ref f65) = true)
    (a66 : W.nsIn K mainGlobals "mixed" = some (some (.ref f66))) (l66 : K.lookup f66 = some ⟨oc66, od66, .func (W.fnOf "mixed" "mixed" (qM vK) (qK vK) (qC vK) .none kV66 dc66 pm66 an66 cd66 ct66), sl66⟩) (c66 : W.codeIn K cd66 "mixed" = true) (k66 : W.keepIn K (.ref f66) = true)
    (a67 : W.nsIn K mainGlobals "unmixed" = some (some (.ref f67))) (l67 : K.lookup f67 = some ⟨oc67, od67, .func (W.fnOf "unmixed" "unmixed" (qM z6) (qK z6) (qC z6) .none kV67 dc67 pm67 an67 cd67 ct67), sl67⟩) (c67 : W.codeIn K cd67 "unmixed" = true) (k67 : W.keepIn K (.ref f67) = true)
    (a68 : W.nsIn K mainGlobals "relaid" = some (some (.ref f68))) (l68 : K.lookup f68 = some ⟨oc68, od68, .func (W.fnOf "relaid" "relaid" (qM kD) (qK kD) (qC kD) .none kV68 dc68 pm68 an68 cd68 ct68), sl68⟩) (c68 : W.codeIn K cd68 "relaid" = true) (k68 : W.keepIn K (.ref f68) = true)
    (a69 : W.nsIn K mainGlobals "changed" = some (some (.ref f69))) (l69 : K.lookup f69 = some ⟨oc69, od69, .func (W.fnOf "changed" "changed" (qM zU) (qK zU) (qC zU) .none kV69 dc69 pm69 an69 cd69 ct69), sl69⟩) (c69 : W.codeIn K cd69 "changed" = true) (k69 : W.keepIn K (.ref f69) = true)
    (a70 : W.nsIn K mainGlobals "deed_done" = some (some (.ref f70))) (l70 : K.lookup f70 = some ⟨oc70, od70, .func (W.fnOf "deed_done" "deed_done" (qM xW) (qK xW) (qC xW) .none kV70 dc70 pm70 an70 cd70 ct70), sl70⟩) (c70 : W.codeIn K cd70 "deed_done" = true) (k70 : W.keepIn K (.ref f70) = true)
    (a71 : W.nsIn K mainGlobals "_law_cell_at" = some (some (.ref f71))) (l71 : K.lookup f71 = some ⟨oc71, od71, .func (W.fnOf "_law_cell_at" "_law_cell_at" (qM jT) (qK jT) (qC jT) .none kV71 dc71 pm71 an71 cd71 ct71), sl71⟩) (c71 : W.codeIn K cd71 "_law_cell_at" = true) (k71 : W.keepIn K (.ref f71) = true)
    (a72 : W.nsIn K mainGlobals "_law_stream" = some (some (.ref f72))) (l72 : K.lookup f72 = some ⟨oc72, od72, .func (W.fnOf "_law_stream" "_law_stream" (qM je) (qK je) (qC je) .none kV72 dc72 pm72 an72 cd72 ct72), sl72⟩) (c72 : W.codeIn K cd72 "_law_stream" = true) (k72 : W.keepIn K (.ref f72) = true)
    (a73 : W.nsIn K mainGlobals "_law_lowest" = some (some (.ref f73))) (l73 : K.lookup f73 = some ⟨oc73, od73, .func (W.fnOf "_law_lowest" "_law_lowest" (qM jl) (qK jl) (qC jl) .none kV73 dc73 pm73 an73 cd73 ct73), sl73⟩) (c73 : W.codeIn K cd73 "_law_lowest" = true) (k73 : W.keepIn K (.ref f73) = true)
    (a74 : W.nsIn K mainGlobals "_law_clip" = some (some (.ref f74))) (l74 : K.lookup f74 = some ⟨oc74, od74, .func (W.fnOf "_law_clip" "_law_clip" (qM j2) (qK j2) (qC j2) .none kV74 dc74 pm74 an74 cd74 ct74), sl74⟩) (c74 : W.codeIn K cd74 "_law_clip" = true) (k74 : W.keepIn K (.ref f74) = true)
    (a75 : W.nsIn K mainGlobals "_law_track" = some (some (.ref f75))) (l75 : K.lookup f75 = some ⟨oc75, od75, .func (W.fnOf "_law_track" "_law_track" (qM j9) (qK j9) (qC j9) .none kV75 dc75 pm75 an75 cd75 ct75), sl75⟩) (c75 : W.codeIn K cd75 "_law_track" = true) (k75 : W.keepIn K (.ref f75) = true)
    (a76 : W.nsIn K mainGlobals "_law_reels" = some (some (.ref f76))) (l76 : K.lookup f76 = some ⟨oc76, od76, .func (W.fnOf "_law_reels" "_law_reels" (qM xC) (qK xC) (qC xC) .none kV76 dc76 pm76 an76 cd76 ct76), sl76⟩) (c76 : W.codeIn K cd76 "_law_reels" = true) (k76 : W.keepIn K (.ref f76) = true)
    (a77 : W.nsIn K mainGlobals "_law_mixed" = some (some (.ref f77))) (l77 : K.lookup f77 = some ⟨oc77, od77, .func (W.fnOf "_law_mixed" "_law_mixed" (qM xD) (qK xD) (qC xD) .none kV77 dc77 pm77 an77 cd77 ct77), sl77⟩) (c77 : W.codeIn K cd77 "_law_mixed" = true) (k77 : W.keepIn K (.ref f77) = true)
    (a78 : W.nsIn K mainGlobals "_law_table" = some (some (.ref f78))) (l78 : K.lookup f78 = some ⟨oc78, od78, .func (W.fnOf "_law_table" "_law_table" (qM xE) (qK xE) (qC xE) .none kV78 dc78 pm78 an78 cd78 ct78), sl78⟩) (c78 : W.codeIn K cd78 "_law_table" = true) (k78 : W.keepIn K (.ref f78) = true)
    (a79 : W.nsIn K mainGlobals "_law_copied" = some (some (.ref f79))) (l79 : K.lookup f79 = some ⟨oc79, od79, .func (W.fnOf "_law_copied" "_law_copied" (qM ji) (qK ji) (qC ji) .none kV79 dc79 pm79 an79 cd79 ct79), sl79⟩) (c79 : W.codeIn K cd79 "_law_copied" = true) (k79 : W.keepIn K (.ref f79) = true)
    (a80 : W.nsIn K mainGlobals "_law_deed" = some (some (.ref f80))) (l80 : K.lookup f80 = some ⟨oc80, od80, .func (W.fnOf "_law_deed" "_law_deed" (qM xV) (qK xV) (qC xV) .none kV80 dc80 pm80 an80 cd80 ct80), sl80⟩) (c80 : W.codeIn K cd80 "_law_deed" = true) (k80 : W.keepIn K (.ref f80) = true)
    (a81 : W.nsIn K mainGlobals "_law_done" = some (some (.ref f81))) (l81 : K.lookup f81 = some ⟨oc81, od81, .func (W.fnOf "_law_done" "_law_done" (qM xL) (qK xL) (qC xL) .none kV81 dc81 pm81 an81 cd81 ct81), sl81⟩) (c81 : W.codeIn K cd81 "_law_done" = true) (k81 : W.keepIn K (.ref f81) = true)
    (a82 : W.nsIn K mainGlobals "_law_other" = some (some (.ref f82))) (l82 : K.lookup f82 = some ⟨oc82, od82, .func (W.fnOf "_law_other" "_law_other" (qM xB) (qK xB) (qC xB) .none kV82 dc82 pm82 an82 cd82 ct82), sl82⟩) (c82 : W.codeIn K cd82 "_law_other" = true) (k82 : W.keepIn K (.ref f82) = true)
    (a83 : W.nsIn K mainGlobals "_law_due" = some (some (.ref f83))) (l83 : K.lookup f83 = some ⟨oc83, od83, .func (W.fnOf "_law_due" "_law_due" (qM xt) (qK xt) (qC xt) .none kV83 dc83 pm83 an83 cd83 ct83), sl83⟩) (c83 : W.codeIn K cd83 "_law_due" = true) (k83 : W.keepIn K (.ref f83) = true)
    (a84 : W.nsIn K mainGlobals "law" = some (some (.ref f84))) (l84 : K.lookup f84 = some ⟨oc84, od84, .func (W.fnOf "law" "law" (qM qB2) (qK qB2) (qC qB2) .none kV84 dc84 pm84 an84 cd84 ct84), sl84⟩) (c84 : W.codeIn K cd84 "law" = true) (k84 : W.keepIn K (.ref f84) = true)
    (xg0 : W.nsIn K mainGlobals "CutError" = some (some (.ref C0)))
    (xg1 : W.nsIn K mainGlobals "NoNumber" = some (some (.ref C1)))
    (xg2 : W.nsIn K mainGlobals "NoClip" = some (some (.ref C2)))
    (xg3 : W.nsIn K mainGlobals "NoPlace" = some (some (.ref C3)))
    (xg4 : W.nsIn K mainGlobals "Mixed" = some (some (.ref C4)))
    (xg5 : W.nsIn K mainGlobals "Short" = some (some (.ref C5)))
    (x_NoClip : L3.OwnX K C2)
    (x_NoPlace : L3.OwnX K C3)
    (x_Mixed : L3.OwnX K C4)
    (yMM : W.exmOne K (.ref C4) (.ref C4) = some true)
    (yPM : W.exmOne K (.ref C3) (.ref C4) = some false)
    (yPP : W.exmOne K (.ref C3) (.ref C3) = some true)
    (xz0 : W.nsIn K mainGlobals "isinstance" = some none)
    (xz1 : W.nsIn K mainGlobals "int" = some none)
    (xz2 : W.nsIn K mainGlobals "bool" = some none)
    (xz3 : W.nsIn K mainGlobals "abs" = some none)
    (xz4 : W.nsIn K mainGlobals "tuple" = some none)
    (xz5 : W.nsIn K mainGlobals "len" = some none)
    (xz6 : W.nsIn K mainGlobals "all" = some none)
    (xz7 : W.nsIn K mainGlobals "str" = some none)
    (xz8 : W.nsIn K mainGlobals "min" = some none)
    (xz9 : W.nsIn K mainGlobals "sum" = some none)
    (xz10 : W.nsIn K mainGlobals "enumerate" = some none)
    (xz11 : W.nsIn K mainGlobals "max" = some none)
    (xz12 : W.nsIn K mainGlobals "list" = some none)
    (xz13 : W.nsIn K mainGlobals "any" = some none)
    (xz14 : W.nsIn K mainGlobals "range" = some none)
    (xcLETTERS : W.nsIn K mainGlobals "LETTERS" = some (some (.str "abcdefghijklmnopqrstuvwxyz" tLETTERS)))
    (xcLONGEST_NAME : W.nsIn K mainGlobals "LONGEST_NAME" = some (some (.int 8 tLONGEST_NAME)))
    (xcMOST_ROOM : W.nsIn K mainGlobals "MOST_ROOM" = some (some (.int 1000000 tMOST_ROOM)))
    (xcNOUGHT : W.nsIn K mainGlobals "NOUGHT" = some (some (.ref nNOUGHT))) (xlNOUGHT : K.lookup nNOUGHT = some ⟨.type "tuple", odNOUGHT, .seq #[.int 0 tNOUGHT_0, .int 1 tNOUGHT_1] nnNOUGHT, slNOUGHT⟩)
    (xcMOST_BY : W.nsIn K mainGlobals "MOST_BY" = some (some (.int 1000000 tMOST_BY)))
    (xcROLLS : W.nsIn K mainGlobals "ROLLS" = some (some (.ref nROLLS))) (xlROLLS : K.lookup nROLLS = some ⟨.type "tuple", odROLLS, .seq #[.str "roll" tROLLS_0, .str "slip" tROLLS_1, .str "slide" tROLLS_2] nnROLLS, slROLLS⟩)
    (xcLAYS : W.nsIn K mainGlobals "LAYS" = some (some (.ref nLAYS))) (xlLAYS : K.lookup nLAYS = some ⟨.type "tuple", odLAYS, .seq #[.str "lay_in" tLAYS_0, .str "lay_over" tLAYS_1] nnLAYS, slLAYS⟩)
    (xcPUSHES : W.nsIn K mainGlobals "PUSHES" = some (some (.ref nPUSHES))) (xlPUSHES : K.lookup nPUSHES = some ⟨.type "tuple", odPUSHES, .seq #[.str "lay_in" tPUSHES_0, .str "open" tPUSHES_1, .str "close" tPUSHES_2] nnPUSHES, slPUSHES⟩)
    (xcCHANGES : W.nsIn K mainGlobals "CHANGES" = some (some (.ref nCHANGES))) (xlCHANGES : K.lookup nCHANGES = some ⟨.type "tuple", odCHANGES, .seq #[.str "cut" tCHANGES_0, .str "lay_in" tCHANGES_1, .str "open" tCHANGES_2, .str "close" tCHANGES_3, .str "lift" tCHANGES_4, .str "lay_over" tCHANGES_5] nnCHANGES, slCHANGES⟩)
    (iaShort : W.findIn K (.ref C5) "__init__" = some (some (.ref fmShort))) (ilShort : K.lookup fmShort = some ⟨ocmShort, odmShort, .func (W.fnOf "__init__" "Short.__init__" (qM kC) (qK kC) (qC kC) .none kVmShort dcmShort pmmShort anmShort cdmShort ctmShort), slmShort⟩) (icShort : W.codeIn K cdmShort "Short.__init__" = true) (ikShort : W.keepIn K (.ref fmShort) = true) (ifShort : W.isFn K (.ref fmShort) = true)
    (ivShort : L3.exOver K C5 C0 = true) (ihShort : W.hasDictIn K C5 = true) (isShort : W.findIn K (.ref C5) "__setattr__" = some (some (.builtin "object.__setattr__"))) (ixShort : L3.excInitIn K C5 fmShort = true) (itShort : W.takerIn K C5 "most" = some none)
    : ∃ fd : FuncData, (∀ (s : Shared) (v : Value), BindsTo s fd ⟨[v], []⟩ [("_law_script", v)]) ∧ ∀ base : Heap, K.In base → base.Ns mainGlobals mg → FnOk l.prog w K mg base CX0 13 fa fd ["_law_script"] (qJe K) := by
  have e := hfa.symm.trans (W.mg_of X G a84)
  obtain rfl : f84 = fa := by cases e; rfl
  have F0 := qW (st := xy) l0 c0 k0
  have b0 := F0.binds (ps := ["x"]) fun _ _ _ _ _ _ us hl => match us, hl with | [_], _ => rfl
  have F1 := qW (st := qz) l1 c1 k1
  have b1 := F1.binds (ps := ["one", "other"]) fun _ _ _ _ _ _ us hl => match us, hl with | [_, _], _ => rfl
  have F2 := qW (st := jp) l2 c2 k2
  have b2 := F2.binds (ps := ["x"]) fun _ _ _ _ _ _ us hl => match us, hl with | [_], _ => rfl
  have F3 := qW (st := zB) l3 c3 k3
  have b3 := F3.binds (ps := ["top", "bottom"]) fun _ _ _ _ _ _ us hl => match us, hl with | [_, _], _ => rfl
  have F4 := qW (st := kE) l4 c4 k4
  have b4 := F4.binds (ps := ["one", "other"]) fun _ _ _ _ _ _ us hl => match us, hl with | [_, _], _ => rfl
  have F5 := qW (st := zV) l5 c5 k5
  have b5 := F5.binds (ps := ["one", "other"]) fun _ _ _ _ _ _ us hl => match us, hl with | [_, _], _ => rfl
  have F6 := qW (st := xu) l6 c6 k6
  have b6 := F6.binds (ps := ["one", "other"]) fun _ _ _ _ _ _ us hl => match us, hl with | [_, _], _ => rfl
  have F7 := qW (st := xx) l7 c7 k7
  have b7 := F7.binds (ps := ["one", "other"]) fun _ _ _ _ _ _ us hl => match us, hl with | [_, _], _ => rfl
  have F8 := qW (st := xP) l8 c8 k8
  have b8 := F8.binds (ps := ["one", "other"]) fun _ _ _ _ _ _ us hl => match us, hl with | [_, _], _ => rfl
  have F9 := qW (st := xv) l9 c9 k9
  have b9 := F9.binds (ps := ["one"]) fun _ _ _ _ _ _ us hl => match us, hl with | [_], _ => rfl
  have F10 := qW (st := zM) l10 c10 k10
  have b10 := F10.binds (ps := ["thing"]) fun _ _ _ _ _ _ us hl => match us, hl with | [_], _ => rfl
  have F11 := qW (st := jJ) l11 c11 k11
  have b11 := F11.binds (ps := ["item"]) fun _ _ _ _ _ _ us hl => match us, hl with | [_], _ => rfl
  have F12 := qW (st := x9) l12 c12 k12
  have b12 := F12.binds (ps := ["clip", "k"]) fun _ _ _ _ _ _ us hl => match us, hl with | [_, _], _ => rfl
  have F13 := qW (st := xF) l13 c13 k13
  have b13 := F13.binds (ps := ["clip", "k"]) fun _ _ _ _ _ _ us hl => match us, hl with | [_, _], _ => rfl
  have F14 := qW (st := xr) l14 c14 k14
  have b14 := F14.binds (ps := ["picture", "many"]) fun _ _ _ _ _ _ us hl => match us, hl with | [_, _], _ => rfl
  have F15 := qW (st := j6) l15 c15 k15
  have b15 := F15.binds (ps := ["item", "reels"]) fun _ _ _ _ _ _ us hl => match us, hl with | [_, _], _ => rfl
  have F16 := qW (st := xX) l16 c16 k16
  have b16 := F16.binds (ps := ["clip", "low", "high"]) fun _ _ _ _ _ _ us hl => match us, hl with | [_, _, _], _ => rfl
  have F17 := qW (st := z7) l17 c17 k17
  have b17 := F17.binds (ps := ["one", "other"]) fun _ _ _ _ _ _ us hl => match us, hl with | [_, _], _ => rfl
  have F18 := qW (st := jE) l18 c18 k18
  have b18 := F18.binds (ps := ["first", "step", "many"]) fun _ _ _ _ _ _ us hl => match us, hl with | [_, _, _], _ => rfl
  have F19 := qW (st := xT) l19 c19 k19
  have b19 := F19.binds (ps := ["clip", "reels"]) fun _ _ _ _ _ _ us hl => match us, hl with | [_, _], _ => rfl
  have F20 := qW (st := xM) l20 c20 k20
  have b20 := F20.binds (ps := ["clip", "reels"]) fun _ _ _ _ _ _ us hl => match us, hl with | [_, _], _ => rfl
  have F21 := qW (st := xO) l21 c21 k21
  have b21 := F21.binds (ps := ["thing"]) fun _ _ _ _ _ _ us hl => match us, hl with | [_], _ => rfl
  have F22 := qW (st := jK) l22 c22 k22
  have b22 := F22.binds (ps := ["item"]) fun _ _ _ _ _ _ us hl => match us, hl with | [_], _ => rfl
  have F23 := qW (st := xA) l23 c23 k23
  have b23 := F23.binds (ps := ["item"]) fun _ _ _ _ _ _ us hl => match us, hl with | [_], _ => rfl
  have F24 := qW (st := zA) l24 c24 k24
  have b24 := F24.binds (ps := ["some"]) fun _ _ _ _ _ _ us hl => match us, hl with | [_], _ => rfl
  have F25 := qW (st := xY) l25 c25 k25
  have b25 := F25.binds (ps := ["track"]) fun _ _ _ _ _ _ us hl => match us, hl with | [_], _ => rfl
  have F26 := qW (st := j8) l26 c26 k26
  have b26 := F26.binds (ps := ["track"]) fun _ _ _ _ _ _ us hl => match us, hl with | [_], _ => rfl
  have F27 := qW (st := zT) l27 c27 k27
  have b27 := F27.binds (ps := ["track", "moment"]) fun _ _ _ _ _ _ us hl => match us, hl with | [_, _], _ => rfl
  have F28 := qW (st := zS) l28 c28 k28
  have b28 := F28.binds (ps := ["track", "place"]) fun _ _ _ _ _ _ us hl => match us, hl with | [_, _], _ => rfl
  have F29 := qW (st := jm) l29 c29 k29
  have b29 := F29.binds (ps := ["track", "place"]) fun _ _ _ _ _ _ us hl => match us, hl with | [_, _], _ => rfl
  have F30 := qW (st := jx) l30 c30 k30
  have b30 := F30.binds (ps := ["track", "place"]) fun _ _ _ _ _ _ us hl => match us, hl with | [_, _], _ => rfl
  have F31 := qW (st := jH) l31 c31 k31
  have b31 := F31.binds (ps := ["track", "moment"]) fun _ _ _ _ _ _ us hl => match us, hl with | [_, _], _ => rfl
  have F32 := qW (st := qq) l32 c32 k32
  have b32 := F32.binds (ps := ["track", "moment"]) fun _ _ _ _ _ _ us hl => match us, hl with | [_, _], _ => rfl
  have F33 := qW (st := jk) l33 c33 k33
  have b33 := F33.binds (ps := ["track", "moment"]) fun _ _ _ _ _ _ us hl => match us, hl with | [_, _], _ => rfl
  have F34 := qW (st := xR) l34 c34 k34
  have b34 := F34.binds (ps := ["item", "low", "high"]) fun _ _ _ _ _ _ us hl => match us, hl with | [_, _, _], _ => rfl
  have F35 := qW (st := jG) l35 c35 k35
  have b35 := F35.binds (ps := ["track", "low", "high"]) fun _ _ _ _ _ _ us hl => match us, hl with | [_, _, _], _ => rfl
  have F36 := qW (st := j5) l36 c36 k36
  have b36 := F36.binds (ps := ["length"]) fun _ _ _ _ _ _ us hl => match us, hl with | [_], _ => rfl
  have F37 := qW (st := jq) l37 c37 k37
  have b37 := F37.binds (ps := ["length"]) fun _ _ _ _ _ _ us hl => match us, hl with | [_], _ => rfl
  have F38 := qW (st := xN) l38 c38 k38
  have b38 := F38.binds (ps := ["track"]) fun _ _ _ _ _ _ us hl => match us, hl with | [_], _ => rfl
  have F39 := qW (st := qx) l39 c39 k39
  have b39 := F39.binds (ps := ["track", "place"]) fun _ _ _ _ _ _ us hl => match us, hl with | [_, _], _ => rfl
  have F40 := qW (st := jS) l40 c40 k40
  have b40 := F40.binds (ps := ["track", "place"]) fun _ _ _ _ _ _ us hl => match us, hl with | [_, _], _ => rfl
  have F41 := qW (st := xw) l41 c41 k41
  have b41 := F41.binds (ps := ["track", "moment", "reels"]) fun _ _ _ _ _ _ us hl => match us, hl with | [_, _, _], _ => rfl
  have F42 := qW (st := jh) l42 c42 k42
  have b42 := F42.binds (ps := ["table", "number", "moment"]) fun _ _ _ _ _ _ us hl => match us, hl with | [_, _, _], _ => rfl
  have F43 := qW (st := zJ) l43 c43 k43
  have b43 := F43.binds (ps := ["by"]) fun _ _ _ _ _ _ us hl => match us, hl with | [_], _ => rfl
  have F44 := qW (st := xk) l44 c44 k44
  have b44 := F44.binds (ps := ["track", "moment"]) fun _ _ _ _ _ _ us hl => match us, hl with | [_, _], _ => rfl
  have F45 := qW (st := jO) l45 c45 k45
  have b45 := F45.binds (ps := ["track", "moment"]) fun _ _ _ _ _ _ us hl => match us, hl with | [_, _], _ => rfl
  have F46 := qW (st := jv) l46 c46 k46
  have b46 := F46.binds (ps := ["track", "deed"]) fun _ _ _ _ _ _ us hl => match us, hl with | [_, _], _ => rfl
  have F47 := qW (st := zu) l47 c47 k47
  have b47 := F47.binds (ps := ["track", "place"]) fun _ _ _ _ _ _ us hl => match us, hl with | [_, _], _ => rfl
  have F48 := qW (st := xH) l48 c48 k48
  have b48 := F48.binds (ps := ["most", "by"]) fun _ _ _ _ _ _ us hl => match us, hl with | [_, _], _ => rfl
  have F49 := qW (st := zD) l49 c49 k49
  have b49 := F49.binds (ps := ["clip", "by", "reels"]) fun _ _ _ _ _ _ us hl => match us, hl with | [_, _, _], _ => rfl
  have F50 := qW (st := zC) l50 c50 k50
  have b50 := F50.binds (ps := ["left", "right", "by", "reels"]) fun _ _ _ _ _ _ us hl => match us, hl with | [_, _, _, _], _ => rfl
  have F51 := qW (st := zk) l51 c51 k51
  have b51 := F51.binds (ps := ["track", "place", "by", "reels"]) fun _ _ _ _ _ _ us hl => match us, hl with | [_, _, _, _], _ => rfl
  have F52 := qW (st := jB) l52 c52 k52
  have b52 := F52.binds (ps := ["track", "first", "last", "by", "reels"]) fun _ _ _ _ _ _ us hl => match us, hl with | [_, _, _, _, _], _ => rfl
  have F53 := qW (st := j4) l53 c53 k53
  have b53 := F53.binds (ps := ["table", "number", "track"]) fun _ _ _ _ _ _ us hl => match us, hl with | [_, _, _], _ => rfl
  have F54 := qW (st := kZ) l54 c54 k54
  have b54 := F54.binds (ps := ["table", "deed", "reels"]) fun _ _ _ _ _ _ us hl => match us, hl with | [_, _, _], _ => rfl
  have F55 := qW (st := j3) l55 c55 k55
  have b55 := F55.binds (ps := ["deed"]) fun _ _ _ _ _ _ us hl => match us, hl with | [_], _ => rfl
  have F56 := qW (st := zO) l56 c56 k56
  have b56 := F56.binds (ps := ["deed"]) fun _ _ _ _ _ _ us hl => match us, hl with | [_], _ => rfl
  have F57 := qW (st := jQ) l57 c57 k57
  have b57 := F57.binds (ps := ["deed"]) fun _ _ _ _ _ _ us hl => match us, hl with | [_], _ => rfl
  have F58 := qW (st := qy) l58 c58 k58
  have b58 := F58.binds (ps := ["table", "deed"]) fun _ _ _ _ _ _ us hl => match us, hl with | [_, _], _ => rfl
  have F59 := qW (st := jF) l59 c59 k59
  have b59 := F59.binds (ps := ["deed"]) fun _ _ _ _ _ _ us hl => match us, hl with | [_], _ => rfl
  have F60 := qW (st := jg) l60 c60 k60
  have b60 := F60.binds (ps := ["track", "low", "high"]) fun _ _ _ _ _ _ us hl => match us, hl with | [_, _, _], _ => rfl
  have F61 := qW (st := jn) l61 c61 k61
  have b61 := F61.binds (ps := ["table", "deed"]) fun _ _ _ _ _ _ us hl => match us, hl with | [_, _], _ => rfl
  have F62 := qW (st := jR) l62 c62 k62
  have b62 := F62.binds (ps := ["table", "deed", "reels"]) fun _ _ _ _ _ _ us hl => match us, hl with | [_, _, _], _ => rfl
  have F63 := qW (st := jw) l63 c63 k63
  have b63 := F63.binds (ps := ["one", "other"]) fun _ _ _ _ _ _ us hl => match us, hl with | [_, _], _ => rfl
  have F64 := qW (st := zP) l64 c64 k64
  have b64 := F64.binds (ps := ["track", "places"]) fun _ _ _ _ _ _ us hl => match us, hl with | [_, _], _ => rfl
  have F65 := qW (st := kf) l65 c65 k65
  have b65 := F65.binds (ps := ["table", "deed"]) fun _ _ _ _ _ _ us hl => match us, hl with | [_, _], _ => rfl
  have F66 := qW (st := vK) l66 c66 k66
  have b66 := F66.binds (ps := ["table", "deed", "reels"]) fun _ _ _ _ _ _ us hl => match us, hl with | [_, _, _], _ => rfl
  have F67 := qW (st := z6) l67 c67 k67
  have b67 := F67.binds (ps := ["table", "deed"]) fun _ _ _ _ _ _ us hl => match us, hl with | [_, _], _ => rfl
  have F68 := qW (st := kD) l68 c68 k68
  have b68 := F68.binds (ps := ["track", "low", "high", "laid"]) fun _ _ _ _ _ _ us hl => match us, hl with | [_, _, _, _], _ => rfl
  have F69 := qW (st := zU) l69 c69 k69
  have b69 := F69.binds (ps := ["table", "deed"]) fun _ _ _ _ _ _ us hl => match us, hl with | [_, _], _ => rfl
  have F70 := qW (st := xW) l70 c70 k70
  have b70 := F70.binds (ps := ["table", "deed", "reels"]) fun _ _ _ _ _ _ us hl => match us, hl with | [_, _, _], _ => rfl
  have F71 := qW (st := jT) l71 c71 k71
  have b71 := F71.binds (ps := ["_law_script", "_law_k"]) fun _ _ _ _ _ _ us hl => match us, hl with | [_, _], _ => rfl
  have F72 := qW (st := je) l72 c72 k72
  have b72 := F72.binds (ps := ["_law_cell", "_law_size"]) fun _ _ _ _ _ _ us hl => match us, hl with | [_, _], _ => rfl
  have F73 := qW (st := jl) l73 c73 k73
  have b73 := F73.binds (ps := ["_law_top", "_law_bottom"]) fun _ _ _ _ _ _ us hl => match us, hl with | [_, _], _ => rfl
  have F74 := qW (st := j2) l74 c74 k74
  have b74 := F74.binds (ps := ["_law_xs", "_law_reels_here", "_law_size"]) fun _ _ _ _ _ _ us hl => match us, hl with | [_, _, _], _ => rfl
  have F75 := qW (st := j9) l75 c75 k75
  have b75 := F75.binds (ps := ["_law_xs", "_law_reels_here", "_law_size"]) fun _ _ _ _ _ _ us hl => match us, hl with | [_, _, _], _ => rfl
  have F76 := qW (st := xC) l76 c76 k76
  have b76 := F76.binds (ps := ["_law_cell"]) fun _ _ _ _ _ _ us hl => match us, hl with | [_], _ => rfl
  have F77 := qW (st := xD) l77 c77 k77
  have b77 := F77.binds (ps := ["_law_table_here", "_law_reels_here", "_law_cell"]) fun _ _ _ _ _ _ us hl => match us, hl with | [_, _, _], _ => rfl
  have F78 := qW (st := xE) l78 c78 k78
  have b78 := F78.binds (ps := ["_law_cell", "_law_reels_here", "_law_tracks", "_law_size"]) fun _ _ _ _ _ _ us hl => match us, hl with | [_, _, _, _], _ => rfl
  have F79 := qW (st := ji) l79 c79 k79
  have b79 := F79.binds (ps := ["_law_table_here"]) fun _ _ _ _ _ _ us hl => match us, hl with | [_], _ => rfl
  have F80 := qW (st := xV) l80 c80 k80
  have b80 := F80.binds (ps := ["_law_xs", "_law_number", "_law_reels_here", "_law_last"]) fun _ _ _ _ _ _ us hl => match us, hl with | [_, _, _, _], _ => rfl
  have F81 := qW (st := xL) l81 c81 k81
  have b81 := F81.binds (ps := ["_law_table_here", "_law_deed_here", "_law_reels_here"]) fun _ _ _ _ _ _ us hl => match us, hl with | [_, _, _], _ => rfl
  have F82 := qW (st := xB) l82 c82 k82
  have b82 := F82.binds (ps := ["_law_deed_here", "_law_number"]) fun _ _ _ _ _ _ us hl => match us, hl with | [_, _], _ => rfl
  have F83 := qW (st := xt) l83 c83 k83
  have b83 := F83.binds (ps := ["_law_table_here", "_law_deed_here", "_law_reels_here"]) fun _ _ _ _ _ _ us hl => match us, hl with | [_, _, _], _ => rfl
  have F84 := qW (st := qB2) l84 c84 k84
  have b84 := F84.binds (ps := ["_law_script"]) fun _ _ _ _ _ _ us hl => match us, hl with | [_], _ => rfl
  have FmShort := qW (st := kC) ilShort icShort ikShort
  have bmShort := FmShort.binds (ps := ["self", "most"]) fun _ _ _ _ _ _ us hl => match us, hl with | [_, _], _ => rfl
  have T : Tx K mg ⟨f0, _, f1, _, f2, _, f3, _, f4, _, f5, _, f6, _, f7, _, f8, _, f9, _, f10, _, f11, _, f12, _, f13, _, f14, _, f15, _, f16, _, f17, _, f18, _, f19, _, f20, _, f21, _, f22, _, f23, _, f24, _, f25, _, f26, _, f27, _, f28, _, f29, _, f30, _, f31, _, f32, _, f33, _, f34, _, f35, _, f36, _, f37, _, f38, _, f39, _, f40, _, f41, _, f42, _, f43, _, f44, _, f45, _, f46, _, f47, _, f48, _, f49, _, f50, _, f51, _, f52, _, f53, _, f54, _, f55, _, f56, _, f57, _, f58, _, f59, _, f60, _, f61, _, f62, _, f63, _, f64, _, f65, _, f66, _, f67, _, f68, _, f69, _, f70, _, f71, _, f72, _, f73, _, f74, _, f75, _, f76, _, f77, _, f78, _, f79, _, f80, _, f81, _, f82, _, f83, _, f84, _, C0, C1, C2, C3, C4, C5, tLETTERS, tLONGEST_NAME, tMOST_ROOM, nNOUGHT, tMOST_BY, nROLLS, nLAYS, nPUSHES, nCHANGES, fmShort, _⟩ := ⟨⟨F0, b0, W.mg_of X G a0⟩, ⟨F1, b1, W.mg_of X G a1⟩, ⟨F2, b2, W.mg_of X G a2⟩, ⟨F3, b3, W.mg_of X G a3⟩, ⟨F4, b4, W.mg_of X G a4⟩, ⟨F5, b5, W.mg_of X G a5⟩, ⟨F6, b6, W.mg_of X G a6⟩, ⟨F7, b7, W.mg_of X G a7⟩, ⟨F8, b8, W.mg_of X G a8⟩, ⟨F9, b9, W.mg_of X G a9⟩, ⟨F10, b10, W.mg_of X G a10⟩, ⟨F11, b11, W.mg_of X G a11⟩, ⟨F12, b12, W.mg_of X G a12⟩, ⟨F13, b13, W.mg_of X G a13⟩, ⟨F14, b14, W.mg_of X G a14⟩, ⟨F15, b15, W.mg_of X G a15⟩, ⟨F16, b16, W.mg_of X G a16⟩, ⟨F17, b17, W.mg_of X G a17⟩, ⟨F18, b18, W.mg_of X G a18⟩, ⟨F19, b19, W.mg_of X G a19⟩, ⟨F20, b20, W.mg_of X G a20⟩, ⟨F21, b21, W.mg_of X G a21⟩, ⟨F22, b22, W.mg_of X G a22⟩, ⟨F23, b23, W.mg_of X G a23⟩, ⟨F24, b24, W.mg_of X G a24⟩, ⟨F25, b25, W.mg_of X G a25⟩, ⟨F26, b26, W.mg_of X G a26⟩, ⟨F27, b27, W.mg_of X G a27⟩, ⟨F28, b28, W.mg_of X G a28⟩, ⟨F29, b29, W.mg_of X G a29⟩, ⟨F30, b30, W.mg_of X G a30⟩, ⟨F31, b31, W.mg_of X G a31⟩, ⟨F32, b32, W.mg_of X G a32⟩, ⟨F33, b33, W.mg_of X G a33⟩, ⟨F34, b34, W.mg_of X G a34⟩, ⟨F35, b35, W.mg_of X G a35⟩, ⟨F36, b36, W.mg_of X G a36⟩, ⟨F37, b37, W.mg_of X G a37⟩, ⟨F38, b38, W.mg_of X G a38⟩, ⟨F39, b39, W.mg_of X G a39⟩, ⟨F40, b40, W.mg_of X G a40⟩, ⟨F41, b41, W.mg_of X G a41⟩, ⟨F42, b42, W.mg_of X G a42⟩, ⟨F43, b43, W.mg_of X G a43⟩, ⟨F44, b44, W.mg_of X G a44⟩, ⟨F45, b45, W.mg_of X G a45⟩, ⟨F46, b46, W.mg_of X G a46⟩, ⟨F47, b47, W.mg_of X G a47⟩, ⟨F48, b48, W.mg_of X G a48⟩, ⟨F49, b49, W.mg_of X G a49⟩, ⟨F50, b50, W.mg_of X G a50⟩, ⟨F51, b51, W.mg_of X G a51⟩, ⟨F52, b52, W.mg_of X G a52⟩, ⟨F53, b53, W.mg_of X G a53⟩, ⟨F54, b54, W.mg_of X G a54⟩, ⟨F55, b55, W.mg_of X G a55⟩, ⟨F56, b56, W.mg_of X G a56⟩, ⟨F57, b57, W.mg_of X G a57⟩, ⟨F58, b58, W.mg_of X G a58⟩, ⟨F59, b59, W.mg_of X G a59⟩, ⟨F60, b60, W.mg_of X G a60⟩, ⟨F61, b61, W.mg_of X G a61⟩, ⟨F62, b62, W.mg_of X G a62⟩, ⟨F63, b63, W.mg_of X G a63⟩, ⟨F64, b64, W.mg_of X G a64⟩, ⟨F65, b65, W.mg_of X G a65⟩, ⟨F66, b66, W.mg_of X G a66⟩, ⟨F67, b67, W.mg_of X G a67⟩, ⟨F68, b68, W.mg_of X G a68⟩, ⟨F69, b69, W.mg_of X G a69⟩, ⟨F70, b70, W.mg_of X G a70⟩, ⟨F71, b71, W.mg_of X G a71⟩, ⟨F72, b72, W.mg_of X G a72⟩, ⟨F73, b73, W.mg_of X G a73⟩, ⟨F74, b74, W.mg_of X G a74⟩, ⟨F75, b75, W.mg_of X G a75⟩, ⟨F76, b76, W.mg_of X G a76⟩, ⟨F77, b77, W.mg_of X G a77⟩, ⟨F78, b78, W.mg_of X G a78⟩, ⟨F79, b79, W.mg_of X G a79⟩, ⟨F80, b80, W.mg_of X G a80⟩, ⟨F81, b81, W.mg_of X G a81⟩, ⟨F82, b82, W.mg_of X G a82⟩, ⟨F83, b83, W.mg_of X G a83⟩, ⟨F84, b84, W.mg_of X G a84⟩, W.mg_of X G xg0, W.mg_of X G xg1, W.mg_of X G xg2, W.mg_of X G xg3, W.mg_of X G xg4, W.mg_of X G xg5, W.mg_none_of X G xz0, W.mg_none_of X G xz1, W.mg_none_of X G xz2, W.mg_none_of X G xz3, W.mg_none_of X G xz4, W.mg_none_of X G xz5, W.mg_none_of X G xz6, W.mg_none_of X G xz7, W.mg_none_of X G xz8, W.mg_none_of X G xz9, W.mg_none_of X G xz10, W.mg_none_of X G xz11, W.mg_none_of X G xz12, W.mg_none_of X G xz13, W.mg_none_of X G xz14, W.mg_of X G xcLETTERS, W.mg_of X G xcLONGEST_NAME, W.mg_of X G xcMOST_ROOM, W.mg_of X G xcNOUGHT, fun H => .inr ⟨_, _, _, xlNOUGHT, rfl, rfl, by show 2 ≤ sizeLine; decide, .cons ⟨_, rfl⟩ (.cons ⟨_, rfl⟩ (.nil))⟩, W.mg_of X G xcMOST_BY, W.mg_of X G xcROLLS, fun H => .inr ⟨_, _, _, xlROLLS, rfl, rfl, by show 3 ≤ sizeLine; decide, .cons ⟨_, rfl⟩ (.cons ⟨_, rfl⟩ (.cons ⟨_, rfl⟩ (.nil)))⟩, W.mg_of X G xcLAYS, fun H => .inr ⟨_, _, _, xlLAYS, rfl, rfl, by show 2 ≤ sizeLine; decide, .cons ⟨_, rfl⟩ (.cons ⟨_, rfl⟩ (.nil))⟩, W.mg_of X G xcPUSHES, fun H => .inr ⟨_, _, _, xlPUSHES, rfl, rfl, by show 3 ≤ sizeLine; decide, .cons ⟨_, rfl⟩ (.cons ⟨_, rfl⟩ (.cons ⟨_, rfl⟩ (.nil)))⟩, W.mg_of X G xcCHANGES, fun H => .inr ⟨_, _, _, xlCHANGES, rfl, rfl, by show 6 ≤ sizeLine; decide, .cons ⟨_, rfl⟩ (.cons ⟨_, rfl⟩ (.cons ⟨_, rfl⟩ (.cons ⟨_, rfl⟩ (.cons ⟨_, rfl⟩ (.cons ⟨_, rfl⟩ (.nil))))))⟩, x_NoClip, x_NoPlace, x_Mixed, yMM, yPM, yPP, FmShort, bmShort, ⟨ivShort, ihShort, isShort, ixShort, ifShort⟩, itShort⟩
  exact ⟨W.fnOf "law" "law" (qM qB2) (qK qB2) (qC qB2) .none kV84 dc84 pm84 an84 cd84 ct84, fun s v => .of_eq rfl, fun base _ _ => qLt T⟩
theorem walk {l : W.OpenLaw} {q : Program} {loose : List Str} {XP : (Str → Option Value) → Heap → Prop} {YP : World → Heap → Prop} {d : DefRec} {K : Params → W.Frag} (hn : l.most = some 63) (hdf : d.params.defaults = [])
    (hY : ∀ (w : World) (h : Heap), YP w h → (K w.params).In h)
    (F : ∀ (w : World) (mg : Str → Option Value) (fa : Addr) (h : Heap), (K w.params).In h → h.Ns mainGlobals mg → mg d.name = some (.ref fa) →
      ∃ fd : FuncData, (∀ (s : Shared) (u : Value), BindsTo s fd ⟨[u], []⟩ [("_law_script", u)]) ∧ ∀ base : Heap, (K w.params).In base → base.Ns mainGlobals mg → FnOk l.prog w (K w.params) mg base CX0 13 fa fd ["_law_script"] (qJe (K w.params))) :
    W.WalkO q loose XP YP l.row.toRowW d [] (fun f vs => PySem.call f vs) :=
  L2.walk_of (n := 63) (k := 13) (x := "_law_script") (CX := fun _ => CX0) (sp := fun w => qJe (K w.params)) hn (by decide) hdf ⟨rfl, by decide, by decide⟩ hY F (fun _ _ a ns hl _ hS => ⟨a, ns, rfl, hS, hl, fun _ => rfl⟩) fun _ _ _ _ _ z => z
end Lw
namespace PySem.W.Fast
def tw2251159259691851680 := ()
def tw3281648656513089249 := ()
def tw15532096448022806305 := ()
def tw6276069367278025538 := ()
def tw4600943009748682820 := ()
def tw14725347709751156196 := ()
def tw6892990107383474218 := ()
def tw15572364144523795626 := ()
def tw16423504797510541994 := ()
def tw9720854420366301259 := ()
def tw5286699909811640236 := ()
def tw15736449401347259694 := ()
def tw15381834292359395855 := ()
def tw1960160971714564592 := ()
def tw1420179651384604115 := ()
def tw4867820667728051923 := ()
def tw18219006294937480852 := ()
def tw4918535689888840341 := ()
def tw17679222499960504309 := ()
def tw13742048666139306006 := ()
def tw3989535100880519575 := ()
def tw14165175034736992983 := ()
def tw4700282820184369208 := ()
def tw2011845465038696762 := ()
def tw2964446060047209018 := ()
def tw14473132850944447483 := ()
def tw16442966817265091228 := ()
def tw13188545770888849822 := ()
def tw13675424448216640926 := ()
def tw10981349808584482782 := ()
def tw14084225514332638239 := ()
def tw15038790211287658698 := ()
def tw16421258506028208644 := ()
def tw813329783928709895 := ()
def tw7177923526086389067 := ()
def tw3076331763372521445 := ()
def tw9637060718903480966 := ()
def tw2499805404235932278 := ()
def tw766434318557123154 := ()
def tw17187845629992251277 := ()
def tw7788341207803765097 := ()
def tw1927007592908999835 := ()
def tw5688636363347187455 := ()
def tw2760478248879461043 := ()
def tw17920629320482985761 := ()
def tw7466761514705262339 := ()
def tw11152868411230228470 := ()
def tw8696737771846671855 := ()
def tw13916387445338495971 := ()
def tw4458151400421221283 := ()
def tw2417975709221342959 := ()
def tw9116292977177109600 := ()
def tw2342111826330190935 := ()
def tw7444167750824798086 := ()
def tw14831813046018055023 := ()
def tw5682517862950332589 := ()
def tw14669049882579530761 := ()
def tw5343823591822919766 := ()
def tw12245114379473506427 := ()
def tw17105747262219122724 := ()
def tw10562702810829220482 := ()
def tw6843208206641412482 := ()
def tw2073035198883016793 := ()
def tw1298656712019274585 := ()
def tw4175137208391667696 := ()
def tw11204568314251022254 := ()
def tw9447311489894996138 := ()
def tw4280761914150677825 := ()
def tw5247937183072108374 := ()
def tw9531426326030401759 := ()
def tw3325710406883419251 := ()
def tw16300067386471996644 := ()
def tw11199489052330259135 := ()
def tw15559261170042997036 := ()
def tw9134911500060363688 := ()
def tw14032077220995719637 := ()
def tw14325723123895745534 := ()
def tw4885690055933335521 := ()
def tw16057983325235225374 := ()
def tw3445469731492891449 := ()
def tw15201966740255215005 := ()
def tw16517889859526035984 := ()
end PySem.W.Fast
open PySem PySem.W PyProof.Rows
set_option maxRecDepth 100000 in
set_option maxHeartbeats 0 in
theorem PySem.Challenge.cw_reelcut_k47_tied_tracks_holds : PySem.Challenge.rw_reelcut_k47_tied_tracks.Holds := by
  w_on; o_law; k_head; (case hw => w_witness2)
  k_fill
  refine Lw.walk (l := PySem.Challenge.rw_reelcut_k47_tied_tracks) rfl rfl (fun w h Y => PySem.W.kIn_of Y) ?F
  case F =>
    intro w mg fa h KX G hmg
    refine' Lw.all_mk KX G hmg ?a0 ?l0 ?c0 ?k0 ?a1 ?l1 ?c1 ?k1 ?a2 ?l2 ?c2 ?k2 ?a3 ?l3 ?c3 ?k3 ?a4 ?l4 ?c4 ?k4 ?a5 ?l5 ?c5 ?k5 ?a6 ?l6 ?c6 ?k6 ?a7 ?l7 ?c7 ?k7 ?a8 ?l8 ?c8 ?k8 ?a9 ?l9 ?c9 ?k9 ?a10 ?l10 ?c10 ?k10 ?a11 ?l11 ?c11 ?k11 ?a12 ?l12 ?c12 ?k12 ?a13 ?l13 ?c13 ?k13 ?a14 ?l14 ?c14 ?k14 ?a15 ?l15 ?c15 ?k15 ?a16 ?l16 ?c16 ?k16 ?a17 ?l17 ?c17 ?k17 ?a18 ?l18 ?c18 ?k18 ?a19 ?l19 ?c19 ?k19 ?a20 ?l20 ?c20 ?k20 ?a21 ?l21 ?c21 ?k21 ?a22 ?l22 ?c22 ?k22 ?a23 ?l23 ?c23 ?k23 ?a24 ?l24 ?c24 ?k24 ?a25 ?l25 ?c25 ?k25 ?a26 ?l26 ?c26 ?k26 ?a27 ?l27 ?c27 ?k27 ?a28 ?l28 ?c28 ?k28 ?a29 ?l29 ?c29 ?k29 ?a30 ?l30 ?c30 ?k30 ?a31 ?l31 ?c31 ?k31 ?a32 ?l32 ?c32 ?k32 ?a33 ?l33 ?c33 ?k33 ?a34 ?l34 ?c34 ?k34 ?a35 ?l35 ?c35 ?k35 ?a36 ?l36 ?c36 ?k36 ?a37 ?l37 ?c37 ?k37 ?a38 ?l38 ?c38 ?k38 ?a39 ?l39 ?c39 ?k39 ?a40 ?l40 ?c40 ?k40 ?a41 ?l41 ?c41 ?k41 ?a42 ?l42 ?c42 ?k42 ?a43 ?l43 ?c43 ?k43 ?a44 ?l44 ?c44 ?k44 ?a45 ?l45 ?c45 ?k45 ?a46 ?l46 ?c46 ?k46 ?a47 ?l47 ?c47 ?k47 ?a48 ?l48 ?c48 ?k48 ?a49 ?l49 ?c49 ?k49 ?a50 ?l50 ?c50 ?k50 ?a51 ?l51 ?c51 ?k51 ?a52 ?l52 ?c52 ?k52 ?a53 ?l53 ?c53 ?k53 ?a54 ?l54 ?c54 ?k54 ?a55 ?l55 ?c55 ?k55 ?a56 ?l56 ?c56 ?k56 ?a57 ?l57 ?c57 ?k57 ?a58 ?l58 ?c58 ?k58 ?a59 ?l59 ?c59 ?k59 ?a60 ?l60 ?c60 ?k60 ?a61 ?l61 ?c61 ?k61 ?a62 ?l62 ?c62 ?k62 ?a63 ?l63 ?c63 ?k63 ?a64 ?l64 ?c64 ?k64 ?a65 ?l65 ?c65 ?k65 ?a66 ?l66 ?c66 ?k66 ?a67 ?l67 ?c67 ?k67 ?a68 ?l68 ?c68 ?k68 ?a69 ?l69 ?c69 ?k69 ?a70 ?l70 ?c70 ?k70 ?a71 ?l71 ?c71 ?k71 ?a72 ?l72 ?c72 ?k72 ?a73 ?l73 ?c73 ?k73 ?a74 ?l74 ?c74 ?k74 ?a75 ?l75 ?c75 ?k75 ?a76 ?l76 ?c76 ?k76 ?a77 ?l77 ?c77 ?k77 ?a78 ?l78 ?c78 ?k78 ?a79 ?l79 ?c79 ?k79 ?a80 ?l80 ?c80 ?k80 ?a81 ?l81 ?c81 ?k81 ?a82 ?l82 ?c82 ?k82 ?a83 ?l83 ?c83 ?k83 ?a84 ?l84 ?c84 ?k84 ?xg0 ?xg1 ?xg2 ?xg3 ?xg4 ?xg5 ?x_NoClip ?x_NoPlace ?x_Mixed ?yMM ?yPM ?yPP ?xz0 ?xz1 ?xz2 ?xz3 ?xz4 ?xz5 ?xz6 ?xz7 ?xz8 ?xz9 ?xz10 ?xz11 ?xz12 ?xz13 ?xz14 ?xcLETTERS ?xcLONGEST_NAME ?xcMOST_ROOM ?xcNOUGHT ?xlNOUGHT ?xcMOST_BY ?xcROLLS ?xlROLLS ?xcLAYS ?xlLAYS ?xcPUSHES ?xlPUSHES ?xcCHANGES ?xlCHANGES ?iaShort ?ilShort ?icShort ?ikShort ?ifShort ?ivShort ?ihShort ?isShort ?ixShort ?itShort
    (case a0 | l0 | c0 | k0 | a1 | l1 | c1 | k1 | a2 | l2 | c2 | k2 | a3 | l3 | c3 | k3 | a4 | l4 | c4 | k4 | a5 | l5 | c5 | k5 | a6 | l6 | c6 | k6 | a7 | l7 | c7 | k7 | a8 | l8 | c8 | k8 | a9 | l9 | c9 | k9 | a10 | l10 | c10 | k10 | a11 | l11 | c11 | k11 | a12 | l12 | c12 | k12 | a13 | l13 | c13 | k13 | a14 | l14 | c14 | k14 | a15 | l15 | c15 | k15 | a16 | l16 | c16 | k16 | a17 | l17 | c17 | k17 | a18 | l18 | c18 | k18 | a19 | l19 | c19 | k19 | a20 | l20 | c20 | k20 | a21 | l21 | c21 | k21 | a22 | l22 | c22 | k22 | a23 | l23 | c23 | k23 | a24 | l24 | c24 | k24 | a25 | l25 | c25 | k25 | a26 | l26 | c26 | k26 | a27 | l27 | c27 | k27 | a28 | l28 | c28 | k28 | a29 | l29 | c29 | k29 | a30 | l30 | c30 | k30 | a31 | l31 | c31 | k31 | a32 | l32 | c32 | k32 | a33 | l33 | c33 | k33 | a34 | l34 | c34 | k34 | a35 | l35 | c35 | k35 | a36 | l36 | c36 | k36 | a37 | l37 | c37 | k37 | a38 | l38 | c38 | k38 | a39 | l39 | c39 | k39 | a40 | l40 | c40 | k40 | a41 | l41 | c41 | k41 | a42 | l42 | c42 | k42 | a43 | l43 | c43 | k43 | a44 | l44 | c44 | k44 | a45 | l45 | c45 | k45 | a46 | l46 | c46 | k46 | a47 | l47 | c47 | k47 | a48 | l48 | c48 | k48 | a49 | l49 | c49 | k49 | a50 | l50 | c50 | k50 | a51 | l51 | c51 | k51 | a52 | l52 | c52 | k52 | a53 | l53 | c53 | k53 | a54 | l54 | c54 | k54 | a55 | l55 | c55 | k55 | a56 | l56 | c56 | k56 | a57 | l57 | c57 | k57 | a58 | l58 | c58 | k58 | a59 | l59 | c59 | k59 | a60 | l60 | c60 | k60 | a61 | l61 | c61 | k61 | a62 | l62 | c62 | k62 | a63 | l63 | c63 | k63 | a64 | l64 | c64 | k64 | a65 | l65 | c65 | k65 | a66 | l66 | c66 | k66 | a67 | l67 | c67 | k67 | a68 | l68 | c68 | k68 | a69 | l69 | c69 | k69 | a70 | l70 | c70 | k70 | a71 | l71 | c71 | k71 | a72 | l72 | c72 | k72 | a73 | l73 | c73 | k73 | a74 | l74 | c74 | k74 | a75 | l75 | c75 | k75 | a76 | l76 | c76 | k76 | a77 | l77 | c77 | k77 | a78 | l78 | c78 | k78 | a79 | l79 | c79 | k79 | a80 | l80 | c80 | k80 | a81 | l81 | c81 | k81 | a82 | l82 | c82 | k82 | a83 | l83 | c83 | k83 | a84 | l84 | c84 | k84 | xg0 | xg1 | xg2 | xg3 | xg4 | xg5 => k_is)
    (case x_NoClip => (unfold L3.OwnX; kernel_rfl))
    (case x_NoPlace => (unfold L3.OwnX; kernel_rfl))
    (case x_Mixed => (unfold L3.OwnX; kernel_rfl))
    (case yMM => kernel_rfl)
    (case yPM => kernel_rfl)
    (case yPP => kernel_rfl)
    (case xz0 | xz1 | xz2 | xz3 | xz4 | xz5 | xz6 | xz7 | xz8 | xz9 | xz10 | xz11 | xz12 | xz13 | xz14 | xcLETTERS | xcLONGEST_NAME | xcMOST_ROOM | xcNOUGHT | xlNOUGHT | xcMOST_BY | xcROLLS | xlROLLS | xcLAYS | xlLAYS | xcPUSHES | xlPUSHES | xcCHANGES | xlCHANGES | iaShort | ilShort | icShort | ikShort | ifShort => k_is)
    (case ivShort => (unfold L3.exOver; kernel_rfl))
    (case ihShort | isShort => k_is)
    (case ixShort => (unfold L3.excInitIn; kernel_rfl))
    (case itShort => k_is)

import PyProof.Rows.All
import Wide.All
import OpenK.AllK
import Wide.FinOn
import Lean
import PyProof.EqAt
import PyProof.EqKinds
import PyProof.TupleCall
import PyProof.StrLawsTight
import KE.KIntText
import KE.KxPart
import PySem.Challenge.RW_reelcut_k83_lists_refused
set_option Elab.async false
set_option linter.all false
set_option maxRecDepth 100000
namespace L2
open PySem PySem.Spec PyProof.Rows
abbrev Key := Sum Int Str
def qGs : Key → Value → Bool
  | .inl k, v => Value.isInt k v
  | .inr x, v => Value.isStrOf x v
def qIu (w : World) : Key → Int
  | .inl k => hashInt k
  | .inr x => hashStr w x
theorem jM : ∀ {k : Key} {v : Value}, qGs k v = true → (∃ i t, k = Sum.inl i ∧ v = Value.int i t) ∨ (∃ x t, k = Sum.inr x ∧ v = Value.str x t)
  | .inl i, v, h => by
    obtain ⟨t, e⟩ := Value.isInt_shape (k := i) (v := v) h
    exact .inl ⟨i, t, rfl, e⟩
  | .inr x, v, h => by
    obtain ⟨t, e⟩ := Value.isStrOf_shape (x := x) (v := v) h
    exact .inr ⟨x, t, rfl, e⟩
theorem qGv (a b : Int) : decide ((Sum.inl a : Key) = Sum.inl b) = (a == b) := by
  by_cases e : a = b
  · subst e; simp
  · have h : ¬ (Sum.inl a : Key) = Sum.inl b := fun q => e (Sum.inl.inj q)
    rw [decide_eq_false h]
    exact (beq_eq_false_iff_ne.mpr e).symm
theorem qFy (a b : Str) : decide ((Sum.inr a : Key) = Sum.inr b) = decide (a = b) := by
  by_cases e : a = b
  · subst e; simp
  · have h : ¬ (Sum.inr a : Key) = Sum.inr b := fun q => e (Sum.inr.inj q)
    rw [decide_eq_false h, decide_eq_false e]
theorem qGu (a : Int) (b : Str) : decide ((Sum.inl a : Key) = Sum.inr b) = false := decide_eq_false (fun q => nomatch q)
theorem qFo (a : Str) (b : Int) : decide ((Sum.inr a : Key) = Sum.inl b) = false := decide_eq_false (fun q => nomatch q)
def wS (prog : Program) (w : World) : PySem.KeyKind prog w Key where
  is := qGs
  hash := qIu w
  inj := fun v a b ha hb => by
    rcases jM ha with ⟨i, t, rfl, rfl⟩ | ⟨x, t, rfl, rfl⟩
    · rcases jM hb with ⟨j, u, rfl, e⟩ | ⟨y, u, rfl, e⟩
      · injection e with e1 _; rw [e1]
      · exact nomatch e
    · rcases jM hb with ⟨j, u, rfl, e⟩ | ⟨y, u, rfl, e⟩
      · exact nomatch e
      · injection e with e1 _; rw [e1]
  byValue := fun k v h => by
    rcases jM h with ⟨i, t, rfl, rfl⟩ | ⟨x, t, rfl, rfl⟩ <;> rfl
  pyHash := fun hv h => by
    rcases jM hv with ⟨i, t, rfl, rfl⟩ | ⟨x, t, rfl, rfl⟩
    · exact wpAny_pyHash_int h
    · exact wpAny_pyHash_str h
  eqBool := fun hu hv h => by
    rcases jM hu with ⟨i, t, rfl, rfl⟩ | ⟨x, t, rfl, rfl⟩
    · rcases jM hv with ⟨j, u, rfl, rfl⟩ | ⟨y, u, rfl, rfl⟩
      · rw [qGv] at h; exact wpAny_eqBool_int h
      · rw [qGu] at h; exact SeqAt.EqAt.int_str i t y u _ _ _ _ h
    · rcases jM hv with ⟨j, u, rfl, rfl⟩ | ⟨y, u, rfl, rfl⟩
      · rw [qFo] at h; exact SeqAt.EqAt.str_int x t j u _ _ _ _ h
      · rw [qFy] at h; exact wpAny_eqBool_str h
  «strs» := fun k x t v h => by
    rcases jM h with ⟨i, u, rfl, e⟩ | ⟨y, u, rfl, e⟩
    · exact nomatch e
    · injection e with e1 _
      subst e1
      cases v <;> rfl
end L2
namespace L2
open PySem PySem.Spec PyProof.Rows
inductive V where
  | non | bl (b : Bool) | int (i : Int) | str (x : Str) | byt (b : Array UInt8) | flt (b : UInt64) | ref (a : Addr) | ty (n : String)
  deriving DecidableEq
def RelV : V → Value → Prop
  | .non, u => u = Value.none
  | .bl b, u => u = Value.bool b
  | .int i, u => ∃ t, u = Value.int i t
  | .str x, u => ∃ t, u = Value.str x t
  | .byt b, u => ∃ t, u = Value.bytes b t
  | .flt b, u => ∃ t, u = Value.float b t
  | .ref a, u => u = Value.ref a
  | .ty n, u => u = Value.type n
abbrev Vals : List V → List Value → Prop := Paired RelV
theorem Vals.length {xs : List V} {us : List Value} (r : Vals xs us) : xs.length = us.length := Paired.length r
theorem Vals.get : ∀ {xs : List V} {us : List Value} {i : Nat} {x : V}, Vals xs us → xs[i]? = some x → ∃ u, us[i]? = some u ∧ RelV x u
  | _, _, _, _, .nil, e => by simp at e
  | _, _, 0, _, .cons r _, e => by simp at e; subst e; exact ⟨_, rfl, r⟩
  | _, _, i + 1, x, .cons _ t, e => by
    obtain ⟨u, h1, h2⟩ := Vals.get (i := i) (x := x) t (by simpa using e)
    exact ⟨u, by simpa using h1, h2⟩
theorem Vals.set {x : V} {u : Value} (r : RelV x u) : ∀ {xs : List V} {us : List Value} (i : Nat), Vals xs us → Vals (xs.set i x) (us.set i u)
  | _, _, _, .nil => .nil
  | _, _, 0, .cons _ t => .cons r t
  | _, _, i + 1, .cons q t => .cons q (Vals.set r i t)
theorem Vals.append : ∀ {xs ys : List V} {us ws : List Value}, Vals xs us → Vals ys ws → Vals (xs ++ ys) (us ++ ws)
  | _, _, _, _, .nil, s => s
  | _, _, _, _, .cons r t, s => .cons r (Vals.append t s)
theorem Vals.take : ∀ {xs : List V} {us : List Value} (n : Nat), Vals xs us → Vals (xs.take n) (us.take n)
  | _, _, 0, _ => .nil
  | _, _, _ + 1, .nil => .nil
  | _, _, n + 1, .cons r t => .cons r (Vals.take n t)
theorem Vals.drop : ∀ {xs : List V} {us : List Value} (n : Nat), Vals xs us → Vals (xs.drop n) (us.drop n)
  | _, _, 0, r => r
  | _, _, _ + 1, .nil => .nil
  | _, _, n + 1, .cons _ t => Vals.drop n t
def RelO : Option V → Option Value → Prop
  | some v, some u => RelV v u
  | none, none => True
  | _, _ => False
def KV {κ : Type} : List (κ × V) → List (κ × Value) → Prop := Paired fun (p : κ × V) (q : κ × Value) => p.1 = q.1 ∧ RelV p.2 q.2
def kV : Key → V
  | .inl i => .int i
  | .inr x => .str x
inductive HO where
  | lst (xs : List V)
  | tup (xs : List V)
  | dK (kvs : List (Key × V)) | dT (kvs : List (List Key × V))
  | set (S : Int → Bool) (n : Nat)
  | ins (C dx : Addr) (fs : List (Str × V))
  | own (x : Addr)
  | xd (fs : List (Str × V))
  | met (f x : Addr)
  | rng (lo hi : Int)
  | frz (o : Obj) (u : HO)
  | tbl (ps : Array Value)
  | ext (φ : Heap → Prop)
abbrev Hp := Addr → Option HO
def upd (H : Hp) (a : Addr) (o : HO) : Hp := fun b => if b = a then some o else H b
theorem qB {H : Hp} {a : Addr} {o : HO} : upd H a o a = some o := by unfold upd; rw [if_pos rfl]
theorem qV {H : Hp} {a b : Addr} {o : HO} (h : b ≠ a) : upd H a o b = H b := by unfold upd; rw [if_neg h]
theorem qFa {H : Hp} {a : Addr} {o u : HO} : upd (upd H a o) a u = upd H a u := by
  funext b; unfold upd; split <;> rfl
theorem qHt {H : Hp} {a b : Addr} {o u : HO} (h : H a = some o) (h' : H b = some u) (d : o ≠ u) : a ≠ b := by
  intro e; subst e; rw [h] at h'; exact d (Option.some.inj h')
theorem qZ {H : Hp} {a b : Addr} {o : HO} (h : H a = some o) (h' : H b = none) : a ≠ b := by
  intro e; subst e; rw [h] at h'; cases h'
section
variable (P : Program) (w : World)
def ObjOk (H : Hp) (h : Heap) (a : Addr) : HO → Prop
  | .lst xs => xs.length ≤ sizeLine ∧ ∃ (its : List Value) (n : Nat), Vals xs its ∧ h.get? a = some { cls := .type "list", data := .seq its.toArray n }
  | .tup xs => xs.length ≤ sizeLine ∧ ∃ its : List Value, Vals xs its ∧ IsTup h a its.toArray
  | .dK kvs => kvs.length ≤ sizeLine ∧ (a == sysModules) = false ∧ ∃ vs, KV kvs vs ∧ h.DictOf (wS P w) a vs
  | .dT kvs => kvs.length ≤ sizeLine ∧ (a == sysModules) = false ∧ ∃ xs : List (List Key × Addr × Value),
      Paired (fun (p : List Key × V) (q : List Key × Addr × Value) => p.1 = q.1 ∧ H q.2.1 = some (.tup (p.1.map kV)) ∧ RelV p.2 q.2.2) kvs xs ∧
      ∃ o es ep, h.get? a = some o ∧ o.ExactDict ∧ o.data = .dict es ep ∧ es.toList = xs.map (entryOfKey (tupleKind (wS P w))) ∧ (xs.map (·.1)).Nodup
  | .set S n => h.SetOf (intKind P w) a S n
  | .ins C dx fs => H dx = some (.own a) ∧ fs.length ≤ 1000 ∧ dx ≠ a ∧ h.get? a = some (PySem.W.instObj C dx) ∧
      ∃ mA, h.Ns1 dx mA ∧ (∀ f, RelO (fs.lookup f) (mA f)) ∧ PySem.Within mA (fs.map (·.1))
  | .own _ => ∃ o, h.get? a = some o
  | .xd fs => ∃ mA, h.Ns1 a mA ∧ ∀ f, RelO (fs.lookup f) (mA f)
  | .rng lo hi => ∃ t u v, h.get? a = some { cls := .type "range", data := .fields #[.int lo t, .int hi u, .int 1 v] }
  | .frz o u => h.get? a = some o ∧ ObjOk H h a u
  | .tbl ps => h.get? a = some { cls := .none, data := .fields ps }
  | .met f x => h.get? a = some (PySem.W.methodObj (.ref f) (.ref x))
  | .ext φ => φ h ∧ (∃ o, h.get? a = some o) ∧ ∀ h1 h2 : Heap, φ h1 → (∀ o, h1.get? a = some o → h2.get? a = some o) → φ h2
def HOk (H : Hp) (h : Heap) : Prop := ∀ a o, H a = some o → ObjOk P w H h a o
end
section
variable {P : Program} {w : World} {H H' : Hp} {h h' : Heap} {a : Addr} {o : HO}
theorem ObjOk.lt (x : ObjOk P w H h a o) : a < h.objs.size := by
  cases o with
  | lst xs => obtain ⟨_, _, _, _, e⟩ := x; exact Heap.lt_size e
  | tup xs => obtain ⟨_, _, _, p⟩ := x; exact p.lt
  | dK kvs => obtain ⟨_, _, _, _, o, _, _, e, _⟩ := x; exact Heap.lt_size e
  | dT kvs => obtain ⟨_, _, _, _, o, _, _, e, _⟩ := x; exact Heap.lt_size e
  | set S n => obtain ⟨o, _, _, _, e, _⟩ := x; exact Heap.lt_size e
  | ins C dx fs => obtain ⟨_, _, _, e, _⟩ := x; exact Heap.lt_size e
  | own y => obtain ⟨_, e⟩ := x; exact Heap.lt_size e
  | xd fs => obtain ⟨_, ⟨_, _, _, e, _⟩, _⟩ := x; exact Heap.lt_size e
  | rng lo hi => obtain ⟨_, _, _, e⟩ := x; exact Heap.lt_size e
  | frz ob u => obtain ⟨e, _⟩ := x; exact Heap.lt_size e
  | tbl ps => exact Heap.lt_size (show h.get? a = some _ from x)
  | met f y => exact Heap.lt_size (show h.get? a = some _ from x)
  | ext φ => obtain ⟨_, ⟨_, e⟩, _⟩ := x; exact Heap.lt_size e
theorem Paired.mapP {α β : Type} {F G : α → β → Prop} : ∀ {l₁ : List α} {l₂ : List β}, Paired F l₁ l₂ → (∀ a b, F a b → G a b) → Paired G l₁ l₂
  | _, _, .nil, _ => .nil
  | _, _, .cons r t, f => .cons (f _ _ r) (Paired.mapP t f)
theorem ObjOk.stay (x : ObjOk P w H h a o) (k : ∀ b u, (b = a ∨ H b = some (.own a)) → h.get? b = some u → h'.get? b = some u)
    (ho : ∀ b, H b = some (.own a) → H' b = some (.own a)) (ht : ∀ b xs, H b = some (.tup xs) → H' b = some (.tup xs)) : ObjOk P w H' h' a o := by
  induction o with
  | lst xs => obtain ⟨z, its, n, r, e⟩ := x; exact ⟨z, its, n, r, k _ _ (.inl rfl) e⟩
  | tup xs => obtain ⟨z, its, r, ob, e, c⟩ := x; exact ⟨z, its, r, ob, k _ _ (.inl rfl) e, c⟩
  | dK kvs => obtain ⟨z, y, vs, r, ob, es, ep, e, c⟩ := x; exact ⟨z, y, vs, r, ob, es, ep, k _ _ (.inl rfl) e, c⟩
  | dT kvs =>
    obtain ⟨z, y, xs, r, ob, es, ep, e, c⟩ := x
    exact ⟨z, y, xs, Paired.mapP r fun p q z => ⟨z.1, ht _ _ z.2.1, z.2.2⟩, ob, es, ep, k _ _ (.inl rfl) e, c⟩
  | set S n => obtain ⟨ob, es, ep, t, e, c⟩ := x; exact ⟨ob, es, ep, t, k _ _ (.inl rfl) e, c⟩
  | ins C dx fs =>
    obtain ⟨d, z, ne, e, mA, ⟨od, es, ep, e2, c⟩, r⟩ := x
    exact ⟨ho _ d, z, ne, k _ _ (.inl rfl) e, mA, ⟨od, es, ep, k _ _ (.inr d) e2, c⟩, r⟩
  | own y => obtain ⟨ob, e⟩ := x; exact ⟨ob, k _ _ (.inl rfl) e⟩
  | xd fs => obtain ⟨mA, ⟨od, es, ep, e, c⟩, r⟩ := x; exact ⟨mA, ⟨od, es, ep, k _ _ (.inl rfl) e, c⟩, r⟩
  | rng lo hi => obtain ⟨t, u, v, e⟩ := x; exact ⟨t, u, v, k _ _ (.inl rfl) e⟩
  | frz ob u ih => obtain ⟨e, q⟩ := x; exact ⟨k _ _ (.inl rfl) e, ih q⟩
  | tbl ps =>
    have e : h.get? a = some { cls := .none, data := .fields ps } := x
    show h'.get? a = some { cls := .none, data := .fields ps }
    exact k a _ (.inl rfl) e
  | met f y =>
    have e : h.get? a = some (PySem.W.methodObj (.ref f) (.ref y)) := x
    show h'.get? a = some (PySem.W.methodObj (.ref f) (.ref y))
    exact k a _ (.inl rfl) e
  | ext φ => obtain ⟨p, ⟨o, e⟩, st⟩ := x; exact ⟨st _ _ p fun o q => k _ _ (.inl rfl) q, ⟨o, k _ _ (.inl rfl) e⟩, st⟩
theorem HOk.lt (x : HOk P w H h) (e : H a = some o) : a < h.objs.size := (x a o e).lt
theorem HOk.fresh (x : HOk P w H h) (e : h.objs.size ≤ a) : H a = none := by
  cases q : H a with
  | none => rfl
  | some u => exact absurd (Nat.lt_of_lt_of_le (x.lt q) e) (Nat.lt_irrefl _)
theorem HOk.kept (x : HOk P w H h) (k : ∀ b u, h.get? b = some u → h'.get? b = some u) : HOk P w H h' := fun a o e =>
  (x a o e).stay (fun b u _ q => k b u q) (fun _ q => q) fun _ _ q => q
theorem HOk.laid (x : HOk P w H h) (k : ∀ b u, h.get? b = some u → h'.get? b = some u) (hp : h.objs.size ≤ a) (new : ObjOk P w (upd H a o) h' a o) : HOk P w (upd H a o) h' := fun b u e => by
  have hn := x.fresh hp
  by_cases hb : b = a
  · subst hb; rw [qB] at e; cases e; exact new
  · rw [qV hb] at e
    exact (x b u e).stay (fun c v _ q => k c v q) (fun c q => by rw [qV (qZ q hn)]; exact q) fun c xs q => by rw [qV (qZ q hn)]; exact q
end
def Rd (H : Hp) (a : Addr) (u : HO) : Prop := H a = some u ∨ ∃ o, H a = some (.frz o u)
theorem Rd.of {H : Hp} {a : Addr} {u : HO} (h : H a = some u) : Rd H a u := .inl h
theorem Rd.ok {P : Program} {w : World} {H : Hp} {h : Heap} {a : Addr} {u : HO} (r : Rd H a u) (x : HOk P w H h) : ObjOk P w H h a u := by
  rcases r with r | ⟨o, r⟩
  · exact x a u r
  · obtain ⟨_, q⟩ := x a _ r
    exact q
def Mut : Option HO → Prop
  | some (.lst _) => True
  | some (.dK _) => True
  | some (.dT _) => True
  | some (.set _ _) => True
  | some (.ins _ _ _) => True
  | some (.ext _) => True
  | _ => False
section
variable {P : Program} {w : World} {H : Hp} {h h' : Heap} {x e : Addr} {o' : HO}
theorem HOk.write (ok : HOk P w H h) (mu : Mut (H x)) (he : e = x ∨ H e = some (.own x)) (k : ∀ b u, b ≠ e → h.get? b = some u → h'.get? b = some u) (heo : ∃ u, h'.get? e = some u)
    (new : ObjOk P w (upd H x o') h' x o') : HOk P w (upd H x o') h' := fun b u q => by
  have nown : ∀ c y, H c = some (.own y) → c ≠ x := fun c y r z => by subst z; rw [r] at mu; exact mu
  have ntup : ∀ c xs, H c = some (.tup xs) → c ≠ x := fun c xs r z => by subst z; rw [r] at mu; exact mu
  by_cases hb : b = x
  · subst hb; rw [qB] at q; cases q; exact new
  · rw [qV hb] at q
    by_cases hbe : b = e
    · have q' : H b = some (.own x) := by
        rcases he with z | z
        · exact absurd (hbe.trans z) hb
        · rw [hbe]; exact z
      rw [q] at q'; cases q'
      obtain ⟨v, hv⟩ := heo
      exact ⟨v, by rw [hbe]; exact hv⟩
    · refine (ok b u q).stay (fun c v hc r => k c v ?_ r) (fun c r => by rw [qV (nown c b r)]; exact r) fun c xs r => by rw [qV (ntup c xs r)]; exact r
      rcases hc with rfl | hc
      · exact hbe
      · rintro rfl
        rcases he with z | z
        · exact nown c b hc z
        · rw [hc] at z; cases z; exact hb rfl
end
structure Un (fs ex : List Addr) (H H' : Hp) (h h' : Heap) : Prop where
  keep : ∀ b o, h.get? b = some o → H b = none → b ∉ fs → b ∉ ex → h'.get? b = some o
  slot : ∀ b o, h.get? b = some o → H b = none → b ∈ fs → b ∉ ex → ∃ sl, h'.get? b = some { o with slots := sl }
  free : ∀ b o, h.get? b = some o → H b = none → b ∉ ex → H' b = none
  there : ∀ b o, h.get? b = some o → b ∉ ex → ∃ o', h'.get? b = some o'
  tups : ∀ b xs, H b = some (.tup xs) → H' b = some (.tup xs)
  frzs : ∀ b o u, H b = some (.frz o u) → H' b = some (.frz o u)
  tbls : ∀ b ps, H b = some (.tbl ps) → ∃ more, H' b = some (.tbl (ps ++ more))
section
variable {fs fs' ex ex' : List Addr} {H H1 H2 : Hp} {h h1 h2 h' : Heap} {a x e : Addr} {o : HO}
theorem Un.any (u : Un fs ex H H1 h h1) {b : Addr} {ob : Obj} (q : h.get? b = some ob) (n : H b = none) (hx : b ∉ ex) : ∃ sl, h1.get? b = some { ob with slots := sl } := by
  by_cases hb : b ∈ fs
  · exact u.slot b ob q n hb hx
  · exact ⟨ob.slots, u.keep b ob q n hb hx⟩
theorem Un.trans (a : Un fs ex H H1 h h1) (b : Un fs ex H1 H2 h1 h2) : Un fs ex H H2 h h2 where
  keep := fun c ob q n hc hx => b.keep c ob (a.keep c ob q n hc hx) (a.free c ob q n hx) hc hx
  slot := fun c ob q n hc hx => by
    obtain ⟨sl, e1⟩ := a.slot c ob q n hc hx
    obtain ⟨sl', e2⟩ := b.slot c _ e1 (a.free c ob q n hx) hc hx
    exact ⟨sl', e2⟩
  free := fun c ob q n hx => by
    obtain ⟨o', e1⟩ := a.there c ob q hx
    exact b.free c o' e1 (a.free c ob q n hx) hx
  there := fun c ob q hx => by
    obtain ⟨o', e1⟩ := a.there c ob q hx
    exact b.there c o' e1 hx
  tups := fun c xs q => b.tups c xs (a.tups c xs q)
  frzs := fun c ob xs q => b.frzs c ob xs (a.frzs c ob xs q)
  tbls := fun c ps q => by
    obtain ⟨m1, e1⟩ := a.tbls c ps q
    obtain ⟨m2, e2⟩ := b.tbls c _ e1
    exact ⟨m1 ++ m2, by rw [e2, Array.append_assoc]⟩
theorem Un.kept (k : ∀ b u, h.get? b = some u → h'.get? b = some u) : Un fs ex H H h h' :=
  ⟨fun b ob q _ _ _ => k b ob q, fun b ob q _ _ _ => ⟨ob.slots, k b ob q⟩, fun _ _ _ n _ => n, fun b ob q _ => ⟨ob, k b ob q⟩, fun _ _ q => q, fun _ _ _ q => q, fun _ ps q => ⟨#[], by rw [q]; simp⟩⟩
theorem Un.refl : Un fs ex H H h h := Un.kept fun _ _ q => q
theorem Un.laid (k : ∀ b u, h.get? b = some u → h'.get? b = some u) (hp : h.objs.size ≤ a) (hn : H a = none) : Un fs ex H (upd H a o) h h' where
  keep := fun b u q _ _ _ => k b u q
  slot := fun b u q _ _ _ => ⟨u.slots, k b u q⟩
  free := fun b u q n _ => by rw [qV (Nat.ne_of_lt (Nat.lt_of_lt_of_le (Heap.lt_size q) hp))]; exact n
  there := fun b u q _ => ⟨u, k b u q⟩
  tups := fun b xs q => by rw [qV (qZ q hn)]; exact q
  frzs := fun b u xs q => by rw [qV (qZ q hn)]; exact q
  tbls := fun b ps q => ⟨#[], by rw [qV (qZ q hn), q]; simp⟩
theorem Un.write (mu : Mut (H x)) (he : e = x ∨ H e = some (.own x)) (k : ∀ b u, b ≠ e → h.get? b = some u → h'.get? b = some u) (heo : ∃ u, h'.get? e = some u) : Un fs ex H (upd H x o) h h' := by
  have hx : ∀ b, H b = none → b ≠ x := fun b n z => by subst z; rw [n] at mu; exact mu
  have hb : ∀ b, H b = none → b ≠ e := fun b n z => by
    subst z
    rcases he with r | r
    · exact hx b n r
    · rw [n] at r; cases r
  have hm : ∀ b u, H b = some u → ¬ Mut (some u) → b ≠ x := fun b u q nm z => by subst z; rw [q] at mu; exact nm mu
  refine ⟨fun b u q n _ _ => k b u (hb b n) q, fun b u q n _ _ => ⟨u.slots, k b u (hb b n) q⟩, fun b u q n _ => by rw [qV (hx b n)]; exact n, fun b u q _ => ?_,
    fun b xs q => by rw [qV (hm b _ q fun z => z)]; exact q, fun b u xs q => by rw [qV (hm b _ q fun z => z)]; exact q, fun b ps q => ⟨#[], by rw [qV (hm b _ q fun z => z), q]; simp⟩⟩
  by_cases hbe : b = e
  · subst hbe; exact heo
  · exact ⟨u, k b u hbe q⟩
theorem Un.mono (u : Un fs ex H H1 h h1) (hs : ∀ b ∈ fs, b ∈ fs') (hx : ∀ b ∈ ex, b ∈ ex') : Un fs' ex' H H1 h h1 :=
  ⟨fun b ob q n hb he => u.keep b ob q n (fun z => hb (hs b z)) fun z => he (hx b z), fun _ _ q n _ he => u.any q n fun z => he (hx _ z), fun b ob q n he => u.free b ob q n fun z => he (hx b z), fun b ob q he => u.there b ob q fun z => he (hx b z), u.tups, u.frzs, u.tbls⟩
end
def trk (h : Heap) (H : Hp) : List Addr := (List.range h.objs.size).filter fun a => (H a).isSome
def qDd (h : Heap) (H : Hp) : Heap := PySem.W.hideAll h (trk h H)
theorem qBi (h : Heap) (H : Hp) : (qDd h H).objs.size = h.objs.size := PySem.W.hideAll_size _ _
theorem qCv {h : Heap} {H : Hp} {b : Addr} {o : Obj} (e : h.get? b = some o) (n : H b = none) : (qDd h H).get? b = some o :=
  PySem.W.hideAll_get _ e fun hm => by
    have q : (H b).isSome = true := (List.mem_filter.mp hm).2
    rw [n] at q; simp at q
theorem qEv {h : Heap} {H : Hp} {b : Addr} {o : Obj} (e : (qDd h H).get? b = some o) : h.get? b = some o ∧ H b = none := by
  have e' : h.get? b = some o := PySem.W.of_hideAll (trk h H) e
  refine ⟨e', ?_⟩
  cases q : H b with
  | none => rfl
  | some x =>
    have hm : b ∈ trk h H := List.mem_filter.mpr ⟨List.mem_range.mpr (Heap.lt_size e'), by simp [q]⟩
    have z : (qDd h H).get? b = none := PySem.W.hideAll_none (trk h H) hm
    rw [z] at e; cases e
def qEi (g h : Heap) (L : Addr) : List (Addr × Obj) := (List.range h.objs.size).filterMap fun a => if a = L ∨ (g.get? a).isSome = true then none else (h.get? a).map fun o => (a, o)
def rest (g h : Heap) (L d : Addr) : List (Addr × Obj) := (qEi g h L).filter fun p => decide (p.1 ≠ d)
end L2
namespace L2
open PySem PySem.Spec PyProof.Rows
structure Mod (K : PySem.W.Frag) (mg : Str → Option Value) (base : Heap) : Prop where
  kin : K.In base
  glob : base.Ns mainGlobals mg
  blt : ∃ mb, base.Ns builtinsNs mb ∧ ∀ x : Str, x ≠ "__name__" → mb x = bootBuiltins x
  nolimit : base.NoLimit
structure Cx where
  prog : Program
  w : World
  K : PySem.W.Frag
  mg : Str → Option Value
  base : Heap
  A : Around
  N : List Str
  s₀ : Shared
  H₀ : Hp
  env : Env
  outer : List Env
  stack : List Env
  ex : List Addr
  fn : Str → Bool
  calm : Bool
  pn : List (Addr × Obj)
  xe : Value → Shared → Prop
def frs (l : List Env) : List Addr := l.filterMap (·.frame)
abbrev Cx.fs (X : Cx) : List Addr := frs X.outer
def Vis (sc : Scope) (x : Str) : Prop := sc.names.lookup x = some .local ∨ sc.names.lookup x = some .cell ∨ sc.names.lookup x = some .free
def Loc (sc : Scope) (x : Str) : Prop := sc.names.lookup x = some .local ∨ sc.names.lookup x = some .cell
def qIs (env : Env) (h : Heap) (m : Str → Option Value) (x : Str) (u : Value) : Prop :=
  (env.kindOf x = some .local ∧ m x = some u) ∨ ((env.kindOf x = some .cell ∨ env.kindOf x = some .free) ∧ ∃ c, env.cells.lookup x = some c ∧ h.IsCell c (some u))
structure Cx.Ok (X : Cx) : Prop where
  mod : Mod X.K X.mg X.base
  kind : X.env.scope.kind = .function
  glob : X.env.globals = mainGlobals
  blt : X.env.builtins = builtinsNs
  above : X.s₀.heap.objs.size ≤ X.env.locals
  inj : ∀ x y c, X.env.cells.lookup x = some c → X.env.cells.lookup y = some c → x = y
  has : ∀ x, (X.env.kindOf x = some .cell ∨ X.env.kindOf x = some .free) → ∃ c, X.env.cells.lookup x = some c
  cab : ∀ x c, X.fn x = true → X.env.cells.lookup x = some c → X.s₀.heap.objs.size ≤ c
  hd : X.calm = true → X.A.handled = none
  frames : X.A.frames = some X.stack
  stk : X.stack = X.outer ∨ (X.stack = X.env :: X.outer ∧ X.env.frame = some X.env.locals)
  exf : ∀ b ∈ X.ex, b ≠ X.env.locals ∧ ∀ x c, X.env.cells.lookup x = some c → c ≠ b
  bs : ∀ b o, X.base.get? b = some o → X.s₀.heap.get? b = some o ∧ X.H₀ b = none
  bsz : X.base.objs.size ≤ X.s₀.heap.objs.size
  noex : ∀ b o, X.base.get? b = some o → b ∉ X.ex
  exfs : ∀ b ∈ X.ex, b ∉ X.fs
  funs : X.s₀.heap.FunFrames X.base X.outer
  frf : ∀ b ∈ X.fs, X.H₀ b = none
structure Inv (X : Cx) (pins : List (Addr × Obj)) (σ : List (Option V)) (H : Hp) (s : Shared) : Prop where
  ok : X.Ok
  os : s.os = X.s₀.os
  bare : AllBare s.gens
  base : Un X.fs X.ex X.H₀ H X.s₀.heap s.heap
  loc : ∃ m, s.heap.Ns X.env.locals m ∧ ∀ (i : Nat) (x : Str) (v : V), X.N[i]? = some x → σ[i]? = some (some v) → Vis X.env.scope x → ∃ u, RelV v u ∧ qIs X.env s.heap m x u
  cell : ∀ x c, X.env.cells.lookup x = some c → ∃ v, s.heap.IsCell c v
  free : H X.env.locals = none
  freeC : ∀ x c, X.env.cells.lookup x = some c → H c = none
  pin : ∀ p ∈ X.pn ++ pins, s.heap.get? p.1 = some p.2 ∧ H p.1 = none ∧ p.1 ≠ X.env.locals ∧ p.1 ∉ X.fs ∧ ∀ v, p.2.data ≠ .cell v
  hok : HOk X.prog X.w H s.heap
  len : σ.length = X.N.length
section
variable {X : Cx} {pins : List (Addr × Obj)} {σ : List (Option V)} {H H' : Hp} {s : Shared} {h' : Heap}
theorem Cx.Ok.nofr (ok : X.Ok) {b : Addr} {o : Obj} (e : X.base.get? b = some o) : b ∉ X.fs := fun hb => by
  have := (ok.funs.mem hb).1
  rw [e] at this; cases this
theorem Inv.bs (I : Inv X pins σ H s) : ∀ b o, X.base.get? b = some o → s.heap.get? b = some o ∧ H b = none := fun b o e =>
  ⟨I.base.keep b o (I.ok.bs b o e).1 (I.ok.bs b o e).2 (I.ok.nofr e) (I.ok.noex b o e), I.base.free b o (I.ok.bs b o e).1 (I.ok.bs b o e).2 (I.ok.noex b o e)⟩
theorem Inv.bk (I : Inv X pins σ H s) : ∀ b o, X.base.get? b = some o → s.heap.get? b = some o := fun b o e => (I.bs b o e).1
theorem Inv.mod (I : Inv X pins σ H s) : Mod X.K X.mg X.base := I.ok.mod
theorem Inv.kIn (I : Inv X pins σ H s) : X.K.In s.heap := I.ok.mod.kin.keeps I.bk
theorem Inv.nolimit (I : Inv X pins σ H s) : s.heap.NoLimit := I.ok.mod.nolimit.keeps I.bk
theorem Inv.fr (I : Inv X pins σ H s) : ∃ m, Fr X.base X.env.locals s.heap m :=
  let ⟨m, hn, _⟩ := I.loc
  ⟨m, hn, I.bk, Nat.le_trans I.ok.bsz I.ok.above⟩
theorem Inv.lt (I : Inv X pins σ H s) : X.env.locals < s.heap.objs.size := let ⟨_, hn, _⟩ := I.loc; hn.lt
theorem Inv.sz (I : Inv X pins σ H s) : X.s₀.heap.objs.size ≤ s.heap.objs.size := Nat.le_trans I.ok.above (Nat.le_of_lt I.lt)
theorem Inv.nofs (I : Inv X pins σ H s) {a : Addr} (h : s.heap.objs.size ≤ a) : a ∉ X.fs := fun hb => by
  obtain ⟨_, o, ho, _⟩ := I.ok.funs.mem hb
  exact absurd (Nat.lt_of_lt_of_le (Heap.lt_size ho) (Nat.le_trans I.sz h)) (Nat.lt_irrefl _)
theorem Inv.cne (I : Inv X pins σ H s) : ∀ x c, X.env.cells.lookup x = some c → c ≠ X.env.locals := fun x c e z => by
  obtain ⟨v, o, ho, hd⟩ := I.cell x c e
  obtain ⟨m, ⟨o', es, ep, ho', hd', _⟩, _⟩ := I.loc
  rw [z, ho'] at ho; cases ho; rw [hd'] at hd; cases hd
theorem Inv.funs (I : Inv X pins σ H s) : s.heap.FunFrames X.base X.outer := by
  have all : ∀ (l : List Env), (∀ b ∈ frs l, b ∈ X.fs) → X.s₀.heap.FunFrames X.base l → s.heap.FunFrames X.base l := by
    intro l
    induction l with
    | nil => intro _ _; trivial
    | cons env r ih =>
      intro hs hl
      obtain ⟨hk, ⟨L, o, hf, hn, ho, hd⟩, hr⟩ := hl
      have hL : L ∈ X.fs := hs L (by unfold frs; rw [List.filterMap_cons, hf]; exact List.mem_cons_self)
      obtain ⟨sl, e⟩ := I.base.slot L o ho (I.ok.frf L hL) hL fun z => I.ok.exfs L z hL
      exact ⟨hk, ⟨L, _, hf, hn, e, hd⟩, ih (fun b hb => hs b (by unfold frs; rw [List.filterMap_cons, hf]; exact List.mem_cons_of_mem _ hb)) hr⟩
  exact all X.outer (fun _ hb => hb) I.ok.funs
theorem Inv.stack (I : Inv X pins σ H s) : s.heap.FunFrames X.base X.stack := by
  rcases I.ok.stk with e | ⟨e, hf⟩
  · rw [e]; exact I.funs
  · rw [e]
    obtain ⟨m, hn, _⟩ := I.loc
    refine .cons (by rw [I.ok.kind]; decide) hf hn ?_ I.funs
    exact Heap.get?_none_of_le (Nat.le_trans I.ok.bsz I.ok.above)
theorem Inv.stkSub (I : Inv X pins σ H s) : ∀ b ∈ frs X.stack, b ∈ X.env.locals :: X.fs := fun b hb => by
  rcases I.ok.stk with e | ⟨e, hf⟩
  · rw [e] at hb; exact List.mem_cons_of_mem _ hb
  · rw [e] at hb
    unfold frs at hb
    rw [List.filterMap_cons, hf] at hb
    exact hb
theorem Inv.stkFree (I : Inv X pins σ H s) : ∀ b ∈ frs X.stack, H b = none := fun b hb => by
  rcases List.mem_cons.mp (I.stkSub b hb) with e | hb
  · rw [e]; exact I.free
  · obtain ⟨_, o, ho, _⟩ := I.ok.funs.mem hb
    exact I.base.free b o ho (I.ok.frf b hb) fun z => I.ok.exfs b z hb
theorem Inv.step {g' : Array GenState} {t' : Nat} {d' : Drawn} {ch : List Addr} (I : Inv X pins σ H s)
    (hch : ∀ b ∈ ch, (b ∈ X.ex ∨ X.s₀.heap.objs.size ≤ b) ∧ b ≠ X.env.locals ∧ (∀ x c, X.env.cells.lookup x = some c → c ≠ b) ∧ ∀ p ∈ X.pn ++ pins, p.1 ≠ b)
    (keep : ∀ b o, b ≠ X.env.locals → b ∉ X.fs → b ∉ ch → s.heap.get? b = some o → H b = none → h'.get? b = some o)
    (slot : ∀ b o, b ≠ X.env.locals → b ∈ X.fs → b ∉ ch → s.heap.get? b = some o → H b = none → ∃ sl, h'.get? b = some { o with slots := sl }) (free : ∀ b o, b ∉ ch → s.heap.get? b = some o → H b = none → H' b = none)
    (there : ∀ b o, b ∉ ch → s.heap.get? b = some o → ∃ o', h'.get? b = some o')
    (tups : ∀ b xs, H b = some (.tup xs) → H' b = some (.tup xs)) (frzs : ∀ b o u, H b = some (.frz o u) → H' b = some (.frz o u)) (tbls : ∀ b ps, H b = some (.tbl ps) → ∃ more, H' b = some (.tbl (ps ++ more)))
    (ns : ∀ m, s.heap.Ns X.env.locals m → h'.Ns X.env.locals m) (hok : HOk X.prog X.w H' h') (hg : AllBare g') :
    Inv X pins σ H' { s with heap := h', gens := g', drawn := d', toks := t' } := by
  have neL : ∀ b o, X.s₀.heap.get? b = some o → b ≠ X.env.locals := fun b o e => Nat.ne_of_lt (Nat.lt_of_lt_of_le (Heap.lt_size e) I.ok.above)
  have neC : ∀ b o, X.s₀.heap.get? b = some o → b ∉ X.ex → b ∉ ch := fun b o e hx hb => by
    rcases (hch b hb).1 with z | z
    · exact hx z
    · exact absurd (Nat.lt_of_lt_of_le (Heap.lt_size e) z) (Nat.lt_irrefl _)
  have cellK : ∀ x c, X.env.cells.lookup x = some c → ∀ v, s.heap.IsCell c v → h'.IsCell c v := fun x c e v ⟨o, ho, hd⟩ => by
    have nch : c ∉ ch := fun z => (hch c z).2.2.1 x c e rfl
    by_cases hc : c ∈ X.fs
    · obtain ⟨sl, q⟩ := slot c o (I.cne x c e) hc nch ho (I.freeC x c e)
      exact ⟨_, q, hd⟩
    · exact ⟨o, keep c o (I.cne x c e) hc nch ho (I.freeC x c e), hd⟩
  refine ⟨I.ok, I.os, hg, ⟨fun b o e n hb hx => ?_, fun b o e n hb hx => ?_, fun b o e n hx => ?_, fun b o e hx => ?_, fun b xs e => tups b xs (I.base.tups b xs e), fun b o xs e => frzs b o xs (I.base.frzs b o xs e), fun b ps e => ?_⟩, ?_, fun x c e => ?_, ?_, fun x c e => ?_, fun p hp => ?_, hok, I.len⟩
  · exact keep b o (neL b o e) hb (neC b o e hx) (I.base.keep b o e n hb hx) (I.base.free b o e n hx)
  · obtain ⟨sl, e1⟩ := I.base.slot b o e n hb hx
    obtain ⟨sl', e2⟩ := slot b _ (neL b o e) hb (neC b o e hx) e1 (I.base.free b o e n hx)
    exact ⟨sl', e2⟩
  · obtain ⟨o', e1⟩ := I.base.there b o e hx
    exact free b o' (neC b o e hx) e1 (I.base.free b o e n hx)
  · obtain ⟨o', e1⟩ := I.base.there b o e hx
    exact there b o' (neC b o e hx) e1
  · obtain ⟨m1, e1⟩ := I.base.tbls b ps e
    obtain ⟨m2, e2⟩ := tbls b _ e1
    exact ⟨m1 ++ m2, by rw [e2, Array.append_assoc]⟩
  · obtain ⟨m, hn, hl⟩ := I.loc
    refine ⟨m, ns m hn, fun i x v e1 e2 e3 => ?_⟩
    obtain ⟨u, r, l⟩ := hl i x v e1 e2 e3
    refine ⟨u, r, ?_⟩
    rcases l with l | ⟨k, c, e, z⟩
    · exact .inl l
    · exact .inr ⟨k, c, e, cellK x c e _ z⟩
  · obtain ⟨v, z⟩ := I.cell x c e
    exact ⟨v, cellK x c e v z⟩
  · obtain ⟨m, ⟨o, _, _, ho, _⟩, _⟩ := I.loc
    exact free _ o (fun z => (hch _ z).2.1 rfl) ho I.free
  · obtain ⟨v, o, ho, hd⟩ := I.cell x c e
    exact free c o (fun z => (hch c z).2.2.1 x c e rfl) ho (I.freeC x c e)
  · obtain ⟨e, n, ne, nf, d⟩ := I.pin p hp
    have nch : p.1 ∉ ch := fun z => (hch p.1 z).2.2.2 p hp rfl
    exact ⟨keep p.1 p.2 ne nf nch e n, free p.1 p.2 nch e n, ne, nf, d⟩
theorem Inv.un {t' : Nat} (I : Inv X pins σ H s) (u : Un X.fs [] H H' s.heap h') (hok : HOk X.prog X.w H' h') : Inv X pins σ H' { s with heap := h', toks := t' } := by
  obtain ⟨m, ⟨o, es, ep, ho, r⟩, _⟩ := id I.loc
  obtain ⟨sl, hL⟩ := u.any ho I.free (by simp)
  exact I.step (g' := s.gens) (d' := s.drawn) (ch := []) (fun _ z => nomatch z) (fun b o _ hb _ e n => u.keep b o e n hb (by simp)) (fun b o _ hb _ e n => u.slot b o e n hb (by simp)) (fun b o _ e n => u.free b o e n (by simp)) (fun b o _ e => u.there b o e (by simp)) u.tups u.frzs u.tbls (fun m' hm => by
    obtain ⟨o', es', ep', ho', r'⟩ := hm
    rw [ho] at ho'; cases ho'
    exact ⟨_, es', ep', hL, r'⟩) hok I.bare
theorem Inv.call {g' : Array GenState} {t' : Nat} {d' : Drawn} {ch : List Addr} (I : Inv X pins σ H s) (u : Un (frs X.stack) ch H H' s.heap h') (hok : HOk X.prog X.w H' h') (hg : AllBare g')
    (hch : ∀ b ∈ ch, (b ∈ X.ex ∨ X.s₀.heap.objs.size ≤ b) ∧ b ≠ X.env.locals ∧ (∀ x c, X.env.cells.lookup x = some c → c ≠ b) ∧ ∀ p ∈ X.pn ++ pins, p.1 ≠ b) :
    Inv X pins σ H' { s with heap := h', gens := g', drawn := d', toks := t' } := by
  obtain ⟨m, ⟨o, es, ep, ho, r⟩, _⟩ := id I.loc
  obtain ⟨sl, hL⟩ := u.any ho I.free fun z => (hch _ z).2.1 rfl
  exact I.step (ch := ch) hch (fun b o hL hb hc e n => u.keep b o e n (fun z => (List.mem_cons.mp (I.stkSub b z)).elim hL hb) hc) (fun b o _ _ hc e n => u.any e n hc) (fun b o hc e n => u.free b o e n hc) (fun b o hc e => u.there b o e hc) u.tups u.frzs u.tbls (fun m' hm => by
    obtain ⟨o', es', ep', ho', r'⟩ := hm
    rw [ho] at ho'; cases ho'
    exact ⟨_, es', ep', hL, r'⟩) hok hg
theorem Inv.turned {t' : Nat} {it : Addr} (I : Inv X pins σ H s) (k : ∀ b o, b ≠ it → s.heap.get? b = some o → h'.get? b = some o) (hn : H it = none) (hL : it ≠ X.env.locals)
    (h1 : it ∈ X.ex ∨ X.s₀.heap.objs.size ≤ it) (h2 : ∀ x c, X.env.cells.lookup x = some c → c ≠ it) (h3 : ∀ p ∈ X.pn ++ pins, p.1 ≠ it) : Inv X pins σ H { s with heap := h', toks := t' } := by
  have nit : ∀ b u, H b = some u → b ≠ it := fun b u e z => by rw [z, hn] at e; cases e
  refine I.step (g' := s.gens) (d' := s.drawn) (ch := [it]) (fun b hb => ?_) (fun b o _ _ hc e _ => k b o (fun z => hc (by simp [z])) e) (fun b o _ _ hc e _ => ⟨o.slots, k b o (fun z => hc (by simp [z])) e⟩) (fun _ _ _ _ n => n)
    (fun b o hc e => ⟨o, k b o (fun z => hc (by simp [z])) e⟩) (fun _ _ e => e) (fun _ _ _ e => e) (fun b ps e => ⟨#[], by rw [e]; simp⟩) (fun m hm => ?_) (fun b u e => ?_) I.bare
  · have e : b = it := by simpa using hb
    subst e
    exact ⟨h1, hL, h2, h3⟩
  · obtain ⟨o, es, ep, ho, r⟩ := hm
    exact ⟨o, es, ep, k _ o (Ne.symm hL) ho, r⟩
  · refine (I.hok b u e).stay (fun c v hc q => k c v ?_ q) (fun _ q => q) fun _ _ q => q
    rcases hc with z | z
    · rw [z]; exact nit b u e
    · exact nit c _ z
theorem Inv.tok (I : Inv X pins σ H s) (t : Nat) : Inv X pins σ H { s with toks := t } := I.un (h' := s.heap) (t' := t) Un.refl I.hok
theorem Inv.kept {t' : Nat} (I : Inv X pins σ H s) (k : ∀ b u, s.heap.get? b = some u → h'.get? b = some u) : Inv X pins σ H { s with heap := h', toks := t' } := I.un (Un.kept k) (I.hok.kept k)
theorem Inv.laid {a : Addr} {o : HO} {t' : Nat} (I : Inv X pins σ H s) (k : ∀ b u, s.heap.get? b = some u → h'.get? b = some u) (hp : s.heap.objs.size ≤ a) (new : ObjOk X.prog X.w (upd H a o) h' a o) :
    Inv X pins σ (upd H a o) { s with heap := h', toks := t' } := I.un (Un.laid k hp (I.hok.fresh hp)) (I.hok.laid k hp new)
theorem Inv.write {x e : Addr} {o : HO} {t' : Nat} (I : Inv X pins σ H s) (mu : Mut (H x)) (he : e = x ∨ H e = some (.own x)) (k : ∀ b u, b ≠ e → s.heap.get? b = some u → h'.get? b = some u) (heo : ∃ u, h'.get? e = some u)
    (new : ObjOk X.prog X.w (upd H x o) h' x o) : Inv X pins σ (upd H x o) { s with heap := h', toks := t' } := I.un (Un.write mu he k heo) (I.hok.write mu he k heo new)
theorem Inv.weak {σ' : List (Option V)} (I : Inv X pins σ H s) (hl : σ'.length = σ.length) (w : ∀ (i : Nat) v, σ'[i]? = some (some v) → σ[i]? = some (some v)) : Inv X pins σ' H s :=
  ⟨I.ok, I.os, I.bare, I.base, let ⟨m, hn, hl'⟩ := I.loc; ⟨m, hn, fun i x v e1 e2 e3 => hl' i x v e1 (w i v e2) e3⟩, I.cell, I.free, I.freeC, I.pin, I.hok, hl.trans I.len⟩
theorem Inv.pins_of {pins' : List (Addr × Obj)} (I : Inv X pins σ H s) (h : ∀ p ∈ pins', s.heap.get? p.1 = some p.2 ∧ H p.1 = none ∧ p.1 ≠ X.env.locals ∧ p.1 ∉ X.fs ∧ ∀ v, p.2.data ≠ .cell v) : Inv X pins' σ H s :=
  ⟨I.ok, I.os, I.bare, I.base, I.loc, I.cell, I.free, I.freeC, fun p hp => (List.mem_append.mp hp).elim (fun z => I.pin p (List.mem_append_left _ z)) (h p), I.hok, I.len⟩
theorem vS {N : List Str} (hN : N.Nodup) {i j : Nat} {x : Str} (a : N[i]? = some x) (b : N[j]? = some x) : i = j := by
  obtain ⟨h1, e1⟩ := List.getElem?_eq_some_iff.mp a
  obtain ⟨h2, e2⟩ := List.getElem?_eq_some_iff.mp b
  exact (List.getElem_inj hN).mp (e1.trans e2.symm)
theorem qBk {M : Model} {A : Around} {E : Value → Shared → Prop} {i : Nat} {x : Str} {v : V} {u : Value} {Q : Unit → Shared → Prop} (I : Inv X pins σ H s) (hN : X.N.Nodup) (hi : X.N[i]? = some x) (hx : Loc X.env.scope x) (r : RelV v u)
    (h : ∀ s', Inv X pins (σ.set i (some v)) H s' → (∃ a, Heap.SameBut a s.heap s'.heap ∧ (a = X.env.locals ∨ X.env.cells.lookup x = some a)) → Q () s') (hf : X.fn x = true ∨ X.env.scope.names.lookup x = some .local := by first | exact .inl rfl | exact .inr rfl | assumption) : wpAny M A (storeName X.env x u) Q E s := by
  obtain ⟨m, hn, hl⟩ := id I.loc
  have hcls : (X.env.scope.kind == .class || (X.env.scope.kind == .module && X.env.locals != X.env.globals)) = false := by rw [I.ok.kind]; rfl
  have hiσ : i < σ.length := by rw [I.len]; exact (List.getElem?_eq_some_iff.mp hi).1
  have cne := I.cne
  have tracked : ∀ {a : Addr} {h' : Heap}, (∃ o, s.heap.get? a = some o ∧ H a = none) → Heap.SameBut a s.heap h' → HOk X.prog X.w H h' := fun {a h'} ha hs b ob e => by
    obtain ⟨_, _, hfree⟩ := ha
    refine (I.hok b ob e).stay (fun c w' hc q => (hs.2 c ?_).trans q) (fun _ q => q) fun _ _ q => q
    rintro rfl
    rcases hc with rfl | hc
    · rw [hfree] at e; cases e
    · rw [hfree] at hc; cases hc
  rcases hx with hk | hk
  · refine wpAny_storeName_local hk hn (fun h' hn' hs => ?_) hcls
    obtain ⟨oL, _, _, hoL, _⟩ := id hn
    refine h _ ⟨I.ok, I.os, I.bare, ⟨fun b o e n hb hx => ?_, fun b o e n hb hx => ?_, I.base.free, fun b o e hx => ?_, I.base.tups, I.base.frzs, I.base.tbls⟩, ⟨_, hn', fun j y v' e1 e2 e3 => ?_⟩, fun y c e => ?_, I.free, I.freeC, fun p hp => ?_, tracked ⟨oL, hoL, I.free⟩ hs, by simpa using I.len⟩ ⟨_, hs, .inl rfl⟩
    · exact (hs.2 b (Nat.ne_of_lt (Nat.lt_of_lt_of_le (Heap.lt_size e) I.ok.above))).trans (I.base.keep b o e n hb hx)
    · obtain ⟨sl, e1⟩ := I.base.slot b o e n hb hx
      exact ⟨sl, (hs.2 b (Nat.ne_of_lt (Nat.lt_of_lt_of_le (Heap.lt_size e) I.ok.above))).trans e1⟩
    · obtain ⟨o', e1⟩ := I.base.there b o e hx
      exact ⟨o', (hs.2 b (Nat.ne_of_lt (Nat.lt_of_lt_of_le (Heap.lt_size e) I.ok.above))).trans e1⟩
    · by_cases hj : j = i
      · subst hj
        rw [hi] at e1; cases e1
        rw [List.getElem?_set_self hiσ] at e2
        cases e2
        exact ⟨u, r, .inl ⟨hk, by simp⟩⟩
      · rw [List.getElem?_set_ne (Ne.symm hj)] at e2
        obtain ⟨u', r', q⟩ := hl j y v' e1 e2 e3
        refine ⟨u', r', ?_⟩
        rcases q with ⟨k, e⟩ | ⟨k, c, e, z⟩
        · refine .inl ⟨k, ?_⟩
          have : y ≠ x := fun e => hj (vS hN e1 (e ▸ hi))
          simp [this, e]
        · exact .inr ⟨k, c, e, z.sameBut hs (cne y c e)⟩
    · obtain ⟨w', z⟩ := I.cell y c e
      exact ⟨w', z.sameBut hs (cne y c e)⟩
    · obtain ⟨e, n, ne, nf, d⟩ := I.pin p hp
      exact ⟨(hs.2 p.1 ne).trans e, n, ne, nf, d⟩
  · have hfn : X.fn x = true := by
      rcases hf with z | z
      · exact z
      · rw [z] at hk; cases hk
    obtain ⟨c, hc⟩ := I.ok.has x (.inl hk)
    obtain ⟨w', z⟩ := I.cell x c hc
    refine wpAny_storeName_cell I.ok.kind hk hc z (fun h' hc' hs => ?_)
    obtain ⟨oc, hoc, hocd⟩ := id z
    refine h { s with heap := h' } ⟨I.ok, I.os, I.bare, ⟨fun b o e n hb hx => ?_, fun b o e n hb hx => ?_, I.base.free, fun b o e hx => ?_, I.base.tups, I.base.frzs, I.base.tbls⟩, ⟨m, hn.sameBut hs (Ne.symm (cne x c hc)), fun j y v' e1 e2 e3 => ?_⟩, fun y c' e => ?_, I.free, I.freeC, fun p hp => ?_, tracked ⟨oc, hoc, I.freeC x c hc⟩ hs, by simpa using I.len⟩ ⟨c, hs, .inr hc⟩
    · exact (hs.2 b (Nat.ne_of_lt (Nat.lt_of_lt_of_le (Heap.lt_size e) (I.ok.cab x c hfn hc)))).trans (I.base.keep b o e n hb hx)
    · obtain ⟨sl, e1⟩ := I.base.slot b o e n hb hx
      exact ⟨sl, (hs.2 b (Nat.ne_of_lt (Nat.lt_of_lt_of_le (Heap.lt_size e) (I.ok.cab x c hfn hc)))).trans e1⟩
    · obtain ⟨o', e1⟩ := I.base.there b o e hx
      exact ⟨o', (hs.2 b (Nat.ne_of_lt (Nat.lt_of_lt_of_le (Heap.lt_size e) (I.ok.cab x c hfn hc)))).trans e1⟩
    · by_cases hj : j = i
      · subst hj
        rw [hi] at e1; cases e1
        rw [List.getElem?_set_self hiσ] at e2
        cases e2
        exact ⟨u, r, .inr ⟨.inl hk, c, hc, hc'⟩⟩
      · rw [List.getElem?_set_ne (Ne.symm hj)] at e2
        obtain ⟨u', r', q⟩ := hl j y v' e1 e2 e3
        refine ⟨u', r', ?_⟩
        rcases q with q | ⟨k, c', e, z'⟩
        · exact .inl q
        · refine .inr ⟨k, c', e, z'.sameBut hs ?_⟩
          rintro rfl
          exact hj (vS hN e1 (I.ok.inj _ _ _ e hc ▸ hi))
    · by_cases hcc : c' = c
      · subst hcc; exact ⟨_, hc'⟩
      · obtain ⟨w2, z2⟩ := I.cell y c' e
        exact ⟨w2, z2.sameBut hs hcc⟩
    · obtain ⟨e, n, ne, nf, d⟩ := I.pin p hp
      refine ⟨(hs.2 p.1 ?_).trans e, n, ne, nf, d⟩
      intro q
      rw [q, hoc] at e
      have q' : oc = p.2 := Option.some.inj e
      exact d w' (by rw [← q']; exact hocd)
theorem xV {M : Model} {A : Around} {E : Value → Shared → Prop} {i : Nat} {x : Str} {v : V} {u : Value} {Q : Unit → Shared → Prop} (I : Inv X pins σ H s) (hN : X.N.Nodup) (hi : X.N[i]? = some x) (hx : Loc X.env.scope x) (r : RelV v u)
    (h : ∀ s', Inv X pins (σ.set i (some v)) H s' → Q () s') (hf : X.fn x = true ∨ X.env.scope.names.lookup x = some .local := by first | exact .inl rfl | exact .inr rfl | assumption) : wpAny M A (storeName X.env x u) Q E s :=
  qBk I hN hi hx r (fun s' I' _ => h s' I') hf
theorem Inv.call' {s' : Shared} {ch : List Addr} (I : Inv X pins σ H s) (ho : s'.os = s.os) (u : Un (frs X.stack) ch H H' s.heap s'.heap) (hok : HOk X.prog X.w H' s'.heap) (hg : AllBare s'.gens)
    (hch : ∀ b ∈ ch, (b ∈ X.ex ∨ X.s₀.heap.objs.size ≤ b) ∧ b ≠ X.env.locals ∧ (∀ x c, X.env.cells.lookup x = some c → c ≠ b) ∧ ∀ p ∈ X.pn ++ pins, p.1 ≠ b) : Inv X pins σ H' s' := by
  obtain ⟨h', g', d', t', o'⟩ := s'
  have e : o' = s.os := ho
  subst e
  exact I.call (g' := g') (t' := t') (d' := d') u hok hg hch
end
abbrev XK := Value → Option Addr → Hp → Prop
abbrev St := List (Option V)
abbrev VK := V → Hp → Prop
abbrev TE := St → Hp → VK → Prop
abbrev TT := St → Hp → (Bool → Hp → Prop) → Prop
abbrev TA := St → Hp → (List V → Hp → Prop) → Prop
structure qA4 where
  nx : St → Hp → Prop
  rt : VK
  bk : St → Hp → Prop := fun _ _ => False
  ct : St → Hp → Prop := fun _ _ => False
abbrev TS := qA4 → St → Hp → Prop
def EP (X : Cx) (pins : List (Addr × Obj)) (σ : St) (Q : VK) (u : Value) (s' : Shared) : Prop := ∃ v H', Inv X pins σ H' s' ∧ RelV v u ∧ Q v H'
def TP (X : Cx) (pins : List (Addr × Obj)) (σ : St) (Q : Bool → Hp → Prop) (b : Bool) (s' : Shared) : Prop := ∃ H', Inv X pins σ H' s' ∧ Q b H'
def AP (X : Cx) (pins : List (Addr × Obj)) (σ : St) (Q : List V → Hp → Prop) (us : List Value) (s' : Shared) : Prop := ∃ vs H', Inv X pins σ H' s' ∧ Vals vs us ∧ Q vs H'
def SP (X : Cx) (pins : List (Addr × Obj)) (D : qA4) (f : Flow) (s' : Shared) : Prop :=
  match f with
  | .next => ∃ σ' H', Inv X pins σ' H' s' ∧ D.nx σ' H'
  | .brk => ∃ σ' H', Inv X pins σ' H' s' ∧ D.bk σ' H'
  | .cont => ∃ σ' H', Inv X pins σ' H' s' ∧ D.ct σ' H'
  | .ret u => ∃ v σ' H', Inv X pins σ' H' s' ∧ RelV v u ∧ D.rt v H'
def PE (X : Cx) (e : Expr) (t : TE) : Prop :=
  ∀ (pins : List (Addr × Obj)) (s : Shared) (σ : St) (H : Hp) (Q : VK), Inv X pins σ H s → t σ H Q → wpAny (model X.prog X.w) X.A (eval e X.env) (EP X pins σ Q) X.xe s
def PT (X : Cx) (e : Expr) (t : TT) : Prop :=
  ∀ (pins : List (Addr × Obj)) (s : Shared) (σ : St) (H : Hp) (Q : Bool → Hp → Prop), Inv X pins σ H s → t σ H Q → wpAny (model X.prog X.w) X.A (isTrue e X.env (eval e X.env)) (TP X pins σ Q) X.xe s
def PW (X : Cx) (e : Expr) (t : TT) : Prop :=
  ∀ (whole : Sem Value) (pins : List (Addr × Obj)) (s : Shared) (σ : St) (H : Hp) (Q : Bool → Hp → Prop), Inv X pins σ H s → t σ H Q → wpAny (model X.prog X.w) X.A (isTrue e X.env whole) (TP X pins σ Q) X.xe s
theorem PW.pt {X : Cx} {e : Expr} {t : TT} (h : PW X e t) : PT X e t := h _
def PA (X : Cx) (es : List Expr) (t : TA) : Prop :=
  ∀ (pos : Pos) (pins : List (Addr × Obj)) (s : Shared) (σ : St) (H : Hp) (Q : List V → Hp → Prop), Inv X pins σ H s → t σ H Q → wpAny (model X.prog X.w) X.A (spliced (backTo pos (starEach es X.env))) (AP X pins σ Q) X.xe s
def PS (X : Cx) (st : Stmt) (t : TS) : Prop :=
  ∀ (pins : List (Addr × Obj)) (s : Shared) (σ : St) (H : Hp) (D : qA4), Inv X pins σ H s → t D σ H → wpAny (model X.prog X.w) X.A (exec st X.env) (SP X pins D) X.xe s
def PSs (X : Cx) (st : List Stmt) (t : TS) : Prop :=
  ∀ (pins : List (Addr × Obj)) (s : Shared) (σ : St) (H : Hp) (D : qA4), Inv X pins σ H s → t D σ H → wpAny (model X.prog X.w) X.A (execs st X.env) (SP X pins D) X.xe s
theorem thn {α : Type} {t : Sem α} {Q Q' : α → Shared → Prop} {M : Model} {A : Around} {E : Value → Shared → Prop} {s : Shared} (h : wpAny M A t Q E s) (hQ : ∀ a s, Q a s → Q' a s) : wpAny M A t Q' E s := wpAny_mono h hQ fun _ _ x => x
end L2
namespace L2
open PySem PySem.Spec PyProof.Rows
section
variable {X : Cx}
def qHw (i : Nat) : TE := fun σ H Q => ∃ v, σ[i]? = some (some v) ∧ Q v H
def tC (v : V) : TE := fun _ H Q => Q v H
theorem qF9 {i : Nat} {x : Str} {pos : Pos} (hN : X.N[i]? = some x) (hv : Vis X.env.scope x) (hd : (x == ("__debug__" : Str)) = false := by decide) (hcd : (x == ("__classdict__" : Str)) = false := by decide) : PE X (.Name x pos) (qHw i) := by
  intro pins s σ H Q I h
  obtain ⟨v, e, h⟩ := h
  obtain ⟨m, hn, hl⟩ := I.loc
  obtain ⟨u, r, l⟩ := hl i x v hN e hv
  have fin : EP X pins σ Q u s := ⟨v, H, I, r, h⟩
  rcases l with ⟨hk, hm⟩ | ⟨hk, c, hc, hcell⟩
  · exact wpAny_Name (wpAny_loadName_local I.ok.kind hk hn hm fin) hd
  · rcases hk with hk | hk
    · exact wpAny_Name (wpAny_loadName_cell I.ok.kind hk hc hcell fin) hd
    · exact wpAny_Name (wpAny_loadName_free I.ok.kind hk hc hcell fin hcd) hd
theorem qD {i j pos} : PE X (.Constant (.int i) j pos) (tC (.int i)) := fun _ _ _ H _ I h => wpAny_Constant_int ⟨.int i, H, I.tok _, ⟨_, rfl⟩, h⟩
theorem jS {b j pos} : PE X (.Constant (.bool b) j pos) (tC (.bl b)) := fun _ _ _ H _ I h => Constant_bool ⟨.bl b, H, I, rfl, h⟩
theorem zK {j pos} : PE X (.Constant .none j pos) (tC .non) := fun _ _ _ H _ I h => Constant_none ⟨.non, H, I, rfl, h⟩
theorem qR {x j pos} : PE X (.Constant (.str x) j pos) (tC (.str x)) := fun _ _ _ H _ I h => Calls.Constant_str ⟨.str x, H, I.tok _, ⟨_, rfl⟩, h⟩
def Gl (X : Cx) (x : Str) : Prop := X.env.kindOf x = some .globalImplicit
theorem kI {E : Value → Shared → Prop} {pins : List (Addr × Obj)} {s : Shared} {σ : St} {H : Hp} {x : Str} {u : Value} {pos : Pos} {Q : Value → Shared → Prop} (I : Inv X pins σ H s) (hg : Gl X x) (hm : X.mg x = some u) (h : Q u s)
    (hd : (x == ("__debug__" : Str)) = false := by decide) : wpAny (model X.prog X.w) X.A (eval (.Name x pos) X.env) Q E s :=
  Calls.Name_function_global I.ok.kind hg (Calls.loadGlobal_global (by rw [I.ok.glob]; exact I.mod.glob.keeps I.bk) hm h) hd
theorem wH {E : Value → Shared → Prop} {pins : List (Addr × Obj)} {s : Shared} {σ : St} {H : Hp} {x : Str} {u : Value} {pos : Pos} {Q : Value → Shared → Prop} (I : Inv X pins σ H s) (hg : Gl X x) (hm : X.mg x = none) (hv : bootBuiltins x = some u) (h : Q u s)
    (hn : x ≠ "__name__" := by decide) (hd : (x == ("__debug__" : Str)) = false := by decide) : wpAny (model X.prog X.w) X.A (eval (.Name x pos) X.env) Q E s := by
  obtain ⟨mb, h1, h2⟩ := I.mod.blt
  exact Calls.Name_function_global I.ok.kind hg (Calls.loadGlobal_builtin (by rw [I.ok.glob]; exact I.mod.glob.keeps I.bk) hm (by rw [I.ok.blt]; exact h1.keeps I.bk) ((h2 x hn).trans hv) h) hd
theorem ju {x : Str} {v : V} {u : Value} {pos : Pos} (hg : Gl X x) (hm : X.mg x = some u) (r : RelV v u) (hd : (x == ("__debug__" : Str)) = false := by decide) : PE X (.Name x pos) (tC v) :=
  fun _ _ _ H _ I h => kI I hg hm ⟨v, H, I, r, h⟩ hd
theorem qE0 {x : Str} {v : V} {u : Value} {pos : Pos} (hg : Gl X x) (hm : X.mg x = none) (hv : bootBuiltins x = some u) (r : RelV v u) (hn : x ≠ "__name__" := by decide) (hd : (x == ("__debug__" : Str)) = false := by decide) : PE X (.Name x pos) (tC v) :=
  fun _ _ _ H _ I h => wH I hg hm hv ⟨v, H, I, r, h⟩ hn hd
variable {a b : Expr} {ta tb : TE} {pos : Pos}
def PC (X : Cx) (op : CmpOp) (a b : Expr) (t : TE) : Prop :=
  ∀ (pins : List (Addr × Obj)) (s : Shared) (σ : St) (H : Hp) (Q : VK), Inv X pins σ H s → t σ H Q →
    wpAny (model X.prog X.w) X.A (eval a X.env) (fun v s₁ => wpAny (model X.prog X.w) X.A (eval b X.env) (fun u s₂ => wpAny (model X.prog X.w) X.A (compareOp op v u) (EP X pins σ Q) X.xe s₂) X.xe s₁) X.xe s
theorem qC3 (b : Expr) {op : CmpOp} (h : op ≠ .In) (h2 : op ≠ .NotIn) : behindInMarks op b = false := by
  have e1 : (op == CmpOp.In) = false := by cases op <;> first | rfl | exact absurd rfl h
  have e2 : (op == CmpOp.NotIn) = false := by cases op <;> first | rfl | exact absurd rfl h2
  cases b <;> simp [behindInMarks, e1, e2]
def qIt (ta : TE) : TE := fun σ H Q => ta σ H fun x H1 => Q (.bl (decide (x = .non))) H1
theorem RelV.none_iff {x : V} {v : Value} (r : RelV x v) : (v == Value.none) = decide (x = .non) := by
  cases x with
  | non => cases r; rfl
  | bl _ => cases r; rfl
  | int _ => obtain ⟨t, rfl⟩ := r; rfl
  | str _ => obtain ⟨t, rfl⟩ := r; rfl
  | byt _ => obtain ⟨t, rfl⟩ := r; rfl
  | flt _ => obtain ⟨t, rfl⟩ := r; rfl
  | ref _ => cases r; rfl
  | ty _ => cases r; rfl
theorem qD9 {j pos'} (ha : PE X a ta) : PC X .Is a (.Constant .none j pos') (qIt ta) := by
  intro pins s σ H Q I h
  refine thn (ha pins s σ H _ I h) fun v s1 ⟨x, H1, I1, r1, q1⟩ => ?_
  exact Constant_none (is_none_gen ⟨.bl _, H1, I1, by rw [r1.none_iff]; rfl, q1⟩)
def tB (t : TE) : TT := fun σ H Q => t σ H fun x H1 => ∃ c, x = .bl c ∧ Q c H1
theorem qD6 {op : CmpOp} {t : TE} (h : PC X op a b t) (h1 : behindInMarks op b = false := by first | exact qC3 _ (by decide) (by decide) | rfl) : PT X (.Compare a [op] [b] pos) (tB t) := by
  intro pins s σ H Q I hw
  refine wpAny_isTrue_Compare1 (thn (h pins s σ H _ I hw) fun v s1 h1 => thn h1 fun u s2 h2 => thn h2 fun c s3 ⟨x, H1, I1, r1, q1⟩ => ?_) h1
  obtain ⟨d, rfl, q⟩ := q1
  cases r1
  exact wpAny_truthy_bool ⟨H1, I1, q⟩
theorem q9 {e : Expr} {t : TE} (h : PE X e t) (he : ∀ whole, isTrue e X.env whole = (do let v ← whole; standAt e.pos; holding [v] (truthy v)) := by intro _; rfl) : PT X e (tB t) := by
  intro pins s σ H Q I hw
  refine isTrue_plain (thn (h pins s σ H _ I hw) fun v s1 ⟨x, H1, I1, r1, q1⟩ => ?_) (he _)
  obtain ⟨d, rfl, q⟩ := q1
  cases r1
  exact wpAny_truthy_bool ⟨H1, I1, q⟩
variable {tA tB' : TT} {rest : List Expr}
def qIp (t u : TT) : TT := fun σ H Q => t σ H fun c H1 => if c = true then u σ H1 Q else Q false H1
def tOr (t u : TT) : TT := fun σ H Q => t σ H fun c H1 => if c = true then Q true H1 else u σ H1 Q
def qH4 (t : TT) : TT := fun σ H Q => t σ H fun c H1 => Q (!c) H1
theorem zF (ha : PT X a tA) : PW X (.BoolOp .And [a] pos) tA := by
  intro wh pins s σ H Q I h
  refine isTrue_and (thn (ha pins s σ H Q I h) fun c s1 e => ?_)
  cases c with
  | true => exact isTrue_and_nil e
  | false => exact e
theorem jT (ha : PT X a tA) : PW X (.BoolOp .Or [a] pos) tA := by
  intro wh pins s σ H Q I h
  refine isTrue_or (thn (ha pins s σ H Q I h) fun c s1 e => ?_)
  cases c with
  | false => exact isTrue_or_nil e
  | true => exact e
theorem zL (ha : PT X a tA) (hb : PW X (.BoolOp .And (b :: rest) pos) tB') : PW X (.BoolOp .And (a :: b :: rest) pos) (qIp tA tB') := by
  intro wh pins s σ H Q I h
  refine isTrue_and (thn (ha pins s σ H _ I h) fun c s1 ⟨H1, I1, q1⟩ => ?_)
  cases c with
  | true => exact hb wh pins s1 σ H1 Q I1 q1
  | false => exact ⟨H1, I1, q1⟩
theorem jk (ha : PT X a tA) (hb : PW X (.BoolOp .Or (b :: rest) pos) tB') : PW X (.BoolOp .Or (a :: b :: rest) pos) (tOr tA tB') := by
  intro wh pins s σ H Q I h
  refine isTrue_or (thn (ha pins s σ H _ I h) fun c s1 ⟨H1, I1, q1⟩ => ?_)
  cases c with
  | true => exact ⟨H1, I1, q1⟩
  | false => exact hb wh pins s1 σ H1 Q I1 q1
theorem jA (ha : PT X a tA) : PT X (.UnaryOp .Not a pos) (qH4 tA) := by
  intro pins s σ H Q I h
  exact isTrue_not (ha pins s σ H (fun c H1 => Q (!c) H1) I h)
def qHb (ta tb : TE) : TE := fun σ H Q => ta σ H fun x H1 => ∃ c, x = .bl c ∧ if c = true then tb σ H1 Q else Q (.bl false) H1
def qIb (ta tb : TE) : TE := fun σ H Q => ta σ H fun x H1 => ∃ c, x = .bl c ∧ if c = true then Q (.bl true) H1 else tb σ H1 Q
def qHp (ta : TE) : TE := fun σ H Q => ta σ H fun x H1 => ∃ c, x = .bl c ∧ Q (.bl (!c)) H1
theorem xF {op} {t : TE} (h : PE X a t) : PE X (.BoolOp op [a] pos) t := fun pins s σ H Q I hw => BoolOp_one (h pins s σ H Q I hw)
theorem xa (ha : PE X a ta) (hb : PE X (.BoolOp .And (b :: rest) pos) tb) : PE X (.BoolOp .And (a :: b :: rest) pos) (qHb ta tb) := by
  intro pins s σ H Q I h
  refine BoolOp_and (thn (ha pins s σ H _ I h) fun v s1 ⟨x, H1, I1, r1, q1⟩ => ?_)
  obtain ⟨c, rfl, q1⟩ := q1
  cases r1
  refine wpAny_truthy_bool ?_
  cases c with
  | true => exact hb pins s1 σ H1 Q I1 q1
  | false => exact ⟨.bl false, H1, I1, rfl, q1⟩
theorem qFe (ha : PE X a ta) (hb : PE X (.BoolOp .Or (b :: rest) pos) tb) : PE X (.BoolOp .Or (a :: b :: rest) pos) (qIb ta tb) := by
  intro pins s σ H Q I h
  refine BoolOp_or (thn (ha pins s σ H _ I h) fun v s1 ⟨x, H1, I1, r1, q1⟩ => ?_)
  obtain ⟨c, rfl, q1⟩ := q1
  cases r1
  refine wpAny_truthy_bool ?_
  cases c with
  | false => exact hb pins s1 σ H1 Q I1 q1
  | true => exact ⟨.bl true, H1, I1, rfl, q1⟩
theorem qBs (ha : PE X a ta) : PE X (.UnaryOp .Not a pos) (qHp ta) := by
  intro pins s σ H Q I h
  refine UnaryOp_ (thn (ha pins s σ H _ I h) fun v s1 ⟨x, H1, I1, r1, q1⟩ => ?_)
  obtain ⟨c, rfl, q1⟩ := q1
  cases r1
  exact not_of (wpAny_truthy_bool ⟨.bl (!c), H1, I1, rfl, q1⟩)
def tIf (t : TT) (ta tb : TE) : TE := fun σ H Q => t σ H fun c H1 => if c = true then ta σ H1 Q else tb σ H1 Q
theorem wo {c : Expr} (hc : PT X c tA) (ha : PE X a ta) (hb : PE X b tb) : PE X (.IfExp c a b pos) (tIf tA ta tb) := by
  intro pins s σ H Q I h
  refine wpAny_IfExp (thn (hc pins s σ H _ I h) fun d s1 ⟨H1, I1, q1⟩ => ?_)
  cases d with
  | true => exact ha pins s1 σ H1 Q I1 q1
  | false => exact hb pins s1 σ H1 Q I1 q1
end
end L2
namespace L2
open PySem PySem.Spec PyProof.Rows
def SqL (K : PySem.W.Frag) (H : Hp) (a : Addr) (xs : List V) : Prop :=
  Rd H a (.lst xs) ∨
    ∃ (o : Obj) (its : Array Value) (n : Nat), K.lookup a = some o ∧ o.cls = .type "list" ∧ o.dict = none ∧ o.data = .seq its n ∧ its.size ≤ sizeLine ∧ Vals xs its.toList
def SqT (K : PySem.W.Frag) (H : Hp) (a : Addr) (xs : List V) : Prop :=
  Rd H a (.tup xs) ∨
    ∃ (o : Obj) (its : Array Value) (n : Nat), K.lookup a = some o ∧ o.cls = .type "tuple" ∧ o.data = .seq its n ∧ its.size ≤ sizeLine ∧ Vals xs its.toList
def qIc : Value → Option V
  | .none => some .non
  | .bool b => some (.bl b)
  | .int i _ => some (.int i)
  | .str x _ => some (.str x)
  | .bytes b _ => some (.byt b)
  | .float b _ => some (.flt b)
  | .ref a => some (.ref a)
  | .type n => some (.ty n)
  | _ => none
theorem RelV.abs {x : V} {u : Value} (r : RelV x u) : qIc u = some x := by
  cases x with
  | non => cases r; rfl
  | bl _ => cases r; rfl
  | int _ => obtain ⟨t, rfl⟩ := r; rfl
  | str _ => obtain ⟨t, rfl⟩ := r; rfl
  | byt _ => obtain ⟨t, rfl⟩ := r; rfl
  | flt _ => obtain ⟨t, rfl⟩ := r; rfl
  | ref _ => cases r; rfl
  | ty _ => cases r; rfl
theorem RelV.inj {x y : V} {u : Value} (r : RelV x u) (q : RelV y u) : x = y := Option.some.inj (r.abs.symm.trans q.abs)
theorem Vals.inj : ∀ {xs ys : List V} {us : List Value}, Vals xs us → Vals ys us → xs = ys
  | _, _, _, .nil, .nil => rfl
  | _, _, _, .cons r t, .cons r' t' => by rw [r.inj r', Vals.inj t t']
section
variable {X : Cx} {pins : List (Addr × Obj)} {σ : St} {H : Hp} {s : Shared} {a : Addr} {xs ys : List V}
theorem SqL.of {K : PySem.W.Frag} (h : H a = some (.lst xs)) : SqL K H a xs := .inl (.inl h)
theorem SqT.of {K : PySem.W.Frag} (h : H a = some (.tup xs)) : SqT K H a xs := .inl (.inl h)
theorem Inv.list (I : Inv X pins σ H s) (h : SqL X.K H a xs) : ∃ its : List Value, Vals xs its ∧ PlainL s.heap a its.toArray ∧ xs.length ≤ sizeLine := by
  rcases h with h | ⟨o, its, n, hk, hc, hd, hs, hz, r⟩
  · obtain ⟨z, its, n, r, e⟩ := h.ok I.hok
    exact ⟨its, r, ⟨_, n, e, rfl, rfl, rfl⟩, z⟩
  · refine ⟨its.toList, r, ⟨o, n, I.kIn a o hk, hc, hd, by simpa using hs⟩, ?_⟩
    have e := r.length
    simp only [Array.length_toList] at e
    omega
theorem Inv.tuple (I : Inv X pins σ H s) (h : SqT X.K H a xs) : ∃ its : List Value, Vals xs its ∧ IsTup s.heap a its.toArray ∧ xs.length ≤ sizeLine := by
  rcases h with h | ⟨o, its, n, hk, hc, hs, hz, r⟩
  · obtain ⟨z, its, r, p⟩ := h.ok I.hok
    exact ⟨its, r, p, z⟩
  · refine ⟨its.toList, r, ⟨o, I.kIn a o hk, hc, n, by simpa using hs⟩, ?_⟩
    have e := r.length
    simp only [Array.length_toList] at e
    omega
theorem Inv.list_inj (I : Inv X pins σ H s) (h : SqL X.K H a xs) (h' : SqL X.K H a ys) : xs = ys := by
  obtain ⟨its, r, ⟨o, n, e, _, _, d⟩, _⟩ := I.list h
  obtain ⟨its', r', ⟨o', n', e', _, _, d'⟩, _⟩ := I.list h'
  rw [e] at e'; cases e'
  rw [d] at d'
  injection d' with d1 _
  have : its = its' := by simpa using congrArg Array.toList d1
  subst this
  exact r.inj r'
theorem Inv.tuple_inj (I : Inv X pins σ H s) (h : SqT X.K H a xs) (h' : SqT X.K H a ys) : xs = ys := by
  obtain ⟨its, r, ⟨o, e, _, n, d⟩, _⟩ := I.tuple h
  obtain ⟨its', r', ⟨o', e', _, n', d'⟩, _⟩ := I.tuple h'
  rw [e] at e'; cases e'
  rw [d] at d'
  injection d' with d1 _
  have : its = its' := by simpa using congrArg Array.toList d1
  subst this
  exact r.inj r'
end
abbrev Cx.wish (X : Cx) (E : Value → Shared → Prop) : Cx := { X with xe := E }
abbrev Cx.nox (X : Cx) : Cx := X.wish fun _ _ => False
theorem Cx.Ok.wish {X : Cx} (ok : X.Ok) (E : Value → Shared → Prop) : (X.wish E).Ok :=
  ⟨ok.mod, ok.kind, ok.glob, ok.blt, ok.above, ok.inj, ok.has, ok.cab, ok.hd, ok.frames, ok.stk, ok.exf, ok.bs, ok.bsz, ok.noex, ok.exfs, ok.funs, ok.frf⟩
theorem Cx.Ok.unwish {X : Cx} {E : Value → Shared → Prop} (ok : (X.wish E).Ok) : X.Ok :=
  ⟨ok.mod, ok.kind, ok.glob, ok.blt, ok.above, ok.inj, ok.has, ok.cab, ok.hd, ok.frames, ok.stk, ok.exf, ok.bs, ok.bsz, ok.noex, ok.exfs, ok.funs, ok.frf⟩
section
variable {X : Cx} {pins : List (Addr × Obj)} {σ : St} {H : Hp} {s : Shared} {E : Value → Shared → Prop}
theorem Inv.wish (I : Inv X pins σ H s) (E : Value → Shared → Prop) : Inv (X.wish E) pins σ H s := ⟨I.ok.wish E, I.os, I.bare, I.base, I.loc, I.cell, I.free, I.freeC, I.pin, I.hok, I.len⟩
theorem Inv.unwish (I : Inv (X.wish E) pins σ H s) : Inv X pins σ H s := ⟨I.ok.unwish, I.os, I.bare, I.base, I.loc, I.cell, I.free, I.freeC, I.pin, I.hok, I.len⟩
theorem SP.unwish {D : qA4} {f : Flow} {s' : Shared} (h : SP (X.wish E) pins D f s') : SP X pins D f s' := by
  cases f with
  | next => obtain ⟨σ', H', I, q⟩ := h; exact ⟨σ', H', I.unwish, q⟩
  | brk => obtain ⟨σ', H', I, q⟩ := h; exact ⟨σ', H', I.unwish, q⟩
  | cont => obtain ⟨σ', H', I, q⟩ := h; exact ⟨σ', H', I.unwish, q⟩
  | ret u => obtain ⟨v, σ', H', I, r, q⟩ := h; exact ⟨v, σ', H', I.unwish, r, q⟩
theorem PE.nox {e : Expr} {t : TE} (h : PE X.nox e t) : PE X e t := fun pins s σ H Q I hw =>
  wpAny_mono (h pins s σ H Q (I.wish _) hw) (fun _ _ ⟨v, H', I', r, q⟩ => ⟨v, H', I'.unwish, r, q⟩) fun _ _ z => False.elim z
theorem PT.nox {e : Expr} {t : TT} (h : PT X.nox e t) : PT X e t := fun pins s σ H Q I hw =>
  wpAny_mono (h pins s σ H Q (I.wish _) hw) (fun _ _ ⟨H', I', q⟩ => ⟨H', I'.unwish, q⟩) fun _ _ z => False.elim z
theorem PSs.nox {st : List Stmt} {t : TS} (h : PSs X.nox st t) : PSs X st t := fun pins s σ H D I hw =>
  wpAny_mono (h pins s σ H D (I.wish _) hw) (fun _ _ q => q.unwish) fun _ _ z => False.elim z
end
section
variable {X : Cx} {st : Stmt} {rest : List Stmt} {t u : TS} {e : Expr} {te : TE} {pos : Pos}
def qHd : TS := fun D σ H => D.nx σ H
def qIh (t u : TS) : TS := fun D σ H => t { D with nx := u D } σ H
theorem qQ : PSs X [] qHd := fun _ _ σ H _ I h => wpAny_execs_nil ⟨σ, H, I, h⟩
theorem qF (h1 : PS X st t) (h2 : PSs X rest u) : PSs X (st :: rest) (qIh t u) := by
  intro pins s σ H D I h
  refine wpAny_execs_cons (thn (h1 pins s σ H { D with nx := u D } I h) fun f s1 q => ?_)
  cases f with
  | next =>
    obtain ⟨σ', H', I', q⟩ := q
    exact h2 pins s1 σ' H' D I' q
  | ret v => exact q
  | brk => exact q
  | cont => exact q
theorem qH (h1 : PS X st t) : PSs X [st] t := by
  intro pins s σ H D I h
  refine wpAny_execs_cons (thn (h1 pins s σ H D I h) fun f s1 q => ?_)
  cases f with
  | next => exact wpAny_execs_nil q
  | ret v => exact q
  | brk => exact q
  | cont => exact q
theorem Inv.quiet {pins : List (Addr × Obj)} {σ : St} {H : Hp} {s : Shared} (I : Inv X pins σ H s) : interactive X.env = false := by simp [interactive, I.ok.kind]
def qHg (te : TE) : TS := fun D σ H => te σ H fun _ H1 => D.nx σ H1
theorem jp (he : PE X e te) (hs : swapsWith e none pos.line X.env = pure false := by rfl) : PS X (.Expr e pos) (qHg te) := by
  intro pins s σ H D I h
  exact wpAny_Expr_any (thn (he pins s σ H _ I h) fun v s1 ⟨x, H1, I1, r1, q1⟩ => ⟨σ, H1, I1, q1⟩) I.quiet hs
def qId (te : TE) : TS := fun D σ H => te σ H D.rt
theorem qK (he : PE X e te) : PS X (.Return (some e) pos) (qId te) := by
  intro pins s σ H D I h
  exact wpAny_Return_some (thn (he pins s σ H _ I h) fun v s1 ⟨x, H1, I1, r1, q1⟩ => ⟨x, σ, H1, I1, r1, q1⟩)
def qH6 (c : TT) (t u : TS) : TS := fun D σ H => c σ H fun b H1 => if b = true then t D σ H1 else u D σ H1
theorem q8 {c : Expr} {a b : List Stmt} {tc : TT} (hc : PT X c tc) (ha : PSs X a t) (hb : PSs X b u) : PS X (.If c a b pos) (qH6 tc t u) := by
  intro pins s σ H D I h
  refine wpAny_If (thn (hc pins s σ H _ I h) fun d s1 ⟨H1, I1, q1⟩ => ?_)
  cases d with
  | true => exact ha pins s1 σ H1 D I1 q1
  | false => exact hb pins s1 σ H1 D I1 q1
def qGb : TS := fun _ _ _ => False
theorem kF {sts : List Stmt} : PSs X sts qGb := fun _ _ _ _ _ _ h => h.elim
end
abbrev TG := V → St → Hp → (St → Hp → Prop) → Prop
abbrev TGs := List V → St → Hp → (St → Hp → Prop) → Prop
def PG (X : Cx) (target : Expr) (t : TG) : Prop :=
  ∀ (pins : List (Addr × Obj)) (s : Shared) (σ : St) (H : Hp) (v : V) (u : Value) (Q : St → Hp → Prop), Inv X pins σ H s → RelV v u → t v σ H Q →
    wpAny (model X.prog X.w) X.A (assign target X.env u) (fun _ s' => ∃ σ' H', Inv X pins σ' H' s' ∧ Q σ' H') X.xe s
def PGs (X : Cx) (ts : List Expr) (t : TGs) : Prop :=
  ∀ (pins : List (Addr × Obj)) (s : Shared) (σ : St) (H : Hp) (vs : List V) (us : List Value) (Q : St → Hp → Prop), Inv X pins σ H s → Vals vs us → t vs σ H Q →
    wpAny (model X.prog X.w) X.A (assignInOrder ((assignEach ts X.env).map (·.2)) us) (fun _ s' => ∃ σ' H', Inv X pins σ' H' s' ∧ Q σ' H') X.xe s
section
variable {X : Cx} {pos : Pos}
def qFw (i : Nat) : TG := fun v σ H Q => Q (σ.set i (some v)) H
theorem jU {i : Nat} {x : Str} (hN : X.N.Nodup) (hi : X.N[i]? = some x) (hx : Loc X.env.scope x) (hf : X.fn x = true ∨ X.env.scope.names.lookup x = some .local := by first | exact .inl rfl | exact .inr rfl | assumption) : PG X (.Name x pos) (qFw i) := by
  intro pins s σ H v u Q I r h
  exact wpAny_assign_Name (xV I hN hi hx r (fun s' I' => ⟨_, H, I', h⟩) hf)
def qIj : TGs := fun vs σ H Q => vs = [] ∧ Q σ H
def qG6 (t : TG) (u : TGs) : TGs := fun vs σ H Q => ∃ v r, vs = v :: r ∧ t v σ H fun σ' H' => u r σ' H' Q
theorem kH : PGs X [] qIj := by
  intro pins s σ H vs us Q I r h
  obtain ⟨e, h⟩ := h
  subst e
  cases r
  exact assignInOrder_nil ⟨σ, H, I, h⟩
theorem jd {e : Expr} {es : List Expr} {t : TG} {u : TGs} (h1 : PG X e t) (h2 : PGs X es u)
    (hs : (assignEach (e :: es) X.env).map (·.2) = assign e X.env :: (assignEach es X.env).map (·.2) := by rfl) : PGs X (e :: es) (qG6 t u) := by
  intro pins s σ H vs us Q I r h
  obtain ⟨v, vr, e1, h⟩ := h
  subst e1
  cases r with
  | cons r rr =>
    rw [hs]
    refine assignInOrder_cons (thn (h1 pins s σ H _ _ _ I r h) fun _ s1 ⟨σ1, H1, I1, q1⟩ => ?_)
    exact h2 pins s1 σ1 H1 _ _ Q I1 rr q1
def qH8 (K : PySem.W.Frag) (n : Nat) (t : TGs) : TG := fun v σ H Q => ∃ a xs, v = .ref a ∧ SqT K H a xs ∧ xs.length = n ∧ t xs σ H Q
theorem vh {es : List Expr} {k : Nat} {t : TGs} {n : Nat} (hc : X.calm = true) (h : PGs X es t)
    (hn : (assignEach es X.env).length = n := by rfl) (hst : (assignEach es X.env).findIdx? (·.1) = none := by rfl) : PG X (.Tuple es k pos) (qH8 X.K n t) := by
  intro pins s σ H v u Q I r hw
  obtain ⟨a, xs, e1, hq, hl, hw⟩ := hw
  subst e1
  cases r
  obtain ⟨its, rv, ht, hz⟩ := I.tuple hq
  refine assign_Tuple_tuple (I.ok.hd hc) ht (by simp [hn, ← hl, rv.length]) hst fun h' hx => ?_
  have I1 : Inv X pins σ H { s with heap := h' } := I.kept (t' := s.toks) fun b o e => hx b o (Nat.ne_of_lt (Heap.lt_size e)) e
  exact h pins _ σ H xs _ Q I1 (by simpa using rv) hw
def qH3 (te : TE) (g : TG) : TS := fun D σ H => te σ H fun x H1 => g x σ H1 D.nx
theorem qBd {tg e : Expr} {te : TE} {g : TG} (he : PE X e te) (hg : PG X tg g) (hs : swapsWithSole [tg] e pos.line X.env = pure false := by rfl) (hw : swappedStores [tg] e X.env = pure none := by rfl)
    (h1 : (assignEach [tg] X.env).map (·.2) = [assign tg X.env] := by rfl) : PS X (.Assign [tg] e pos) (qH3 te g) := by
  intro pins s σ H D I h
  refine wpAny_Assign_stores (thn (he pins s σ H _ I h) fun v s1 ⟨x, H1, I1, r1, q1⟩ => ?_) hs hw
  rw [h1]
  exact thn (hg pins s1 σ H1 x v _ I1 r1 q1) fun _ s2 q => q
theorem qc {i : Nat} {x : Str} {e : Expr} {te : TE} {pos' : Pos} (hN : X.N.Nodup) (hi : X.N[i]? = some x) (hx : Loc X.env.scope x) (he : PE X e te) (hs : swapsWith e (some (.Name x pos')) pos.line X.env = pure false := by rfl) (hf : X.fn x = true ∨ X.env.scope.names.lookup x = some .local := by first | exact .inl rfl | exact .inr rfl | assumption) :
    PS X (.Assign [.Name x pos'] e pos) (qH3 te (qFw i)) := by
  intro pins s σ H D I h
  refine wpAny_Assign_Name (thn (he pins s σ H _ I h) fun v s1 ⟨y, H1, I1, r1, q1⟩ => ?_) hs
  exact xV I1 hN hi hx r1 (fun s2 I2 => ⟨_, H1, I2, q1⟩) hf
def qIg (i j : Nat) (ta : TA) : TS := fun D σ H => ta σ H fun vs H1 => ∃ v w, vs = [v, w] ∧ D.nx ((σ.set i (some v)).set j (some w)) H1
theorem qGh {i j : Nat} {x y : Str} {a b : Expr} {ta : TA} {px py pt : Pos} {kt k2 pt2} (hc : X.calm = true) (hN : X.N.Nodup) (hi : X.N[i]? = some x) (hj : X.N[j]? = some y) (hij : i ≠ j)
    (hx : X.env.scope.names.lookup x = some .local) (hy : X.env.scope.names.lookup y = some .local) (ha : PA X [a, b] ta)
    (hw : swappedStores [.Tuple [.Name x px, .Name y py] kt pt] (.Tuple [a, b] k2 pt2) X.env = pure (some [x, y]))
    (hs : swapsWithSole [.Tuple [.Name x px, .Name y py] kt pt] (.Tuple [a, b] k2 pt2) pos.line X.env = pure false := by rfl) :
    PS X (.Assign [.Tuple [.Name x px, .Name y py] kt pt] (.Tuple [a, b] k2 pt2) pos) (qIg i j ta) := by
  intro pins s σ H D I h
  rw [exec_Assign_arm]
  refine wpAny_bind (wpAny_standAt ?_)
  rw [hs]
  refine wpAny_bind (wpAny_pure ?_)
  rw [if_neg (by decide)]
  refine wpAny_bind (Tuple_ (thn (ha _ pins s σ H _ I h) fun us s1 ⟨vs, H1, I1, r1, q1⟩ => ?_))
  obtain ⟨v, w, e1, q1⟩ := q1
  subst e1
  obtain ⟨u1, u2, rfl, rv, rw'⟩ : ∃ u1 u2, us = [u1, u2] ∧ RelV v u1 ∧ RelV w u2 := by
    cases r1 with
    | cons p q =>
      cases q with
      | cons p' q' =>
        cases q'
        exact ⟨_, _, rfl, p, p'⟩
  refine wpAny_newObj_type ?_ (by show 2 ≤ sizeLine; decide)
  have I2 : Inv X pins σ H1 { s1 with heap := s1.heap.push { cls := .type "tuple", data := .seq [u1, u2].toArray } } := I1.kept (t' := s1.toks) fun b o e => Heap.get?_push_of_some _ e
  rw [hw]
  refine wpAny_bind (wpAny_pure ?_)
  show wpAny (model X.prog X.w) X.A (do rule "assign.swapped-stores"; let items ← unpackItems (.ref s1.heap.objs.size) 2 none; assignInOrder [fun v => bindName X.env y v, fun v => bindName X.env x v] items.reverse; pure Flow.next) _ _ _
  refine wpAny_bind (wpAny_rule (wpAny_bind (unpackItems_tuple (items := #[u1, u2]) (I.ok.hd hc) (IsTup.new s1.heap _) fun h' hx' => ?_)))
  have I3 := I2.kept (h' := h') (t' := s1.toks) fun b o e => hx' b o (Nat.ne_of_lt (Heap.lt_size e)) e
  show wpAny _ _ (assignInOrder [fun v => bindName X.env y v, fun v => bindName X.env x v] [u2, u1] >>= fun _ => pure Flow.next) _ _ _
  refine wpAny_bind (assignInOrder_cons (wpAny_bindName (xV I3 hN hj (.inl hy) rw' (fun s2 I4 => ?_) (.inr hy))))
  refine assignInOrder_cons (wpAny_bindName (xV I4 hN hi (.inl hx) rv (fun s3 I5 => assignInOrder_nil (wpAny_pure ?_)) (.inr hx)))
  rw [List.set_comm _ _ (Ne.symm hij)] at I5
  exact ⟨_, H1, I5, q1⟩
end
section
variable {X : Cx} {pos : Pos}
def qD3 (c : TT) (tb : TS) : TS := fun D σ H => ∃ W : Nat → St → Hp → Prop, (∃ m, W m σ H) ∧ ∀ m σ H, W m σ H →
  c σ H fun b H1 => if b = true then ∃ N : St → Hp → Prop, (∀ σ' H', N σ' H' → ∃ m', m' < m ∧ W m' σ' H') ∧ tb { D with nx := N, ct := N, bk := D.nx } σ H1 else D.nx σ H1
theorem wz {c : Expr} {body : List Stmt} {tc : TT} {tb : TS} (hp : PassesOwn (model X.prog X.w) X.A X.env X.xe) (hc : PT X c tc) (hb : PSs X body tb) : PS X (.While c body [] pos) (qD3 tc tb) := by
  intro pins s σ H D I h
  obtain ⟨W, ⟨m0, w0⟩, turn⟩ := h
  refine wpAny_While (codeAny_whileLoop (fun n s' => ∃ σ' H', Inv X pins σ' H' s' ∧ W n σ' H') ?_ m0 ⟨σ, H, I, w0⟩)
  rintro n s1 ⟨σ1, H1, I1, w1⟩
  refine wpAny_passesOwn hp (thn (hc pins s1 σ1 H1 _ I1 (turn n σ1 H1 w1)) fun b s2 ⟨H2, I2, q2⟩ => ?_)
  cases b with
  | true =>
    obtain ⟨N, hN, q2⟩ := q2
    rw [if_pos rfl]
    refine wpAny_passesOwn hp (thn (hb pins s2 σ1 H2 _ I2 q2) fun f s3 q3 => ?_)
    cases f with
    | next =>
      obtain ⟨σ3, H3, I3, n3⟩ := q3
      obtain ⟨m', hm, w3⟩ := hN σ3 H3 n3
      exact ⟨m', hm, σ3, H3, I3, w3⟩
    | cont =>
      obtain ⟨σ3, H3, I3, n3⟩ := q3
      obtain ⟨m', hm, w3⟩ := hN σ3 H3 n3
      exact ⟨m', hm, σ3, H3, I3, w3⟩
    | brk => exact q3
    | ret v => exact q3
  | false =>
    rw [if_neg Bool.false_ne_true]
    exact wpAny_execs_nil ⟨σ1, H2, I2, q2⟩
end
structure It where
  go : Nat → Hp → Prop
  yld : Nat → Hp → V → Hp → Prop
  stop : Nat → Hp → Prop
def qC9 (X : Cx) (pins : List (Addr × Obj)) (H : Hp) (b : Addr) : Prop :=
  H b = none ∧ b ≠ X.env.locals ∧ b ∉ X.fs ∧ (b ∈ X.ex ∨ X.s₀.heap.objs.size ≤ b) ∧ (∀ x c, X.env.cells.lookup x = some c → c ≠ b) ∧ ∀ p ∈ X.pn ++ pins, p.1 ≠ b
theorem Inv.fpOk {X : Cx} {pins : List (Addr × Obj)} {σ : St} {H H' : Hp} {s : Shared} {b : Addr} (I : Inv X pins σ H s) (hb : s.heap.objs.size ≤ b) (hn : H' b = none) : qC9 X pins H' b := by
  refine ⟨hn, Nat.ne_of_gt (Nat.lt_of_lt_of_le I.lt hb), I.nofs hb, .inr (Nat.le_trans I.sz hb), fun x c e z => ?_, fun p hp z => ?_⟩
  · obtain ⟨v, q⟩ := I.cell x c e
    exact absurd (Nat.lt_of_lt_of_le q.lt (by rw [z]; exact hb)) (Nat.lt_irrefl _)
  · exact absurd (Nat.lt_of_lt_of_le (Heap.lt_size (I.pin p hp).1) (by rw [z]; exact hb)) (Nat.lt_irrefl _)
structure qFr (P : Program) (w : World) (K : PySem.W.Frag) (tg : Expr) (J : It) (fp : List Addr) (it : Addr) (tn : Nat → Heap → Prop) : Prop where
  mem : it ∈ fp
  obj : ∀ i h, tn i h → ∀ b ∈ fp, ∃ o, h.get? b = some o ∧ ∀ v, o.data ≠ .cell v
  keep : ∀ i h h', tn i h → (∀ b ∈ fp, ∀ o, h.get? b = some o → h'.get? b = some o) → tn i h'
  item : ∀ (X : Cx), X.prog = P → X.w = w → X.K = K → X.calm = true → ∀ (i : Nat) (pins : List (Addr × Obj)) (s : Shared) (σ : St) (H : Hp) (E : Value → Shared → Prop), Inv X pins σ H s → (∀ b ∈ fp, qC9 X pins H b) → tn i s.heap → J.go i H →
    wpAny (model P w) X.A (pyNext (.ref it)) (fun r s1 => ∃ u, r = some u ∧
      wpAny (model P w) X.A (letOwnedTupleGo tg (.ref it) u) (fun _ s2 => ∃ x H', Inv X pins σ H' s2 ∧ RelV x u ∧ J.yld i H x H' ∧ tn (i + 1) s2.heap ∧ ∀ b ∈ fp, H' b = none) E s1) E s
  done : ∀ (X : Cx), X.prog = P → X.w = w → X.K = K → X.calm = true → ∀ (i : Nat) (pins : List (Addr × Obj)) (s : Shared) (σ : St) (H : Hp) (E : Value → Shared → Prop), Inv X pins σ H s → (∀ b ∈ fp, qC9 X pins H b) → tn i s.heap → J.stop i H →
    wpAny (model P w) X.A (pyNext (.ref it)) (fun r s1 => r = none ∧ Inv X pins σ H s1) E s
  self : ∀ (A : Around) (i : Nat) (s : Shared) (Q : Value → Shared → Prop) (E : Value → Shared → Prop), tn i s.heap → Q (.ref it) s → wpAny (model P w) A (pyIter (.ref it)) Q E s
abbrev TI := St → Hp → (It → Hp → Prop) → Prop
def PIE (X : Cx) (pins : List (Addr × Obj)) (σ : St) (tg : Expr) (R : It → Hp → Prop) (itv : Value) (s2 : Shared) : Prop :=
  ∃ (it : Addr) (fp : List Addr) (tn : Nat → Heap → Prop) (J : It) (H' : Hp), itv = .ref it ∧ Inv X pins σ H' s2 ∧ qFr X.prog X.w X.K tg J fp it tn ∧ tn 0 s2.heap ∧ (∀ b ∈ fp, qC9 X pins H' b) ∧ R J H'
def PI (X : Cx) (tg iter : Expr) (wi : TI) : Prop :=
  ∀ (pins : List (Addr × Obj)) (s : Shared) (σ : St) (H : Hp) (R : It → Hp → Prop), Inv X pins σ H s → wi σ H R →
    wpAny (model X.prog X.w) X.A (eval iter X.env) (fun v s1 => wpAny (model X.prog X.w) X.A (pyIter v) (PIE X pins σ tg R) X.xe s1) X.xe s
theorem qFh {M : Model} {A : Around} {E : Value → Shared → Prop} {s : Shared} {tg : Expr} {it : Addr} {u : Value} {o : Obj} {n : String} {vs : Array Value} {Q : Unit → Shared → Prop} (ho : s.heap.get? it = some o) (hc : o.cls = .type n) (hd : o.data = .fields vs)
    (hn : ["enumerate", "zip", "dict_itemiterator", "dict_reverseitemiterator", "odict_iterator", "itertools.zip_longest", "itertools.pairwise"].contains n = false) (hQ : Q () s) : wpAny M A (letOwnedTupleGo tg (.ref it) u) Q E s := by
  unfold letOwnedTupleGo
  cases tg <;> first
    | exact wpAny_pure hQ
    | (cases u <;> first
        | exact wpAny_pure hQ
        | (refine wpAny_bind (wpAny_load ho ?_)
           rw [hc, hd]
           show wpAny M A (if (["enumerate", "zip", "dict_itemiterator", "dict_reverseitemiterator", "odict_iterator", "itertools.zip_longest", "itertools.pairwise"].contains n && vs[0]? == some (rawInt _)) = true then _ else _) Q E s
           rw [if_neg (by intro h; rw [hn, Bool.false_and] at h; cases h)]
           exact wpAny_pure hQ))
def Itl (K : PySem.W.Frag) (a : Addr) : It :=
  ⟨fun i H => ∃ xs x, SqL K H a xs ∧ xs[i]? = some x, fun i H x H' => H' = H ∧ ∀ xs, SqL K H a xs → xs[i]? = some x, fun i H => ∃ xs, SqL K H a xs ∧ xs.length ≤ i⟩
def Itr (lo : Int) (n : Nat) : It := ⟨fun i _ => i < n, fun i H x H' => H' = H ∧ x = .int (lo + i), fun i _ => n ≤ i⟩
theorem qCl {P : Program} {w : World} {K : PySem.W.Frag} {tg : Expr} (a it : Addr) : qFr P w K tg (Itl K a) [it] it (fun i h => h.IsListIter it a i) where
  mem := by simp
  obj := fun i h st b hb => by
    have e : b = it := by simpa using hb
    subst e
    obtain ⟨o, e, c, d⟩ := st
    exact ⟨o, e, fun v z => by rw [d] at z; cases z⟩
  keep := fun i h h' st k => st.at fun o e => k it (by simp) o e
  item := by
    intro X hP hw hK hc i pins s σ H E I hf st hg
    subst hP hw hK
    obtain ⟨xs, x, hq, hx⟩ := hg
    obtain ⟨its, rv, p, hz⟩ := I.list hq
    obtain ⟨u, hu, ru⟩ := rv.get hx
    obtain ⟨f0, f1, f2, f3, f4, f5⟩ := hf it (by simp)
    refine wpAny_pyNext_list_item st p.isList (x := u) (by simpa using hu) fun h' st' sb => ?_
    have I1 : Inv X pins σ H { s with heap := h' } := I.turned (t' := s.toks) (fun b o hb e => (sb.2 b hb).trans e) f0 f1 f3 f4 f5
    obtain ⟨o, e, c, d⟩ := id st'
    exact ⟨u, rfl, qFh (s := { s with heap := h' }) e c d (by decide) ⟨x, H, I1, ru, ⟨rfl, fun ys hy => by rw [I.list_inj hy hq]; exact hx⟩, st', fun b hb => (hf b hb).1⟩⟩
  done := by
    intro X hP hw hK hc i pins s σ H E I hf st hg
    subst hP hw hK
    obtain ⟨xs, hq, hx⟩ := hg
    obtain ⟨its, rv, p, hz⟩ := I.list hq
    obtain ⟨f0, f1, f2, f3, f4, f5⟩ := hf it (by simp)
    have hl := rv.length
    exact wpAny_pyNext_list_end (I.ok.hd hc) st p.isList (by simp; omega) fun h' eb => ⟨rfl, I.turned (t' := s.toks) (fun b o hb e => eb b o hb e) f0 f1 f3 f4 f5⟩
  self := fun _ _ _ _ _ st h => wpAny_pyIter_listiter st h
theorem qAq {P : Program} {w : World} {K : PySem.W.Frag} {tg : Expr} (it : Addr) (lo : Int) (n : Nat) : qFr P w K tg (Itr lo n) [it] it (fun i h => IsRangeIter h it (lo + (i : Nat) * 1) ((n : Int) - (i : Nat)) 1) where
  mem := by simp
  obj := fun i h st b hb => by
    have e : b = it := by simpa using hb
    subst e
    exact ⟨_, st, fun v z => by
      have z' : Data.fields _ = Data.cell v := z
      cases z'⟩
  keep := fun i h h' st k => k it (by simp) _ st
  item := by
    intro X hP hw hK hc i pins s σ H E I hf st hg
    subst hP hw hK
    obtain ⟨f0, f1, f2, f3, f4, f5⟩ := hf it (by simp)
    have W := Walks.range (prog := X.prog) (w := X.w) (I.ok.hd hc) it lo 1 n
    refine W.item i s _ _ hg st fun v h' tk hv st' kk => ?_
    obtain ⟨t, rfl⟩ := hv
    have I1 : Inv X pins σ H { s with heap := h', toks := tk } := I.turned (fun b o hb e => kk b o (by simpa using hb) e) f0 f1 f3 f4 f5
    refine ⟨_, rfl, qFh (s := { s with heap := h', toks := tk }) (n := "range_iterator") st' rfl rfl (by decide) ⟨.int (lo + i), H, I1, ⟨t, ?_⟩, ⟨rfl, rfl⟩, st', fun b hb => (hf b hb).1⟩⟩
    rw [Int.mul_one]
  done := by
    intro X hP hw hK hc i pins s σ H E I hf st hg
    subst hP hw hK
    obtain ⟨f0, f1, f2, f3, f4, f5⟩ := hf it (by simp)
    exact wpAny_pyNext_range_end (I.ok.hd hc) st (by have : n ≤ i := hg; omega) fun h' eb => ⟨rfl, I.turned (t' := s.toks) (fun b o hb e => eb b o hb e) f0 f1 f3 f4 f5⟩
  self := fun _ _ _ _ _ st h => wpAny_pyIter_rangeiter st h
end L2
namespace L2
open PySem PySem.Spec PyProof.Rows
section
variable {X : Cx} {tg : Expr}
def qG0 (K : PySem.W.Frag) (tl : TE) : TI := fun σ H R => tl σ H fun x H1 => ∃ a, x = .ref a ∧ (∃ xs, SqL K H1 a xs) ∧ R (Itl K a) H1
theorem qCh {l : Expr} {tl : TE} (hl : PE X l tl) : PI X tg l (qG0 X.K tl) := by
  intro pins s σ H R I h
  refine thn (hl pins s σ H _ I h) fun v s1 ⟨x, H1, I1, r1, q1⟩ => ?_
  obtain ⟨a, e, ⟨xs, hq⟩, q⟩ := q1
  subst e
  cases r1
  obtain ⟨its, rv, p, hz⟩ := I1.list hq
  refine wpAny_pyIter_list p.isList ?_
  refine ⟨s1.heap.objs.size, [s1.heap.objs.size], _, _, H1, rfl, I1.kept (t' := s1.toks) fun b o e => Heap.get?_push_of_some _ e, qCl a _, ⟨_, Heap.get?_push_size _ rfl, rfl, rfl⟩, fun b hb => ?_, q⟩
  have e : b = s1.heap.objs.size := by simpa using hb
  subst e
  exact I1.fpOk (Nat.le_refl _) (I1.hok.fresh (Nat.le_refl _))
theorem qDj {pins : List (Addr × Obj)} {σ : St} {H : Hp} {s : Shared} {R : It → Hp → Prop} {E : Value → Shared → Prop} {lo hi : Int} {t u v : Tok} {tk : Nat} (I : Inv X pins σ H s) (h1 : -(2 ^ 62) ≤ lo) (h2 : lo < 2 ^ 62) (h3 : -(2 ^ 62) ≤ hi) (h4 : hi < 2 ^ 62)
    (q : R (Itr lo (hi - lo).toNat) H) : wpAny (model X.prog X.w) X.A (pyIter (.ref s.heap.objs.size)) (PIE X pins σ tg R) E { s with heap := s.heap.push { cls := .type "range", data := .fields #[.int lo t, .int hi u, .int 1 v] }, toks := tk } := by
  refine wpAny_pyIter_range (IsRange.new ..) (small_one h1 h2 h3 h4) ?_
  have I1 : Inv X pins σ H { s with heap := s.heap.push { cls := .type "range", data := .fields #[.int lo t, .int hi u, .int 1 v] }, toks := tk } := I.kept fun b o e => Heap.get?_push_of_some _ e
  refine ⟨(s.heap.push { cls := .type "range", data := .fields #[.int lo t, .int hi u, .int 1 v] }).objs.size, [(s.heap.push { cls := .type "range", data := .fields #[.int lo t, .int hi u, .int 1 v] }).objs.size], _, _, H, rfl,
    I1.kept (t' := tk) fun b o e => Heap.get?_push_of_some _ e, qAq _ lo (hi - lo).toNat, ?_, fun b hb => ?_, q⟩
  · have e1 : lo + ((0 : Nat) : Int) * 1 = lo := by simp
    have e2 : (((hi - lo).toNat : Nat) : Int) - ((0 : Nat) : Int) = Builtin.Range.rangeSize lo hi 1 := by rw [rangeSize_one]; split <;> omega
    show IsRangeIter _ _ (lo + ((0 : Nat) : Int) * 1) ((((hi - lo).toNat : Nat) : Int) - ((0 : Nat) : Int)) 1
    rw [e1, e2]
    exact Heap.get?_push_size _ rfl
  · have e : b = (s.heap.push { cls := .type "range", data := .fields #[.int lo t, .int hi u, .int 1 v] }).objs.size := by simpa using hb
    subst e
    exact I1.fpOk (Nat.le_refl _) (I1.hok.fresh (Nat.le_refl _))
def qHh (ta : TA) : TI := fun σ H R => ta σ H fun vs H1 => ∃ j : Int, vs = [.int j] ∧ -(2 ^ 62) ≤ j ∧ j < 2 ^ 62 ∧ R (Itr 0 j.toNat) H1
theorem kM {a : Expr} {ta : TA} {p pos : Pos} (hg : Gl X "range") (hm : X.mg "range" = none) (ha : PA X [a] ta) (hs : starEach [a] X.env = [(false, eval a X.env)] := by rfl) : PI X tg (.Call (.Name "range" p) [a] [] pos) (qHh ta) := by
  intro pins s σ H R I h
  refine Call_ (wH I hg hm boot_range (PyProof.Rows.callWith_type1 (thn (ha pos pins s σ H _ I h) fun us s1 ⟨vs, H1, I1, r1, q1⟩ => ?_) hs rfl))
  obtain ⟨j, e, q1, q2, q⟩ := q1
  subst e
  cases r1 with
  | cons r rr =>
    cases rr
    obtain ⟨t, rfl⟩ := r
    exact call_range_1 (qDj I1 (by omega) (by omega) q1 q2 (by simpa using q))
def qIo (wi : TI) (g : TG) (tb : TS) : TS := fun D σ H => wi σ H fun J H1 => ∃ W : Nat → Nat → St → Hp → Prop, (∃ m, W 0 m σ H1) ∧ ∀ i m σ H, W i m σ H →
  (J.stop i H ∧ D.nx σ H) ∨ (J.go i H ∧ ∃ N : St → Hp → Prop, (∀ σ' H', N σ' H' → ∃ m', m' < m ∧ W (i + 1) m' σ' H') ∧ ∀ x H', J.yld i H x H' → g x σ H' fun σ2 H2 => tb { D with nx := N, ct := N, bk := D.nx } σ2 H2)
def wt (fp : List Addr) (h : Heap) : List (Addr × Obj) := fp.filterMap fun b => (h.get? b).map fun o => (b, o)
theorem zP {fp : List Addr} {h : Heap} {b : Addr} {o : Obj} (hb : b ∈ fp) (e : h.get? b = some o) : (b, o) ∈ wt fp h := List.mem_filterMap.mpr ⟨b, hb, by rw [e]; rfl⟩
theorem qB4 {fp : List Addr} {h : Heap} {p : Addr × Obj} (hp : p ∈ wt fp h) : p.1 ∈ fp ∧ h.get? p.1 = some p.2 := by
  obtain ⟨b, hb, e⟩ := List.mem_filterMap.mp hp
  cases q : h.get? b with
  | none => rw [q] at e; cases e
  | some o =>
    rw [q] at e
    have e' : (b, o) = p := Option.some.inj e
    subst e'
    exact ⟨hb, q⟩
theorem Inv.pinned {pins : List (Addr × Obj)} {σ : St} {H : Hp} {s : Shared} {fp : List Addr} (I : Inv X pins σ H s) (hf : ∀ b ∈ fp, qC9 X pins H b) (ho : ∀ b ∈ fp, ∃ o, s.heap.get? b = some o ∧ ∀ v, o.data ≠ .cell v) : Inv X (pins ++ wt fp s.heap) σ H s :=
  I.pins_of fun p hp => (List.mem_append.mp hp).elim (fun z => I.pin p (List.mem_append_right _ z)) fun z => by
    obtain ⟨hb, e⟩ := qB4 z
    obtain ⟨f0, f1, f2, _⟩ := hf p.1 hb
    obtain ⟨o, e', d⟩ := ho p.1 hb
    rw [e] at e'; cases e'
    exact ⟨e, f0, f1, f2, d⟩
theorem Inv.unpinned {pins pl : List (Addr × Obj)} {σ : St} {H : Hp} {s : Shared} (I : Inv X (pins ++ pl) σ H s) : Inv X pins σ H s := I.pins_of fun p hp => I.pin p (List.mem_append_right _ (List.mem_append_left _ hp))
theorem kY {iter : Expr} {body : List Stmt} {wi : TI} {g : TG} {tb : TS} {pos : Pos} (hp : PassesOwn (model X.prog X.w) X.A X.env X.xe) (hc : X.calm = true) (hi : PI X tg iter wi) (hg : PG X tg g) (hb : PSs X body tb)
    (hs : ∀ x, foldedSetIterable iter X.env x = pure x := by intro _; rfl) : PS X (.For tg iter body [] pos) (qIo wi g tb) := by
  intro pins s σ H D I h
  refine wpAny_For (thn (hi pins s σ H _ I h) fun v s1 h1 => thn h1 fun itv s2 h2 => ?_) hs
  obtain ⟨it, fp, tn, J, H2, e, I2, T, st2, f2, W, ⟨m0, w0⟩, turn⟩ := h2
  subst e
  have stat : ∀ {H' : Hp}, (∀ b ∈ fp, H' b = none) → ∀ b ∈ fp, qC9 X pins H' b := fun hn b hb => ⟨hn b hb, (f2 b hb).2⟩
  refine codeAny_forLoop_any (fun n s' => ∃ i σ' H', Inv X pins σ' H' s' ∧ tn i s'.heap ∧ (∀ b ∈ fp, H' b = none) ∧ W i n σ' H') ?_ m0 ⟨0, σ, H2, I2, st2, fun b hb => (f2 b hb).1, w0⟩
  rintro n s3 ⟨i, σ3, H3, I3, st3, fr3, w3⟩
  rcases turn i n σ3 H3 w3 with ⟨stop, qn⟩ | ⟨go, N, hN, step⟩
  · refine wpAny_passesOwn hp (thn (T.done X rfl rfl rfl hc i pins s3 σ3 H3 X.xe I3 (stat fr3) st3 stop) fun r s4 ⟨hr, I4⟩ => ?_)
    subst hr
    exact wpAny_execs_nil ⟨σ3, H3, I4, qn⟩
  · refine wpAny_passesOwn hp (thn (T.item X rfl rfl rfl hc i pins s3 σ3 H3 X.xe I3 (stat fr3) st3 go) fun r s4 ⟨u, hr, h4⟩ => ?_)
    subst hr
    refine wpAny_passesOwn hp (thn h4 fun _ s5 ⟨x, H5, I5, r5, y5, st5, fr5⟩ => ?_)
    have I5' := I5.pinned (stat fr5) (T.obj _ _ st5)
    refine wpAny_passesOwn hp (thn (hg _ s5 σ3 H5 x u _ I5' r5 (step x H5 y5)) fun _ s6 ⟨σ6, H6, I6, q6⟩ => ?_)
    refine wpAny_passesOwn hp (thn (hb _ s6 σ6 H6 _ I6 q6) fun f s7 q7 => ?_)
    have again : ∀ {σ7 : St} {H7 : Hp}, Inv X (pins ++ wt fp s5.heap) σ7 H7 s7 → N σ7 H7 → ∃ m, m < n ∧ ∃ i σ' H', Inv X pins σ' H' s7 ∧ tn i s7.heap ∧ (∀ b ∈ fp, H' b = none) ∧ W i m σ' H' := fun {σ7 H7} I7 n7 => by
      obtain ⟨m', hm, w7⟩ := hN σ7 H7 n7
      refine ⟨m', hm, i + 1, σ7, H7, I7.unpinned, T.keep _ _ _ st5 fun b hb o e => (I7.pin (b, o) (List.mem_append_right _ (List.mem_append_right _ (zP hb e)))).1, fun b hb => ?_, w7⟩
      obtain ⟨o, e, d⟩ := T.obj _ _ st5 b hb
      exact (I7.pin (b, o) (List.mem_append_right _ (List.mem_append_right _ (zP hb e)))).2.1
    cases f with
    | next => obtain ⟨σ7, H7, I7, n7⟩ := q7; exact again I7 n7
    | cont => obtain ⟨σ7, H7, I7, n7⟩ := q7; exact again I7 n7
    | brk => obtain ⟨σ7, H7, I7, q7⟩ := q7; exact ⟨σ7, H7, I7.unpinned, q7⟩
    | ret v => obtain ⟨x7, σ7, H7, I7, r7, q7⟩ := q7; exact ⟨x7, σ7, H7, I7.unpinned, r7, q7⟩
end
theorem qAd {K : PySem.W.Frag} {a : Addr} {xs : List V} {g : TG} {tb : TS} {D : qA4} {σ : St} {H : Hp} (Pv : Nat → St → Hp → Prop) (h0 : Pv 0 σ H) (hl : ∀ i σ H, i ≤ xs.length → Pv i σ H → SqL K H a xs)
    (hs : ∀ i x σ H, xs[i]? = some x → Pv i σ H → g x σ H fun σ2 H2 => tb { D with nx := Pv (i + 1), ct := Pv (i + 1), bk := D.nx } σ2 H2) (hd : ∀ σ H, Pv xs.length σ H → D.nx σ H) :
    ∃ W : Nat → Nat → St → Hp → Prop, (∃ m, W 0 m σ H) ∧ ∀ i m σ H, W i m σ H →
      ((Itl K a).stop i H ∧ D.nx σ H) ∨ ((Itl K a).go i H ∧ ∃ N : St → Hp → Prop, (∀ σ' H', N σ' H' → ∃ m', m' < m ∧ W (i + 1) m' σ' H') ∧ ∀ x H', (Itl K a).yld i H x H' → g x σ H' fun σ2 H2 => tb { D with nx := N, ct := N, bk := D.nx } σ2 H2) := by
  refine ⟨fun i m σ H => m = xs.length - i ∧ i ≤ xs.length ∧ Pv i σ H, ⟨xs.length, by simp, Nat.zero_le _, h0⟩, ?_⟩
  rintro i m σ H ⟨rfl, hi, p⟩
  have q := hl i σ H hi p
  by_cases hlt : i < xs.length
  · refine .inr ⟨⟨xs, xs[i], q, by simp [hlt]⟩, Pv (i + 1), fun σ' H' p' => ⟨xs.length - (i + 1), by omega, rfl, hlt, p'⟩, fun x H' y => ?_⟩
    obtain ⟨e, y⟩ := y
    subst e
    exact hs i x σ _ (y xs q) p
  · have e : i = xs.length := by omega
    subst e
    exact .inl ⟨⟨xs, q, Nat.le_refl _⟩, hd σ H p⟩
theorem kO {lo : Int} {n : Nat} {g : TG} {tb : TS} {D : qA4} {σ : St} {H : Hp} (Pv : Nat → St → Hp → Prop) (h0 : Pv 0 σ H)
    (hs : ∀ i σ H, i < n → Pv i σ H → g (.int (lo + i)) σ H fun σ2 H2 => tb { D with nx := Pv (i + 1), ct := Pv (i + 1), bk := D.nx } σ2 H2) (hd : ∀ σ H, Pv n σ H → D.nx σ H) :
    ∃ W : Nat → Nat → St → Hp → Prop, (∃ m, W 0 m σ H) ∧ ∀ i m σ H, W i m σ H →
      ((Itr lo n).stop i H ∧ D.nx σ H) ∨ ((Itr lo n).go i H ∧ ∃ N : St → Hp → Prop, (∀ σ' H', N σ' H' → ∃ m', m' < m ∧ W (i + 1) m' σ' H') ∧ ∀ x H', (Itr lo n).yld i H x H' → g x σ H' fun σ2 H2 => tb { D with nx := N, ct := N, bk := D.nx } σ2 H2) := by
  refine ⟨fun i m σ H => m = n - i ∧ i ≤ n ∧ Pv i σ H, ⟨n, by simp, Nat.zero_le _, h0⟩, ?_⟩
  rintro i m σ H ⟨rfl, hi, p⟩
  by_cases hlt : i < n
  · refine .inr ⟨hlt, Pv (i + 1), fun σ' H' p' => ⟨n - (i + 1), by omega, rfl, hlt, p'⟩, fun x H' y => ?_⟩
    obtain ⟨e, y⟩ := y
    subst e y
    exact hs i σ _ hlt p
  · have e : i = n := by omega
    subst e
    exact .inl ⟨Nat.le_refl _, hd σ H p⟩
theorem qAb {c : TT} {tb : TS} {D : qA4} {σ : St} {H : Hp} (Pv : St → Hp → Prop) (μ : St → Hp → Nat) (h0 : Pv σ H)
    (hs : ∀ σ H, Pv σ H → c σ H fun b H1 => if b = true then tb { D with nx := fun σ' H' => Pv σ' H' ∧ μ σ' H' < μ σ H, ct := fun σ' H' => Pv σ' H' ∧ μ σ' H' < μ σ H, bk := D.nx } σ H1 else D.nx σ H1)
    (mono : ∀ σ H Q Q', (∀ b H1, Q b H1 → Q' b H1) → c σ H Q → c σ H Q') : qD3 c tb D σ H := by
  refine ⟨fun m σ H => m = μ σ H ∧ Pv σ H, ⟨_, rfl, h0⟩, ?_⟩
  rintro m σ H ⟨rfl, p⟩
  refine mono σ H _ _ (fun b H1 q => ?_) (hs σ H p)
  cases b with
  | true => exact ⟨_, fun σ' H' ⟨p', l⟩ => ⟨_, l, rfl, p'⟩, q⟩
  | false => exact q
end L2
namespace L2
open PySem PySem.Spec PyProof.Rows
abbrev R2 := V → V → Hp → VK → Prop
def OpR (X : Cx) (f : Value → Value → Sem Value) (r : R2) : Prop :=
  ∀ (pins : List (Addr × Obj)) (s : Shared) (σ : St) (H : Hp) (x y : V) (v u : Value) (Q : VK), Inv X pins σ H s → RelV x v → RelV y u → r x y H Q →
    wpAny (model X.prog X.w) X.A (f v u) (EP X pins σ Q) X.xe s
def UnR (X : Cx) (f : Value → Sem Value) (r : V → Hp → VK → Prop) : Prop :=
  ∀ (pins : List (Addr × Obj)) (s : Shared) (σ : St) (H : Hp) (x : V) (v : Value) (Q : VK), Inv X pins σ H s → RelV x v → r x H Q →
    wpAny (model X.prog X.w) X.A (f v) (EP X pins σ Q) X.xe s
def CallR (X : Cx) (f : Value) (r : List V → Hp → VK → Prop) : Prop :=
  ∀ (pins : List (Addr × Obj)) (s : Shared) (σ : St) (H : Hp) (xs : List V) (us : List Value) (Q : VK), Inv X pins σ H s → Vals xs us → r xs H Q →
    wpAny (model X.prog X.w) X.A (call f us) (EP X pins σ Q) X.xe s
def tOp (r : R2) (ta tb : TE) : TE := fun σ H Q => ta σ H fun x H1 => tb σ H1 fun y H2 => r x y H2 Q
def tUn (r : V → Hp → VK → Prop) (ta : TE) : TE := fun σ H Q => ta σ H fun x H1 => r x H1 Q
def rI (C : Int → Int → Prop) (g : Int → Int → V) : R2 := fun x y H Q => ∃ i j, x = .int i ∧ y = .int j ∧ C i j ∧ Q (g i j) H
def rI0 (g : Int → Int → V) : R2 := fun x y H Q => ∃ i j, x = .int i ∧ y = .int j ∧ Q (g i j) H
def rU (g : Int → V) : V → Hp → VK → Prop := fun x H Q => ∃ i, x = .int i ∧ Q (g i) H
section
variable {X : Cx} {a b c : Expr} {ta tb tc : TE} {pos : Pos}
theorem qHv (ha : PE X a ta) (hb : PE X b tb) {pins : List (Addr × Obj)} {s : Shared} {σ : St} {H : Hp} {R : V → V → Hp → Prop} (I : Inv X pins σ H s)
    (h : ta σ H fun x H1 => tb σ H1 fun y H2 => R x y H2) {Q : Value → Shared → Prop} {f : Value → Value → Sem Value}
    (hf : ∀ v u s2 x y H2, Inv X pins σ H2 s2 → RelV x v → RelV y u → R x y H2 → wpAny (model X.prog X.w) X.A (f v u) Q X.xe s2) :
    wpAny (model X.prog X.w) X.A (eval a X.env) (fun v s₁ => wpAny (model X.prog X.w) X.A (eval b X.env) (fun u s₂ => wpAny (model X.prog X.w) X.A (f v u) Q X.xe s₂) X.xe s₁) X.xe s := by
  refine thn (ha pins s σ H _ I h) fun v s1 ⟨x, H1, I1, r1, q1⟩ => ?_
  refine thn (hb pins s1 σ H1 _ I1 q1) fun u s2 ⟨y, H2, I2, r2, q2⟩ => ?_
  exact hf v u s2 x y H2 I2 r1 r2 q2
theorem qN {op : Operator} {r : R2} (ho : OpR X (binaryOp op) r) (ha : PE X a ta) (hb : PE X b tb) : PE X (.BinOp a op b pos) (tOp r ta tb) := by
  intro pins s σ H Q I h
  exact wpAny_BinOp (qHv ha hb I h fun v u s2 x y H2 I2 rx ry q => ho pins s2 σ H2 x y v u Q I2 rx ry q)
theorem zW {op : UnaryOp} {r : V → Hp → VK → Prop} (ho : UnR X (unaryOp op) r) (ha : PE X a ta) : PE X (.UnaryOp op a pos) (tUn r ta) := by
  intro pins s σ H Q I h
  exact UnaryOp_ (thn (ha pins s σ H _ I h) fun v s1 ⟨x, H1, I1, r1, q1⟩ => ho pins s1 σ H1 x v Q I1 r1 q1)
theorem opI {f : Value → Value → Sem Value} {C : Int → Int → Prop} {g : Int → Int → Int}
    (rule : ∀ (i j : Int) (t u : Tok) (s : Shared) (Q : Value → Shared → Prop) (E : Value → Shared → Prop), C i j → Q (.int (g i j) s.toks) { s with toks := s.toks + 1 } → wpAny (model X.prog X.w) X.A (f (.int i t) (.int j u)) Q E s) :
    OpR X f (rI C fun i j => .int (g i j)) := by
  intro pins s σ H x y v u Q I rx ry h
  obtain ⟨i, j, rfl, rfl, hc, q⟩ := h
  obtain ⟨t, rfl⟩ := rx
  obtain ⟨t', rfl⟩ := ry
  exact rule i j t t' s _ _ hc ⟨.int (g i j), H, I.tok _, ⟨_, rfl⟩, q⟩
theorem qH2 {f : Value → Value → Sem Value} {g : Int → Int → Int}
    (rule : ∀ (i j : Int) (t u : Tok) (s : Shared) (Q : Value → Shared → Prop) (E : Value → Shared → Prop), Q (.int (g i j) s.toks) { s with toks := s.toks + 1 } → wpAny (model X.prog X.w) X.A (f (.int i t) (.int j u)) Q E s) :
    OpR X f (rI0 fun i j => .int (g i j)) := by
  intro pins s σ H x y v u Q I rx ry h
  obtain ⟨i, j, rfl, rfl, q⟩ := h
  obtain ⟨t, rfl⟩ := rx
  obtain ⟨t', rfl⟩ := ry
  exact rule i j t t' s _ _ ⟨.int (g i j), H, I.tok _, ⟨_, rfl⟩, q⟩
theorem qGz {f : Value → Value → Sem Value} {g : Int → Int → Bool}
    (rule : ∀ (i j : Int) (t u : Tok) (s : Shared) (Q : Value → Shared → Prop) (E : Value → Shared → Prop), Q (.bool (g i j)) s → wpAny (model X.prog X.w) X.A (f (.int i t) (.int j u)) Q E s) :
    OpR X f (rI0 fun i j => .bl (g i j)) := by
  intro pins s σ H x y v u Q I rx ry h
  obtain ⟨i, j, rfl, rfl, q⟩ := h
  obtain ⟨t, rfl⟩ := rx
  obtain ⟨t', rfl⟩ := ry
  exact rule i j t t' s _ _ ⟨.bl (g i j), H, I, rfl, q⟩
def qH0 (i j : Int) : Prop := 0 ≤ j ∧ j ≤ 1000000 ∧ i.natAbs < 2 ^ 64
def CMul (i j : Int) : Prop := (-(2 ^ 64) < i ∧ i < 2 ^ 64) ∨ (-(2 ^ 64) < j ∧ j < 2 ^ 64)
theorem CMul.ok {i j : Int} (h : CMul i j) : IntMulOk i j := by
  rcases h with ⟨h1, h2⟩ | ⟨h1, h2⟩
  · exact .of_left (intBits_le_64 h1 h2)
  · exact .of_right (intBits_le_64 h1 h2)
theorem jW : OpR X (binaryOp .Add) (rI0 fun i j => .int (i + j)) := qH2 fun _ _ _ _ _ _ _ q => add_int q
theorem wn : OpR X (binaryOp .Sub) (rI0 fun i j => .int (i - j)) := qH2 fun _ _ _ _ _ _ _ q => sub_int q
theorem qh : OpR X (binaryOp .Mod) (rI (fun _ j => j ≠ 0) fun i j => .int (i.fmod j)) := opI fun _ _ _ _ _ _ _ hc q => mod_int' hc q
theorem qF6 : OpR X (binaryOp .Pow) (rI qH0 fun i j => .int (i ^ j.toNat)) := opI fun _ _ _ _ _ _ _ hc q => pow_int_small hc.1 hc.2.1 hc.2.2 q
theorem unI {f : Value → Sem Value} {g : Int → Int}
    (rule : ∀ (i : Int) (t : Tok) (s : Shared) (Q : Value → Shared → Prop) (E : Value → Shared → Prop), Q (.int (g i) s.toks) { s with toks := s.toks + 1 } → wpAny (model X.prog X.w) X.A (f (.int i t)) Q E s) :
    UnR X f (rU fun i => .int (g i)) := by
  intro pins s σ H x v Q I rx h
  obtain ⟨i, rfl, q⟩ := h
  obtain ⟨t, rfl⟩ := rx
  exact rule i t s _ _ ⟨.int (g i), H, I.tok _, ⟨_, rfl⟩, q⟩
theorem xP : UnR X (unaryOp .USub) (rU fun i => .int (-i)) := unI fun _ _ _ _ _ q => neg_int q
end
def qHu : V → V → Bool
  | .non, .non => true | .non, .int _ => true | .int _, .non => true | .non, .bl _ => true | .bl _, .non => true | .non, .str _ => true | .str _, .non => true
  | .int _, .int _ => true | .bl _, .bl _ => true | .str _, .str _ => true | .byt _, .byt _ => true
  | .int _, .str _ => true | .str _, .int _ => true | .bl _, .str _ => true | .str _, .bl _ => true
  | _, _ => false
def rEq : R2 := fun x y H Q => qHu x y = true ∧ Q (.bl (decide (x = y))) H
def rNe : R2 := fun x y H Q => qHu x y = true ∧ Q (.bl (!decide (x = y))) H
theorem qB8 {i j : Int} : decide (V.int i = V.int j) = (i == j) := by
  rw [Bool.eq_iff_iff]
  simp
theorem qD0 {i j : Bool} : decide (V.bl i = V.bl j) = (i == j) := by
  rw [Bool.eq_iff_iff]
  simp
theorem qBf {i j : Str} : decide (V.str i = V.str j) = (i == j) := by
  rw [Bool.eq_iff_iff]
  simp
theorem qBn {i j : Array UInt8} : decide (V.byt i = V.byt j) = (i.toList == j.toList) := by
  rw [Bool.eq_iff_iff]
  cases i
  cases j
  simp
section
variable {X : Cx} {a b c : Expr} {ta tb tc : TE} {pos : Pos}
theorem jB {pins : List (Addr × Obj)} {σ : St} {H : Hp} {s : Shared} {Q : VK} {k k' : Bool} (I : Inv X pins σ H s) (q : Q (.bl k) H) (e : k = k') : EP X pins σ Q (.bool k') s := by
  subst e
  exact ⟨.bl k, H, I, rfl, q⟩
theorem jc : OpR X (compareOp .Eq) rEq := by
  intro pins s σ H x y v u Q I rx ry h
  obtain ⟨hs, q⟩ := h
  cases x with
  | non =>
    cases rx
    cases y with
    | non => cases ry; exact PySem.EqNone.eq_none_none (jB I q (by simp))
    | bl j => cases ry; exact PySem.EqNone.eq_none_bool (jB I q (by simp))
    | int j => obtain ⟨t', rfl⟩ := ry; exact PySem.EqNone.eq_none_int (jB I q (by simp))
    | str j => obtain ⟨t', rfl⟩ := ry; exact PySem.EqNone.eq_none_str (jB I q (by simp))
    | _ => exact absurd (show false = true from hs) Bool.false_ne_true
  | bl i =>
    cases rx
    cases y with
    | non => cases ry; exact PySem.EqNone.eq_bool_none (jB I q (by simp))
    | bl j => cases ry; exact eq_bool (jB I q qD0)
    | str j => obtain ⟨t', rfl⟩ := ry; exact PySem.EqMixed.eq_bool_str (jB I q (by simp))
    | _ => exact absurd (show false = true from hs) Bool.false_ne_true
  | int i =>
    obtain ⟨t, rfl⟩ := rx
    cases y with
    | non => cases ry; exact PySem.EqNone.eq_int_none (jB I q (by simp))
    | int j => obtain ⟨t', rfl⟩ := ry; exact eq_int (jB I q qB8)
    | str j => obtain ⟨t', rfl⟩ := ry; exact PySem.EqMixed.eq_int_str (jB I q (by simp))
    | _ => exact absurd (show false = true from hs) Bool.false_ne_true
  | str i =>
    obtain ⟨t, rfl⟩ := rx
    cases y with
    | non => cases ry; exact PySem.EqNone.eq_str_none (jB I q (by simp))
    | bl j => cases ry; exact PySem.EqMixed.eq_str_bool (jB I q (by simp))
    | int j => obtain ⟨t', rfl⟩ := ry; exact PySem.EqMixed.eq_str_int (jB I q (by simp))
    | str j => obtain ⟨t', rfl⟩ := ry; exact eq_str (jB I q qBf)
    | _ => exact absurd (show false = true from hs) Bool.false_ne_true
  | byt i =>
    obtain ⟨t, rfl⟩ := rx
    cases y with
    | byt j => obtain ⟨t', rfl⟩ := ry; exact PySem.W.eq_bytes (jB I q qBn)
    | _ => exact absurd (show false = true from hs) Bool.false_ne_true
  | _ => cases y <;> exact absurd (show false = true from hs) Bool.false_ne_true
theorem xH : OpR X (compareOp .NotEq) rNe := by
  intro pins s σ H x y v u Q I rx ry h
  obtain ⟨hs, q⟩ := h
  cases x with
  | non =>
    cases rx
    cases y with
    | non => cases ry; exact PySem.EqNone.ne_none_none (jB I q (by simp))
    | bl j => cases ry; exact PySem.EqNone.ne_none_bool (jB I q (by simp))
    | int j => obtain ⟨t', rfl⟩ := ry; exact PySem.EqNone.ne_none_int (jB I q (by simp))
    | str j => obtain ⟨t', rfl⟩ := ry; exact PySem.EqNone.ne_none_str (jB I q (by simp))
    | _ => exact absurd (show false = true from hs) Bool.false_ne_true
  | bl i =>
    cases rx
    cases y with
    | non => cases ry; exact PySem.EqNone.ne_bool_none (jB I q (by simp))
    | bl j => cases ry; exact ne_bool (jB I q (congrArg not qD0))
    | str j => obtain ⟨t', rfl⟩ := ry; exact PySem.EqMixed.ne_bool_str (jB I q (by simp))
    | _ => exact absurd (show false = true from hs) Bool.false_ne_true
  | int i =>
    obtain ⟨t, rfl⟩ := rx
    cases y with
    | non => cases ry; exact PySem.EqNone.ne_int_none (jB I q (by simp))
    | int j => obtain ⟨t', rfl⟩ := ry; exact ne_int (jB I q (congrArg not qB8))
    | str j => obtain ⟨t', rfl⟩ := ry; exact PySem.EqMixed.ne_int_str (jB I q (by simp))
    | _ => exact absurd (show false = true from hs) Bool.false_ne_true
  | str i =>
    obtain ⟨t, rfl⟩ := rx
    cases y with
    | non => cases ry; exact PySem.EqNone.ne_str_none (jB I q (by simp))
    | bl j => cases ry; exact PySem.EqMixed.ne_str_bool (jB I q (by simp))
    | int j => obtain ⟨t', rfl⟩ := ry; exact PySem.EqMixed.ne_str_int (jB I q (by simp))
    | str j => obtain ⟨t', rfl⟩ := ry; exact ne_str (jB I q (congrArg not qBf))
    | _ => exact absurd (show false = true from hs) Bool.false_ne_true
  | byt i =>
    obtain ⟨t, rfl⟩ := rx
    cases y with
    | byt j => obtain ⟨t', rfl⟩ := ry; exact PySem.W.ne_bytes (jB I q (congrArg not qBn))
    | _ => exact absurd (show false = true from hs) Bool.false_ne_true
  | _ => cases y <;> exact absurd (show false = true from hs) Bool.false_ne_true
theorem wD : OpR X (compareOp .Lt) (rI0 fun i j => .bl (decide (i < j))) := qGz fun _ _ _ _ _ _ _ q => lt_int q
theorem qG1 : OpR X (compareOp .LtE) (rI0 fun i j => .bl (decide (i ≤ j))) := qGz fun _ _ _ _ _ _ _ q => le_int q
theorem qDf : OpR X (compareOp .Gt) (rI0 fun i j => .bl (decide (j < i))) := qGz fun _ _ _ _ _ _ _ q => gt_int q
theorem qCu : OpR X (compareOp .GtE) (rI0 fun i j => .bl (decide (j ≤ i))) := qGz fun _ _ _ _ _ _ _ q => ge_int q
theorem OpR.or {f : Value → Value → Sem Value} {r r' : R2} (h : OpR X f r) (h' : OpR X f r') : OpR X f (fun x y H Q => r x y H Q ∨ r' x y H Q) := by
  intro pins s σ H x y v u Q I rx ry q
  rcases q with q | q
  · exact h pins s σ H x y v u Q I rx ry q
  · exact h' pins s σ H x y v u Q I rx ry q
theorem qL (b : Expr) {op : CmpOp} (h : op ≠ .In := by decide) (h2 : op ≠ .NotIn := by decide) : behindInMarks op b = false := by
  have e1 : (op == CmpOp.In) = false := by cases op <;> first | rfl | exact absurd rfl h
  have e2 : (op == CmpOp.NotIn) = false := by cases op <;> first | rfl | exact absurd rfl h2
  cases b <;> simp [behindInMarks, e1, e2]
theorem qv {op : CmpOp} {r : R2} (ho : OpR X (compareOp op) r) (ha : PE X a ta) (hb : PE X b tb) (hm : behindInMarks op b = false) : PE X (.Compare a [op] [b] pos) (tOp r ta tb) := by
  intro pins s σ H Q I h
  exact wpAny_Compare1 (qHv ha hb I h fun v u s2 x y H2 I2 rx ry q => ho pins s2 σ H2 x y v u Q I2 rx ry q) hm
def qFp (t : TE) : TT := fun σ H Q => t σ H fun x H' => ∃ k, x = .bl k ∧ Q k H'
theorem qM {op : CmpOp} {r : R2} (ho : OpR X (compareOp op) r) (ha : PE X a ta) (hb : PE X b tb) (hm : behindInMarks op b = false) : PT X (.Compare a [op] [b] pos) (qFp (tOp r ta tb)) := by
  intro pins s σ H Q I h
  refine wpAny_isTrue_Compare1 (thn (ha pins s σ H _ I h) fun v s1 ⟨x, H1, I1, r1, q1⟩ => thn (hb pins s1 σ H1 _ I1 q1) fun u s2 ⟨y, H2, I2, r2, q2⟩ =>
    thn (ho pins s2 σ H2 x y v u _ I2 r1 r2 q2) fun c s3 ⟨z, H3, I3, r3, k, e, q3⟩ => ?_) hm
  subst e
  cases r3
  exact wpAny_truthy_bool ⟨H3, I3, q3⟩
def qGf (r r' : R2) (ta tb tc : TE) : TE := fun σ H Q => ta σ H fun x H1 => tb σ H1 fun y H2 => r x y H2 fun z H3 => ∃ k, z = .bl k ∧
  (if k = true then tc σ H3 fun w' H4 => r' y w' H4 Q else Q (.bl false) H3)
theorem qDo {op op' : CmpOp} {r r' : R2} (ho : OpR X (compareOp op) r) (ho' : OpR X (compareOp op') r') (ha : PE X a ta) (hb : PE X b tb) (hc : PE X c tc)
    (hm : lastMarks [op, op'] [b, c] = false := by with_unfolding_all rfl) : PT X (.Compare a [op, op'] [b, c] pos) (qFp (qGf r r' ta tb tc)) := by
  intro pins s σ H Q I h
  refine isTrue_chain (thn (ha pins s σ H _ I h) fun v s1 ⟨x, H1, I1, r1, q1⟩ => test_link (thn (hb pins s1 σ H1 _ I1 q1) fun u s2 ⟨y, H2, I2, r2, q2⟩ =>
    thn (ho pins s2 σ H2 x y v u _ I2 r1 r2 q2) fun d s3 ⟨z, H3, I3, r3, k, e, q3⟩ => ?_)) hm
  subst e
  cases r3
  refine wpAny_truthy_bool ?_
  cases k with
  | false =>
    obtain ⟨k', e', q'⟩ := q3
    cases e'
    exact ite_ff ⟨H3, I3, q'⟩
  | true =>
    refine ite_tt (test_last (thn (hc pins s3 σ H3 _ I3 q3) fun w' s4 ⟨z', H4, I4, r4, q4⟩ => thn (ho' pins s4 σ H4 y z' u w' _ I4 r2 r4 q4) fun d' s5 ⟨z2, H5, I5, r5, k2, e2, q5⟩ => ?_))
    subst e2
    cases r5
    exact wpAny_truthy_bool ⟨H5, I5, q5⟩
theorem ww : (sizeLine : Nat) < 2 ^ 63 := by rw [sizeLine_eq]; decide
theorem qA6 {x : V} {us : List Value} (r : Vals [x] us) : ∃ u, us = [u] ∧ RelV x u := by
  cases r with
  | cons r1 r2 => cases r2; exact ⟨_, rfl, r1⟩
theorem qEe {x y : V} {us : List Value} (r : Vals [x, y] us) : ∃ u w', us = [u, w'] ∧ RelV x u ∧ RelV y w' := by
  cases r with
  | cons r1 r2 =>
    cases r2 with
    | cons r3 r4 => cases r4; exact ⟨_, _, rfl, r1, r3⟩
theorem qAc : CallR X (.builtin "abs") (fun xs H Q => ∃ i, xs = [.int i] ∧ Q (.int (if i < 0 then -i else i)) H) := by
  intro pins s σ H xs us Q I r h
  obtain ⟨i, rfl, q⟩ := h
  obtain ⟨u, rfl, t, rfl⟩ := qA6 r
  exact call_abs_int fun u tk => ⟨.int (if i < 0 then -i else i), H, I.tok _, ⟨_, rfl⟩, q⟩
end
end L2
namespace L2
open PySem PySem.Spec PyProof.Rows
structure ObjM (h : Heap) (x dx C : Addr) (mA : Str → Option Value) : Prop where
  obj : h.get? x = some (PySem.W.instObj C dx)
  ns : h.Ns1 dx mA
  ne : dx ≠ x
theorem qBv {h : Heap} {dx : Addr} {mA : Str → Option Value} (n : h.Ns1 dx mA) : ∃ od, h.get? dx = some od ∧ ∀ name, PySem.W.lookIn name od = some (mA name) := by
  obtain ⟨o, es, ep, ho, hd, hk, _, hm⟩ := n
  refine ⟨o, ho, fun name => ?_⟩
  have e := hm name
  unfold nsFind findBy at e
  rw [← Array.find?_toList] at e
  unfold PySem.W.lookIn
  rw [hd]
  dsimp only
  split
  · rename_i y q
    rw [q] at e
    exact congrArg some e
  · rename_i q
    rw [q] at e
    have a : es.toList.any (·.refKey) = false := by
      rw [List.any_eq_false]
      intro y hy
      obtain ⟨z, t, hkey⟩ := hk y (Array.mem_toList_iff.mp hy)
      simp [DictEntry.refKey, hkey]
    have a' : ¬ es.toList.any (·.refKey) = true := by rw [a]; exact Bool.false_ne_true
    rw [if_neg a']
    exact congrArg some e
theorem ObjM.look {h : Heap} {x dx C : Addr} {mA : Str → Option Value} (I : ObjM h x dx C mA) : ∃ od, PySem.W.InstAt h x (PySem.W.instObj C dx) C (some od) ∧ ∀ name, PySem.W.lookIn name od = some (mA name) :=
  let ⟨od, ho, hl⟩ := qBv I.ns
  ⟨od, ⟨I.obj, rfl, rfl, ho⟩, hl⟩
section
variable {prog : Program} {w : World} {A : Around} {E : Value → Shared → Prop} {s : Shared} {K : PySem.W.Frag} {x dx C f : Addr} {mA : Str → Option Value} {name : Str} {v : Value}
end
section
variable {P : Program} {w : World} {H H' : Hp} {h h' : Heap} {a C dx : Addr} {fs fs' : List (Str × V)}
theorem qFd (hok : HOk P w H h) (e : H a = some (.ins C dx fs)) : ∃ mA, ObjM h a dx C mA ∧ (∀ f, RelO (fs.lookup f) (mA f)) ∧ PySem.Within mA (fs.map (·.1)) ∧ fs.length ≤ 1000 ∧ H dx = some (.own a) := by
  obtain ⟨d, z, ne, ob, mA, n, r, q⟩ := (show ObjOk P w H h a (.ins C dx fs) from hok a _ e)
  exact ⟨mA, ⟨ob, n, ne⟩, r, q, z, d⟩
end
structure Cls (K : PySem.W.Frag) (C : Addr) : Prop where
  pg : PySem.W.plainGet K C Str.empty = true
  hd : PySem.W.hasDictIn K C = true
  po : PySem.W.plainOver K C = true
  sa : PySem.W.findIn K (.ref C) "__setattr__" = some (some (.builtin "object.__setattr__"))
theorem Cls.get {K : PySem.W.Frag} {C : Addr} (c : Cls K C) (f : Str) : PySem.W.plainGet K C f = true := c.pg
structure Con (K : PySem.W.Frag) (C : Addr) (f : Str) (v : V) (u : Value) : Prop where
  at_ : PySem.W.findIn K (.ref C) f = some (some u)
  rel : RelV v u
  get : PySem.W.specialIn K u "__get__" = some none
  cp : PySem.W.copiedNames.contains f = false
structure Meth (K : PySem.W.Frag) (C : Addr) (m : Str) (f : Addr) : Prop where
  at_ : PySem.W.findIn K (.ref C) m = some (some (.ref f))
  fn : PySem.W.isFn K (.ref f) = true
  kp : PySem.W.keepIn K (.ref f) = true
section
variable {X : Cx} {pins : List (Addr × Obj)} {σ : St} {H : Hp} {s : Shared} {a C dx : Addr} {fs : List (Str × V)} {f : Str} {v : V} {A : Around} {E : Value → Shared → Prop}
theorem Inv.made (I : Inv X pins σ H s) : Inv X pins σ (upd (upd H s.heap.objs.size (.own (s.heap.objs.size + 1))) (s.heap.objs.size + 1) (.ins C s.heap.objs.size []))
    { s with heap := (s.heap.push PySem.W.emptyDict).push (PySem.W.instObj C s.heap.objs.size) } := by
  have e1 : (s.heap.push PySem.W.emptyDict).get? s.heap.objs.size = some PySem.W.emptyDict := Heap.get?_push_size s.heap rfl
  have e2 : ((s.heap.push PySem.W.emptyDict).push (PySem.W.instObj C s.heap.objs.size)).get? (s.heap.objs.size + 1) = some (PySem.W.instObj C s.heap.objs.size) := by
    have := Heap.get?_push_size (s.heap.push PySem.W.emptyDict) (o := PySem.W.instObj C s.heap.objs.size) rfl
    rwa [Heap.size_push] at this
  have e3 : (s.heap.push PySem.W.emptyDict).Ns s.heap.objs.size (fun _ => none) := ⟨PySem.W.emptyDict, #[], _, e1, rfl, (fun e he => absurd he (by simp)), fun _ => rfl⟩
  have I1 := I.laid (a := s.heap.objs.size) (o := .own (s.heap.objs.size + 1)) (h' := s.heap.push PySem.W.emptyDict) (t' := s.toks) (fun b u q => Heap.get?_push_of_some _ q) (Nat.le_refl _) ⟨_, e1⟩
  refine I1.laid (a := s.heap.objs.size + 1) (o := .ins C s.heap.objs.size []) (t' := s.toks) (fun b u q => Heap.get?_push_of_some _ q) (Nat.le_of_eq (Heap.size_push _ _)) ?_
  have ne : s.heap.objs.size ≠ s.heap.objs.size + 1 := Nat.ne_of_lt (Nat.lt_succ_self _)
  refine ⟨by rw [qV ne, qB], Nat.zero_le _, ne, e2, fun _ => none, (Heap.Ns1.of_empty e3).at fun o q => Heap.get?_push_of_some _ q, fun _ => True.intro, fun y hy => absurd rfl hy⟩
theorem qE5 {prog : Program} {w : World} {env : Env} {e : Expr} {f : Str} {pos : Pos} {s : Shared} {Q : Value → Shared → Prop} (hb : attributeBase e f env (eval e env) = eval e env)
    (h : wpAny (model prog w) A (eval e env) (fun o s₁ => wpAny (model prog w) A (getAttr o f true) Q E s₁) E s) : wpAny (model prog w) A (eval (.Attribute e f pos) env) Q E s :=
  Attribute_any_ h (by rw [arm_eval_Attribute, hb])
end
section
variable {X : Cx} {o e value : Expr} {f : Str} {pos pos' tpos : Pos} {ta tv : TE}
end
section
variable {X : Cx} {pins : List (Addr × Obj)} {σ : St} {H : Hp} {s : Shared} {A : Around} {E : Value → Shared → Prop} {Q : Value → Shared → Prop} {c : Value} {b : Bool}
inductive vW (K : PySem.W.Frag) (H : Hp) : V → Value → Prop where
  | non : vW K H .non (.type "NoneType")
  | bl (x : Bool) : vW K H (.bl x) (.type "bool")
  | int (i : Int) : vW K H (.int i) (.type "int")
  | str (x : Str) : vW K H (.str x) (.type "str")
  | flt (x : UInt64) : vW K H (.flt x) (.type "float")
  | lst {a : Addr} {xs : List V} (e : H a = some (.lst xs)) : vW K H (.ref a) (.type "list")
  | frz {a : Addr} {o : Obj} {xs : List V} (e : H a = some (.frz o (.lst xs))) : vW K H (.ref a) (.type "list")
  | tup {a : Addr} {xs : List V} (e : H a = some (.tup xs)) : vW K H (.ref a) (.type "tuple")
  | dK {a : Addr} {kvs : List (Key × V)} (e : H a = some (.dK kvs)) : vW K H (.ref a) (.type "dict")
  | dT {a : Addr} {kvs : List (List Key × V)} (e : H a = some (.dT kvs)) : vW K H (.ref a) (.type "dict")
  | ins {a C dx : Addr} {fs : List (Str × V)} (e : H a = some (.ins C dx fs)) (cl : Cls K C) (ha : PySem.W.findIn K (.ref C) "__class__" = some (some (.builtin "object.__class__")))
      (hn : PySem.W.specialIn K (.builtin "object.__class__") "__get__" = some (some (.builtin "getset_descriptor.__get__"))) (htk : PySem.W.takesIn K (.builtin "object.__class__") = some true)
      (hm : PySem.W.mroIn K C (.type "object") = some true) : vW K H (.ref a) (.ref C)
theorem wF {x : V} {u t : Value} (I : Inv X pins σ H s) (rx : RelV x u) (ty : vW X.K H x t) (e : PySem.W.kitOne X.K t c = some b) (h : ∀ tk, Q (.bool b) { s with toks := tk }) :
    wpAny (model X.prog X.w) A (call (.builtin "isinstance") [u, c]) Q E s := by
  cases ty with
  | non => cases (show u = Value.none from rx); exact PySem.W.kia_one PySem.W.kitx_none I.kIn True.intro e (fun z => nomatch z) h
  | bl y => cases (show u = Value.bool y from rx); exact PySem.W.kia_one PySem.W.kitx_bool I.kIn True.intro e (fun z => nomatch z) h
  | int i => obtain ⟨t, q⟩ := (show ∃ t, u = Value.int i t from rx); cases q; exact PySem.W.kia_one PySem.W.kitx_int I.kIn True.intro e (fun z => nomatch z) h
  | str y => obtain ⟨t, q⟩ := (show ∃ t, u = Value.str y t from rx); cases q; exact PySem.W.kia_one PySem.W.kitx_str I.kIn True.intro e (fun z => nomatch z) h
  | flt y => obtain ⟨t, q⟩ := (show ∃ t, u = Value.float y t from rx); cases q; exact PySem.W.kia_one PySem.W.kitx_float I.kIn True.intro e (fun z => nomatch z) h
  | @lst a xs ea =>
    cases (show u = Value.ref a from rx)
    obtain ⟨_, _, n, _, h1⟩ := (show ObjOk X.prog X.w H s.heap a (.lst xs) from I.hok a _ ea)
    exact PySem.W.kia_one PySem.W.kitx_list I.kIn ⟨_, h1, rfl⟩ e (fun z => nomatch z) h
  | @frz a ob xs ea =>
    cases (show u = Value.ref a from rx)
    obtain ⟨_, _, _, n, _, h1⟩ := (show ObjOk X.prog X.w H s.heap a (.frz ob (.lst xs)) from I.hok a _ ea)
    exact PySem.W.kia_one PySem.W.kitx_list I.kIn ⟨_, h1, rfl⟩ e (fun z => nomatch z) h
  | @tup a xs ea =>
    cases (show u = Value.ref a from rx)
    obtain ⟨_, _, _, p⟩ := (show ObjOk X.prog X.w H s.heap a (.tup xs) from I.hok a _ ea)
    obtain ⟨o, h1, h2, _⟩ := p
    exact PySem.W.kia_one PySem.W.kitx_tuple I.kIn ⟨o, h1, h2⟩ e (fun z => nomatch z) h
  | @dK a kvs ea =>
    cases (show u = Value.ref a from rx)
    obtain ⟨_, _, vs, _, p⟩ := (show ObjOk X.prog X.w H s.heap a (.dK kvs) from I.hok a _ ea)
    obtain ⟨o, es, ep, h1, h2, _⟩ := p
    exact PySem.W.kia_one PySem.W.kitx_dict I.kIn ⟨o, h1, h2.1⟩ e (fun z => nomatch z) h
  | @dT a kvs ea =>
    cases (show u = Value.ref a from rx)
    obtain ⟨_, _, xs, _, o, es, ep, h1, h2, _⟩ := (show ObjOk X.prog X.w H s.heap a (.dT kvs) from I.hok a _ ea)
    exact PySem.W.kia_one PySem.W.kitx_dict I.kIn ⟨o, h1, h2.1⟩ e (fun z => nomatch z) h
  | @ins a C dx fs ea cl ha hn htk hm =>
    cases (show u = Value.ref a from rx)
    obtain ⟨mA, O, _⟩ := qFd I.hok ea
    obtain ⟨od, J, _⟩ := O.look
    exact PySem.W.kia_one (PySem.W.kitx_own (cl.get _) cl.hd ha hn htk hm) I.kIn J e (fun z => nomatch z) h
end
end L2
namespace L2
open PySem PySem.Spec PyProof.Rows
structure Room (k : Nat) (A : Around) : Prop where
  hd : A.handled = none
  dp : A.depth + 3 * k + 5 < recursionLimit
  un : A.units + 16 * k + 200 < cLine
theorem Room.mono {j k : Nat} {A : Around} (r : Room k A) (h : j ≤ k) : Room j A := ⟨r.hd, by have := r.dp; omega, by have := r.un; omega⟩
theorem Room.deeper {k : Nat} {A : Around} (r : Room (k + 1) A) (env : Env) : Room k (A.deeper env) :=
  ⟨r.hd, by have := r.dp; show A.depth + 1 + 3 * k + 5 < _; omega, by have := r.un; show A.units + 3 + 16 * k + 200 < _; omega⟩
theorem Room.in1 {k : Nat} {A : Around} (r : Room (k + 1) A) : Room k A.in1 :=
  ⟨r.hd, by have := r.dp; show A.depth + 3 * k + 5 < _; omega, by have := r.un; show A.units + 1 + 16 * k + 200 < _; omega⟩
theorem qAp {A : Around} {C : Addr} {us : List Value} {kw : List (Str × Value)} : (A.under (.builtin "type.__call__" ⟨.ref C :: us, kw⟩)).depth = A.depth + 1 := by
  first | rfl | simp [Around.under, Code.weight, Code.isCreation, Code.isGuard, Code.isCaller, Code.frames, Code.isFrame, guardIds]
theorem qAm {A : Around} {C : Addr} {us : List Value} {kw : List (Str × Value)} : (A.under (.builtin "type.__call__" ⟨.ref C :: us, kw⟩)).units = A.units + 1 := by
  first | rfl | simp [Around.under, Code.cUnits, Code.frames, Code.isFrame]
theorem Room.make {k : Nat} {A : Around} (r : Room (k + 1) A) (C : Addr) (us : List Value) (kw : List (Str × Value)) : Room k (A.under (.builtin "type.__call__" ⟨.ref C :: us, kw⟩)) :=
  ⟨r.hd, by have := r.dp; rw [qAp]; omega, by have := r.un; rw [qAm]; omega⟩
theorem Room.depth {k : Nat} {A : Around} (r : Room k A) : A.depth < recursionLimit := by have := r.dp; omega
theorem Room.units {k : Nat} {A : Around} (r : Room k A) : A.units + 64 < cLine := by have := r.un; omega
theorem Room.units0 {k : Nat} {A : Around} (r : Room k A) : A.units < cLine := by have := r.un; omega
def qIv : TA := fun _ H Q => Q [] H
def qHj (ta : TE) (tr : TA) : TA := fun σ H Q => ta σ H fun x H1 => tr σ H1 fun xs H2 => Q (x :: xs) H2
section
variable {X : Cx} {e : Expr} {es : List Expr} {te : TE} {t : TA} {pos : Pos}
theorem qE : PA X [] qIv := fun _ _ _ _ H Q I h => Calls.spliced_nil ⟨[], H, I, .nil, h⟩
theorem qA (ha : PE X e te) (hr : PA X es t) (hs : starEach (e :: es) X.env = (false, eval e X.env) :: starEach es X.env := by rfl) : PA X (e :: es) (qHj te t) := by
  intro pos pins s σ H Q I h
  rw [hs]
  show wpAny _ _ (spliced ((false, eval e X.env) :: backTo pos (starEach es X.env))) _ _ s
  refine Calls.spliced_cons (thn (ha pins s σ H _ I h) fun u s1 ⟨x, H1, I1, r1, q1⟩ => ?_)
  exact thn (hr pos pins s1 σ H1 _ I1 q1) fun us s2 ⟨xs, H2, I2, r2, q2⟩ => ⟨x :: xs, H2, I2, .cons r1 r2, q2⟩
def qIx (t : TA) : TE := fun σ H Q => t σ H fun xs H1 => xs.length ≤ sizeLine ∧ ∀ p, H1 p = none → Q (.ref p) (upd H1 p (.tup xs))
def qIa (t : TA) : TE := fun σ H Q => t σ H fun xs H1 => xs.length ≤ sizeLine ∧ ∀ p, H1 p = none → Q (.ref p) (upd H1 p (.lst xs))
theorem qO {x1} (h : PA X es t) : PE X (.Tuple es x1 pos) (qIx t) := by
  intro pins s σ H Q I hq
  refine wpAny_Tuple_spliced (thn (h pos pins s σ H _ I hq) fun us s1 ⟨xs, H1, I1, r, z, q⟩ => ⟨by rw [← r.length]; exact z, ?_⟩)
  have hf : H1 s1.heap.objs.size = none := I1.hok.fresh (Nat.le_refl _)
  refine ⟨.ref s1.heap.objs.size, upd H1 s1.heap.objs.size (.tup xs), I1.laid (t' := s1.toks) (fun b u e => Heap.get?_push_of_some _ e) (Nat.le_refl _) ?_, rfl, q _ hf⟩
  exact ⟨z, us, r, ⟨_, Heap.get?_push_size _ rfl, rfl, _, rfl⟩⟩
theorem jF (h : PA X es t) : PE X (.List es pos) (qIa t) := by
  intro pins s σ H Q I hq
  refine wpAny_List_spliced (thn (h pos pins s σ H _ I hq) fun us s1 ⟨xs, H1, I1, r, z, q⟩ => ⟨by rw [← r.length]; exact z, ?_⟩)
  have hf : H1 s1.heap.objs.size = none := I1.hok.fresh (Nat.le_refl _)
  refine ⟨.ref s1.heap.objs.size, upd H1 s1.heap.objs.size (.lst xs), I1.laid (t' := s1.toks) (fun b u e => Heap.get?_push_of_some _ e) (Nat.le_refl _) ?_, rfl, q _ hf⟩
  exact ⟨z, us, 0, r, Heap.get?_push_size _ rfl⟩
end
abbrev Sp := List V → Hp → VK → XK → Prop
abbrev CXT := List Env → Hp → Shared → XK → Value → Shared → Prop
structure Env0 (P : Program) (w : World) (K : PySem.W.Frag) (mg : Str → Option Value) (base : Heap) (A : Around) (outer : List Env) (s : Shared) (H : Hp) : Prop where
  frames : A.frames = some outer
  mod : Mod K mg base
  bs : ∀ b o, base.get? b = some o → s.heap.get? b = some o ∧ H b = none
  bsz : base.objs.size ≤ s.heap.objs.size
  funs : s.heap.FunFrames base outer
  frf : ∀ b ∈ frs outer, H b = none
  hok : HOk P w H s.heap
  bare : AllBare s.gens
def CE (outer : List Env) (P : Program) (w : World) (H : Hp) (s : Shared) (Q : VK) (u : Value) (s' : Shared) : Prop :=
  ∃ v H', s'.os = s.os ∧ AllBare s'.gens ∧ Un (frs outer) [] H H' s.heap s'.heap ∧ HOk P w H' s'.heap ∧ RelV v u ∧ Q v H'
def CR (CX : CXT) (outer : List Env) (P : Program) (w : World) (H : Hp) (s : Shared) (Q : VK) (E : XK) (r : Result) (s' : Shared) : Prop :=
  match r with
  | .ok (.ret u) => CE outer P w H s Q u s'
  | .ok _ => False
  | .error e => CX outer H s E e s'
structure FnOk (P : Program) (w : World) (K : PySem.W.Frag) (mg : Str → Option Value) (base : Heap) (CX : CXT) (k : Nat) (f : Addr) (fd : FuncData) (ps : List Str) (sp : Sp) : Prop where
  len : ∀ vs H Q E, sp vs H Q E → vs.length = ps.length
  run : ∀ (A : Around) (outer : List Env) (s : Shared) (H : Hp) (args : Args) (us : List Value) (vs : List V) (Q : VK) (E : XK), Room k A → Env0 P w K mg base A outer s H → BindsTo s fd args (ps.zip us) → Vals vs us → sp vs H Q E →
    codeAny (model P w) A (.call (.ref f) args) (CR CX outer P w H s Q E) s
theorem FnOk.mono {P : Program} {w : World} {K : PySem.W.Frag} {mg : Str → Option Value} {base : Heap} {CX : CXT} {j k : Nat} {f : Addr} {fd : FuncData} {ps : List Str} {sp : Sp} (F : FnOk P w K mg base CX j f fd ps sp) (h : j ≤ k) :
    FnOk P w K mg base CX k f fd ps sp := ⟨F.len, fun A outer s H args us vs Q E hr => F.run A outer s H args us vs Q E (hr.mono h)⟩
theorem FnOk.imp {P : Program} {w : World} {K : PySem.W.Frag} {mg : Str → Option Value} {base : Heap} {CX : CXT} {k : Nat} {f : Addr} {fd : FuncData} {ps : List Str} {sp sp' : Sp} (F : FnOk P w K mg base CX k f fd ps sp)
    (h : ∀ vs H Q E, sp' vs H Q E → sp vs H Q E) : FnOk P w K mg base CX k f fd ps sp' :=
  ⟨fun vs H Q E q => F.len vs H Q E (h _ _ _ _ q), fun A outer s H args us vs Q E hr he hb hv hs => F.run A outer s H args us vs Q E hr he hb hv (h _ _ _ _ hs)⟩
theorem Env0.make {P : Program} {w : World} {K : PySem.W.Frag} {mg : Str → Option Value} {base : Heap} {A : Around} {outer : List Env} {s : Shared} {H : Hp} (e : Env0 P w K mg base A outer s H) (C : Addr) (us : List Value) (kw : List (Str × Value)) :
    Env0 P w K mg base (A.under (.builtin "type.__call__" ⟨.ref C :: us, kw⟩)) outer s H := ⟨by first | exact e.frames | (simpa [Around.under, Code.envs, Code.isFrame, pushEnvs] using e.frames), e.mod, e.bs, e.bsz, e.funs, e.frf, e.hok, e.bare⟩
theorem Env0.in1 {P : Program} {w : World} {K : PySem.W.Frag} {mg : Str → Option Value} {base : Heap} {A : Around} {outer : List Env} {s : Shared} {H : Hp} (e : Env0 P w K mg base A outer s H) :
    Env0 P w K mg base A.in1 outer s H := ⟨e.frames, e.mod, e.bs, e.bsz, e.funs, e.frf, e.hok, e.bare⟩
section
variable {X : Cx} {pins : List (Addr × Obj)} {σ : St} {H : Hp} {s s' : Shared}
theorem Inv.env0 (I : Inv X pins σ H s) : Env0 X.prog X.w X.K X.mg X.base X.A X.stack s H :=
  ⟨I.ok.frames, I.ok.mod, I.bs, Nat.le_trans I.ok.bsz I.sz, I.stack, I.stkFree, I.hok, I.bare⟩
theorem Inv.after {Q : VK} {u : Value} (I : Inv X pins σ H s) (h : CE X.stack X.prog X.w H s Q u s') : EP X pins σ Q u s' := by
  obtain ⟨v, H', os, bare, un, hok, r, q⟩ := h
  obtain ⟨hh, g, d, t, os'⟩ := s'
  obtain rfl : os' = s.os := os
  exact ⟨v, H', I.call (h' := hh) (g' := g) (d' := d) (t' := t) (ch := []) un hok bare (fun b z => absurd z (by simp)), r, q⟩
end
def qFg (sp : Sp) (dvs : List V) (E : XK) (t : TA) : TE := fun σ H Q => t σ H fun vs H1 => sp (vs ++ dvs) H1 Q E
def Binds (K : PySem.W.Frag) (fd : FuncData) (ps : List Str) (ds : List Value) : Prop :=
  ∀ (s : Shared) (us : List Value), K.In s.heap → (us ++ ds).length = ps.length → BindsTo s fd ⟨us, []⟩ (ps.zip (us ++ ds))
theorem Binds.all {K : PySem.W.Frag} {fd : FuncData} {ps : List Str} (h : ∀ us : List Value, us.length = ps.length → bindArgs fd ⟨us, []⟩ = pure (ps.zip us)) : Binds K fd ps [] := fun s us _ hl => by
  rw [List.append_nil] at hl ⊢
  exact .of_eq (h us hl)
def wk (CX : CXT) (X : Cx) (E : XK) : Prop := ∀ (pins : List (Addr × Obj)) (σ : St) (H : Hp) (s : Shared) (e : Value) (s' : Shared), Inv X pins σ H s → CX X.stack H s E e s' → X.xe e s'
section
variable {X : Cx} {CX : CXT} {k : Nat} {f C : Addr} {fd : FuncData} {ps : List Str} {sp : Sp} {dvs : List V} {ds : List Value} {E : XK} {x m : Str} {p pos apos : Pos} {e o : Expr} {es : List Expr} {ta : TE} {t : TA}
theorem qGp {pins : List (Addr × Obj)} {σ : St} {H : Hp} {s : Shared} {Q : VK} {us : List Value} {vs : List V} (F : FnOk X.prog X.w X.K X.mg X.base CX k f fd ps sp) (hr : Room k X.A) (hb : Binds X.K fd ps ds) (hd : Vals dvs ds) (hx : wk CX X E)
    (I : Inv X pins σ H s) (r : Vals vs us) (h : sp (vs ++ dvs) H Q E) : wpAny (model X.prog X.w) X.A (call (.ref f) us) (EP X pins σ Q) X.xe s := by
  have r2 : Vals (vs ++ dvs) (us ++ ds) := r.append hd
  have hl : (us ++ ds).length = ps.length := by rw [← r2.length]; exact F.len _ _ _ _ h
  refine wpAny_call (codeAny_mono (F.run X.A X.stack s H ⟨us, []⟩ (us ++ ds) (vs ++ dvs) Q E hr I.env0 (hb s us I.kIn hl) r2 h) fun r s' hq => ?_)
  cases r with
  | error e => exact hx pins σ H s e s' I hq
  | ok fl =>
    cases fl with
    | ret u => exact I.after hq
    | next => exact False.elim hq
    | brk => exact False.elim hq
    | cont => exact False.elim hq
theorem qBg (F : FnOk X.prog X.w X.K X.mg X.base CX k f fd ps sp) (hr : Room k X.A) (hg : Gl X x) (hm : X.mg x = some (.ref f)) (hk : PySem.W.keepIn X.K (.ref f) = true) (hb : Binds X.K fd ps ds) (hd : Vals dvs ds) (hx : wk CX X E)
    (ha : PA X (e :: es) t) (hdb : (x == ("__debug__" : Str)) = false := by decide) (he : starEach (e :: es) X.env = (false, eval e X.env) :: starEach es X.env := by rfl) (hpl : (backTo pos (starEach es X.env)).any (·.1) = false := by rfl) :
    PE X (.Call (.Name x p) (e :: es) [] pos) (qFg sp dvs E t) := by
  intro pins s σ H Q I h
  refine wpAny_Call_Name_kw (kI I hg hm ?_ hdb)
  refine PySem.W.callWith_K (h₀ := X.base) I.ok.mod.kin hk (thn (ha pos pins s σ H _ I h) fun us s1 ⟨vs, H1, I1, r, q⟩ => ⟨I1.kIn, ?_⟩) he hpl
  exact qGp F hr hb hd hx I1 r q
structure Mk (K : PySem.W.Frag) (C f : Addr) : Prop where
  makes : PySem.W.makesIn K C = true
  init : PySem.W.findIn K (.ref C) "__init__" = some (some (.ref f))
  fn : PySem.W.isFn K (.ref f) = true
  kp : PySem.W.keepIn K (.ref C) = true
end
section
variable {X : Cx} {CX : CXT} {k : Nat} {f C : Addr} {fd : FuncData} {ps ks : List Str} {sp : Sp} {E : XK} {x m : Str} {p pos apos kpos : Pos} {e o : Expr} {es : List Expr} {kws : List Keyword} {te ta : TE} {t tk : TA} {nm : Option Str}
structure KBinds (K : PySem.W.Frag) (fd : FuncData) (ps ks : List Str) (g : List Value → List Value → List Value) (gV : List V → List V → List V) : Prop where
  to : ∀ (s : Shared) (us ws : List Value), K.In s.heap → (g us ws).length = ps.length → BindsTo s fd ⟨us, ks.zip ws⟩ (ps.zip (g us ws))
  rel : ∀ {vs : List V} {us : List Value} {zs : List V} {ws : List Value}, Vals vs us → Vals zs ws → Vals (gV vs zs) (g us ws)
variable {g : List Value → List Value → List Value} {gV : List V → List V → List V}
end
structure qX (N P : List Str) (sc : Scope) : Prop where
  kind : sc.kind = .function
  co : sc.isCoroutine = false
  gen : sc.isGenerator = false
  nd : N.Nodup
  pre : N.take P.length = P
  par : ∀ x ∈ P, sc.names.lookup x = some .local ∨ sc.names.lookup x = some .cell
  nofree : ∀ y ∈ sc.names, y.2 ≠ .free
theorem vk {kindOf : Str → Option NameKind} {x : Str} : ∀ {binds : List (Str × Value)} {m : Str → Option Value}, (∀ v, (x, v) ∉ binds) → bindL kindOf binds m x = m x
  | [], _, _ => rfl
  | (n, v) :: r, m, h => by
    unfold bindL
    rw [vk fun w hw => h w (List.mem_cons_of_mem _ hw)]
    split
    · have : x ≠ n := by rintro rfl; exact h v List.mem_cons_self
      simp [this]
    · rfl
theorem vv {kindOf : Str → Option NameKind} {x : Str} : ∀ {binds : List (Str × Value)} {m : Str → Option Value}, (∀ v, (x, v) ∉ binds) → bindC kindOf binds m x = m x
  | [], _, _ => rfl
  | (n, v) :: r, m, h => by
    unfold bindC
    rw [vv fun w hw => h w (List.mem_cons_of_mem _ hw)]
    split
    · rfl
    · have : x ≠ n := by rintro rfl; exact h v List.mem_cons_self
      simp [this]
theorem wA {kindOf : Str → Option NameKind} {x : Str} {v : Value} : ∀ {P : List Str} {vs : List Value} {i : Nat} {m : Str → Option Value}, P.Nodup → P[i]? = some x → vs[i]? = some v → kindOf x = some .local →
    bindL kindOf (P.zip vs) m x = some v
  | [], _, _, _, _, h, _, _ => by simp at h
  | _ :: _, [], _, _, _, _, h, _ => by simp at h
  | p :: P, w :: vs, 0, m, nd, h1, h2, hk => by
    simp at h1 h2; subst h1; subst h2
    show bindL kindOf ((p, w) :: P.zip vs) m p = _
    unfold bindL
    rw [vk fun v hv => (List.nodup_cons.mp nd).1 (List.of_mem_zip hv).1, if_pos hk]
    simp
  | p :: P, w :: vs, i + 1, m, nd, h1, h2, hk => by
    show bindL kindOf ((p, w) :: P.zip vs) m x = _
    unfold bindL
    exact wA (i := i) (List.nodup_cons.mp nd).2 (by simpa using h1) (by simpa using h2) hk
theorem wP {kindOf : Str → Option NameKind} {x : Str} {v : Value} : ∀ {P : List Str} {vs : List Value} {i : Nat} {m : Str → Option Value}, P.Nodup → P[i]? = some x → vs[i]? = some v → kindOf x ≠ some .local →
    bindC kindOf (P.zip vs) m x = some v
  | [], _, _, _, _, h, _, _ => by simp at h
  | _ :: _, [], _, _, _, _, h, _ => by simp at h
  | p :: P, w :: vs, 0, m, nd, h1, h2, hk => by
    simp at h1 h2; subst h1; subst h2
    show bindC kindOf ((p, w) :: P.zip vs) m p = _
    unfold bindC
    rw [vv fun v hv => (List.nodup_cons.mp nd).1 (List.of_mem_zip hv).1, if_neg hk]
    simp
  | p :: P, w :: vs, i + 1, m, nd, h1, h2, hk => by
    show bindC kindOf ((p, w) :: P.zip vs) m x = _
    unfold bindC
    exact wP (i := i) (List.nodup_cons.mp nd).2 (by simpa using h1) (by simpa using h2) hk
def vE (N : List Str) (vs : List V) : St := vs.map some ++ List.replicate (N.length - vs.length) none
def qCq (CX : CXT) (P : Program) (w : World) (K : PySem.W.Frag) (mg : Str → Option Value) (base : Heap) (N : List Str) (qual : Str) (scope : Scope) (f : Addr) (cd : Value) (A : Around) (outer : List Env) (s : Shared) (H : Hp) (E : XK) : Cx where
  prog := P
  w := w
  K := K
  mg := mg
  base := base
  A := A.deeper (envOfC qual scope s.heap.objs.size f cd)
  N := N
  s₀ := s
  H₀ := H
  env := envOfC qual scope s.heap.objs.size f cd
  outer := outer
  stack := envOfC qual scope s.heap.objs.size f cd :: outer
  ex := []
  calm := true
  fn := fun _ => true
  pn := []
  xe := fun e s' => wpAny (model P w) (A.deeper (envOfC qual scope s.heap.objs.size f cd)) (leaving (envOfC qual scope s.heap.objs.size f cd) e) (fun _ s'' => CX outer H s E e s'') (fun e' s'' => CX outer H s E e' s'') s'
theorem qAf {sc : Scope} {n : Nat} {x : Str} (h : sc.names.lookup x = some .cell) : ∃ c, (cellsFrom n sc.names []).lookup x = some c := by
  have q := PySem.W.cellsFrom_some sc.names n [] (.inl h)
  exact Option.isSome_iff_exists.mp q
theorem qBp {CX : CXT} {P : Program} {w : World} {K : PySem.W.Frag} {mg : Str → Option Value} {base : Heap} {N ps : List Str} {qual : Str} {scope : Scope} {f : Addr} {cd : Value} {A : Around} {outer : List Env} {s s1 : Shared} {H : Hp} {E : XK} {us : List Value} {vs : List V}
    (S : qX N ps scope) (hd : A.handled = none) (e0 : Env0 P w K mg base A outer s H) (hl : vs.length = ps.length) (r : Vals vs us)
    (x : InCallC s s.heap.objs.size (bindL (envOfC qual scope s.heap.objs.size f cd).kindOf (ps.zip us) fun _ => none) (cellsFrom (s.heap.objs.size + 1) scope.names []) (bindC (envOfC qual scope s.heap.objs.size f cd).kindOf (ps.zip us) fun _ => none) s1) :
    Inv (qCq CX P w K mg base N qual scope f cd A outer s H E) [] (vE N vs) H s1 := by
  have hpl : ps.length ≤ N.length := by have := congrArg List.length S.pre; rw [List.length_take] at this; omega
  obtain ⟨h1, tk, rfl, hk⟩ := x.done
  have noA : ∀ b : Addr, b ∉ (qCq CX P w K mg base N qual scope f cd A outer s H E).ex := fun b z => absurd (show b ∈ ([] : List Addr) from z) (by simp)
  refine ⟨⟨e0.mod, S.kind, rfl, rfl, Nat.le_refl _, fun y z c h1 h2 => ?_, fun y hy => ?_, fun y c _ h => ?_, fun _ => hd, Around.frames_deeper e0.frames, .inr ⟨rfl, rfl⟩, fun b z => absurd z (noA b), e0.bs, e0.bsz, fun b _ _ => noA b, fun b z => absurd z (noA b), e0.funs, e0.frf⟩,
    rfl, e0.bare, Un.kept hk, ⟨_, x.toInCall.ns, fun i y v h1 h2 h3 => ?_⟩, fun y c h => ⟨_, x.cell y c h⟩, e0.hok.fresh (Nat.le_refl _), fun y c h => ?_, fun p hp => absurd (show p ∈ ([] : List (Addr × Obj)) from hp) (by simp), e0.hok.kept hk, ?_⟩
  · exact name_of_addr x.apart (PySem.mem_of_lookup h1) (PySem.mem_of_lookup h2)
  · have hy : scope.names.lookup y = some .cell ∨ scope.names.lookup y = some .free := hy
    rcases hy with hy | hy
    · exact qAf hy
    · exact absurd rfl (S.nofree _ (PySem.mem_of_lookup hy))
  · exact Nat.le_of_lt (x.above y c (PySem.mem_of_lookup h))
  · have hi : i < vs.length := by
      unfold vE at h2
      by_cases hi : i < vs.length
      · exact hi
      · rw [List.getElem?_append_right (by simpa using hi)] at h2
        rw [List.getElem?_replicate] at h2
        split at h2 <;> cases h2
    have ha : vs[i]? = some v := by
      unfold vE at h2
      rw [List.getElem?_append_left (by simpa using hi), List.getElem?_map] at h2
      cases e : vs[i]? with
      | none => rw [e] at h2; cases h2
      | some a => rw [e] at h2; cases h2; rfl
    obtain ⟨u, hu, rv⟩ := r.get ha
    have hp : ps[i]? = some y := by
      rw [← S.pre, List.getElem?_take_of_lt (by omega)]; exact h1
    have ndP : ps.Nodup := by rw [← S.pre]; exact S.nd.sublist (List.take_sublist _ _)
    refine ⟨u, rv, ?_⟩
    rcases S.par y (List.mem_of_getElem? hp) with k | k
    · exact .inl ⟨k, wA ndP hp hu k⟩
    · obtain ⟨c, e⟩ := qAf (n := s.heap.objs.size + 1) k
      refine .inr ⟨.inl k, c, e, ?_⟩
      have q := x.cell y c e
      rw [wP ndP hp hu (by show scope.names.lookup y ≠ _; rw [k]; decide)] at q
      exact q
  · exact e0.hok.fresh (Nat.le_of_lt (x.above y c (PySem.mem_of_lookup h)))
  · unfold vE
    show _ = N.length
    rw [List.length_append, List.length_map, List.length_replicate]
    omega
theorem qF8 {CX : CXT} {P : Program} {w : World} {K : PySem.W.Frag} {mg : Str → Option Value} {base : Heap} {k : Nat} {f : Addr} {name qual : Str} {params : Arguments} {body : List Stmt} {scope : Scope} {dV kV doc pm cdv ct oc : Value} {an od : Option Addr}
    {osl : Array (Option Value)} {N ps : List Str} {sp : Sp} (lk : K.lookup f = some ⟨oc, od, .func (PySem.W.fnOf name qual params body scope dV kV doc pm an cdv ct), osl⟩) (hcd : PySem.W.codeIn K cdv qual = true) (S : qX N ps scope)
    (len : ∀ vs H Q E, sp vs H Q E → vs.length = ps.length)
    (hbody : ∀ (A : Around) (outer : List Env) (s : Shared) (H : Hp) (vs : List V) (Q : VK) (E : XK), Room k (A.deeper (envOfC qual scope s.heap.objs.size f cdv)) → sp vs H Q E →
      ∃ t, PSs (qCq CX P w K mg base N qual scope f cdv A outer s H E) body t ∧ t { nx := fun _ H' => Q .non H', rt := Q } (vE N vs) H) :
    FnOk P w K mg base CX (k + 1) f (PySem.W.fnOf name qual params body scope dV kV doc pm an cdv ct) ps sp := by
  refine ⟨len, fun A outer s H args us vs Q E hr e0 hb r hsp => ?_⟩
  have hl := len _ _ _ _ hsp
  have KX : K.In s.heap := e0.mod.kin.keeps fun b o e => (e0.bs b o e).1
  have lim : s.heap.NoLimit := e0.mod.nolimit.keeps fun b o e => (e0.bs b o e).1
  have hkind : ∀ y ∈ ps.zip us, scope.names.lookup y.1 = some .local ∨ (scope.names.lookup y.1 = some .cell ∧ ((cellsFrom (s.heap.objs.size + 1) scope.names []).lookup y.1).isSome = true) := fun ⟨n, v⟩ hy => by
    rcases S.par n (List.of_mem_zip hy).1 with q | q
    · exact .inl q
    · exact .inr ⟨q, PySem.W.cellsFrom_some _ _ _ (.inl q)⟩
  refine codeAny_call_function hr.depth (KX _ _ lk) rfl S.co S.gen rfl (PySem.W.codeRec_of KX hcd) (hb _ _ _ _ ?_)
  refine wpAny_newFunctionEnv_cells S.kind hkind fun env he s1 x => ?_
  subst he
  refine ⟨lim.keeps x.toInCall.keep, codeAny_func ?_⟩
  obtain ⟨t, ht, hq⟩ := hbody A outer s H vs Q E (hr.deeper _) hsp
  have I : Inv (qCq CX P w K mg base N qual scope f cdv A outer s H E) [] (vE N vs) H s1 := qBp S hr.hd e0 hl r x
  refine wpAny_mono (ht [] s1 (vE N vs) H _ I hq) (fun fl s' hs => ?_) fun e s' hs => hs
  have fin : ∀ {σ' : St} {H' : Hp} {v : V} {u : Value}, Inv (qCq CX P w K mg base N qual scope f cdv A outer s H E) [] σ' H' s' → RelV v u → Q v H' → CE outer P w H s Q u s' :=
    fun {σ' H' v u} J rv q => ⟨v, H', J.os, J.bare, J.base, J.hok, rv, q⟩
  cases fl with
  | ret u =>
    obtain ⟨v, σ', H', J, rv, q⟩ := hs
    exact fin J rv q
  | next =>
    obtain ⟨σ', H', J, q⟩ := hs
    exact fin (v := V.non) (u := Value.none) J rfl q
  | brk =>
    obtain ⟨_, _, _, q⟩ := hs
    exact False.elim q
  | cont =>
    obtain ⟨_, _, _, q⟩ := hs
    exact False.elim q
end L2
namespace L2
open PySem PySem.Spec PyProof.Rows
section
variable {X : Cx} {x : Str} {p pos : Pos} {e : Expr} {es : List Expr} {t : TA} {id T : String} {r : List V → Hp → VK → Prop}
def tCB (r : List V → Hp → VK → Prop) (t : TA) : TE := fun σ H Q => t σ H fun vs H1 => r vs H1 Q
theorem qU (hc : CallR X (.builtin id) r) (hg : Gl X x) (hm : X.mg x = none) (hv : bootBuiltins x = some (.builtin id)) (ha : PA X (e :: es) t) (hn : x ≠ "__name__" := by decide) (hdb : (x == ("__debug__" : Str)) = false := by decide)
    (he : starEach (e :: es) X.env = (false, eval e X.env) :: starEach es X.env := by rfl) (hpl : (backTo pos (starEach es X.env)).any (·.1) = false := by rfl) : PE X (.Call (.Name x p) (e :: es) [] pos) (tCB r t) := by
  intro pins s σ H Q I h
  refine wpAny_Call_Name_kw (wH I hg hm hv ?_ hn hdb)
  exact PyProof.Rows.callWith_builtin1 (thn (ha pos pins s σ H _ I h) fun us s1 ⟨vs, H1, I1, r1, q1⟩ => hc pins s1 σ H1 vs us Q I1 r1 q1) he hpl
theorem qBo (hc : CallR X (.type T) r) (hg : Gl X x) (hm : X.mg x = none) (hv : bootBuiltins x = some (.type T)) (ha : PA X (e :: es) t) (hn : x ≠ "__name__" := by decide) (hdb : (x == ("__debug__" : Str)) = false := by decide)
    (he : starEach (e :: es) X.env = (false, eval e X.env) :: starEach es X.env := by rfl) (hpl : (backTo pos (starEach es X.env)).any (·.1) = false := by rfl) : PE X (.Call (.Name x p) (e :: es) [] pos) (tCB r t) := by
  intro pins s σ H Q I h
  refine wpAny_Call_Name_kw (wH I hg hm hv ?_ hn hdb)
  exact PyProof.Rows.callWith_type1 (thn (ha pos pins s σ H _ I h) fun us s1 ⟨vs, H1, I1, r1, q1⟩ => hc pins s1 σ H1 vs us Q I1 r1 q1) he hpl
end
end L2
namespace HT
open PySem PyProof.Rows
section
open PySem.SeqAt
open PySem.AutoSeq1 (wpAny_loadPart')
open PySem.MeetsSeq PySem.MeetsSeq2 PySem.MeetsSeq3
end
section
variable {prog : Program} {w : World} {A : Around} {E : Value → Shared → Prop} {s : Shared}
theorem cat_tup {t b : Addr} {vs ws : List Value} {Q : Value → Shared → Prop} (ht : IsTup s.heap t vs.toArray) (hb : IsTup s.heap b ws.toArray) (hv : vs ≠ [])
    (h1 : ws = [] → Q (.ref t) s) (h2 : ws ≠ [] → Q (.ref s.heap.objs.size) { s with heap := s.heap.push { cls := .type "tuple", data := .seq (vs ++ ws).toArray } })
    (hsz : vs.length + ws.length ≤ sizeLine) : wpAny (model prog w) A (binaryOp .Add (.ref t) (.ref b)) Q E s := by
  obtain ⟨⟨cls, dd, data, sl⟩, ho, hc, n, hd⟩ := id ht
  obtain ⟨⟨cls2, dd2, data2, sl2⟩, ho2, hc2, n2, hd2⟩ := id hb
  simp only at hc hd hc2 hd2
  subst hc hd hc2 hd2
  have e : vs.toArray ++ ws.toArray = (vs ++ ws).toArray := by simp
  by_cases hw : ws = []
  · exact concat_meets ⟨_, ho, rfl⟩ ⟨_, ho2, rfl⟩ noFill_tuple_add seq_tuple_add PySem.F.slot_tuple_add PySem.F.entry_tuple_add (PySem.F.args_tuple_add_2 _ _)
      (tuple_addW1 t b vs.toArray ws.toArray n n2 dd dd2 sl sl2 (by simpa using hv) (by simp [hw])) ⟨ho, ho2, h1 hw⟩
  · refine concat_meets ⟨_, ho, rfl⟩ ⟨_, ho2, rfl⟩ noFill_tuple_add seq_tuple_add PySem.F.slot_tuple_add PySem.F.entry_tuple_add (PySem.F.args_tuple_add_2 _ _)
      (tuple_addW2 t b vs.toArray ws.toArray n n2 dd dd2 sl sl2 (by simpa using hv) (by simpa using hw) (by rw [List.size_toArray, List.size_toArray]; exact hsz)) ⟨ho, ho2, ?_⟩
    rw [e]
    exact h2 hw
def sIx (n d : Nat) : Option Int → Nat
  | none => d
  | some v => if v < 0 then (v + (n : Int)).toNat else min v.toNat n
theorem qF3 (n d : Nat) (hd : d ≤ n) (o : Option Int) : sIx n d o ≤ n := by
  cases o with
  | none => exact hd
  | some v =>
    show (if v < 0 then (v + (n : Int)).toNat else min v.toNat n) ≤ n
    by_cases hv : v < 0
    · rw [if_pos hv]; omega
    · rw [if_neg hv]; exact Nat.min_le_right _ _
theorem qCi (v : Int) (n d : Nat) : (if v < 0 then max (v + (n : Int)) 0 else min v (n : Int)) = ((sIx n d (some v) : Nat) : Int) := by
  show (if v < 0 then max (v + (n : Int)) 0 else min v (n : Int)) = (((if v < 0 then (v + (n : Int)).toNat else min v.toNat n) : Nat) : Int)
  by_cases hv : v < 0
  · simp only [if_pos hv]; omega
  · simp only [if_neg hv]; omega
theorem qAy (lo hi : Option Int) (n : Nat) : Builtin.Slice.sliceAdjust lo hi 1 (n : Int) = (((sIx n 0 lo : Nat) : Int), ((sIx n n hi : Nat) : Int)) := by
  have h1 : ¬ ((1 : Int) < 0) := by omega
  unfold Builtin.Slice.sliceAdjust
  simp only [h1, if_false]
  refine Prod.ext ?_ ?_
  · cases lo with
    | none => rfl
    | some v => exact qCi v n 0
  · cases hi with
    | none => rfl
    | some v => exact qCi v n n
theorem qAw (i j : Nat) : Builtin.Slice.slicePlaces (i : Int) (j : Int) 1 = j - i := by
  unfold Builtin.Slice.slicePlaces
  have h1 : (1 : Int) > 0 := by omega
  simp only [h1, if_true, Int.ediv_one]
  split <;> omega
theorem kz {v : Value} {o : Option Int} {Q : Option Int → Shared → Prop} (p : IsPart v o) (h : Q o s) : wpAny (model prog w) A (Builtin.Slice.slicePartIndex v) Q E s := by
  cases p with
  | none => exact slicePart_none h
  | int i t => exact slicePart_int h
theorem zf {sl : Addr} {vl vu : Value} {lo hi : Option Int} {n : Nat} {Q : Int × Int × Nat → Shared → Prop} (hs : s.heap.IsSliceOf sl vl vu .none) (pl : IsPart vl lo) (pu : IsPart vu hi)
    (h : Q (((sIx n 0 lo : Nat) : Int), 1, sIx n n hi - sIx n 0 lo) s) : wpAny (model prog w) A (Builtin.Slice.sliceApplied (.ref sl) (pure (n : Int))) Q E s := by
  obtain ⟨os, hos, hcs, hds⟩ := id hs
  unfold Builtin.Slice.sliceApplied Builtin.Slice.sliceFields
  refine wpAny_bind (wpAny_bind (wpAny_field hos hds (x := vl) rfl (wpAny_bind (wpAny_field hos hds (x := vu) rfl (wpAny_bind (wpAny_field hos hds (x := .none) rfl (wpAny_pure ?_)))))))
  refine wpAny_bind (slicePart_none ?_)
  show wpAny _ _ (if ((1 : Int) == 0) = true then _ else _) _ _ s
  rw [if_neg (by decide)]
  refine wpAny_bind (kz pl (wpAny_bind (kz pu (wpAny_bind (wpAny_pure ?_)))))
  show wpAny _ _ (match Builtin.Slice.sliceAdjust lo hi 1 (n : Int) with | (lo, hi) => pure (lo, (1 : Int), Builtin.Slice.slicePlaces lo hi 1)) _ _ s
  rw [qAy lo hi n]
  show wpAny _ _ (pure (((sIx n 0 lo : Nat) : Int), (1 : Int), Builtin.Slice.slicePlaces ((sIx n 0 lo : Nat) : Int) ((sIx n n hi : Nat) : Int) 1)) _ _ s
  rw [qAw]
  exact wpAny_pure h
theorem qC4 (xs : Array Value) (i k : Nat) : ((List.range k).filterMap fun (m : Nat) => xs[((i : Int) + (m : Int) * 1).toNat]?).toArray = ((xs.toList.drop i).take k).toArray := by
  have e : (fun (m : Nat) => xs[((i : Int) + (m : Int) * 1).toNat]?) = fun m => xs[i + m]? := by
    funext m
    have : ((i : Int) + (m : Int) * 1).toNat = i + m := by omega
    rw [this]
  rw [e]
  have := pick_run xs i k
  rw [List.filterMap_map] at this
  have e2 : ((fun x => xs[x]?) ∘ fun x => i + x) = fun m => xs[i + m]? := rfl
  rw [e2] at this
  rw [this]
theorem getItem_tuple_cut {t sl : Addr} {items : Array Value} {vl vu : Value} {lo hi : Option Int} {Q : Value → Shared → Prop} (ht : IsTup s.heap t items) (hs : s.heap.IsSliceOf sl vl vu .none) (pl : IsPart vl lo) (pu : IsPart vu hi)
    (hw : ¬ (sIx items.size 0 lo = 0 ∧ sIx items.size items.size hi = items.size))
    (h : Q (.ref s.heap.objs.size) { s with heap := s.heap.push { cls := .type "tuple", data := .seq ((items.toList.drop (sIx items.size 0 lo)).take (sIx items.size items.size hi - sIx items.size 0 lo)).toArray } })
    (hsz : items.size ≤ sizeLine) : wpAny (model prog w) A (getItem (.ref t) (.ref sl)) Q E s := by
  have htake : sizeOk (.seq ((items.toList.drop (sIx items.size 0 lo)).take (sIx items.size items.size hi - sIx items.size 0 lo)).toArray) := by
    show ((items.toList.drop (sIx items.size 0 lo)).take (sIx items.size items.size hi - sIx items.size 0 lo)).toArray.size ≤ sizeLine
    rw [List.size_toArray, List.length_take, List.length_drop, Array.length_toList]
    omega
  have hj : sIx items.size items.size hi ≤ items.size := qF3 _ _ (Nat.le_refl _) hi
  obtain ⟨os, hos, hcs, hds⟩ := id hs
  have hTs : s.TypeIs (.ref sl) "slice" := ⟨os, hos, hcs⟩
  unfold getItem
  try with_reducible refine wpAny_holding ?_
  first | refine wpAny_bind (wpAny_pure ?_) | skip
  refine wpAny_bind (wpAny_sequenceKey ht.typeIs (by decide) ?_)
  refine wpAny_bind (wpAny_callSpecial?_slot (name := Str.ofString "__getitem__") ht.typeIs PyProof.Rows.slot_tuple_getitem
    (wpAny_call_entry PyProof.Rows.slot_tuple_getitem ht.typeIs entry_tuple_getitem ?_ (args_tuple_getitem _ _)))
  show wpAny _ _ (Builtin.Tuple.tupleItemsOf (.ref t) >>= _) _ _ s
  refine wpAny_bind (tupleItemsOf_ ht ?_)
  refine wpAny_bind (wpAny_typeOf hTs ?_)
  rw [if_pos (by decide)]
  refine wpAny_bind (zf hs pl pu ?_)
  have hno : ¬ ((((sIx items.size 0 lo : Nat) : Int) == 0 && (1 : Int) == 1 && (sIx items.size items.size hi - sIx items.size 0 lo) == items.size) = true) := by
    intro q
    rw [Bool.and_eq_true, Bool.and_eq_true] at q
    have q1 : ((sIx items.size 0 lo : Nat) : Int) = 0 := eq_of_beq q.1.1
    have q2 : sIx items.size items.size hi - sIx items.size 0 lo = items.size := eq_of_beq q.2
    exact hw ⟨by omega, by omega⟩
  show wpAny _ _ (if (((sIx items.size 0 lo : Nat) : Int) == 0 && (1 : Int) == 1 && (sIx items.size items.size hi - sIx items.size 0 lo) == items.size) = true then _ else _) _ _ s
  rw [if_neg hno, qC4]
  first
    | exact wpAny_bind (m := Builtin.Tuple.tupleExact _) (wpAny_newObj_type (wpAny_pure ⟨_, rfl, wpAny_pure h⟩) htake)
    | exact wpAny_bind (m := Builtin.Tuple.tupleExact _) (wpAny_newObj_type (wpAny_bind (wpAny_pure (wpAny_pure ⟨_, rfl, wpAny_pure h⟩))) htake)
    | exact wpAny_bind (wpAny_bind (m := Builtin.Tuple.tupleExact _) (wpAny_newObj_type (wpAny_pure (wpAny_pure ⟨_, rfl, wpAny_pure h⟩)) htake))
    | exact wpAny_bind (wpAny_bind (m := Builtin.Tuple.tupleExact _) (wpAny_newObj_type (wpAny_pure ⟨_, rfl, wpAny_pure h⟩) htake))
end
end HT
namespace L2
open PySem PySem.Spec PyProof.Rows
abbrev TO := St → Hp → (Option Int → Hp → Prop) → Prop
def PO (X : Cx) (e : Option Expr) (t : TO) : Prop :=
  ∀ (pins : List (Addr × Obj)) (s : Shared) (σ : St) (H : Hp) (Q : Option Int → Hp → Prop), Inv X pins σ H s → t σ H Q →
    wpAny (model X.prog X.w) X.A (evalPart e X.env) (fun u s' => ∃ o H', Inv X pins σ H' s' ∧ IsPart u o ∧ Q o H') X.xe s
def qE8 : TO := fun _ H Q => Q none H
def qG7 (t : TE) : TO := fun σ H Q => t σ H fun x H1 => ∃ i, x = .int i ∧ Q (some i) H1
section
variable {X : Cx} {e : Expr} {te : TE} {lo hi : Option Expr} {tl th : TO} {pos p2 : Pos}
theorem xW : PO X none qE8 := by
  intro pins s σ H Q I h
  rw [evalPart_none]
  exact wpAny_pure ⟨none, H, I, .none, h⟩
theorem xB (h : PE X e te) : PO X (some e) (qG7 te) := by
  intro pins s σ H Q I hw
  rw [evalPart_some]
  refine thn (h pins s σ H _ I hw) fun u s1 ⟨x, H1, I1, r1, q1⟩ => ?_
  obtain ⟨i, rfl, q⟩ := q1
  obtain ⟨t, rfl⟩ := r1
  exact ⟨some i, H1, I1, .int i t, q⟩
def SlR (X : Cx) (r : V → Option Int → Option Int → Hp → VK → Prop) : Prop :=
  ∀ (pins : List (Addr × Obj)) (s : Shared) (σ : St) (H : Hp) (x : V) (v vl vu : Value) (lo hi : Option Int) (sl : Addr) (Q : VK), Inv X pins σ H s → RelV x v → s.heap.IsSliceOf sl vl vu .none → IsPart vl lo → IsPart vu hi → r x lo hi H Q →
    ∃ T id, typeLookup (.type T) "__getitem__" = pure (some (.builtin id)) ∧ s.TypeIs v T ∧ wpAny (model X.prog X.w) X.A (getItem v (.ref sl)) (EP X pins σ Q) X.xe s
theorem SlR.or {r r' : V → Option Int → Option Int → Hp → VK → Prop} (h : SlR X r) (h' : SlR X r') : SlR X (fun x lo hi H Q => r x lo hi H Q ∨ r' x lo hi H Q) := by
  intro pins s σ H x v vl vu lo hi sl Q I rx hs pl pu q
  rcases q with q | q
  · exact h pins s σ H x v vl vu lo hi sl Q I rx hs pl pu q
  · exact h' pins s σ H x v vl vu lo hi sl Q I rx hs pl pu q
def tSl (r : V → Option Int → Option Int → Hp → VK → Prop) (te : TE) (tl th : TO) : TE := fun σ H Q => te σ H fun x H1 => tl σ H1 fun l H2 => th σ H2 fun u H3 => r x l u H3 Q
theorem j2 {r : V → Option Int → Option Int → Hp → VK → Prop} (hr : SlR X r) (he : PE X e te) (hl : PO X lo tl) (hu : PO X hi th) : PE X (.Subscript e (.Slice lo hi none p2) pos) (tSl r te tl th) := by
  intro pins s σ H Q I h
  refine Subscript_ (thn (he pins s σ H _ I h) fun v s1 ⟨x, H1, I1, r1, q1⟩ => ?_)
  refine wpAny_Slice (thn (hl pins s1 σ H1 _ I1 q1) fun vl s2 ⟨l, H2, I2, pl, q2⟩ => thn (hu pins s2 σ H2 _ I2 q2) fun vu s3 ⟨u, H3, I3, pu, q3⟩ => ?_)
  rw [evalPart_none]
  refine wpAny_pure ?_
  have I4 : Inv X pins σ H3 { s3 with heap := s3.heap.push { cls := .type "slice", data := .fields #[vl, vu, .none] } } := I3.kept (t' := s3.toks) fun b ob q => Heap.get?_push_of_some _ q
  obtain ⟨T, id, hT, ht, hg⟩ := hr pins { s3 with heap := s3.heap.push { cls := .type "slice", data := .fields #[vl, vu, .none] } } σ H3 x v vl vu l u s3.heap.objs.size Q I4 r1 (Heap.IsSliceOf.new ..) pl pu q3
  show wpAny (model X.prog X.w) X.A (subscriptTail e (.Slice lo hi none p2) v (.ref s3.heap.objs.size)) (EP X pins σ Q) X.xe { s3 with heap := s3.heap.push { cls := .type "slice", data := .fields #[vl, vu, .none] } }
  exact tail_any (ops := [.ref s3.heap.objs.size, v]) ht hT hg (by with_unfolding_all rfl)
def xv (xs : List V) (lo hi : Option Int) : List V := (xs.drop (HT.sIx xs.length 0 lo)).take (HT.sIx xs.length xs.length hi - HT.sIx xs.length 0 lo)
theorem kS (xs : List V) (lo hi : Option Int) : (xv xs lo hi).length ≤ xs.length := by
  unfold xv
  rw [List.length_take, List.length_drop]
  omega
def qIn (K : PySem.W.Frag) : V → Option Int → Option Int → Hp → VK → Prop := fun x lo hi H Q => ∃ a xs, x = .ref a ∧ SqT K H a xs ∧
  ¬ (HT.sIx xs.length 0 lo = 0 ∧ HT.sIx xs.length xs.length hi = xs.length) ∧ ∀ p, H p = none → Q (.ref p) (upd H p (.tup (xv xs lo hi)))
theorem qD7 : SlR X (qIn X.K) := by
  intro pins s σ H x v vl vu lo hi sl Q I rx hs pl pu h
  obtain ⟨a, xs, rfl, hx, hw, q⟩ := h
  cases rx
  obtain ⟨its, r, ht, hz⟩ := I.tuple hx
  have hlen : its.toArray.size = xs.length := by rw [List.size_toArray]; exact r.length.symm
  refine ⟨"tuple", _, PyProof.Rows.slot_tuple_getitem.lookup, ht.typeIs, ?_⟩
  refine HT.getItem_tuple_cut ht hs pl pu (by rw [hlen]; exact hw) ?_ (by rw [hlen]; exact hz)
  rw [hlen]
  refine ⟨.ref s.heap.objs.size, _, I.laid (t' := s.toks) (o := .tup (xv xs lo hi)) (fun b ob q => Heap.get?_push_of_some _ q) (Nat.le_refl _) ?_, rfl, q _ (I.hok.fresh (Nat.le_refl _))⟩
  exact ⟨Nat.le_trans (kS xs lo hi) hz, _, (r.drop (HT.sIx xs.length 0 lo)).take (HT.sIx xs.length xs.length hi - HT.sIx xs.length 0 lo), IsTup.new _ _⟩
def qHf (K : PySem.W.Frag) : R2 := fun x y H Q => ∃ a b xs ys, x = .ref a ∧ y = .ref b ∧ SqT K H a xs ∧ SqT K H b ys ∧ xs ≠ [] ∧ xs.length + ys.length ≤ sizeLine ∧
  (ys = [] → Q (.ref a) H) ∧ (ys ≠ [] → ∀ p, H p = none → Q (.ref p) (upd H p (.tup (xs ++ ys))))
theorem Vals.nil_iff {xs : List V} {us : List Value} (r : Vals xs us) : us = [] ↔ xs = [] := by
  cases r with
  | nil => simp
  | cons _ _ => simp
theorem wW : OpR X (binaryOp .Add) (qHf X.K) := by
  intro pins s σ H x y v u Q I rx ry h
  obtain ⟨a, b, xs, ys, rfl, rfl, ha, hb, hx, hz, q1, q2⟩ := h
  cases rx
  cases ry
  obtain ⟨its, r1, p1, _⟩ := I.tuple ha
  obtain ⟨its2, r2, p2, _⟩ := I.tuple hb
  refine HT.cat_tup p1 p2 (fun z => hx (r1.nil_iff.mp z)) (fun z => ⟨.ref a, H, I, rfl, q1 (r2.nil_iff.mp z)⟩) (fun z => ?_) (by rw [← r1.length, ← r2.length]; exact hz)
  refine ⟨.ref s.heap.objs.size, _, I.laid (t' := s.toks) (o := .tup (xs ++ ys)) (fun b ob q => Heap.get?_push_of_some _ q) (Nat.le_refl _) ?_, rfl, q2 (fun w => z (r2.nil_iff.mpr w)) _ (I.hok.fresh (Nat.le_refl _))⟩
  exact ⟨by rw [List.length_append]; exact hz, _, r1.append r2, IsTup.new _ _⟩
end
end L2
namespace L2
open PySem PySem.Spec PyProof.Rows
def ixN (n : Nat) (i : Int) : Option Nat := if 0 ≤ i then (if i < n then some i.toNat else none) else if -(n : Int) ≤ i then some (i + n).toNat else none
def atI {α : Type} (xs : List α) (i : Int) : Option α := (ixN xs.length i).bind fun j => xs[j]?
theorem qE6 {n : Nat} {i : Int} {j : Nat} (h : ixN n i = some j) : seqIndex? i n = some j ∧ j < n ∧ -(n : Int) ≤ i ∧ i < n := by
  unfold ixN at h
  by_cases h0 : 0 ≤ i
  · rw [if_pos h0] at h
    by_cases h1 : i < n
    · rw [if_pos h1] at h
      have e : i.toNat = j := Option.some.inj h
      exact ⟨by rw [seqIndex_of h0 h1, e], by omega, by omega, h1⟩
    · rw [if_neg h1] at h; cases h
  · rw [if_neg h0] at h
    by_cases h1 : -(n : Int) ≤ i
    · rw [if_pos h1] at h
      have e : (i + n).toNat = j := Option.some.inj h
      exact ⟨by rw [seqIndex_neg (by omega) h1, e], by omega, h1, by omega⟩
    · rw [if_neg h1] at h; cases h
theorem qBw {α : Type} {xs : List α} {i : Int} {v : α} (h : atI xs i = some v) : ∃ j, seqIndex? i xs.length = some j ∧ xs[j]? = some v ∧ j < xs.length ∧ -(xs.length : Int) ≤ i ∧ i < xs.length := by
  unfold atI at h
  cases e : ixN xs.length i with
  | none => rw [e] at h; cases h
  | some j =>
    rw [e] at h
    obtain ⟨h1, h2, h3, h4⟩ := qE6 e
    exact ⟨j, h1, h, h2, h3, h4⟩
theorem zV {α : Type} {xs : List α} {j : Nat} {v : α} (h : xs[j]? = some v) : atI xs (j : Int) = some v := by
  have hj : j < xs.length := (List.getElem?_eq_some_iff.mp h).1
  have e : ixN xs.length (j : Int) = some j := by
    unfold ixN
    rw [if_pos (by omega), if_pos (by omega)]; simp
  unfold atI; rw [e]; exact h
def qEp (b : Expr) : Prop := ∀ o i, subscripted b false o i = operate [o, i] (getItem o i)
def IxR (X : Cx) (r : R2) : Prop :=
  ∀ (value slice : Expr) (pins : List (Addr × Obj)) (s : Shared) (σ : St) (H : Hp) (x y : V) (v u : Value) (Q : VK), Inv X pins σ H s → RelV x v → RelV y u → r x y H Q →
    subscripted slice false v u = operate [v, u] (getItem v u) → wpAny (model X.prog X.w) X.A (subscriptTail value slice v u) (EP X pins σ Q) X.xe s
def MtR (X : Cx) (id : String) (r : V → List V → Hp → VK → Prop) : Prop :=
  ∀ (pins : List (Addr × Obj)) (s : Shared) (σ : St) (H : Hp) (x : V) (xs : List V) (v : Value) (us : List Value) (Q : VK), Inv X pins σ H s → RelV x v → Vals xs us → r x xs H Q →
    wpAny (model X.prog X.w) X.A (call (.builtin id) (v :: us)) (EP X pins σ Q) X.xe s
section
variable {X : Cx} {a b : Expr} {ta tb : TE} {pos : Pos}
theorem IxR.or {r r' : R2} (h : IxR X r) (h' : IxR X r') : IxR X (fun x y H Q => r x y H Q ∨ r' x y H Q) := by
  intro value slice pins s σ H x y v u Q I rx ry q hs
  rcases q with q | q
  · exact h value slice pins s σ H x y v u Q I rx ry q hs
  · exact h' value slice pins s σ H x y v u Q I rx ry q hs
theorem MtR.or {id : String} {r r' : V → List V → Hp → VK → Prop} (h : MtR X id r) (h' : MtR X id r') : MtR X id (fun x xs H Q => r x xs H Q ∨ r' x xs H Q) := by
  intro pins s σ H x xs v us Q I rx rs q
  rcases q with q | q
  · exact h pins s σ H x xs v us Q I rx rs q
  · exact h' pins s σ H x xs v us Q I rx rs q
theorem qJ {r : R2} (hr : IxR X r) (ha : PE X a ta) (hb : PE X b tb) (hs : qEp b) : PE X (.Subscript a b pos) (tOp r ta tb) := by
  intro pins s σ H Q I h
  exact Subscript_ (qHv ha hb I h fun v u s2 x y H2 I2 rx ry q => hr a b pins s2 σ H2 x y v u Q I2 rx ry q (hs _ _))
def qIe (K : PySem.W.Frag) : R2 := fun x y H Q => ∃ p xs i v, x = .ref p ∧ y = .int i ∧ SqL K H p xs ∧ atI xs i = some v ∧ Q v H
def qHy (K : PySem.W.Frag) : R2 := fun x y H Q => ∃ p xs i v, x = .ref p ∧ y = .int i ∧ SqT K H p xs ∧ atI xs i = some v ∧ Q v H
theorem qg : IxR X (qIe X.K) := by
  intro value slice pins s σ H x y v u Q I rx ry h hs
  obtain ⟨p, xs, i, z, rfl, rfl, hq, he, q⟩ := h
  cases rx
  obtain ⟨t, rfl⟩ := ry
  obtain ⟨its, r, pl, hz⟩ := I.list hq
  obtain ⟨j, h1, h2, h3, h4, h5⟩ := qBw he
  obtain ⟨w, ew, rw'⟩ := r.get h2
  have hl := r.length
  have hn := ww
  have fin : EP X pins σ Q w s := ⟨z, H, I, rw', q⟩
  by_cases h0 : 0 ≤ i
  · have hj : i.toNat = j := by
      rw [seqIndex_of h0 h5] at h1
      exact Option.some.inj h1
    exact item_listR pl.isList h0 (by omega) (by rw [hj]; simpa using ew) fin hs
  · have hj : (i + (its.toArray.size : Int)).toNat = j := by
      rw [seqIndex_neg (by omega) h4] at h1
      rw [List.size_toArray, ← hl]
      exact Option.some.inj h1
    exact subscriptTail_builtinR (x := w) pl.isList.typeIs slot_list_getitem.lookup
      (wpAny_getItem_list_neg (Q := fun r s' => r = w ∧ EP X pins σ Q r s') pl.isList (by omega) (by rw [List.size_toArray] <;> omega) (by omega) (by rw [hj]; simpa using ew) ⟨rfl, fin⟩) hs
theorem qI : IxR X (qHy X.K) := by
  intro value slice pins s σ H x y v u Q I rx ry h hs
  obtain ⟨p, xs, i, z, rfl, rfl, hq, he, q⟩ := h
  cases rx
  obtain ⟨t, rfl⟩ := ry
  obtain ⟨its, r, pl, hz⟩ := I.tuple hq
  obtain ⟨j, h1, h2, h3, h4, h5⟩ := qBw he
  obtain ⟨w, ew, rw'⟩ := r.get h2
  have hl := r.length
  have hn := ww
  have fin : EP X pins σ Q w s := ⟨z, H, I, rw', q⟩
  exact subscriptTail_builtinR (x := w) pl.typeIs slot_tuple_getitem.lookup
    (getItem_tuple (j := j) (Q := fun r s' => r = w ∧ EP X pins σ Q r s') pl (by omega) (by omega) (by rw [List.size_toArray, ← hl]; exact h1) (by simpa using ew) ⟨rfl, fin⟩) hs
theorem Inv.lst {pins : List (Addr × Obj)} {σ : St} {H : Hp} {s : Shared} {p : Addr} {xs : List V} (I : Inv X pins σ H s) (h : H p = some (.lst xs)) :
    ∃ (its : List Value) (n : Nat), Vals xs its ∧ s.heap.get? p = some { cls := .type "list", data := .seq its.toArray n } ∧ xs.length ≤ sizeLine := by
  obtain ⟨z, its, n, r, e⟩ := I.hok p _ h
  exact ⟨its, n, r, e, z⟩
theorem wG (lo hi : Option Int) (n : Nat) : (sliceBounds lo hi none n).1 = ((HT.sIx n 0 lo : Nat) : Int) ∧ (sliceBounds lo hi none n).2.1 = ((HT.sIx n n hi : Nat) : Int) ∧ (sliceBounds lo hi none n).2.2 = 1 := by
  refine ⟨?_, ?_, rfl⟩
  · cases lo with
    | none => simp [sliceBounds, HT.sIx]
    | some i =>
      simp only [sliceBounds, HT.sIx, Option.getD_none, show (1 : Int) > 0 by decide, if_true]
      by_cases h : i < 0
      · simp only [h, if_true] <;> omega
      · simp only [h, if_false] <;> omega
  · cases hi with
    | none => simp [sliceBounds, HT.sIx]
    | some i =>
      simp only [sliceBounds, HT.sIx, Option.getD_none, show (1 : Int) > 0 by decide, if_true]
      by_cases h : i < 0
      · simp only [h, if_true] <;> omega
      · simp only [h, if_false] <;> omega
theorem vX (its : List Value) (lo hi : Option Int) : slicePick its.toArray lo hi none = ((its.drop (HT.sIx its.length 0 lo)).take (HT.sIx its.length its.length hi - HT.sIx its.length 0 lo)).toArray := by
  obtain ⟨h1, h2, h3⟩ := wG lo hi its.toArray.size
  unfold slicePick
  rw [h1, h2, h3]
  simp only [sliceRange_one, pick_run, List.size_toArray] <;> rfl
def qH5 (K : PySem.W.Frag) : V → Option Int → Option Int → Hp → VK → Prop := fun x lo hi H Q => ∃ a xs, x = .ref a ∧ SqL K H a xs ∧ ∀ p, H p = none → Q (.ref p) (upd H p (.lst (xv xs lo hi)))
theorem xj : SlR X (qH5 X.K) := by
  intro pins s σ H x v vl vu lo hi sl Q I rx hs pl pu h
  obtain ⟨a, xs, rfl, hx, q⟩ := h
  cases rx
  obtain ⟨its, r, ht, hz⟩ := I.list hx
  have hlen := r.length
  refine ⟨"list", _, slot_list_getitem.lookup, ht.isList.typeIs, ?_⟩
  refine wpAny_getItem_list_slice ht.isList hs pl pu .none (by simp) ?_ (by rw [List.size_toArray] <;> omega)
  rw [vX, ← hlen]
  refine ⟨.ref s.heap.objs.size, _, I.laid (t' := s.toks) (o := .lst (xv xs lo hi)) (fun b ob q => Heap.get?_push_of_some _ q) (Nat.le_refl _) ?_, rfl, q _ (I.hok.fresh (Nat.le_refl _))⟩
  exact ⟨Nat.le_trans (kS xs lo hi) hz, _, 0, (r.drop (HT.sIx xs.length 0 lo)).take (HT.sIx xs.length xs.length hi - HT.sIx xs.length 0 lo), Heap.get?_push_size _ rfl⟩
def xE : V → Bool
  | .non => true
  | .bl _ => true
  | .int _ => true
  | .str _ => true
  | _ => false
def eqV : V → V → Bool
  | .non, .non => true
  | .bl a, .bl b => a == b
  | .bl a, .int b => (if a then 1 else 0) == b
  | .int a, .bl b => a == (if b then 1 else 0)
  | .int a, .int b => a == b
  | .str a, .str b => a == b
  | _, _ => false
theorem vf {A : Around} {s : Shared} {y x : V} {u v : Value} (ry : RelV y u) (rx : RelV x v) (fy : xE y = true) (fx : xE x = true) : SeqAt.EqAt A s u v (eqV y x) := by
  cases y with
  | non =>
    cases ry
    cases x with
    | non => cases rx; exact SeqAt.EqAt.same _
    | bl b => cases rx; exact SeqAt.EqAt.none_bool b
    | int b => obtain ⟨t, rfl⟩ := rx; exact SeqAt.EqAt.none_int b t
    | str b => obtain ⟨t, rfl⟩ := rx; exact SeqAt.EqAt.none_str b t
    | _ => exact absurd (show false = true from fx) Bool.false_ne_true
  | bl a =>
    cases ry
    cases x with
    | non => cases rx; exact SeqAt.EqAt.bool_none a
    | bl b => cases rx; exact SeqAt.EqAt.bool_bool a b
    | int b => obtain ⟨t, rfl⟩ := rx; exact SeqAt.EqAt.bool_int a b t
    | str b => obtain ⟨t, rfl⟩ := rx; exact SeqAt.EqAt.bool_str a b t
    | _ => exact absurd (show false = true from fx) Bool.false_ne_true
  | int a =>
    obtain ⟨t', rfl⟩ := ry
    cases x with
    | non => cases rx; exact SeqAt.EqAt.int_none a t'
    | bl b => cases rx; exact SeqAt.EqAt.int_bool a t' b
    | int b => obtain ⟨t, rfl⟩ := rx; exact SeqAt.EqAt.int_int a t' b t
    | str b => obtain ⟨t, rfl⟩ := rx; exact SeqAt.EqAt.int_str a t' b t
    | _ => exact absurd (show false = true from fx) Bool.false_ne_true
  | str a =>
    obtain ⟨t', rfl⟩ := ry
    cases x with
    | non => cases rx; exact SeqAt.EqAt.str_none a t'
    | bl b => cases rx; exact SeqAt.EqAt.str_bool a t' b
    | int b => obtain ⟨t, rfl⟩ := rx; exact SeqAt.EqAt.str_int a t' b t
    | str b => obtain ⟨t, rfl⟩ := rx; exact SeqAt.EqAt.str_str a t' b t
    | _ => exact absurd (show false = true from fx) Bool.false_ne_true
  | _ => exact absurd (show false = true from fy) Bool.false_ne_true
def eqU (x : V) (u : Value) : Bool := match u with
  | .none => eqV .non x
  | .bool b => eqV (.bl b) x
  | .int i _ => eqV (.int i) x
  | .str z _ => eqV (.str z) x
  | _ => false
theorem qD1 {x y : V} {u : Value} (r : RelV y u) (f : xE y = true) : eqU x u = eqV y x := by
  cases y with
  | non => cases r; rfl
  | bl b => cases r; rfl
  | int i => obtain ⟨t, rfl⟩ := r; rfl
  | str z => obtain ⟨t, rfl⟩ := r; rfl
  | _ => exact absurd (show false = true from f) Bool.false_ne_true
theorem kD {x : V} : ∀ {xs : List V} {us : List Value}, Vals xs us → xs.all xE = true → us.any (eqU x) = xs.any fun y => eqV y x
  | _, _, .nil, _ => rfl
  | y :: xs, u :: us, .cons r t, f => by
    rw [List.all_cons, Bool.and_eq_true] at f
    rw [List.any_cons, List.any_cons, qD1 r f.1, kD t f.2]
theorem zO {A : Around} {s : Shared} {x : V} {v : Value} (rx : RelV x v) (fx : xE x = true) : ∀ {xs : List V} {us : List Value}, Vals xs us → xs.all xE = true → ∀ u ∈ us, SeqAt.EqAt A s u v (eqU x u)
  | _, _, .nil, _ => fun u hu => by cases hu
  | y :: xs, u :: us, .cons r t, f => fun u' hu => by
    rw [List.all_cons, Bool.and_eq_true] at f
    rcases List.mem_cons.mp hu with rfl | hu
    · rw [qD1 r f.1]; exact vf r rx f.1 fx
    · exact zO rx fx t f.2 u' hu
def inV (x : V) (xs : List V) : Bool := xs.any fun y => eqV y x
def rIn (K : PySem.W.Frag) (neg : Bool) : R2 := fun x y H Q => ∃ p xs, y = .ref p ∧ (SqL K H p xs ∨ SqT K H p xs) ∧ xE x = true ∧ xs.all xE = true ∧ Q (.bl (if neg then !inV x xs else inV x xs)) H
theorem v9 : OpR X (compareOp .In) (rIn X.K false) := by
  intro pins s σ H x y v u Q I rx ry h
  obtain ⟨p, xs, rfl, hq, fx, fs, q⟩ := h
  cases ry
  rcases hq with hq | hq
  · obtain ⟨its, r, pl, hz⟩ := I.list hq
    refine SeqAt.in_listAt (eqU x) pl.isList (fun w hw => zO rx fx r fs w (by simpa using hw)) ⟨.bl _, H, I, rfl, ?_⟩
    rw [show its.toArray.any (eqU x) = its.any (eqU x) by simp, kD r fs]
    exact q
  · obtain ⟨its, r, pl, hz⟩ := I.tuple hq
    refine SeqAt.in_tupleAt (eqU x) pl (fun w hw => zO rx fx r fs w (by simpa using hw)) ⟨.bl _, H, I, rfl, ?_⟩
    rw [show its.toArray.any (eqU x) = its.any (eqU x) by simp, kD r fs]
    exact q
theorem ve : OpR X (compareOp .NotIn) (rIn X.K true) := by
  intro pins s σ H x y v u Q I rx ry h
  obtain ⟨p, xs, rfl, hq, fx, fs, q⟩ := h
  cases ry
  rcases hq with hq | hq
  · obtain ⟨its, r, pl, hz⟩ := I.list hq
    refine SeqAt.notIn_listAt (eqU x) pl.isList (fun w hw => zO rx fx r fs w (by simpa using hw)) ⟨.bl _, H, I, rfl, ?_⟩
    rw [show its.toArray.any (eqU x) = its.any (eqU x) by simp, kD r fs]
    exact q
  · obtain ⟨its, r, pl, hz⟩ := I.tuple hq
    refine SeqAt.notIn_tupleAt (eqU x) pl (fun w hw => zO rx fx r fs w (by simpa using hw)) ⟨.bl _, H, I, rfl, ?_⟩
    rw [show its.toArray.any (eqU x) = its.any (eqU x) by simp, kD r fs]
    exact q
theorem qf : CallR X (.builtin "len") (fun xs H Q => ∃ p ys, xs = [.ref p] ∧ (SqL X.K H p ys ∨ SqT X.K H p ys) ∧ Q (.int ys.length) H) := by
  intro pins s σ H xs us Q I r h
  obtain ⟨p, ys, rfl, hq, q⟩ := h
  obtain ⟨u, rfl, rx⟩ := qA6 r
  cases rx
  have hn := ww
  rcases hq with hq | hq
  · obtain ⟨its, r', pl, hz⟩ := I.list hq
    have hlen := r'.length
    exact Calls.call_len_list pl.isList (by simp only [List.size_toArray] <;> omega) ⟨.int ys.length, H, I.tok _, ⟨s.toks + 1, by rw [List.size_toArray, hlen]⟩, q⟩
  · obtain ⟨its, r', pl, hz⟩ := I.tuple hq
    have hlen := r'.length
    exact len_tuple pl (by simp only [List.size_toArray] <;> omega) ⟨.int ys.length, H, I.tok _, ⟨s.toks + 1, by rw [List.size_toArray, hlen]⟩, q⟩
theorem za : CallR X (.builtin "len") (fun xs H Q => ∃ z, xs = [.str z] ∧ z.length ≤ sizeLine ∧ Q (.int z.length) H) := by
  intro pins s σ H xs us Q I r h
  obtain ⟨z, rfl, hz, q⟩ := h
  obtain ⟨u, rfl, t, rfl⟩ := qA6 r
  have hn := ww
  exact len_str (by omega) ⟨.int z.length, H, I.tok _, ⟨_, rfl⟩, q⟩
theorem CallR.or {f : Value} {r r' : List V → Hp → VK → Prop} (h : CallR X f r) (h' : CallR X f r') : CallR X f (fun xs H Q => r xs H Q ∨ r' xs H Q) := by
  intro pins s σ H xs us Q I rs q
  rcases q with q | q
  · exact h pins s σ H xs us Q I rs q
  · exact h' pins s σ H xs us Q I rs q
theorem v0 : CallR X (.type "list") (fun xs H Q => ∃ p ys, xs = [.ref p] ∧ (SqL X.K H p ys ∨ SqT X.K H p ys) ∧ ∀ l, H l = none → Q (.ref l) (upd H l (.lst ys))) := by
  intro pins s σ H xs us Q I r h
  obtain ⟨p, ys, rfl, hq, q⟩ := h
  obtain ⟨u, rfl, rx⟩ := qA6 r
  cases rx
  have fin : ∀ (its : List Value), Vals ys its → ys.length ≤ sizeLine → ∀ (h' : Heap) (c' : Nat), (∀ b o', s.heap.get? b = some o' → h'.get? b = some o') →
      h'.get? s.heap.objs.size = some { cls := .type "list", dict := none, data := .seq its.toArray c', slots := #[] } → EP X pins σ Q (.ref s.heap.objs.size) { s with heap := h' } := fun its r' hz h' c' kp e =>
    ⟨.ref s.heap.objs.size, _, I.laid (t' := s.toks) kp (Nat.le_refl _) (show ObjOk X.prog X.w _ h' _ (.lst ys) from ⟨hz, its, c', r', e⟩), rfl, q _ (I.hok.fresh (Nat.le_refl _))⟩
  rcases hq with hq | hq
  · obtain ⟨its, r', pl, hz⟩ := I.list hq
    have hlen := r'.length
    obtain ⟨o, ho, hc, n, hd⟩ := pl.isList
    exact call_list_seq p (.inl rfl) ho hc hd (fun h' c' kp e => fin its r' hz h' c' kp e) (by simp only [List.size_toArray] <;> omega)
  · obtain ⟨its, r', pl, hz⟩ := I.tuple hq
    have hlen := r'.length
    obtain ⟨o, ho, hc, n, hd⟩ := pl
    exact call_list_seq p (.inr rfl) ho hc hd (fun h' c' kp e => fin its r' hz h' c' kp e) (by simp only [List.size_toArray] <;> omega)
def tyV (K : PySem.W.Frag) (T : String) (x : V) (H : Hp) : Prop := match x with
  | .str _ => T = "str"
  | .int _ => T = "int"
  | .ref p => (T = "list" ∧ ∃ xs, SqL K H p xs) ∨ (T = "tuple" ∧ ∃ o, K.lookup p = some o ∧ o.cls = .type "tuple" ∧ o.dict = none) ∨
      (T = "dict" ∧ ((∃ kvs, H p = some (.dK kvs)) ∨ ∃ kvs, H p = some (.dT kvs))) ∨ (T = "set" ∧ ∃ S n, H p = some (.set S n))
  | _ => False
theorem qEa {pins : List (Addr × Obj)} {σ : St} {H : Hp} {s : Shared} {T : String} {x : V} {v : Value} (I : Inv X pins σ H s) (r : RelV x v) (ty : tyV X.K T x H) :
    s.TypeIs v T ∧ ∀ a, v = .ref a → ∃ ob, s.heap.get? a = some ob ∧ ob.dict = none := by
  cases x with
  | str z =>
    obtain ⟨t, rfl⟩ := r
    cases (show T = "str" from ty)
    exact ⟨typeIs_str s z t, fun _ e => nomatch e⟩
  | int i =>
    obtain ⟨t, rfl⟩ := r
    cases (show T = "int" from ty)
    exact ⟨typeIs_int s i t, fun _ e => nomatch e⟩
  | ref p =>
    cases r
    rcases ty with ⟨rfl, xs, hq⟩ | ⟨rfl, o, hk, hc, hd⟩ | ⟨rfl, hk⟩ | ⟨rfl, S, n, hk⟩
    · obtain ⟨its, _, pl, _⟩ := I.list hq
      refine ⟨pl.isList.typeIs, fun a e => ?_⟩
      cases e
      obtain ⟨o, n, e, c, hd, _⟩ := pl
      exact ⟨o, e, hd⟩
    · refine ⟨⟨o, I.kIn p o hk, hc⟩, fun a e => ?_⟩
      cases e
      exact ⟨o, I.kIn _ o hk, hd⟩
    · have z : ∃ o, s.heap.get? p = some o ∧ o.ExactDict := by
        rcases hk with ⟨kvs, hk⟩ | ⟨kvs, hk⟩
        · obtain ⟨_, _, _, _, o, _, _, e, ex, _⟩ := I.hok p _ hk
          exact ⟨o, e, ex⟩
        · obtain ⟨_, _, _, _, o, _, _, e, ex, _⟩ := I.hok p _ hk
          exact ⟨o, e, ex⟩
      obtain ⟨o, e, ex⟩ := z
      refine ⟨⟨o, e, ex.1⟩, fun a e2 => ?_⟩
      cases e2
      exact ⟨o, e, ex.2.1⟩
    · obtain ⟨o, _, _, _, e, ex, _⟩ := I.hok p _ hk
      refine ⟨⟨o, e, ex.1⟩, fun a e2 => ?_⟩
      cases e2
      exact ⟨o, e, ex.2.1⟩
  | _ => exact False.elim ty
def qH9 (K : PySem.W.Frag) (T : String) (r : V → List V → Hp → VK → Prop) (to : TE) : TE := fun σ H Q => to σ H fun x H1 => tyV K T x H1 ∧ r x [] H1 Q
def tBM (K : PySem.W.Frag) (T : String) (r : V → List V → Hp → VK → Prop) (to : TE) (t : TA) : TE := fun σ H Q => to σ H fun x H1 => tyV K T x H1 ∧ t σ H1 fun xs H2 => r x xs H2 Q
variable {o e : Expr} {es : List Expr} {to : TE} {t : TA} {name : Str} {apos cpos : Pos} {T id : String} {r : V → List V → Hp → VK → Prop}
theorem qGw (pa : PlainAttrs T) (slot : Slot T name id) (hty : typeOf (.builtin id) = pure (.type "method_descriptor")) (hm : MtR X id r) (ho : PE X o to)
    (hbase : attributeBase o name X.env (eval o X.env) = eval o X.env := by rfl) (hline : (apos.endLine == cpos.line) = true := by rfl) : PE X (.Call (.Attribute o name apos) [] [] cpos) (qH9 X.K T r to) := by
  intro pins s σ H Q I h
  refine wpAny_Call_method0_late hbase hline (thn (ho pins s σ H _ I h) fun v s1 ⟨x, H1, I1, r1, ty, q1⟩ => ?_)
  obtain ⟨h1, h2⟩ := qEa I1 r1 ty
  exact ⟨T, id, pa, slot, hty, h1, h2, Calls.callWith_builtin rfl (PySem.evalArgs_none (hm pins s1 σ H1 x [] v [] Q I1 r1 .nil q1))⟩
theorem vU (pa : PlainAttrs T) (slot : Slot T name id) (hty : typeOf (.builtin id) = pure (.type "method_descriptor")) (hm : MtR X id r) (ho : PE X o to) (ha : PA X (e :: es) t)
    (hbase : attributeBase o name X.env (eval o X.env) = eval o X.env := by rfl)
    (hfew : ((backTo cpos (starEach (e :: es) X.env)).all (fun x => !x.1) && (backToKw cpos (keywordEach [] X.env)).all (fun x => x.1.isSome)
      && decide ((e :: es).length + ([] : List Keyword).length + (if ([] : List Keyword).isEmpty then 0 else 1) < 30)) = true := by rfl)
    (hline : (apos.endLine == cpos.line) = true := by rfl) (hs : starEach (e :: es) X.env = (false, eval e X.env) :: starEach es X.env := by rfl) (hplain : (backTo cpos (starEach es X.env)).any (·.1) = false := by rfl) :
    PE X (.Call (.Attribute o name apos) (e :: es) [] cpos) (tBM X.K T r to t) := by
  intro pins s σ H Q I h
  refine wpAny_Call_method_late hbase hfew hline rfl (thn (ho pins s σ H _ I h) fun v s1 ⟨x, H1, I1, r1, ty, q1⟩ => ?_)
  obtain ⟨h1, h2⟩ := qEa I1 r1 ty
  refine ⟨T, id, pa, slot, hty, h1, h2, ?_⟩
  have hA := ha cpos pins s1 σ H1 _ I1 q1
  rw [hs] at hA ⊢
  refine Calls.callWith_builtin (by show (false || (backTo cpos (starEach es X.env)).any (·.1)) = false; rw [hplain] <;> rfl) (Calls.evalArgs_plain ?_)
  exact thn hA fun us s2 ⟨vs, H2, I2, r2, q2⟩ => hm pins s2 σ H2 x vs v us Q I2 r1 r2 q2
end
end L2
namespace L2
open PySem PySem.Spec PyProof.Rows
def MtM (X : Cx) (id : String) (r : V → List V → Hp → VK → Prop) : Prop :=
  ∀ (pins : List (Addr × Obj)) (s : Shared) (σ : St) (H : Hp) (x : V) (xs : List V) (v : Value) (us : List Value) (Q : VK), Inv X pins σ H s → RelV x v → Vals xs us → r x xs H Q →
    wpAny (model X.prog X.w) X.A (call (.builtin id) (v :: us)) (EP X pins σ Q) X.xe s
theorem Vals.one : ∀ {x : V} {us : List Value}, Vals [x] us → ∃ u, us = [u] ∧ RelV x u
  | _, _, .cons r .nil => ⟨_, rfl, r⟩
theorem Vals.two : ∀ {x y : V} {us : List Value}, Vals [x, y] us → ∃ u v, us = [u, v] ∧ RelV x u ∧ RelV y v
  | _, _, _, .cons r (.cons q .nil) => ⟨_, _, rfl, r, q⟩
theorem Vals.zero : ∀ {us : List Value}, Vals [] us → us = []
  | _, .nil => rfl
theorem Vals.dropLast {xs : List V} {us : List Value} (h : Vals xs us) : Vals xs.dropLast us.dropLast := by
  induction h with
  | nil => exact .nil
  | cons r t ih =>
    cases t with
    | nil => exact .nil
    | cons q t' => exact .cons r ih
theorem Vals.eraseIdx : ∀ {xs : List V} {us : List Value} (i : Nat), Vals xs us → Vals (xs.eraseIdx i) (us.eraseIdx i)
  | _, _, _, .nil => .nil
  | _, _, 0, .cons _ t => t
  | _, _, i + 1, .cons r t => .cons r (Vals.eraseIdx i t)
theorem Vals.reverse {xs : List V} {us : List Value} (h : Vals xs us) : Vals xs.reverse us.reverse := by
  induction h with
  | nil => exact .nil
  | cons r t ih => rw [List.reverse_cons, List.reverse_cons]; exact Vals.append ih (.cons r .nil)
theorem Vals.rep {xs : List V} {us : List Value} (h : Vals xs us) : ∀ k : Nat, Vals (List.replicate k xs).flatten (List.replicate k us).flatten
  | 0 => .nil
  | k + 1 => by
    rw [List.replicate_succ, List.replicate_succ, List.flatten_cons, List.flatten_cons]
    exact Vals.append h (Vals.rep h k)
theorem qAz {α : Type} (l : List α) : l.eraseIdx (l.length - 1) = l.dropLast := by
  induction l with
  | nil => rfl
  | cons a r ih =>
    cases r with
    | nil => rfl
    | cons b r =>
      have e : (a :: b :: r).length - 1 = ((b :: r).length - 1) + 1 := by
        have h1 : (a :: b :: r).length = r.length + 2 := rfl
        have h2 : (b :: r).length = r.length + 1 := rfl
        omega
      rw [e, List.eraseIdx_cons_succ, ih]
      all_goals rfl
section
variable {X : Cx} {pins : List (Addr × Obj)} {σ : St} {H : Hp} {s : Shared} {l b : Addr} {xs ys zs : List V}
theorem Inv.lset {its its' : List Value} {n : Nat} {f : Array Value → Array Value} {t' : Nat} (I : Inv X pins σ H s) (hH : H l = some (.lst xs))
    (e : s.heap.get? l = some { cls := .type "list", data := .seq its.toArray n }) (hf : f its.toArray = its'.toArray) (hv : Vals ys its') (hz : ys.length ≤ sizeLine) :
    Inv X pins σ (upd H l (.lst ys)) { s with heap := s.heap.update l (Obj.mapSeq f), toks := t' } := by
  have q := PySem.IsL.update e f
  rw [hf] at q
  refine I.write (x := l) (e := l) (by rw [hH]; exact trivial) (.inl rfl) (fun b' u hb hu => (Heap.get?_update_other s.heap (Obj.mapSeq f) (Ne.symm hb)).trans hu) ⟨_, q⟩ ?_
  exact ⟨hz, its', _, hv, q⟩
theorem Inv.lnew {its : List Value} {t' : Nat} (I : Inv X pins σ H s) (hv : Vals ys its) (hz : ys.length ≤ sizeLine) :
    Inv X pins σ (upd H s.heap.objs.size (.lst ys)) { s with heap := s.heap.push { cls := .type "list", data := .seq its.toArray }, toks := t' } :=
  I.laid (fun _ _ q => Heap.get?_push_of_some _ q) (Nat.le_refl _) ⟨hz, its, 0, hv, Heap.get?_push_size _ rfl⟩
theorem Inv.fresh (I : Inv X pins σ H s) : H s.heap.objs.size = none := I.hok.fresh (Nat.le_refl _)
theorem Inv.lstM (I : Inv X pins σ H s) (hH : H l = some (.lst xs)) : xs.length ≤ sizeLine ∧ ∃ (its : List Value) (n : Nat), Vals xs its ∧ xs.length = its.length ∧ s.heap.get? l = some { cls := .type "list", data := .seq its.toArray n } := by
  obtain ⟨z, its, n, r, e⟩ := I.hok l _ hH
  exact ⟨z, its, n, r, r.length, e⟩
end
section
variable {X : Cx}
def qEu : V → List V → Hp → VK → Prop := fun x vs H Q => ∃ l xs y, x = .ref l ∧ vs = [y] ∧ H l = some (.lst xs) ∧ xs.length < sizeLine ∧ Q .non (upd H l (.lst (xs ++ [y])))
theorem jm : MtM X "list.append" qEu := by
  intro pins s σ H x vs v us Q I rx rv h
  obtain ⟨l, xs, y, rfl, rfl, hH, hz, q⟩ := h
  cases rx
  obtain ⟨u, rfl, ru⟩ := rv.one
  obtain ⟨z, its, n, r, hl, e⟩ := I.lstM hH
  refine call_meets F.slot_list_append ⟨_, e, rfl⟩ F.entry_list_append (F.args_list_append_2 _ _) (PySem.list_append l its.toArray n u (by rw [List.size_toArray]; omega)) ⟨e, ?_⟩
  refine ⟨.non, _, I.lset (its' := its ++ [u]) hH e (by simp) (r.append (.cons ru .nil)) ?_, rfl, q⟩
  rw [List.length_append, List.length_singleton]
  omega
def qIw : V → List V → Hp → VK → Prop := fun x vs H Q => ∃ l xs y, x = .ref l ∧ vs = [] ∧ H l = some (.lst xs) ∧ xs[xs.length - 1]? = some y ∧ Q y (upd H l (.lst xs.dropLast))
theorem qFv : MtM X "list.pop" qIw := by
  intro pins s σ H x vs v us Q I rx rv h
  obtain ⟨l, xs, y, rfl, rfl, hH, hy, q⟩ := h
  cases rx
  have hus := rv.zero
  subst hus
  obtain ⟨z, its, n, r, hl, e⟩ := I.lstM hH
  obtain ⟨u, hu, ru⟩ := r.get hy
  have hy' : its.toArray[its.toArray.size - 1]? = some u := by
    show its.toArray[its.length - 1]? = some u
    rw [← Array.getElem?_toList, ← hl]
    exact hu
  refine call_meets F.slot_list_pop ⟨_, e, rfl⟩ F.entry_list_pop (F.args_list_pop_1 _) (MeetsSeq.list_pop_last l its.toArray n u hy' (by rw [List.size_toArray]; omega)) ⟨e, ?_⟩
  refine ⟨y, _, I.lset (its' := its.dropLast) hH e ?_ r.dropLast ?_, ru, q⟩
  · show its.toArray.eraseIdxIfInBounds (its.toArray.size - 1) = its.dropLast.toArray
    rw [List.size_toArray, List.eraseIdxIfInBounds_toArray, qAz]
  · rw [List.length_dropLast]
    omega
def qIq : R2 := fun x y H Q => ∃ l b xs zs, x = .ref l ∧ y = .ref b ∧ H l = some (.lst xs) ∧ H b = some (.lst zs) ∧ xs.length + zs.length ≤ sizeLine ∧ ∀ p, H p = none → Q (.ref p) (upd H p (.lst (xs ++ zs)))
theorem xg : OpR X (binaryOp .Add) qIq := by
  intro pins s σ H x y v u Q I rx ry h
  obtain ⟨l, b, xs, zs, rfl, rfl, hH, hB, hz, q⟩ := h
  cases rx
  cases ry
  obtain ⟨z, its, n, r, hl, e⟩ := I.lstM hH
  obtain ⟨z2, its2, n2, r2, hl2, e2⟩ := I.lstM hB
  refine PySem.P.add_list e e2 ?_ (by rw [List.size_toArray, List.size_toArray]; omega)
  have ea : its.toArray ++ its2.toArray = (its ++ its2).toArray := by simp
  rw [ea]
  exact ⟨.ref _, _, I.lnew (t' := s.toks) (r.append r2) (by rw [List.length_append]; omega), rfl, q _ I.fresh⟩
end
section
variable {prog : Program} {w : World} {A : Around} {E : Value → Shared → Prop} {s : Shared}
end
section
variable {X : Cx}
end
end L2
namespace Att
open PySem PySem.W PySem.Calls PyProof.Rows
theorem kB {P : Params} {h : Heap} : ∀ (ns : List Int) (vs : List Value), WellAll P h vs (ns.map WData.int) → IntsAre vs ns := by
  intro ns
  induction ns with
  | nil =>
    intro vs w
    rw [List.map_nil] at w
    cases w
    exact .nil
  | cons n ns ih =>
    intro vs w
    rw [List.map_cons] at w
    cases w with
    | cons a b =>
      cases a
      exact .cons _ _ (ih _ b)
theorem qCn {l : OpenLaw} {n : Nat} (hn : l.most = some n) {P : Params} {h : Heap} {args : List WData} {vals : List Value}
    (hpre : l.row.toRowW.claim.pre args = true) (hwl : WellAll P h vals args) :
    ∃ a vs ns, vals = [Value.ref a] ∧ args = [WData.list (ns.map WData.int)] ∧ h.get? a = some { cls := .type "list", data := .seq vs.toArray } ∧ IntsAre vs ns ∧ ns.length ≤ n := by
  have hsh : WShape.hasAll [] args [.list .int] = true := (pre_splitW hpre).1
  have hc : l.pre.holds [] { args := args } = true := (pre_splitW hpre).2
  obtain ⟨d, r, rfl, h1, h2⟩ := hasAllW_cons hsh
  obtain rfl := hasAllW_nil h2
  obtain ⟨xs, rfl, h3⟩ := hasW_list h1
  obtain ⟨ns, rfl⟩ := items_int h3
  have hlen : ns.length ≤ n := by
    unfold OpenLaw.pre at hc
    have h4 : (WTm.not (.lt (.lit (.int (n : Int))) (.len (.arg 0)))).holds [] { args := [.list (ns.map .int)] } = true := by
      have h4 := (holds_andW hc).1
      rw [hn] at h4
      exact h4
    have h5 := condW_of h4 (w_not (w_lt w_lit (w_len_list (w_arg rfl))))
    rw [List.length_map] at h5
    refine Nat.le_of_not_lt fun q => ?_
    have q' : (n : Int) < ((ns.length : Nat) : Int) := by omega
    first
      | (rw [decide_eq_true q'] at h5; exact absurd h5 (by decide))
      | (simp at h5; omega)
  cases hwl with
  | cons w1 w2 =>
    cases w2
    cases w1 with
    | list ho hall => exact ⟨_, _, ns, rfl, rfl, ho, kB ns _ hall, hlen⟩
theorem qBb (l : OpenLaw) (args : List WData) : l.row.toRowW.claim.post args (.bool true) args = true :=
  postW_of (r := l.row.toRowW) (X := (true == true))
    (show WShape.has [] (.bool true) .bool = true by first | rfl | decide | simp [WShape.has, WShape.arms, WShape.armsAll])
    (show (WTm.eq .res (.lit (.bool true))).value [] { args := args, res := some (.bool true), after := args } = some (.bool (true == true)) from w_eq_bool (w_res rfl) w_lit) rfl
theorem attach_call {l : OpenLaw} {n : Nat} {q : Program} {loose : List Str} {XP : (Str → Option Value) → Heap → Prop} {YP : World → Heap → Prop} {d : DefRec}
    (hn : l.most = some n) (hdf : d.params.defaults = [])
    (call : ∀ (w : World) (s₀ s₁ : Shared) (mg mb : Str → Option Value) (fa : Addr) (o : Obj) (pm cd doc : Value) (a : Addr) (vs : List Value) (ns : List Int),
      Ground q loose [] XP w s₀ mg mb s₁.heap → YP w s₁.heap →
      s₁.heap.get? fa = some o → o.data = .func (docDef d.name d.params d.body d.scope pm cd doc) → s₁.heap.CodeRec cd d.name → mg d.name = some (.ref fa) →
      s₁.heap.get? a = some { cls := .type "list", data := .seq vs.toArray } → IntsAre vs ns → ns.length ≤ n → s₁.gens = #[] →
      codeAny (model l.prog w) callerA (.call (.ref fa) ⟨[.ref a], []⟩) (fun r s' => r = .ok (.ret (.bool true)) ∧ OldK s₁.heap s'.heap ∧ s'.os = s₁.os ∧ AllBare s'.gens) s₁) :
    WalkO q loose XP YP l.row.toRowW d [] (fun f vs => PySem.call f vs) := by
  intro w s₀ s₁ mg mb G Y fa o pm cd doc dV kV ho hd hcd hD hmg hg args vals as hpre hlay hrd hwl hlo
  obtain rfl : dV = .none := Dflts.none hD hdf
  obtain rfl : kV = .none := Dflts.noKw hD
  obtain ⟨a, vs, ns, rfl, rfl, hobj, hints, hlen⟩ := qCn hn hpre hwl
  refine enter_call (codeAny_mono (call w s₀ s₁ mg mb fa o pm cd doc a vs ns G Y ho (fd_plain hd) hcd hmg hobj hints hlen hg) fun r s' hq => ?_)
  obtain ⟨rfl, h2, h3, h4⟩ := hq
  exact ⟨.inl ⟨.bool true, .bool true, [], rfl, fun _ => rfl, .bool true, qBb l _, fun _ => ⟨List.Pairwise.nil, fun _ hm => (nomatch hm)⟩⟩, h2, h3, h4⟩
section
variable {prog : Program} {w : World} {A : Around} {E : Value → Shared → Prop} {s : Shared} {K : Frag}
def ledger (h : Heap) (L d : Addr) : List (Addr × Obj) := (List.range h.objs.size).filterMap fun a => if a = L ∨ a = d then none else (h.get? a).map fun o => (a, o)
end
end Att
namespace L2
open PySem PySem.Spec PyProof.Rows
theorem wI : ∀ {vs : List Value} {ns : List Int}, IntsAre vs ns → Vals (ns.map V.int) vs
  | _, _, .nil => .nil
  | _, _, .cons n t h => .cons ⟨t, rfl⟩ (wI h)
def qHs (H : Hp) : Prop := ∀ b, H b = none ∨ ∃ o xs, H b = some (.frz o (.lst xs))
theorem qCw {P : Program} {w : World} {K : PySem.W.Frag} {mg mb : Str → Option Value} {CX : CXT} {k : Nat} {fa a : Addr} {fd : FuncData} {x : Str} {sp : Sp} {s₁ : Shared} {vs : List Value} {ns : List Int}
    (KX : K.In s₁.heap) (hns : s₁.heap.Ns mainGlobals mg) (hb : s₁.heap.Ns builtinsNs mb) (hbb : ∀ x : Str, x ≠ "__name__" → mb x = bootBuiltins x) (hlim : s₁.heap.NoLimit) (hg : s₁.gens = #[])
    (ha : s₁.heap.get? a = some { cls := .type "list", data := .seq vs.toArray }) (hi : IntsAre vs ns) (hl : ns.length ≤ sizeLine) (hr : Room k callerA)
    (F : ∀ base : Heap, K.In base → base.Ns mainGlobals mg → FnOk P w K mg base CX k fa fd [x] sp) (hbind : ∀ (s : Shared) (u : Value), BindsTo s fd ⟨[u], []⟩ [(x, u)])
    (hsp : ∀ H : Hp, qHs H → SqL K H a (ns.map V.int) → sp [.ref a] H (fun v _ => v = .bl true) fun _ _ _ => False)
    (hCX : ∀ H e s', CX [] H s₁ (fun _ _ _ => False) e s' → False) :
    codeAny (model P w) callerA (.call (.ref fa) ⟨[.ref a], []⟩) (fun r s' => r = .ok (.ret (.bool true)) ∧ OldK s₁.heap s'.heap ∧ s'.os = s₁.os ∧ AllBare s'.gens) s₁ := by
  have rv := wI hi
  have lenV := hi.length
  have core : ∀ H : Hp, qHs H → SqL K H a (ns.map V.int) → HOk P w H s₁.heap → (∀ b, H b ≠ none → b = a) → (H a ≠ none → K.lookup a = none) →
      codeAny (model P w) callerA (.call (.ref fa) ⟨[.ref a], []⟩) (fun r s' => r = .ok (.ret (.bool true)) ∧ OldK s₁.heap s'.heap ∧ s'.os = s₁.os ∧ AllBare s'.gens) s₁ := by
    intro H hO hS hok hA hK
    have base_of : ∀ {b : Addr} {o : Obj}, s₁.heap.get? b = some o → H b = none → (qDd s₁.heap H).get? b = some o := fun e n => qCv e n
    have noA : ∀ {b : Addr} {o : Obj} {es : Array DictEntry} {ep : Nat}, s₁.heap.get? b = some o → o.data = .dict es ep → H b = none := fun {b o es ep} e d => by
      cases q : H b with
      | none => rfl
      | some u =>
        have e' : b = a := hA b (by rw [q]; simp)
        subst e'
        rw [ha] at e; cases e
        have d' : Data.seq vs.toArray _ = Data.dict es ep := d
        cases d'
    have nsK : ∀ {b : Addr} {m : Str → Option Value}, s₁.heap.Ns b m → (qDd s₁.heap H).Ns b m := fun {b m} ⟨o, es, ep, e, d, r⟩ => ⟨o, es, ep, base_of e (noA e d), d, r⟩
    have hKb : K.In (qDd s₁.heap H) := fun b o e => base_of (KX b o e) (by
      cases q : H b with
      | none => rfl
      | some u =>
        have e' : b = a := hA b (by rw [q]; simp)
        subst e'
        rw [hK (by rw [q]; simp)] at e; cases e)
    have hM : Mod K mg (qDd s₁.heap H) := ⟨hKb, nsK hns, ⟨mb, nsK hb, hbb⟩, let ⟨mc, h1, h2⟩ := hlim; ⟨mc, nsK h1, h2⟩⟩
    have e0 : Env0 P w K mg (qDd s₁.heap H) callerA [] s₁ H := ⟨rfl, hM, fun b o e => qEv e, Nat.le_of_eq (qBi _ _), trivial, fun b hb => absurd (show b ∈ ([] : List Addr) from hb) (by simp), hok, .of_eq hg⟩
    refine codeAny_mono ((F _ hKb (nsK hns)).run callerA [] s₁ H ⟨[.ref a], []⟩ [.ref a] [.ref a] _ _ hr e0 (hbind s₁ (.ref a)) (.cons rfl .nil) (hsp H hO hS)) fun r s' h => ?_
    cases r with
    | error e => exact (hCX H e s' h).elim
    | ok fl =>
      cases fl with
      | next => exact False.elim h
      | brk => exact False.elim h
      | cont => exact False.elim h
      | ret u =>
        obtain ⟨v, H', os, bare, un, hok', r', q⟩ := h
        have q' : v = .bl true := q
        subst q'
        obtain rfl : u = Value.bool true := r'
        refine ⟨rfl, OldK.of_keep fun b o e => ?_, os, bare⟩
        cases q : H b with
        | none => exact un.keep b o e q (by intro z; exact absurd (show b ∈ ([] : List Addr) from z) (by simp)) (by simp)
        | some u =>
          rcases hO b with z | ⟨ob, xs, z⟩
          · rw [q] at z; cases z
          · have z2 := un.frzs b ob _ z
            obtain ⟨e1, _⟩ := hok b _ z
            obtain ⟨e2, _⟩ := hok' b _ z2
            rw [e] at e1; cases e1
            exact e2
  cases hk : K.lookup a with
  | some o =>
    have e := KX a o hk
    rw [ha] at e
    cases e
    refine core (fun _ => none) (fun _ => .inl rfl) (.inr ⟨_, vs.toArray, _, hk, rfl, rfl, rfl, by rw [List.size_toArray, lenV]; exact hl, by simpa using rv⟩) (fun b u z => by have z' : (none : Option HO) = some u := z; cases z') (fun b z => absurd rfl z) fun z => absurd rfl z
  | none =>
    refine core (fun b => if b = a then some (.frz { cls := .type "list", data := .seq vs.toArray } (.lst (ns.map V.int))) else none) (fun b => ?_) (.inl (.inr ⟨{ cls := .type "list", data := .seq vs.toArray }, if_pos rfl⟩)) (fun b u z => ?_) (fun b z => ?_) fun _ => hk
    · by_cases hb : b = a
      · exact .inr ⟨_, _, if_pos hb⟩
      · exact .inl (if_neg hb)
    · by_cases hb : b = a
      · have z' := (if_pos hb).symm.trans z
        cases z'
        subst hb
        exact ⟨ha, by rw [List.length_map]; exact hl, vs, _, rv, ha⟩
      · have z' := (if_neg hb).symm.trans z
        cases z'
    · by_cases hb : b = a
      · exact hb
      · exact absurd (if_neg hb) z
end L2
namespace L2
open PySem PySem.Spec PyProof.Rows
theorem walk_of {l : PySem.W.OpenLaw} {n k : Nat} {q : Program} {loose : List Str} {XP : (Str → Option Value) → Heap → Prop} {YP : World → Heap → Prop} {d : DefRec} {K : Params → PySem.W.Frag} {CX : World → CXT} {sp : World → Sp} {x : Str}
    (hn : l.most = some n) (hn2 : n ≤ sizeLine) (hdf : d.params.defaults = []) (hr : Room k callerA)
    (hY : ∀ (w : World) (h : Heap), YP w h → (K w.params).In h)
    (F : ∀ (w : World) (mg : Str → Option Value) (fa : Addr) (h : Heap), (K w.params).In h → h.Ns mainGlobals mg → mg d.name = some (.ref fa) →
      ∃ fd : FuncData, (∀ (s : Shared) (u : Value), BindsTo s fd ⟨[u], []⟩ [(x, u)]) ∧
        ∀ base : Heap, (K w.params).In base → base.Ns mainGlobals mg → FnOk l.prog w (K w.params) mg base (CX w) k fa fd [x] (sp w))
    (hsp : ∀ (w : World) (H : Hp) (a : Addr) (ns : List Int), ns.length ≤ n → qHs H → SqL (K w.params) H a (ns.map V.int) → sp w [.ref a] H (fun v _ => v = .bl true) fun _ _ _ => False)
    (hCX : ∀ (w : World) (H : Hp) (s : Shared) (e : Value) (s' : Shared), CX w [] H s (fun _ _ _ => False) e s' → False) :
    PySem.W.WalkO q loose XP YP l.row.toRowW d [] (fun f vs => PySem.call f vs) := by
  refine Att.attach_call hn hdf fun w s₀ s₁ mg mb fa o pm cd doc a vs ns G Y ho hd hcd hmg hobj hints hlen hg => ?_
  have KX := hY w _ Y
  obtain ⟨fd, hb, hF⟩ := F w mg fa _ KX G.T.g hmg
  exact qCw KX G.T.g G.T.b G.T.builtins G.T.nolimit hg hobj hints (Nat.le_trans hlen hn2) hr hF hb (fun H hO hS => hsp w H a ns hlen hO hS) fun H e s' => hCX w H s₁ e s'
end L2
namespace L2
open PySem PySem.Spec PyProof.Rows
def qEc (s : Stmt) (j : Nat) : Stmt := match s with
  | .ClassDef _ _ _ body _ _ _ _ _ _ _ => body.getD j (.Pass ⟨0, 0, 0, 0⟩)
  | _ => .Pass ⟨0, 0, 0, 0⟩
def qW (s : Stmt) : Arguments := match s with
  | .FunctionDef _ a _ _ _ _ _ _ _ _ => a
  | _ => { posonlyargs := [], args := [], vararg := none, kwonlyargs := [], kw_defaults := [], kwarg := none, defaults := [] }
def qS (s : Stmt) : List Stmt := match s with
  | .FunctionDef _ _ b _ _ _ _ _ _ _ => b
  | _ => []
def qG (s : Stmt) : Scope := match s with
  | .FunctionDef _ _ _ _ _ _ sc _ _ _ => sc
  | _ => { kind := .function, names := [], isGenerator := false, isCoroutine := false }
abbrev CX0 : CXT := fun _ _ _ _ _ _ => False
abbrev E0 : XK := fun _ _ _ => False
theorem qHe {X : Cx} : wk CX0 X E0 := fun _ _ _ _ _ _ _ h => h.elim
structure Fun (K : PySem.W.Frag) (x qual : Str) (st : Stmt) (f : Addr) (fd : FuncData) : Prop where
  ex : ∃ (oc : Value) (od : Option Addr) (kV doc pm : Value) (an : Option Addr) (cdv ct : Value) (osl : Array (Option Value)),
    fd = PySem.W.fnOf x qual (qW st) (qS st) (qG st) .none kV doc pm an cdv ct ∧ K.lookup f = some ⟨oc, od, .func fd, osl⟩ ∧ PySem.W.codeIn K cdv qual = true
  kp : PySem.W.keepIn K (.ref f) = true
section
variable {P : Program} {w : World} {K : PySem.W.Frag} {mg : Str → Option Value} {base : Heap}
theorem Fun.ok {x qual : Str} {st : Stmt} {f : Addr} {fd : FuncData} {N ps : List Str} {k : Nat} {sp : Sp} (F : Fun K x qual st f fd) (S : qX N ps (qG st)) (len : ∀ vs H Q E, sp vs H Q E → vs.length = ps.length)
    (hbody : ∀ (cdv : Value) (A : Around) (outer : List Env) (s : Shared) (H : Hp) (vs : List V) (Q : VK) (E : XK), Room k (A.deeper (envOfC qual (qG st) s.heap.objs.size f cdv)) → sp vs H Q E →
      ∃ t, PSs (qCq CX0 P w K mg base N qual (qG st) f cdv A outer s H E).nox (qS st) t ∧ t { nx := fun _ H' => Q .non H', rt := Q } (vE N vs) H) : FnOk P w K mg base CX0 (k + 1) f fd ps sp := by
  obtain ⟨oc, od, kV, doc, pm, an, cdv, ct, osl, rfl, lk, hcd⟩ := F.ex
  refine qF8 lk hcd S len fun A outer s H vs Q E hr hsp => ?_
  obtain ⟨t, h, q⟩ := hbody cdv A outer s H vs Q E hr hsp
  exact ⟨t, h.nox, q⟩
theorem Fun.binds {x qual : Str} {st : Stmt} {f : Addr} {fd : FuncData} {ps : List Str} (F : Fun K x qual st f fd)
    (h : ∀ (kV doc pm : Value) (an : Option Addr) (cdv ct : Value) (us : List Value), us.length = ps.length → bindArgs (PySem.W.fnOf x qual (qW st) (qS st) (qG st) .none kV doc pm an cdv ct) ⟨us, []⟩ = pure (ps.zip us)) : Binds K fd ps [] := by
  obtain ⟨oc, od, kV, doc, pm, an, cdv, ct, osl, rfl, lk, hcd⟩ := F.ex
  exact .all (h kV doc pm an cdv ct)
theorem qi {x qual : Str} {st : Stmt} {f : Addr} {oc : Value} {od an : Option Addr} {osl : Array (Option Value)} {kV doc pm cdv ct : Value} (l : K.lookup f = some ⟨oc, od, .func (PySem.W.fnOf x qual (qW st) (qS st) (qG st) .none kV doc pm an cdv ct), osl⟩)
    (c : PySem.W.codeIn K cdv qual = true) (k : PySem.W.keepIn K (.ref f) = true) : Fun K x qual st f (PySem.W.fnOf x qual (qW st) (qS st) (qG st) .none kV doc pm an cdv ct) := ⟨⟨oc, od, kV, doc, pm, an, cdv, ct, osl, rfl, l, c⟩, k⟩
end
theorem qd {n : Nat} (h : n ≤ 1000) : n < sizeLine := Nat.lt_of_le_of_lt h (by decide)
section
variable {X : Cx}
theorem pv (i : Nat) {x : Str} {pos : Pos} (hN : X.N[i]? = some x := by rfl) (hv : Vis X.env.scope x := by first | exact Or.inl rfl | exact Or.inr (Or.inl rfl) | exact Or.inr (Or.inr rfl)) (hd : (x == ("__debug__" : Str)) = false := by decide)
    (hcd : (x == ("__classdict__" : Str)) = false := by decide) : PE X (.Name x pos) (qHw i) := qF9 hN hv hd hcd
end
theorem qo {A B : Prop} (h : B) : if false = true then A else B := by
  rw [if_neg Bool.false_ne_true]
  exact h
theorem jI {A B : Prop} (h : A) : if true = true then A else B := by
  rw [if_pos rfl]
  exact h
theorem zH {c A B : Prop} [Decidable c] (h1 : c → A) (h2 : ¬ c → B) : if c then A else B := by
  by_cases h : c
  · rw [if_pos h]
    exact h1 h
  · rw [if_neg h]
    exact h2 h
theorem qBa {c A B : Prop} [Decidable c] (hc : c) (h : B) : if (!decide c) = true then A else B := by
  rw [decide_eq_true hc]
  exact qo h
def Same (H H' : Hp) : Prop := ∀ b o, H b = some o → H' b = some o
theorem Same.refl (H : Hp) : Same H H := fun _ _ h => h
theorem Same.trans {H H1 H2 : Hp} (a : Same H H1) (b : Same H1 H2) : Same H H2 := fun c o h => b c o (a c o h)
theorem Same.free {H H' : Hp} (e : Same H H') {l : Addr} (h : H' l = Option.none) : H l = Option.none := by
  cases q : H l with
  | none => rfl
  | some o =>
    rw [e l o q] at h
    cases h
theorem Same.seq {K : PySem.W.Frag} {H H' : Hp} {a : Addr} {xs : List V} (e : Same H H') (h : SqL K H a xs) : SqL K H' a xs := by
  rcases h with (h | ⟨o, h⟩) | h
  · exact .inl (.inl (e _ _ h))
  · exact .inl (.inr ⟨o, e _ _ h⟩)
  · exact .inr h
end L2
namespace L2
open PySem PySem.Spec PyProof.Rows
section
variable {κ : Type} [DecidableEq κ]
def wl (kvs : List (κ × V)) (k : κ) : Option V := (kvs.find? fun kv => decide (kv.1 = k)).map (·.2)
def qDx (kvs : List (κ × V)) (k : κ) (v : V) : List (κ × V) :=
  if (kvs.any fun kv => decide (kv.1 = k)) = true then kvs.map (fun kv => if kv.1 = k then (kv.1, v) else kv) else kvs ++ [(k, v)]
def qGd (kvs : List (κ × V)) (k : κ) : List (κ × V) := kvs.filter fun kv => decide (kv.1 ≠ k)
theorem vN {p : κ × V} {r : List (κ × V)} {k : κ} (e : p.1 = k) : wl (p :: r) k = some p.2 := by simp [wl, List.find?_cons, e]
theorem vD {p : κ × V} {r : List (κ × V)} {k : κ} (e : ¬ p.1 = k) : wl (p :: r) k = wl r k := by simp [wl, List.find?_cons, e]
theorem qAa (k : κ) : ∀ kvs : List (κ × V), (kvs.any fun kv => decide (kv.1 = k)) = (wl kvs k).isSome
  | [] => rfl
  | p :: r => by
    rw [List.any_cons]
    by_cases e : p.1 = k
    · simp only [vN e, decide_eq_true e, Bool.true_or, Option.isSome_some]
    · rw [vD e, decide_eq_false e, Bool.false_or]; exact qAa k r
theorem RelO.isSome_eq {o : Option V} {u : Option Value} (r : RelO o u) : o.isSome = u.isSome := by
  cases o with
  | none => cases u with
    | none => rfl
    | some _ => exact (show False from r).elim
  | some _ => cases u with
    | none => exact (show False from r).elim
    | some _ => rfl
theorem RelO.getD {o : Option V} {u : Option Value} {d : V} {d' : Value} (r : RelO o u) (rd : RelV d d') : RelV (o.getD d) (u.getD d') := by
  cases o with
  | none => cases u with
    | none => exact rd
    | some _ => exact (show False from r).elim
  | some _ => cases u with
    | none => exact (show False from r).elim
    | some _ => exact r
theorem KV.val {kvs : List (κ × V)} {vs : List (κ × Value)} (r : KV kvs vs) (k : κ) : RelO (wl kvs k) (valueAt vs k) := by
  unfold KV at r
  induction r with
  | nil => exact True.intro
  | @cons p q ps qs h t ih =>
    obtain ⟨h1, h2⟩ := h
    by_cases e : p.1 = k
    · have e' : q.1 = k := h1.symm.trans e
      have b : valueAt (q :: qs) k = some q.2 := by simp [valueAt, List.find?_cons, e']
      rw [vN e, b]; exact h2
    · have e' : ¬ q.1 = k := fun z => e (h1.trans z)
      have b : valueAt (q :: qs) k = valueAt qs k := by simp [valueAt, List.find?_cons, e']
      rw [vD e, b]; exact ih
theorem KV.any {kvs : List (κ × V)} {vs : List (κ × Value)} (r : KV kvs vs) (k : κ) : (kvs.any fun kv => decide (kv.1 = k)) = vs.any fun kv => decide (kv.1 = k) := by
  unfold KV at r
  induction r with
  | nil => rfl
  | cons h t ih => rw [List.any_cons, List.any_cons, ih, h.1]
theorem KV.repl {kvs : List (κ × V)} {vs : List (κ × Value)} (r : KV kvs vs) (k : κ) {y : V} {u : Value} (ry : RelV y u) :
    KV (kvs.map fun kv => if kv.1 = k then (kv.1, y) else kv) (vs.map fun kv => if kv.1 = k then (kv.1, u) else kv) := by
  unfold KV at r ⊢
  induction r with
  | nil => exact .nil
  | @cons p q ps qs h t ih =>
    rw [List.map_cons, List.map_cons]
    refine .cons ?_ ih
    obtain ⟨h1, h2⟩ := h
    by_cases e : p.1 = k
    · rw [if_pos e, if_pos (h1.symm.trans e)]; exact ⟨h1, ry⟩
    · rw [if_neg e, if_neg (fun z => e (h1.trans z))]; exact ⟨h1, h2⟩
theorem KV.put {kvs : List (κ × V)} {vs : List (κ × Value)} (r : KV kvs vs) (k : κ) {y : V} {u : Value} (ry : RelV y u) : KV (qDx kvs k y) (stored vs k u) := by
  unfold qDx stored
  rw [r.any k]
  by_cases e : (vs.any fun kv => decide (kv.1 = k)) = true
  · rw [if_pos e, if_pos e]; exact r.repl k ry
  · rw [if_neg e, if_neg e]; exact Paired.snoc r ⟨rfl, ry⟩
theorem KV.drop {kvs : List (κ × V)} {vs : List (κ × Value)} (r : KV kvs vs) (k : κ) : KV (qGd kvs k) (without vs k) := by
  unfold KV at r ⊢
  unfold qGd without
  induction r with
  | nil => exact .nil
  | @cons p q ps qs h t ih =>
    obtain ⟨h1, h2⟩ := h
    rw [List.filter_cons, List.filter_cons]
    by_cases e : p.1 = k
    · have a : ¬ decide (p.1 ≠ k) = true := by simp [e]
      have b : ¬ decide (q.1 ≠ k) = true := by simp [h1.symm.trans e]
      rw [if_neg a, if_neg b]; exact ih
    · have e' : ¬ q.1 = k := fun z => e (h1.trans z)
      have a : decide (p.1 ≠ k) = true := by simp [e]
      have b : decide (q.1 ≠ k) = true := by simp [e']
      rw [if_pos a, if_pos b]; exact .cons ⟨h1, h2⟩ ih
theorem KV.keys {kvs : List (κ × V)} {vs : List (κ × Value)} (r : KV kvs vs) : kvs.map (·.1) = vs.map (·.1) := by
  unfold KV at r
  induction r with
  | nil => rfl
  | cons h t ih => rw [List.map_cons, List.map_cons, ih, h.1]
theorem KV.length {kvs : List (κ × V)} {vs : List (κ × Value)} (r : KV kvs vs) : kvs.length = vs.length := Paired.length r
end
abbrev KT (H : Hp) : List (List Key × V) → List (List Key × Addr × Value) → Prop := Paired fun p q => p.1 = q.1 ∧ H q.2.1 = some (.tup (p.1.map kV)) ∧ RelV p.2 q.2.2
theorem KT.val {H : Hp} {kvs : List (List Key × V)} {xs : List (List Key × Addr × Value)} (r : KT H kvs xs) (k : List Key) : RelO (wl kvs k) ((atKey xs k).map (·.2)) := by
  induction r with
  | nil => exact True.intro
  | @cons p q ps qs h t ih =>
    obtain ⟨h1, _, h2⟩ := h
    by_cases e : p.1 = k
    · have e' : q.1 = k := h1.symm.trans e
      have b : atKey (q :: qs) k = some q.2 := by simp [atKey, List.find?_cons, e']
      rw [vN e, b]; exact h2
    · have e' : ¬ q.1 = k := fun z => e (h1.trans z)
      have b : atKey (q :: qs) k = atKey qs k := by simp [atKey, List.find?_cons, e']
      rw [vD e, b]; exact ih
theorem KT.repl {H : Hp} {kvs : List (List Key × V)} {xs : List (List Key × Addr × Value)} (r : KT H kvs xs) (k : List Key) {y : V} {u : Value} (ry : RelV y u) :
    KT H (kvs.map fun kv => if kv.1 = k then (kv.1, y) else kv) (xs.map (putAt k u)) := by
  induction r with
  | nil => exact .nil
  | @cons p q ps qs h t ih =>
    rw [List.map_cons, List.map_cons]
    refine .cons ?_ ih
    obtain ⟨h1, h2, h3⟩ := h
    unfold putAt
    by_cases e : p.1 = k
    · rw [if_pos e, if_pos (h1.symm.trans e)]; exact ⟨h1, h2, ry⟩
    · rw [if_neg e, if_neg (fun z => e (h1.trans z))]; exact ⟨h1, h2, h3⟩
theorem KT.put {H : Hp} {kvs : List (List Key × V)} {xs : List (List Key × Addr × Value)} (r : KT H kvs xs) (k : List Key) {b : Addr} {y : V} {u : Value} (hb : H b = some (.tup (k.map kV))) (ry : RelV y u) :
    KT H (qDx kvs k y) (storedH xs k b u) := by
  have e : (kvs.any fun kv => decide (kv.1 = k)) = (atKey xs k).isSome := by
    rw [qAa, (r.val k).isSome_eq, Option.isSome_map]
  unfold qDx storedH
  rw [e]
  by_cases q : (atKey xs k).isSome = true
  · rw [if_pos q, if_pos q]; exact r.repl k ry
  · rw [if_neg q, if_neg q]; exact Paired.snoc r ⟨rfl, hb, ry⟩
theorem KT.keeps {H H' : Hp} {kvs : List (List Key × V)} {xs : List (List Key × Addr × Value)} (r : KT H kvs xs) (ht : ∀ b ys, H b = some (.tup ys) → H' b = some (.tup ys)) : KT H' kvs xs :=
  Paired.mapP r fun _ _ z => ⟨z.1, ht _ _ z.2.1, z.2.2⟩
section
variable {P : Program} {w : World} {H : Hp} {h : Heap} {a : Addr}
theorem qG5 {u : HO} (ok : HOk P w H h) (e : Rd H a u) : ObjOk P w H h a u := e.ok ok
theorem qFc {kvs : List (Key × V)} (ok : HOk P w H h) (e : Rd H a (.dK kvs)) : kvs.length ≤ sizeLine ∧ (a == sysModules) = false ∧ ∃ vs, KV kvs vs ∧ h.DictOf (wS P w) a vs :=
  show ObjOk P w H h a (.dK kvs) from qG5 ok e
end
def DGet (H : Hp) (a : Addr) (y : V) (r : Option V) : Prop :=
  (∃ kvs k, Rd H a (.dK kvs) ∧ y = kV k ∧ r = wl kvs k) ∨ ∃ kvs k b, Rd H a (.dT kvs) ∧ y = .ref b ∧ H b = some (.tup (k.map kV)) ∧ r = wl kvs k
def DPut (H : Hp) (a : Addr) (y v : V) (H' : Hp) : Prop :=
  (∃ kvs k, H a = some (.dK kvs) ∧ y = kV k ∧ kvs.length < sizeLine ∧ H' = upd H a (.dK (qDx kvs k v))) ∨
  ∃ kvs k b, H a = some (.dT kvs) ∧ y = .ref b ∧ H b = some (.tup (k.map kV)) ∧ kvs.length < sizeLine ∧ H' = upd H a (.dT (qDx kvs k v))
theorem DGet.k {H : Hp} {a : Addr} {kvs : List (Key × V)} {k : Key} (e : H a = some (.dK kvs)) : DGet H a (kV k) (wl kvs k) := .inl ⟨kvs, k, .inl e, rfl, rfl⟩
theorem DGet.t {H : Hp} {a b : Addr} {kvs : List (List Key × V)} {k : List Key} (e : H a = some (.dT kvs)) (eb : H b = some (.tup (k.map kV))) : DGet H a (.ref b) (wl kvs k) := .inr ⟨kvs, k, b, .inl e, rfl, eb, rfl⟩
theorem DPut.k {H : Hp} {a : Addr} {kvs : List (Key × V)} {k : Key} {v : V} (e : H a = some (.dK kvs)) (hl : kvs.length < sizeLine) : DPut H a (kV k) v (upd H a (.dK (qDx kvs k v))) := .inl ⟨kvs, k, e, rfl, hl, rfl⟩
theorem DPut.t {H : Hp} {a b : Addr} {kvs : List (List Key × V)} {k : List Key} {v : V} (e : H a = some (.dT kvs)) (eb : H b = some (.tup (k.map kV))) (hl : kvs.length < sizeLine) :
    DPut H a (.ref b) v (upd H a (.dT (qDx kvs k v))) := .inr ⟨kvs, k, b, e, rfl, eb, hl, rfl⟩
section
variable {X : Cx} {pins : List (Addr × Obj)} {σ : St} {H : Hp} {s : Shared} {a : Addr} {y v : V} {u r : Value} {o : Option V} {A : Around} {E : Value → Shared → Prop}
end
section
variable {X : Cx} {pins : List (Addr × Obj)} {σ : St} {H : Hp} {s : Shared} {a : Addr} {kvs : List (Key × V)} {k : Key} {u : Value} {A : Around} {E : Value → Shared → Prop}
end
section
variable {X : Cx} {o i e value : Expr} {pos pos' tpos : Pos} {td ty tv : TE}
end
section
variable {X : Cx} {pos : Pos}
end
structure M1 (X : Cx) (o : Expr) (m : Str) (apos : Pos) (e : Expr) (cpos : Pos) : Prop where
  base : attributeBase o m X.env (eval o X.env) = eval o X.env
  few : ((backTo cpos (starEach [e] X.env)).all (fun x => !x.1) && (backToKw cpos (keywordEach [] X.env)).all (fun x => x.1.isSome)
    && decide (([e] : List Expr).length + ([] : List Keyword).length + (if ([] : List Keyword).isEmpty then 0 else 1) < 30)) = true
  line : (apos.endLine == cpos.line) = true
  trees : backTo cpos (starEach [e] X.env) = [(false, eval e X.env)]
structure M2 (X : Cx) (o : Expr) (m : Str) (apos : Pos) (e f : Expr) (cpos : Pos) : Prop where
  base : attributeBase o m X.env (eval o X.env) = eval o X.env
  few : ((backTo cpos (starEach [e, f] X.env)).all (fun x => !x.1) && (backToKw cpos (keywordEach [] X.env)).all (fun x => x.1.isSome)
    && decide (([e, f] : List Expr).length + ([] : List Keyword).length + (if ([] : List Keyword).isEmpty then 0 else 1) < 30)) = true
  line : (apos.endLine == cpos.line) = true
  trees : backTo cpos (starEach [e, f] X.env) = [(false, eval e X.env), (false, eval f X.env)]
section
variable {X : Cx} {pins : List (Addr × Obj)} {σ : St} {H : Hp} {s : Shared} {a : Addr} {y d : V} {u r : Value} {o : Option V} {A : Around} {E : Value → Shared → Prop}
end
section
variable {X : Cx} {o e f : Expr} {apos cpos : Pos} {td ty tx : TE}
end
section
variable {X : Cx} {pins : List (Addr × Obj)} {σ : St} {H : Hp} {s : Shared} {a : Addr} {kvs : List (Key × V)} {A : Around} {E : Value → Shared → Prop}
end
section
variable {X : Cx} {pins : List (Addr × Obj)} {σ : St} {H : Hp} {s : Shared} {a : Addr} {y : V} {u : Value} {A : Around} {E : Value → Shared → Prop}
end
end L2
namespace Att
open PySem PySem.W PySem.Calls PyProof.Rows
section
variable {prog : Program} {w : World} {A : Around} {E : Value → Shared → Prop} {s : Shared} {K : Frag}
end
end Att
namespace L2
open PySem PySem.Spec PyProof.Rows
end L2
namespace L2
open PySem PySem.Spec PyProof.Rows
end L2
namespace L2
open PySem PySem.Spec PyProof.Rows
section
variable {P : Program} {w : World} {K : PySem.W.Frag} {mg : Str → Option Value} {base : Heap}
end
section
variable {X : Cx}
end
section
variable {κ : Type} [DecidableEq κ]
end
end L2
namespace Mt
theorem qE4 (a b : Int) : a.fmod b = a - b * a.fdiv b := by
  have := Int.fmod_add_mul_fdiv a b
  omega
theorem zz (a b : Int) : Int.gcd b (a.fmod b) = Int.gcd a b := by
  apply Nat.dvd_antisymm
  · refine Int.dvd_gcd ?_ (Int.gcd_dvd_left b (a.fmod b))
    have h1 : ((Int.gcd b (a.fmod b) : Nat) : Int) ∣ b := Int.gcd_dvd_left ..
    have h2 : ((Int.gcd b (a.fmod b) : Nat) : Int) ∣ a.fmod b := Int.gcd_dvd_right ..
    have h3 := Int.dvd_add h2 (Int.dvd_trans h1 (Int.dvd_mul_right b (a.fdiv b)))
    have e : a.fmod b + b * a.fdiv b = a := Int.fmod_add_mul_fdiv a b
    rwa [e] at h3
  · refine Int.dvd_gcd (Int.gcd_dvd_right ..) ?_
    rw [qE4]
    exact Int.dvd_sub (Int.gcd_dvd_left ..) (Int.dvd_trans (Int.gcd_dvd_right ..) (Int.dvd_mul_right ..))
theorem qCd (a b : Int) (h : b ≠ 0) : (a.fmod b).natAbs < b.natAbs := by
  rcases Int.lt_or_gt_of_ne h with h | h
  · have h1 := Int.fmod_lt_of_pos (-a) (show 0 < -b by omega)
    have h2 := Int.fmod_nonneg_of_pos (-a) (show 0 < -b by omega)
    rw [Int.neg_fmod_neg] at h1 h2
    omega
  · have h1 := Int.fmod_lt_of_pos a h
    have h2 := Int.fmod_nonneg_of_pos a h
    omega
def sg (t b : Int) : Int := if b < 0 then -((Int.gcd t b : Nat) : Int) else ((Int.gcd t b : Nat) : Int)
def qp (t b : Int) : Int := t.fdiv (sg t b)
def qY (t b : Int) : Int := b.fdiv (sg t b)
theorem kL {t b : Int} (h : b ≠ 0) : 0 < Int.gcd t b := by
  rcases Nat.eq_zero_or_pos (Int.gcd t b) with z | z
  · rw [Int.gcd_eq_zero_iff] at z
    exact absurd z.2 h
  · exact z
theorem qG2 {t b : Int} (h : b ≠ 0) : sg t b ≠ 0 := by
  have := kL (t := t) h
  unfold sg; split <;> omega
theorem qDl (t b : Int) : sg t b ∣ t := by
  unfold sg; split
  · exact Int.neg_dvd.mpr (Int.gcd_dvd_left ..)
  · exact Int.gcd_dvd_left ..
theorem qC5 (t b : Int) : sg t b ∣ b := by
  unfold sg; split
  · exact Int.neg_dvd.mpr (Int.gcd_dvd_right ..)
  · exact Int.gcd_dvd_right ..
theorem wp (t b : Int) : (sg t b).natAbs = Int.gcd t b := by
  unfold sg; split <;> omega
theorem qEo (t b : Int) : qp t b * sg t b = t := Int.fdiv_mul_cancel (qDl t b)
theorem qDi (t b : Int) : qY t b * sg t b = b := Int.fdiv_mul_cancel (qC5 t b)
theorem jL {t b : Int} (h : b ≠ 0) : 0 < qY t b := by
  have e := qDi t b
  have g := kL (t := t) h
  by_cases hb : b < 0
  · have s : sg t b = -((Int.gcd t b : Nat) : Int) := by unfold sg; rw [if_pos hb]
    rw [s] at e
    rcases Int.lt_trichotomy (qY t b) 0 with z | z | z
    · have := Int.mul_pos_of_neg_of_neg z (show -((Int.gcd t b : Nat) : Int) < 0 by omega)
      omega
    · rw [z] at e; omega
    · exact z
  · have s : sg t b = ((Int.gcd t b : Nat) : Int) := by unfold sg; rw [if_neg hb]
    rw [s] at e
    rcases Int.lt_trichotomy (qY t b) 0 with z | z | z
    · have := Int.mul_neg_of_neg_of_pos z (show 0 < ((Int.gcd t b : Nat) : Int) by omega)
      omega
    · rw [z] at e; omega
    · exact z
theorem qBu {t b : Int} (h : b ≠ 0) : Int.gcd (qp t b) (qY t b) = 1 := by
  have e := Int.gcd_mul_right (qp t b) (sg t b) (qY t b)
  rw [qEo, qDi, wp] at e
  have g := kL (t := t) h
  have e' : 1 * Int.gcd t b = (qp t b).gcd (qY t b) * Int.gcd t b := by omega
  exact (Nat.eq_of_mul_eq_mul_right g e').symm
theorem jV (t b : Int) : qp t b * b = t * qY t b := by
  have e1 := qEo t b
  have e2 := qDi t b
  calc qp t b * b = qp t b * (qY t b * sg t b) := by rw [e2]
    _ = (qp t b * sg t b) * qY t b := by rw [Int.mul_comm (qY t b), Int.mul_assoc]
    _ = t * qY t b := by rw [e1]
theorem j4 {t b : Int} (h : b ≠ 0) : (qp t b).natAbs ≤ t.natAbs := by
  have e := congrArg Int.natAbs (qEo t b)
  rw [Int.natAbs_mul, wp] at e
  have g := kL (t := t) h
  rw [← e]
  exact Nat.le_mul_of_pos_right _ g
theorem jn {t b : Int} (h : b ≠ 0) : (qY t b).natAbs ≤ b.natAbs := by
  have e := congrArg Int.natAbs (qDi t b)
  rw [Int.natAbs_mul, wp] at e
  have g := kL (t := t) h
  have := Nat.le_mul_of_pos_right (qY t b).natAbs g
  omega
end Mt
namespace Mt
theorem qEz {p q p' q' : Int} (hq : 0 < q) (hq' : 0 < q') (g : Int.gcd p q = 1) (g' : Int.gcd p' q' = 1) (c : p * q' = p' * q) : p = p' ∧ q = q' := by
  have d1 : q ∣ q' := by
    have h : q ∣ p * q' := by rw [c]; exact Int.dvd_mul_left ..
    have n : q.natAbs ∣ p.natAbs * q'.natAbs := by
      have := Int.natAbs_dvd_natAbs.mpr h
      rwa [Int.natAbs_mul] at this
    have co : Nat.Coprime q.natAbs p.natAbs := by
      show Nat.gcd q.natAbs p.natAbs = 1
      rw [Nat.gcd_comm]; exact g
    exact Int.natAbs_dvd_natAbs.mp (Nat.Coprime.dvd_of_dvd_mul_left co n)
  have d2 : q' ∣ q := by
    have h : q' ∣ p' * q := by rw [← c]; exact Int.dvd_mul_left ..
    have n : q'.natAbs ∣ p'.natAbs * q.natAbs := by
      have := Int.natAbs_dvd_natAbs.mpr h
      rwa [Int.natAbs_mul] at this
    have co : Nat.Coprime q'.natAbs p'.natAbs := by
      show Nat.gcd q'.natAbs p'.natAbs = 1
      rw [Nat.gcd_comm]; exact g'
    exact Int.natAbs_dvd_natAbs.mp (Nat.Coprime.dvd_of_dvd_mul_left co n)
  have e : q = q' := by
    have h1 := Int.le_of_dvd hq' d1
    have h2 := Int.le_of_dvd hq d2
    omega
  subst e
  exact ⟨Int.eq_of_mul_eq_mul_right (by omega) c, rfl⟩
theorem qGk {t b p q : Int} (h : b ≠ 0) (hq : 0 < q) (g : Int.gcd p q = 1) (c : p * b = t * q) : qp t b = p ∧ qY t b = q := by
  have e := jV t b
  have k : qp t b * q = p * qY t b := by
    have : (qp t b * q) * b = (p * qY t b) * b := by
      calc (qp t b * q) * b = (qp t b * b) * q := by rw [Int.mul_assoc, Int.mul_comm q b, ← Int.mul_assoc]
        _ = (t * qY t b) * q := by rw [e]
        _ = (t * q) * qY t b := by rw [Int.mul_assoc, Int.mul_comm (qY t b) q, ← Int.mul_assoc]
        _ = (p * b) * qY t b := by rw [c]
        _ = (p * qY t b) * b := by rw [Int.mul_assoc, Int.mul_comm b, ← Int.mul_assoc]
    exact Int.eq_of_mul_eq_mul_right h this
  exact qEz (jL h) hq (qBu h) g k
end Mt
namespace Mt
def plP (p q r s k : Int) : Int := qp (p * s + k * r * q) (q * s)
def plQ (p q r s k : Int) : Int := qY (p * s + k * r * q) (q * s)
theorem qFq {p q r s k : Int} (hq : 0 < q) (hs : 0 < s) : 0 < plQ p q r s k := jL (Int.ne_of_gt (Int.mul_pos hq hs))
theorem qEd {p q r s k : Int} (hq : 0 < q) (hs : 0 < s) : (plP p q r s k).natAbs ≤ (p * s + k * r * q).natAbs := j4 (Int.ne_of_gt (Int.mul_pos hq hs))
theorem qE9 {p q r s k : Int} (hq : 0 < q) (hs : 0 < s) : (plQ p q r s k).natAbs ≤ (q * s).natAbs := jn (Int.ne_of_gt (Int.mul_pos hq hs))
end Mt
namespace Mt
end Mt
set_option maxHeartbeats 4000000
namespace L3
open PySem PySem.Spec PyProof.Rows L2
def CMulB (i j : Int) : Prop := CMul i j ∨ (i.natAbs < 2 ^ 60000 ∧ j.natAbs < 2 ^ 60000)
theorem zJ {i : Int} (h : i.natAbs < 2 ^ 60000) : Builtin.Int.intBits i ≤ 2 ^ 20 := by
  unfold Builtin.Int.intBits
  split
  · exact Nat.zero_le _
  · rename_i h0
    have hz : i.natAbs ≠ 0 := by
      intro z
      apply h0
      have : i = 0 := by omega
      rw [this]; rfl
    have := (Nat.log2_lt hz).mpr h
    have e : (2 : Nat) ^ 20 = 1048576 := by decide
    omega
theorem CMulB.ok {i j : Int} (h : CMulB i j) : IntMulOk i j := by
  rcases h with h | ⟨h1, h2⟩
  · exact h.ok
  · exact IntMulOk.of_bits (zJ h1) (zJ h2)
def CDivB (_ j : Int) : Prop := j ≠ 0 ∧ j.natAbs < 2 ^ 8000
theorem CDivB.ok {i j : Int} (h : CDivB i j) : Builtin.divisionGoesByPylong i j = false := by
  refine PyProof.noPylong_of_log2 ?_
  have hz : j.natAbs ≠ 0 := by have := h.1; omega
  have := (Nat.log2_lt hz).mpr h.2
  omega
section
variable {X : Cx}
theorem jH : OpR X (binaryOp .Mult) (rI CMulB fun i j => .int (i * j)) := opI fun _ _ _ _ _ _ _ hc q => mul_int q hc.ok
theorem qr : OpR X (binaryOp .FloorDiv) (rI CDivB fun i j => .int (i.fdiv j)) := opI fun _ _ _ _ _ _ _ hc q => floordiv_int hc.1 q (.inl hc.ok)
theorem qm : CallR X (.builtin "isinstance") (fun xs H Q => ∃ x c t b, xs = [x, c] ∧ vW X.K H x t ∧
    (∃ n, c = .ty n ∧ PySem.W.kitOne X.K t (.type n) = some b ∨ ∃ a, c = .ref a ∧ PySem.W.kitOne X.K t (.ref a) = some b) ∧ Q (.bl b) H) := by
  intro pins s σ H xs us Q I r h
  obtain ⟨x, c, t, b, rfl, ty, hk, q⟩ := h
  obtain ⟨u, u', rfl, rx, rc⟩ := qEe r
  obtain ⟨n, ⟨rfl, e⟩ | ⟨a, rfl, e⟩⟩ := hk
  · cases rc
    exact wF I rx ty e fun tk => ⟨.bl b, H, I.tok _, rfl, q⟩
  · cases rc
    exact wF I rx ty e fun tk => ⟨.bl b, H, I.tok _, rfl, q⟩
def xO (xs ys : List V) : Bool := (List.range (min xs.length ys.length)).all (fun j => eqV (xs.getD j .non) (ys.getD j .non)) && xs.length == ys.length
theorem zX {A : Around} {s : Shared} {xs ys : List V} {us ws : List Value} (r1 : Vals xs us) (r2 : Vals ys ws) (f1 : xs.all xE = true) (f2 : ys.all xE = true) :
    ∀ j (h1 : j < us.toArray.size) (h2 : j < ws.toArray.size), SeqAt.EqAt A s us.toArray[j] ws.toArray[j] (eqV (xs.getD j .non) (ys.getD j .non)) := by
  intro j h1 h2
  have l1 := r1.length
  have l2 := r2.length
  rw [List.size_toArray] at h1 h2
  have g1 : xs[j]? = some xs[j] := List.getElem?_eq_getElem (by omega)
  have g2 : ys[j]? = some ys[j] := List.getElem?_eq_getElem (by omega)
  obtain ⟨u, e1, q1⟩ := r1.get g1
  obtain ⟨w, e2, q2⟩ := r2.get g2
  have d1 : xs.getD j .non = xs[j] := by rw [List.getD_eq_getElem?_getD, g1]; rfl
  have d2 : ys.getD j .non = ys[j] := by rw [List.getD_eq_getElem?_getD, g2]; rfl
  have c1 : us.toArray[j] = u := by
    have := (List.getElem?_eq_some_iff.mp e1).2
    simpa using this
  have c2 : ws.toArray[j] = w := by
    have := (List.getElem?_eq_some_iff.mp e2).2
    simpa using this
  rw [d1, d2, c1, c2]
  exact vf q1 q2 (List.all_eq_true.mp f1 _ (List.getElem_mem _)) (List.all_eq_true.mp f2 _ (List.getElem_mem _))
def qHz (K : PySem.W.Frag) (neg : Bool) : R2 := fun x y H Q => ∃ p q xs ys, x = .ref p ∧ y = .ref q ∧ SqT K H p xs ∧ SqT K H q ys ∧ xs.all xE = true ∧ ys.all xE = true ∧ Q (.bl (if neg then !xO xs ys else xO xs ys)) H
theorem qCm (hu : X.A.units < cLine) : OpR X (compareOp .Eq) (qHz X.K false) := by
  intro pins s σ H x y v u Q I rx ry h
  obtain ⟨p, q, xs, ys, rfl, rfl, h1, h2, f1, f2, k⟩ := h
  cases rx; cases ry
  obtain ⟨us, r1, t1, _⟩ := I.tuple h1
  obtain ⟨ws, r2, t2, _⟩ := I.tuple h2
  have l1 : us.toArray.size = xs.length := by rw [List.size_toArray]; exact r1.length.symm
  have l2 : ws.toArray.size = ys.length := by rw [List.size_toArray]; exact r2.length.symm
  refine SeqAt.eq_tupleAt t1 t2 hu (zX r1 r2 f1 f2) ?_
  rw [l1, l2]
  exact ⟨.bl (xO xs ys), H, I, rfl, k⟩
theorem qBh (hu : X.A.units < cLine) : OpR X (compareOp .NotEq) (qHz X.K true) := by
  intro pins s σ H x y v u Q I rx ry h
  obtain ⟨p, q, xs, ys, rfl, rfl, h1, h2, f1, f2, k⟩ := h
  cases rx; cases ry
  obtain ⟨us, r1, t1, _⟩ := I.tuple h1
  obtain ⟨ws, r2, t2, _⟩ := I.tuple h2
  have l1 : us.toArray.size = xs.length := by rw [List.size_toArray]; exact r1.length.symm
  have l2 : ws.toArray.size = ys.length := by rw [List.size_toArray]; exact r2.length.symm
  refine SeqAt.RcNeAt.tuples t1 t2 hu (zX r1 r2 f1 f2) _ _ _ _ ?_
  rw [l1, l2]
  exact ⟨.bl (!xO xs ys), H, I, rfl, k⟩
end
end L3
set_option maxHeartbeats 4000000
namespace L3
open PySem PySem.Spec PyProof.Rows L2
def xZ (X : Cx) (scope : Scope) (cl : List (Str × Addr)) (C : Addr) (N : List Str) (s : Shared) (H : Hp) (fp : List Addr) : Cx :=
  { X with N := N, s₀ := s, H₀ := H, env := compEnvC scope cl C X.env, outer := X.stack, stack := X.stack, ex := fp, fn := fun _ => false, pn := [] }
def qB0 (js : List Nat) (σ : L2.St) : L2.St := js.map fun j => (σ[j]?).join
def qCj (js : List Nat) (te : TE) (σ : L2.St) (Q : VK) (J : It) (H1 : Hp) : Prop := ∃ W : Nat → Nat → List V → Hp → Prop, (∃ m, W 0 m [] H1) ∧ ∀ i m acc H2, W i m acc H2 →
  acc.length < sizeLine ∧ ((J.stop i H2 ∧ ∀ D, H2 D = none → Q (.ref D) (upd H2 D (.lst acc))) ∨
    (J.go i H2 ∧ ∀ x H3, J.yld i H2 x H3 → te (some x :: qB0 js σ) H3 fun v H4 => ∃ m', m' < m ∧ W (i + 1) m' (acc ++ [v]) H4))
def qFl (js : List Nat) (wi : TI) (te : TE) : TE := fun σ H Q => wi σ H (qCj js te σ Q)
theorem qBe {X : Cx} {elt iter : Expr} {x : Str} {px : Pos} {scope : Scope} {cl : List (Str × Addr)} {pos : Pos} {wi : TI} {te : TE} (ys : List Str) (js : List Nat)
    (hcm : X.calm = true) (hi : PI X (.Name x px) iter wi) (he : ∀ C s H fp, PE (xZ X scope cl C (x :: ys) s H fp).nox elt te)
    (hclos : closureFor scope X.env = pure cl := by rfl)
    (hcl : cl.map (fun p => X.env.cells.lookup p.1) = cl.map (fun p => some p.2) := by rfl)
    (hcell : (scope.names.all fun p => p.2 != .cell) = true := by rfl) (hkind : scope.kind = .function := by rfl)
    (hnames : (scope.names.all fun p => p.2 != .local || scope.names.lookup p.1 == some .local) = true := by rfl)
    (hx : scope.names.lookup x = some .local := by rfl)
    (hhas : ((relabel scope X.env).names.all fun p => (p.2 != .cell && p.2 != .free) || (cl.lookup p.1).isSome) = true := by rfl)
    (hnd : (x :: ys).Nodup := by decide)
    (hjs : js.map (fun j => X.N[j]?) = ys.map some := by rfl)
    (hys : (ys.all fun y => ((relabel scope X.env).names.lookup y == some .cell || (relabel scope X.env).names.lookup y == some .free) && (X.env.scope.names.lookup y == some .cell || X.env.scope.names.lookup y == some .free)) = true := by rfl)
    (hs : ∀ x, foldedSetIterable iter X.env x = pure x := by intro _; rfl)
    {pins : List (Addr × Obj)} {s : Shared} {σ : L2.St} {H : Hp} (R : V → Hp → Prop) (use : Option (Value → Sem Unit)) (Q : Value → Shared → Prop) (I : Inv X pins σ H s) (h : qFl js wi te σ H R)
    (fin : ∀ (v : V) (u : Value) (H' : Hp) (s' : Shared) (C : Addr), Inv X pins σ H' s' → RelV v u → R v H' → (∃ m, s'.heap.Ns C m) → H' C = none → C ≠ X.env.locals → X.s₀.heap.objs.size ≤ C → (∀ y c, X.env.cells.lookup y = some c → c ≠ C) → (∀ p ∈ X.pn ++ pins, p.1 ≠ C) →
      compPost (model X.prog X.w) X.A X.xe use Q u C (.ok .next) s') :
    wpAny (model X.prog X.w) X.A (comprehension (.ListComp elt [⟨.Name x px, iter, [], 0⟩] scope pos) scope X.env (firstIterPos [⟨.Name x px, iter, [], 0⟩] pos) (newList []) false (eval iter X.env) use) Q X.xe s := by
  have hcell' : ∀ y ∈ scope.names, y.2 ≠ .cell := fun y hy => by
    have := List.all_eq_true.mp hcell y hy
    simpa using this
  have hnm : ∀ y ∈ scope.names, y.2 = .local → scope.names.lookup y.1 = some .local := fun y hy e => by
    have := List.all_eq_true.mp hnames y hy
    rw [e] at this
    simpa using this
  have clX : ∀ y c, cl.lookup y = some c → X.env.cells.lookup y = some c := fun y c e => by
    have hm := PySem.mem_of_lookup e
    obtain ⟨k, hk, e2⟩ := List.mem_iff_getElem.mp hm
    have := congrArg (fun l => l[k]?) hcl
    simp only [List.getElem?_map, List.getElem?_eq_getElem hk, Option.map_some, e2] at this
    exact Option.some.inj this
  have has : ∀ y, ((relabel scope X.env).names.lookup y = some .cell ∨ (relabel scope X.env).names.lookup y = some .free) → ∃ c, cl.lookup y = some c := fun y hy => by
    have key : ∀ k : NameKind, (k = .cell ∨ k = .free) → (relabel scope X.env).names.lookup y = some k → ∃ c, cl.lookup y = some c := fun k hk e => by
      have := List.all_eq_true.mp hhas _ (PySem.mem_of_lookup e)
      rcases hk with rfl | rfl <;> exact Option.isSome_iff_exists.mp (by simpa using this)
    rcases hy with e | e
    · exact key _ (.inl rfl) e
    · exact key _ (.inr rfl) e
  refine wpAny_comprehension_free (use := use) rfl hs hclos hkind hnm (thn (hi pins s σ H _ I h) fun v s1 h1 => thn h1 fun itv s2 h2 => ?_)
  obtain ⟨it, fp, tn, J, H2, e, I2, T, st2, f2, W, ⟨m0, w0⟩, turn⟩ := h2
  subst e
  refine wpAny_newObj_type (wpAny_newFunctionEnv hcell' (by intro y hy; simp at hy) (fun h₁ hns hsb => ?_) hkind)
  dsimp only at hns hsb ⊢
  generalize hG : s2.heap.push { cls := .type "list", dict := none, data := .seq ([] : List Value).toArray } = G at hns hsb ⊢
  have szG : G.objs.size = s2.heap.objs.size + 1 := by rw [← hG, Heap.size_push]
  have inG : ∀ b o, s2.heap.get? b = some o → G.get? b = some o := fun b o e => hG ▸ Heap.get?_push_of_some _ e
  have ltC : ∀ b o, s2.heap.get? b = some o → b ≠ G.objs.size := fun b o e => by rw [szG]; exact Nat.ne_of_lt (Nat.lt_succ_of_lt (Heap.lt_size e))
  have ltD : ∀ b o, s2.heap.get? b = some o → b ≠ s2.heap.objs.size := fun b o e => Nat.ne_of_lt (Heap.lt_size e)
  have DC : s2.heap.objs.size ≠ G.objs.size := by rw [szG]; omega
  have old : ∀ b o, s2.heap.get? b = some o → h₁.get? b = some o := fun b o e => hsb.extBut b o (ltC b o e) (Heap.get?_push_of_some _ (inG b o e))
  have hacc : h₁.PlainList s2.heap.objs.size #[] := ⟨_, hsb.extBut _ _ DC (Heap.get?_push_of_some _ (hG ▸ Heap.get?_push_size _ rfl))⟩
  have fpO : ∀ b ∈ fp, ∃ o, s2.heap.get? b = some o := fun b hb => let ⟨o, e, _⟩ := T.obj 0 _ st2 b hb; ⟨o, e⟩
  have stkO : ∀ b ∈ frs X.stack, ∃ o, s2.heap.get? b = some o := fun b hb => by
    obtain ⟨_, o, ho, _⟩ := I2.stack.mem hb
    exact ⟨o, ho⟩
  have freshH : ∀ a, s2.heap.objs.size ≤ a → H2 a = none := fun a ha => I2.hok.fresh ha
  have stkFp : ∀ b ∈ fp, b ∉ frs X.stack := fun b hb z => by
    rcases List.mem_cons.mp (I2.stkSub b z) with q | q
    · exact (f2 b hb).2.1 q
    · exact (f2 b hb).2.2.1 q
  have okX : (xZ X scope cl G.objs.size (x :: ys) s2 H2 fp).Ok := {
    mod := I2.ok.mod
    kind := hkind
    glob := I2.ok.glob
    blt := I2.ok.blt
    above := by show s2.heap.objs.size ≤ G.objs.size; rw [szG]; omega
    inj := fun y z c e1 e2 => I2.ok.inj y z c (clX y c e1) (clX z c e2)
    has := fun y hy => has y hy
    cab := fun y c e _ => absurd (show false = true from e) Bool.false_ne_true
    hd := I2.ok.hd
    frames := I2.ok.frames
    stk := .inl rfl
    exf := fun b hb => by
      obtain ⟨o, e⟩ := fpO b hb
      exact ⟨ltC b o e, fun y c e1 => (f2 b hb).2.2.2.2.1 y c (clX y c e1)⟩
    bs := I2.bs
    bsz := Nat.le_trans I2.ok.bsz I2.sz
    noex := fun b o e hb => by
      rcases (f2 b hb).2.2.2.1 with q | q
      · exact I2.ok.noex b o e q
      · exact Nat.lt_irrefl _ (Nat.lt_of_lt_of_le (Nat.lt_of_lt_of_le (Heap.lt_size e) I2.ok.bsz) q)
    exfs := stkFp
    funs := I2.stack
    frf := I2.stkFree }
  have lenY : js.length = ys.length := by have := congrArg List.length hjs; simpa using this
  have I0 : Inv (xZ X scope cl G.objs.size (x :: ys) s2 H2 fp) [] (none :: qB0 js σ) H2 { s2 with heap := h₁, toks := s2.toks + ([] : List (Str × Value)).length } := by
    refine ⟨okX, rfl, I2.bare, Un.kept old, ⟨_, hns, fun k y v e1 e2 e3 => ?_⟩, fun y c e => ?_, freshH _ (by show s2.heap.objs.size ≤ G.objs.size; rw [szG]; omega), fun y c e => I2.freeC y c (clX y c e), fun p hp => absurd (show p ∈ ([] : List (Addr × Obj)) from hp) (by simp), I2.hok.kept old, ?_⟩
    · cases k with
      | zero => cases e2
      | succ k =>
        have e1' : ys[k]? = some y := e1
        have e2' : (qB0 js σ)[k]? = some (some v) := e2
        unfold qB0 at e2'
        rw [List.getElem?_map] at e2'
        cases ej : js[k]? with
        | none => rw [ej] at e2'; cases e2'
        | some j =>
          rw [ej] at e2'
          have e4 : (σ[j]?).join = some v := Option.some.inj e2'
          have e5 : σ[j]? = some (some v) := by
            cases q : σ[j]? with
            | none => rw [q] at e4; cases e4
            | some o => rw [q] at e4; exact congrArg some e4
          have e6 : X.N[j]? = some y := by
            have := congrArg (fun l => l[k]?) hjs
            simp only [List.getElem?_map, ej, e1', Option.map_some] at this
            exact Option.some.inj this
          have hy := List.all_eq_true.mp hys y (List.mem_of_getElem? e1')
          simp only [Bool.and_eq_true, Bool.or_eq_true, beq_iff_eq] at hy
          obtain ⟨ky, ko⟩ := hy
          obtain ⟨m, hn, hl⟩ := I2.loc
          obtain ⟨u, r, lk⟩ := hl j y v e6 e5 (.inr ko)
          refine ⟨u, r, .inr ⟨ky, ?_⟩⟩
          rcases lk with ⟨kl, _⟩ | ⟨_, c, ec, hc⟩
          · have kl' : X.env.scope.names.lookup y = some .local := kl
            rw [kl'] at ko
            rcases ko with z | z <;> cases z
          · obtain ⟨c', ec'⟩ := has y ky
            have := clX y c' ec'
            rw [ec] at this
            cases this
            obtain ⟨o, ho, hd⟩ := hc
            exact ⟨c, ec', o, old c o ho, hd⟩
    · obtain ⟨v, o, ho, hd⟩ := I2.cell y c (clX y c e)
      exact ⟨v, o, old c o ho, hd⟩
    · show (none :: qB0 js σ).length = (x :: ys).length
      simp [qB0, lenY]
  have loop : ∀ s3 : Shared, s3 = { s2 with heap := h₁, toks := s2.toks + ([] : List (Str × Value)).length } →
      codeAny (model X.prog X.w) X.A (.compLoop (.ListComp elt [⟨.Name x px, iter, [], 0⟩] scope pos) 0 (.ref it) (.ref s2.heap.objs.size) (compEnvC scope cl G.objs.size X.env))
        (compPost (model X.prog X.w) X.A X.xe use Q (.ref s2.heap.objs.size) G.objs.size) s3 := by
    rintro s3 rfl
    have stat : ∀ {H' : Hp} (o : Obj), (∀ b ∈ fp, H' b = none) → ∀ b ∈ fp, qC9 (xZ X scope cl G.objs.size (x :: ys) s2 H2 fp) [(s2.heap.objs.size, o)] H' b := fun {H'} o hn b hb => by
      obtain ⟨ob, eb⟩ := fpO b hb
      refine ⟨hn b hb, ltC b ob eb, stkFp b hb, .inl hb, fun y c e1 => (f2 b hb).2.2.2.2.1 y c (clX y c e1), fun p hp => ?_⟩
      have hp' : p = (s2.heap.objs.size, o) := by
        have : p ∈ [(s2.heap.objs.size, o)] := hp
        simpa using this
      rw [hp']
      exact Ne.symm (ltD b ob eb)
    refine codeAny_compLoop_list (fun n s' => ∃ i acc its H3, Inv (xZ X scope cl G.objs.size (x :: ys) s2 H2 fp) [] (none :: qB0 js σ) H3 s' ∧ tn i s'.heap ∧ (∀ b ∈ fp, H3 b = none) ∧ s'.heap.PlainList s2.heap.objs.size its.toArray ∧ Vals acc its ∧ H3 s2.heap.objs.size = none ∧ W i n acc H3)
      ?_ m0 ⟨0, [], [], H2, I0, T.keep _ _ _ st2 fun b _ o e => old b o e, fun b hb => (f2 b hb).1, hacc, .nil, freshH _ (Nat.le_refl _), w0⟩
    rintro n s3 ⟨i, acc, its, H3, I3, st3, fr3, ⟨nn, pl3⟩, va3, hD3, w3⟩
    obtain ⟨hlen, cs⟩ := turn i n acc H3 w3
    have hal : acc.length = its.length := va3.length
    have nD : s2.heap.objs.size ∉ frs X.stack := fun z => by
      obtain ⟨o, e⟩ := stkO _ z
      exact ltD _ o e rfl
    have I3p : Inv (xZ X scope cl G.objs.size (x :: ys) s2 H2 fp) [(s2.heap.objs.size, { cls := .type "list", data := .seq its.toArray nn })] (none :: qB0 js σ) H3 s3 := I3.pins_of fun p hp => by
      have e : p = (s2.heap.objs.size, { cls := .type "list", data := .seq its.toArray nn }) := by simpa using hp
      subst e
      exact ⟨pl3, hD3, DC, nD, fun v z => nomatch z⟩
    rcases cs with ⟨stop, q⟩ | ⟨go, step⟩
    · refine thn (T.done (xZ X scope cl G.objs.size (x :: ys) s2 H2 fp) rfl rfl rfl hcm i _ s3 _ H3 _ I3p (stat _ fr3) st3 stop) fun r s4 hr => ?_
      obtain ⟨hr, I4⟩ := hr
      subst hr
      have pl4 := (I4.pin (s2.heap.objs.size, { cls := .type "list", data := .seq its.toArray nn }) (by simp)).1
      obtain ⟨m, hn, _⟩ := I4.loc
      have B := I4.base
      have un' : Un (frs X.stack) fp H2 (upd H3 s2.heap.objs.size (.lst acc)) s2.heap s4.heap := by
        refine ⟨fun b o e n hb hx => B.keep b o e n hb hx, fun b o e n hb hx => B.slot b o e n hb hx, fun b o e n hx => ?_, fun b o e hx => B.there b o e hx, fun b xs e => ?_, fun b o u e => ?_, fun b ps e => ?_⟩
        · rw [qV (ltD b o e)]
          exact B.free b o e n hx
        · have z := B.tups b xs e
          rw [qV (qZ z hD3)]
          exact z
        · have z := B.frzs b o u e
          rw [qV (qZ z hD3)]
          exact z
        · obtain ⟨more, z⟩ := B.tbls b ps e
          exact ⟨more, by rw [qV (qZ z hD3)]; exact z⟩
      have freeC4 : H3 G.objs.size = none := I4.free
      have hok' : HOk X.prog X.w (upd H3 s2.heap.objs.size (.lst acc)) s4.heap := fun b u e => by
        by_cases hb : b = s2.heap.objs.size
        · subst hb
          rw [qB] at e
          cases e
          exact ⟨Nat.le_of_lt hlen, its, nn, va3, pl4⟩
        · rw [qV hb] at e
          exact (I4.hok b u e).stay (fun c v hc z => z) (fun c z => by rw [qV (qZ z hD3)]; exact z) fun c xs z => by rw [qV (qZ z hD3)]; exact z
      have hch : ∀ b ∈ fp, (b ∈ X.ex ∨ X.s₀.heap.objs.size ≤ b) ∧ b ≠ X.env.locals ∧ (∀ y c, X.env.cells.lookup y = some c → c ≠ b) ∧ ∀ p ∈ X.pn ++ pins, p.1 ≠ b := fun b hb => by
        obtain ⟨_, z1, _, z3, z4, z5⟩ := f2 b hb
        exact ⟨z3, z1, z4, z5⟩
      have I5 := I2.call' (s' := s4) (ch := fp) I4.os un' hok' I4.bare hch
      refine fin (.ref s2.heap.objs.size) _ _ s4 G.objs.size I5 rfl (q _ hD3) ⟨m, hn⟩ ?_ ?_ ?_ (fun y c e => ?_) fun p hp => ?_
      · rw [qV (Ne.symm DC)]; exact freeC4
      · rw [szG]; exact Nat.ne_of_gt (Nat.lt_succ_of_lt I2.lt)
      · rw [szG]; exact Nat.le_succ_of_le I2.sz
      · obtain ⟨v, o, ho, _⟩ := I2.cell y c e
        exact ltC c o ho
      · exact ltC p.1 p.2 (I2.pin p hp).1
    · refine thn (T.item (xZ X scope cl G.objs.size (x :: ys) s2 H2 fp) rfl rfl rfl hcm i _ s3 _ H3 _ I3p (stat _ fr3) st3 go) fun r s4 hr => ?_
      obtain ⟨u, hr, h4⟩ := hr
      subst hr
      show wpAny (model X.prog X.w) X.A (letOwnedTupleGo (.Name x px) (.ref it) u >>= fun _ => assign (.Name x px) (compEnvC scope cl G.objs.size X.env) u) _ _ s4
      refine wpAny_bind (thn h4 fun _ s5 h5 => ?_)
      obtain ⟨v, H5, I5, r5, y5, st5, fr5⟩ := h5
      have I5' := I5.pinned (stat _ fr5) (T.obj _ _ st5)
      refine wpAny_assign_Name (xV (i := 0) I5' hnd rfl (.inl (lookup_relabel_local hx)) r5 (fun s6 I6 => ?_) (.inr (lookup_relabel_local hx)))
      have I6' : Inv (xZ X scope cl G.objs.size (x :: ys) s2 H2 fp).nox _ _ H5 s6 := I6.wish _
      refine wpAny_mono (he G.objs.size s2 H2 fp _ s6 _ H5 _ I6' (step v H5 y5)) (fun y s7 h7 => ?_) fun _ _ z => z.elim
      obtain ⟨v7, H7, I7, r7, m', hm', w7⟩ := h7
      have I7 := I7.unwish
      have pinD := I7.pin (s2.heap.objs.size, { cls := .type "list", data := .seq its.toArray nn }) (by simp)
      refine wpAny_list_append_plain (items := its.toArray) ⟨nn, pinD.1⟩ (fun h' hp' hsb' => ?_) (by rw [List.size_toArray, ← hal]; exact Nat.le_of_lt hlen)
      have e8 : its.toArray.push y = (its ++ [y]).toArray := by simp
      rw [e8] at hp'
      have pf : ∀ b ∈ fp, ∀ o, s5.heap.get? b = some o → s7.heap.get? b = some o ∧ H7 b = none := fun b hb o e => by
        have z := I7.pin (b, o) (List.mem_append_right _ (List.mem_append_right _ (zP hb e)))
        exact ⟨z.1, z.2.1⟩
      have I8 : Inv (xZ X scope cl G.objs.size (x :: ys) s2 H2 fp) [] (none :: qB0 js σ) H7 { s7 with heap := h' } := by
        have I7u : Inv (xZ X scope cl G.objs.size (x :: ys) s2 H2 fp) [] (none :: qB0 js σ) H7 s7 := (I7.pins_of (pins' := []) fun p hp => absurd hp (by simp)).weak (by simp) fun k v e => by
          cases k with
          | zero => cases e
          | succ k => exact e
        refine I7u.turned (t' := s7.toks) (it := s2.heap.objs.size) (fun b o hb e => hsb'.extBut b o hb e) pinD.2.1 DC (.inr (Nat.le_refl _)) (fun y c e => ?_) fun p hp => absurd (show p ∈ ([] : List (Addr × Obj)) from hp) (by simp)
        obtain ⟨v, o, ho, _⟩ := I2.cell y c (clX y c e)
        exact ltD c o ho
      refine ⟨m', hm', i + 1, acc ++ [v7], its ++ [y], H7, I8, ?_, fun b hb => ?_, hp', va3.append (.cons r7 .nil), pinD.2.1, w7⟩
      · refine T.keep _ _ _ st5 fun b hb o e => hsb'.extBut b o ?_ (pf b hb o e).1
        obtain ⟨ob, eb⟩ := fpO b hb
        exact ltD b ob eb
      · obtain ⟨o, e, _⟩ := T.obj _ _ st5 b hb
        exact (pf b hb o e).2
  exact codeAny_compStart_list (loop _ rfl) (T.self _ 0 _ _ _ (T.keep _ _ _ st2 fun b _ o e => old b o e) (loop _ rfl))
theorem qDa {X : Cx} {pins : List (Addr × Obj)} {σ : L2.St} {H : Hp} {s : Shared} {C : Addr} {h' : Heap} (I : Inv X pins σ H s) (hsb : Heap.SameBut C s.heap h') (h0 : H C = none) (h1 : C ≠ X.env.locals) (h2 : X.s₀.heap.objs.size ≤ C)
    (h3 : ∀ y c, X.env.cells.lookup y = some c → c ≠ C) (h4 : ∀ p ∈ X.pn ++ pins, p.1 ≠ C) : Inv X pins σ H { s with heap := h' } :=
  I.turned (t' := s.toks) (it := C) (fun b o hb e => hsb.extBut b o hb e) h0 h1 (.inr h2) h3 h4
theorem qEm {X : Cx} {elt iter : Expr} {x : Str} {px : Pos} {scope : Scope} {cl : List (Str × Addr)} {pos : Pos} {wi : TI} {te : TE} (ys : List Str) (js : List Nat)
    (hcm : X.calm = true) (hi : PI X (.Name x px) iter wi) (he : ∀ C s H fp, PE (xZ X scope cl C (x :: ys) s H fp).nox elt te)
    (hclos : closureFor scope X.env = pure cl := by rfl)
    (hcl : cl.map (fun p => X.env.cells.lookup p.1) = cl.map (fun p => some p.2) := by rfl)
    (hcell : (scope.names.all fun p => p.2 != .cell) = true := by rfl) (hkind : scope.kind = .function := by rfl)
    (hnames : (scope.names.all fun p => p.2 != .local || scope.names.lookup p.1 == some .local) = true := by rfl)
    (hx : scope.names.lookup x = some .local := by rfl)
    (hhas : ((relabel scope X.env).names.all fun p => (p.2 != .cell && p.2 != .free) || (cl.lookup p.1).isSome) = true := by rfl)
    (hnd : (x :: ys).Nodup := by decide)
    (hjs : js.map (fun j => X.N[j]?) = ys.map some := by rfl)
    (hys : (ys.all fun y => ((relabel scope X.env).names.lookup y == some .cell || (relabel scope X.env).names.lookup y == some .free) && (X.env.scope.names.lookup y == some .cell || X.env.scope.names.lookup y == some .free)) = true := by rfl)
    (hs : ∀ x, foldedSetIterable iter X.env x = pure x := by intro _; rfl) : PE X (.ListComp elt [⟨.Name x px, iter, [], 0⟩] scope pos) (qFl js wi te) := by
  intro pins s σ H Q I h
  rw [eval_ListComp]
  refine qBe ys js hcm hi he hclos hcl hcell hkind hnames hx hhas hnd hjs hys hs Q none (EP X pins σ Q) I h fun v u H' s' C I' r q hm h0 h1 h2 h3 h4 => ?_
  obtain ⟨m, hm⟩ := hm
  exact ⟨m, hm, fun h' hsb => ⟨v, H', qDa I' hsb h0 h1 h2 h3 h4, r, q⟩⟩
def Nxt (n i : Nat) (P : Prop) : Prop := ∃ m', m' < n - i ∧ m' = n - (i + 1) ∧ i + 1 ≤ n ∧ P
theorem Nxt.mk {n i : Nat} {P : Prop} (h : i < n) (p : P) : Nxt n i P := ⟨n - (i + 1), by omega, rfl, h, p⟩
end L3
set_option maxHeartbeats 4000000
namespace L3
open PySem PySem.Spec PyProof.Rows L2
structure Def (K : PySem.W.Frag) (mg : Str → Option Value) (x : Str) (st : Stmt) (ps : List Str) (f : Addr) (fd : FuncData) : Prop where
  F : Fun K x x st f fd
  b : Binds K fd ps []
  m : mg x = some (.ref f)
section
variable {X : Cx}
theorem qP {k j : Nat} {x : Str} {st : Stmt} {ps : List Str} {f : Addr} {fd : FuncData} {sp : Sp} {e : Expr} {es : List Expr} {t : TA} {p pos : Pos} (D : Def X.K X.mg x st ps f fd) (F : FnOk X.prog X.w X.K X.mg X.base CX0 j f fd ps sp) (hr : Room k X.A) (hg : Gl X x) (ha : PA X (e :: es) t) (hj : j ≤ k := by decide)
    (hdb : (x == ("__debug__" : Str)) = false := by decide) (he : starEach (e :: es) X.env = (false, eval e X.env) :: starEach es X.env := by rfl) (hpl : (backTo pos (starEach es X.env)).any (·.1) = false := by rfl) :
    PE X (.Call (.Name x p) (e :: es) [] pos) (qFg sp [] E0 t) := qBg F (hr.mono hj) hg D.m D.F.kp D.b .nil qHe ha hdb he hpl
theorem zD {x : Str} {n : String} {pos : Pos} (hg : Gl X x) (hm : X.mg x = none) (hv : bootBuiltins x = some (.type n)) (hn : x ≠ "__name__" := by decide) (hd : (x == ("__debug__" : Str)) = false := by decide) : PE X (.Name x pos) (tC (.ty n)) :=
  qE0 hg hm hv rfl hn hd
end
def qHl (t : TS) : TS := fun D σ H => ∃ R : L2.St → Hp → Prop, t { D with nx := R } σ H ∧ ∀ σ' H', R σ' H' → D.nx σ' H'
theorem qCp {X : Cx} {st : Stmt} {t : TS} (h : PS X st t) : PS X st (qHl t) := by
  rintro pins s σ H D I ⟨R, ht, hR⟩
  refine thn (h pins s σ H { D with nx := R } I ht) fun f s' q => ?_
  cases f with
  | next => obtain ⟨σ', H', I', r⟩ := q; exact ⟨σ', H', I', hR _ _ r⟩
  | brk => exact q
  | cont => exact q
  | ret u => exact q
theorem qC {H : Hp} {p : Addr} (h : H p = none) (o : HO) : Same H (upd H p o) := fun b u q => by rw [qV (qZ q h)]; exact q
theorem Same.tup {K : PySem.W.Frag} {H H' : Hp} {a : Addr} {xs : List V} (e : Same H H') (h : SqT K H a xs) : SqT K H' a xs := by
  rcases h with (h | ⟨o, h⟩) | h
  · exact .inl (.inl (e _ _ h))
  · exact .inl (.inr ⟨o, e _ _ h⟩)
  · exact .inr h
end L3
set_option maxHeartbeats 4000000
namespace L3
open PySem PySem.Spec PyProof.Rows L2
section
variable {X : Cx}
def DE1 (K : PySem.W.Frag) (H : Hp) (x y : V) (b : Bool) : Prop := (xE x = true ∧ xE y = true ∧ b = eqV x y) ∨
  ∃ p q xs ys, x = .ref p ∧ y = .ref q ∧ SqT K H p xs ∧ SqT K H q ys ∧ xs.all xE = true ∧ ys.all xE = true ∧ b = xO xs ys ∧ (p = q → b = true)
theorem DE1.at {pins : List (Addr × Obj)} {σ : L2.St} {H : Hp} {s : Shared} {A : Around} {x y : V} {u v : Value} {b : Bool} (I : Inv X pins σ H s) (hu : A.units < cLine) (rx : RelV x u) (ry : RelV y v) (h : DE1 X.K H x y b) : SeqAt.EqAt A s u v b := by
  rcases h with ⟨f1, f2, rfl⟩ | ⟨p, q, xs, ys, rfl, rfl, h1, h2, f1, f2, rfl, hb⟩
  · exact vf rx ry f1 f2
  · cases rx; cases ry
    by_cases e : p = q
    · subst e
      rw [hb rfl]
      exact SeqAt.EqAt.same _
    · obtain ⟨us, r1, t1, _⟩ := I.tuple h1
      obtain ⟨ws, r2, t2, _⟩ := I.tuple h2
      have l1 : us.toArray.size = xs.length := by rw [List.size_toArray]; exact r1.length.symm
      have l2 : ws.toArray.size = ys.length := by rw [List.size_toArray]; exact r2.length.symm
      have := SeqAt.EqAt.of_refs e (SeqAt.RcAt.tuples t1 t2 hu (zX (A := A.in1) (s := s) r1 r2 f1 f2))
      rw [l1, l2] at this
      exact this
end
end L3
set_option maxHeartbeats 4000000
namespace L3
open PySem PySem.Spec PyProof.Rows L2
abbrev EC := Value × Option Addr
def xo (h : Heap) (e : Addr) (C : EC) (hd : Option Addr) : Prop :=
  ∃ (vs : Array Value) (sl : Array (Option Value)), h.get? e = some { cls := C.1, dict := C.2, data := .fields vs, slots := sl } ∧
    match hd with
    | none => vs[1]? = some .none
    | some T => vs[1]? = some (.ref T) ∧ T ≠ e ∧ ∃ oT ts m, h.get? T = some oT ∧ oT.data = .fields ts ∧ ts[3]? = some m
structure Noted (fs : List Addr) (e : Addr) (hd : Option Addr) (C : EC) (h h' : Heap) : Prop where
  keep : ∀ b o, h.get? b = some o → b ∉ fs → b ≠ e → some b ≠ hd → h'.get? b = some o
  slot : ∀ b o, h.get? b = some o → b ∈ fs → b ≠ e → some b ≠ hd → ∃ sl, h'.get? b = some { o with slots := sl }
  ent : ∃ T, (h.get? T = none ∨ hd = some T) ∧ xo h' e C (some T)
theorem Noted.before {fs : List Addr} {e T : Addr} {C : EC} {h h1 h' : Heap} (x : Noted fs e none C h1 h') (k : ∀ b, b ≠ T → h1.get? b = h.get? b) (t : ∃ o, h1.get? T = some o) : Noted fs e (some T) C h h' := by
  refine ⟨fun b o q hf he ht => x.keep b o ?_ hf he (by simp), fun b o q hf he ht => x.slot b o ?_ hf he (by simp), ?_⟩
  · rw [k b (fun z => ht (by rw [z]))]; exact q
  · rw [k b (fun z => ht (by rw [z]))]; exact q
  · obtain ⟨T', n | n, r⟩ := x.ent
    · refine ⟨T', .inl ?_, r⟩
      rw [← k T' (fun z => ?_)]; exact n
      obtain ⟨o, q⟩ := t
      rw [z, q] at n; cases n
    · cases n
section
variable {M : Model} {A : Around} {E : Value → Shared → Prop} {s : Shared}
theorem Noted.then {fs : List Addr} {e T : Addr} {hd : Option Addr} {C : EC} {h h1 h2 : Heap} (x : Noted fs e hd C h h1) (hT : h.get? T = none ∨ hd = some T) (y : Noted fs e (some T) C h1 h2) : Noted fs e hd C h h2 := by
  have nt : ∀ b o, h.get? b = some o → some b ≠ hd → (some b : Option Addr) ≠ some T := fun b o q hb z => by
    cases z
    rcases hT with n | n
    · rw [q] at n; cases n
    · exact hb n.symm
  have n1 : ∀ T', h1.get? T' = none → T' ≠ e → some T' ≠ hd → h.get? T' = none := fun T' n he ht => by
    cases q : h.get? T' with
    | none => rfl
    | some o =>
      by_cases hs : T' ∈ fs
      · obtain ⟨sl, z⟩ := x.slot T' o q hs he ht
        rw [n] at z; cases z
      · have z := x.keep T' o q hs he ht
        rw [n] at z; cases z
  refine ⟨fun b o q hf he ht => y.keep b o (x.keep b o q hf he ht) hf he (nt b o q ht), fun b o q hf he ht => ?_, ?_⟩
  · obtain ⟨sl, z⟩ := x.slot b o q hf he ht
    obtain ⟨sl', z'⟩ := y.slot b _ z hf he (nt b o q ht)
    exact ⟨sl', z'⟩
  · obtain ⟨T', n, r⟩ := y.ent
    refine ⟨T', ?_, r⟩
    rcases n with n | n
    · by_cases hh : hd = some T'
      · exact .inr hh
      · refine .inl (n1 T' n (fun z => ?_) (Ne.symm hh))
        obtain ⟨vs, sl, q, r1, nT, _⟩ := r
        exact nT z
    · cases n
      exact hT
theorem vp {base : Heap} {env : Env} {outer : List Env} {L e : Addr} {C : EC} {head : Value} {vs : Array Value} {sl : Array (Option Value)} {had : Bool} {Q : Unit → Shared → Prop}
    (fr : A.frames = some (env :: outer)) (ff : s.heap.FunFrames base (env :: outer)) (ef : env.frame = some L) (re : s.heap.get? e = some { cls := C.1, dict := C.2, data := .fields vs, slots := sl }) (v1 : 1 < vs.size)
    (k : ∀ h', Noted (frs (env :: outer)) e none C s.heap h' → Q () { s with heap := h' }) :
    wpAny M A (do let a ← frameOf env; let pl ← entryPlaceOf L had; let b ← EntryCells.newEntry head a .none (rawInt L) .none pl; setField (.ref e) 1 b) Q E s := by
  have efs : e ∉ frs (env :: outer) := fun z => by
    obtain ⟨_, o, q, nf⟩ := ff.mem z
    rw [re] at q; cases q
    exact nf vs rfl
  refine wpAny_bind (wpAny_frameOf_fun fr ff ef fun g so => ?_)
  refine wpAny_bind (wpAny_entryPlaceOf fun pl ip => ?_)
  unfold EntryCells.newEntry newFields
  refine wpAny_bind (wpAny_newObj_type ?_ (ip.sizeOk5 _ _ _ _ _))
  generalize hN : ({ cls := .type "traceback", dict := none, data := .fields ([head, .ref L, .none, rawInt L, .none] ++ (if pl.isEmpty then List.replicate 6 Value.none else pl)).toArray } : Obj) = N
  have Nd : N.data = .fields ([head, .ref L, .none, rawInt L, .none] ++ (if pl.isEmpty then List.replicate 6 Value.none else pl)).toArray := by rw [← hN]
  have q1 : g.get? e = some { cls := C.1, dict := C.2, data := .fields vs, slots := sl } := (so.2.1 e efs).trans re
  have q2 := Heap.get?_push_of_some (h := g) N q1
  have ne : g.objs.size ≠ e := Nat.ne_of_gt (Heap.lt_size q1)
  refine wpAny_setField q2 rfl v1 (k _ ?_)
  have q3 := Heap.get?_update_self (Obj.mapFields (·.setIfInBounds 1 (Value.ref g.objs.size))) q2 rfl
  have nf : N.isFreed = false := Obj.isFreed_of_fields Nd
  have t3 : ((g.push N).update e (Obj.mapFields (·.setIfInBounds 1 (Value.ref g.objs.size)))).get? g.objs.size = some N :=
    (Heap.get?_update_other (g.push N) _ (Ne.symm ne)).trans (Heap.get?_push_size g nf)
  have oth : ∀ b o, b ≠ e → g.get? b = some o → ((g.push N).update e (Obj.mapFields (·.setIfInBounds 1 (Value.ref g.objs.size)))).get? b = some o := fun b o hb q => by
    rw [Heap.get?_update_other _ _ (Ne.symm hb)]
    exact Heap.get?_push_of_some _ q
  refine ⟨fun b o q hf he _ => oth b o he ((so.2.1 b hf).trans q), fun b o q hf he _ => ?_, g.objs.size, .inl ?_, vs.setIfInBounds 1 (.ref g.objs.size), sl, q3, by simp [v1], ne, N, _, rawInt L, t3, Nd, ?_⟩
  · obtain ⟨sl', q'⟩ := so.2.2 b o q
    exact ⟨sl', oth b _ he q'⟩
  · rw [so.1]
    exact Heap.get?_none_of_le (Nat.le_refl _)
  · simp
theorem wu {base : Heap} {env : Env} {outer : List Env} {L e : Addr} {C : EC} {hd : Option Addr} {Q : Unit → Shared → Prop}
    (fr : A.frames = some (env :: outer)) (ff : s.heap.FunFrames base (env :: outer)) (ef : env.frame = some L) (re : xo s.heap e C hd)
    (k : ∀ h', Noted (frs (env :: outer)) e hd C s.heap h' → Q () { s with heap := h' }) : wpAny M A (noteFrame (.ref e) env) Q E s := by
  have re0 := re
  obtain ⟨vs, sl, q, r⟩ := re
  unfold noteFrame
  simp only [ef]
  cases hd with
  | none =>
    refine wpAny_bind (wpAny_field q rfl r ?_)
    rw [if_neg (by decide)]
    exact vp fr ff ef q (Array.getElem?_eq_some_iff.mp r).1 k
  | some T =>
    obtain ⟨r1, nT, oT, ts, m, qT, dT, r3⟩ := r
    refine wpAny_bind (wpAny_field q rfl r1 ?_)
    rw [if_pos (by simp)]
    refine wpAny_bind (wpAny_field qT dT r3 ?_)
    by_cases hm : (m == rawInt L) = true
    · rw [if_pos hm]
      exact wpAny_pure (k s.heap ⟨fun b o q _ _ _ => q, fun b o q _ _ _ => ⟨o.slots, q⟩, T, .inr rfl, re0⟩)
    rw [if_neg hm]
    refine wpAny_bind (wpAny_setField qT dT (Array.getElem?_eq_some_iff.mp r3).1 ?_)
    have oth : ∀ b, b ≠ T → (s.heap.update T (Obj.mapFields (·.setIfInBounds 3 Value.none))).get? b = s.heap.get? b := fun b z => Heap.get?_update_other _ _ (Ne.symm z)
    have qT' := Heap.get?_update_self (Obj.mapFields (·.setIfInBounds 3 Value.none)) qT (Obj.isFreed_of_fields (Obj.data_mapFields dT _))
    have nf : ∀ b o, s.heap.get? b = some o → (∀ vs, o.data ≠ .fields vs) → b ≠ T := fun b o z n w => by
      rw [w, qT] at z; cases z
      exact n ts dT
    refine vp (s := { s with heap := s.heap.update T (Obj.mapFields (·.setIfInBounds 3 Value.none)) }) fr (ff.of_keeps fun b o z n => ⟨o, (oth b (nf b o z n)).trans z, rfl⟩) ef ((oth e (Ne.symm nT)).trans q) (Array.getElem?_eq_some_iff.mp r1).1 fun h' x => ?_
    exact k h' (x.before oth ⟨_, qT'⟩)
theorem ku {e T : Addr} {C : EC} {fo : Option Addr} {Q : Unit → Shared → Prop} (re : xo s.heap e C (some T))
    (k : ∀ h', (∀ fs, Noted fs e (some T) C s.heap h') → Q () { s with heap := h' }) : wpAny M A (setFlight (.ref e) fo) Q E s := by
  obtain ⟨vs, sl, q, r1, nT, oT, ts, m, qT, dT, r3⟩ := re
  unfold setFlight
  refine wpAny_bind (wpAny_field q rfl r1 ?_)
  rw [if_pos (by simp)]
  have oth : ∀ b, b ≠ T → (s.heap.update T (Obj.mapFields (·.setIfInBounds 3 (fo.elim Value.none fun f => rawInt f)))).get? b = s.heap.get? b := fun b z => Heap.get?_update_other _ _ (Ne.symm z)
  refine wpAny_setField qT dT (Array.getElem?_eq_some_iff.mp r3).1 (k _ fun fs => ⟨fun b o q _ _ z => ?_, fun b o q _ _ z => ⟨o.slots, ?_⟩, T, .inr rfl, ?_⟩)
  · rw [oth b fun w => z (by rw [w])]; exact q
  · rw [oth b fun w => z (by rw [w])]; exact q
  · refine ⟨vs, sl, (Heap.get?_update_other _ _ nT).trans q, r1, nT, _, _, fo.elim Value.none fun f => rawInt f, Heap.get?_update_self _ qT (Obj.isFreed_of_fields (Obj.data_mapFields dT _)), Obj.data_mapFields dT _, ?_⟩
    have h3 := (Array.getElem?_eq_some_iff.mp r3).1
    simp [h3]
theorem kZ {e T : Addr} {C : EC} {Q : Unit → Shared → Prop} (re : xo s.heap e C (some T))
    (k : ∀ h', (∀ fs, Noted fs e (some T) C s.heap h') → Q () { s with heap := h' }) : wpAny M A (setFlight (.ref e) none) Q E s := ku re k
theorem qCg {base : Heap} {env : Env} {outer : List Env} {L e : Addr} {C : EC} {hd : Option Addr} {Q : Unit → Shared → Prop}
    (fr : A.frames = some (env :: outer)) (ff : s.heap.FunFrames base (env :: outer)) (ef : env.frame = some L) (re : xo s.heap e C hd)
    (k : ∀ h', Noted (frs (env :: outer)) e hd C s.heap h' → Q () { s with heap := h' }) : wpAny M A (noteFrame (.ref e) env) (fun _ s' => wpAny M A (setFlight (.ref e) none) Q E s') E s := by
  refine wu fr ff ef re fun h1 N1 => ?_
  obtain ⟨T, hT, rT⟩ := N1.ent
  exact kZ (s := { s with heap := h1 }) rT fun h2 N2 => k h2 (N1.then hT (N2 _))
theorem qC8 {base : Heap} {env : Env} {outer : List Env} {L e : Addr} {C : EC} {hd : Option Addr} {E2 : Value → Shared → Prop}
    (fr : A.frames = some (env :: outer)) (ff : s.heap.FunFrames base (env :: outer)) (ef : env.frame = some L) (re : xo s.heap e C hd)
    (k : ∀ h', Noted (frs (env :: outer)) e hd C s.heap h' → E2 (.ref e) { s with heap := h' }) : notedBy M A env (cameBackBy M A env E2) (.ref e) s := by
  refine wu fr ff ef re fun h1 N1 => ?_
  obtain ⟨T, hT, rT⟩ := N1.ent
  obtain ⟨vs, sl, q, r1, _⟩ := id rT
  show wpAny M A _ _ _ _
  refine wpAny_bind (wpAny_field (s := { s with heap := h1 }) q rfl r1 ?_)
  rw [if_neg (by simp)]
  exact ku (s := { s with heap := h1 }) rT fun h2 N2 => k h2 (N1.then hT (N2 _))
end
end L3
set_option maxHeartbeats 4000000
namespace L3
open PySem PySem.Spec PyProof.Rows L2
theorem qD5 {P : Program} {w : World} {H : Hp} {h : Heap} {a : Addr} {o : HO} (x : ObjOk P w H h a o) : ∃ ob, h.get? a = some ob := by
  cases o with
  | lst xs => obtain ⟨_, _, _, _, e⟩ := x; exact ⟨_, e⟩
  | tup xs => obtain ⟨_, _, _, ob, e, _⟩ := x; exact ⟨ob, e⟩
  | dK kvs => obtain ⟨_, _, _, _, o, _, _, e, _⟩ := x; exact ⟨_, e⟩
  | dT kvs => obtain ⟨_, _, _, _, o, _, _, e, _⟩ := x; exact ⟨_, e⟩
  | set S n => obtain ⟨o, _, _, _, e, _⟩ := x; exact ⟨_, e⟩
  | ins C dx fs => obtain ⟨_, _, _, e, _⟩ := x; exact ⟨_, e⟩
  | own y => exact x
  | xd fs => obtain ⟨_, ⟨_, _, _, e, _⟩, _⟩ := x; exact ⟨_, e⟩
  | rng lo hi => obtain ⟨_, _, _, e⟩ := x; exact ⟨_, e⟩
  | frz ob u => obtain ⟨e, _⟩ := x; exact ⟨_, e⟩
  | tbl ps => exact ⟨_, x⟩
  | met f y => exact ⟨_, x⟩
  | ext φ => exact x.2.1
def qA8 (h₀ : Heap) (H : Hp) (ps : List (Addr × Obj)) (e : Addr) : Prop := h₀.get? e = none ∧ H e = none ∧ ∀ p ∈ ps, p.1 ≠ e
def qE2 (h₀ : Heap) (H : Hp) (ps : List (Addr × Obj)) (h : Heap) (e : Addr) (C : EC) : Prop :=
  qA8 h₀ H ps e ∧ ∃ hd, xo h e C hd ∧ ∀ T, hd = some T → qA8 h₀ H ps T
def CXR (P : Program) (w : World) : CXT := fun outer H s E e s' => ∃ ea C H', e = .ref ea ∧ s'.os = s.os ∧ AllBare s'.gens ∧ Un (frs outer) [] H H' s.heap s'.heap ∧ HOk P w H' s'.heap ∧ qE2 s.heap H' [] s'.heap ea C ∧ E C.1 C.2 H'
def XE (X : Cx) (Ex : Value → Option Addr → Hp → Prop) : Value → Shared → Prop := fun e s' => ∃ ea C σ H', e = .ref ea ∧ Inv X [] σ H' s' ∧ qE2 X.s₀.heap H' X.pn s'.heap ea C ∧ Ex C.1 C.2 H'
section
variable {X : Cx} {σ : L2.St} {H : Hp} {s : Shared}
theorem xh {e : Addr} {hd : Option Addr} {C : EC} {h' : Heap} (I : Inv X [] σ H s) (hex : X.ex = []) (re : xo s.heap e C hd) (n1 : qA8 X.s₀.heap H X.pn e) (n3 : ∀ T, hd = some T → qA8 X.s₀.heap H X.pn T)
    (N : Noted (frs X.stack) e hd C s.heap h') : Inv X [] σ H { s with heap := h' } ∧ qE2 X.s₀.heap H X.pn h' e C := by
  have B := I.base
  rw [hex] at B
  have ne : ∀ b o, X.s₀.heap.get? b = some o → b ≠ e ∧ some b ≠ hd ∧ b ≠ X.env.locals := fun b o q => by
    refine ⟨fun z => ?_, fun z => ?_, Nat.ne_of_lt (Nat.lt_of_lt_of_le (Heap.lt_size q) I.ok.above)⟩
    · rw [z, n1.1] at q; cases q
    · rw [(n3 b z.symm).1] at q; cases q
  have nin : ∀ b, b ∉ ([] : List Addr) := fun b z => nomatch z
  have nfl : ∀ b o, s.heap.get? b = some o → (∀ vs, o.data ≠ .fields vs) → b ≠ e ∧ some b ≠ hd := fun b o q nf => by
    obtain ⟨vs, sl, qe, r⟩ := re
    refine ⟨fun z => ?_, fun z => ?_⟩
    · rw [z, qe] at q; cases q
      exact nf vs rfl
    · subst z
      obtain ⟨_, _, oT, ts, _, qT, dT, _⟩ := r
      rw [qT] at q; cases q
      exact nf ts dT
  have up : ∀ b o, s.heap.get? b = some o → b ≠ e → some b ≠ hd → ∃ sl, h'.get? b = some { o with slots := sl } := fun b o q z1 z2 => by
    by_cases hs : b ∈ frs X.stack
    · exact N.slot b o q hs z1 z2
    · exact ⟨o.slots, N.keep b o q hs z1 z2⟩
  have un : Un X.fs [] X.H₀ H X.s₀.heap h' := by
    refine ⟨fun b o q n hb hx => ?_, fun b o q n hb hx => ?_, fun b o q n hx => B.free b o q n hx, fun b o q hx => ?_, B.tups, B.frzs, B.tbls⟩
    · obtain ⟨z1, z2, z3⟩ := ne b o q
      refine N.keep b o (B.keep b o q n hb hx) (fun z => ?_) z1 z2
      rcases List.mem_cons.mp (I.stkSub b z) with w | w
      · exact z3 w
      · exact hb w
    · obtain ⟨z1, z2, z3⟩ := ne b o q
      obtain ⟨sl, q1⟩ := B.slot b o q n hb hx
      obtain ⟨sl', q2⟩ := up b _ q1 z1 z2
      exact ⟨sl', q2⟩
    · obtain ⟨z1, z2, z3⟩ := ne b o q
      obtain ⟨o', q1⟩ := B.there b o q hx
      obtain ⟨sl', q2⟩ := up b _ q1 z1 z2
      exact ⟨_, q2⟩
  have hok : HOk X.prog X.w H h' := fun a u q => by
    have key : ∀ c, H c = none → ¬ (c = a ∨ H c = some (.own a)) := fun c z w => by
      rcases w with w | w
      · rw [w, q] at z; cases z
      · rw [z] at w; cases w
    exact (I.hok a u q).stay (fun c v hc z => N.keep c v z (fun w => key c (I.stkFree c w) hc) (fun w => key c (by rw [w]; exact n1.2.1) hc) fun w => key c (n3 c w.symm).2.1 hc) (fun _ z => z) fun _ _ z => z
  have cellK : ∀ c v, s.heap.IsCell c v → h'.IsCell c v := fun c v ⟨o, q, d⟩ => by
    obtain ⟨z1, z2⟩ := nfl c o q fun vs w => by rw [d] at w; cases w
    obtain ⟨sl, q'⟩ := up c o q z1 z2
    exact ⟨_, q', d⟩
  have I' : Inv X [] σ H { s with heap := h' } := by
    refine ⟨I.ok, I.os, I.bare, by rw [hex]; exact un, ?_, fun y c e => ?_, I.free, I.freeC, fun p hp => ?_, hok, I.len⟩
    · obtain ⟨m, ⟨o, es, ep, ho, hd', r⟩, hl⟩ := I.loc
      obtain ⟨z1, z2⟩ := nfl _ o ho fun vs w => by rw [hd'] at w; cases w
      obtain ⟨sl, q'⟩ := up _ o ho z1 z2
      refine ⟨m, ⟨_, es, ep, q', hd', r⟩, fun i x v e1 e2 e3 => ?_⟩
      obtain ⟨u, r, l⟩ := hl i x v e1 e2 e3
      refine ⟨u, r, ?_⟩
      rcases l with l | ⟨k, c, ec, z⟩
      · exact .inl l
      · exact .inr ⟨k, c, ec, cellK c _ z⟩
    · obtain ⟨v, z⟩ := I.cell y c e
      exact ⟨v, cellK c v z⟩
    · obtain ⟨q, n, nl, nf, d⟩ := I.pin p hp
      have hp' : p ∈ X.pn := by simpa using hp
      refine ⟨N.keep p.1 p.2 q (fun z => ?_) (n1.2.2 p hp') fun z => (n3 p.1 z.symm).2.2 p hp' rfl, n, nl, nf, d⟩
      rcases List.mem_cons.mp (I.stkSub p.1 z) with w | w
      · exact nl w
      · exact nf w
  refine ⟨I', n1, ?_⟩
  obtain ⟨T, nT, r⟩ := N.ent
  refine ⟨some T, r, fun T' e' => ?_⟩
  cases e'
  rcases nT with nT | nT
  rotate_left
  · exact n3 T nT
  refine ⟨?_, ?_, fun p hp z => ?_⟩
  · cases q : X.s₀.heap.get? T with
    | none => rfl
    | some o =>
      obtain ⟨o', z⟩ := B.there T o q (nin T)
      rw [nT] at z; cases z
  · cases q : H T with
    | none => rfl
    | some u =>
      obtain ⟨o', z⟩ := qD5 (I.hok T u q)
      rw [nT] at z; cases z
  · have q := (I.pin p (List.mem_append_left _ hp)).1
    rw [z, nT] at q; cases q
end
theorem qGl {X : Cx} {Ex : Value → Option Addr → Hp → Prop} {L : Addr} {env : Env} {outer : List Env} (hst : X.stack = env :: outer) (he : X.env = env) (hf : env.frame = some L) (hex : X.ex = []) : PassesOwn (model X.prog X.w) X.A X.env (XE X Ex) := by
  rintro e s' ⟨ea, C, σ, H', rfl, I, ⟨n1, hd, r, n3⟩, z⟩
  subst he
  have fr := I.ok.frames
  rw [hst] at fr
  have ff := I.stack
  rw [hst] at ff
  refine qC8 fr ff hf r fun h' N' => ?_
  rw [← hst] at N'
  obtain ⟨I', x'⟩ := xh I hex r n1 n3 N'
  exact ⟨ea, C, σ, H', rfl, I', x', z⟩
theorem qEl {X : Cx} {E : Value → Shared → Prop} {st : List Stmt} {t : TS} (h : PSs (X.wish E) st t) (hE : ∀ e s', E e s' → X.xe e s') : PSs X st t := fun pins s σ H D I hw =>
  wpAny_mono (h pins s σ H D (I.wish E) hw) (fun _ _ q => q.unwish) hE
section
variable {P : Program} {w : World} {K : PySem.W.Frag} {mg : Str → Option Value} {base : Heap}
theorem okX {x qual : Str} {st : Stmt} {f : Addr} {fd : FuncData} {N ps : List Str} {k : Nat} {sp : Sp} (F : Fun K x qual st f fd) (S : qX N ps (qG st)) (len : ∀ vs H Q E, sp vs H Q E → vs.length = ps.length)
    (hbody : ∀ (cdv : Value) (A : Around) (outer : List Env) (s : Shared) (H : Hp) (vs : List V) (Q : VK) (E : XK), Room k (A.deeper (envOfC qual (qG st) s.heap.objs.size f cdv)) → sp vs H Q E →
      ∃ t, PSs ((qCq (CXR P w) P w K mg base N qual (qG st) f cdv A outer s H E).wish (XE (qCq (CXR P w) P w K mg base N qual (qG st) f cdv A outer s H E) E)) (qS st) t ∧
        t { nx := fun _ H' => Q .non H', rt := Q } (vE N vs) H) : FnOk P w K mg base (CXR P w) (k + 1) f fd ps sp := by
  obtain ⟨oc, od, kV, doc, pm, an, cdv, ct, osl, rfl, lk, hcd⟩ := F.ex
  refine qF8 lk hcd S len fun A outer s H vs Q E hr hsp => ?_
  obtain ⟨t, h, q⟩ := hbody cdv A outer s H vs Q E hr hsp
  refine ⟨t, qEl h ?_, q⟩
  rintro e s' ⟨ea, C, σ, H', rfl, I, ⟨n1, hd, r, n3⟩, z⟩
  show wpAny _ _ (leaving _ _) _ _ _
  unfold leaving
  refine wpAny_bind (qCg I.ok.frames I.stack rfl r fun h' N' => ?_)
  obtain ⟨I', x'⟩ := xh I rfl r n1 n3 N'
  exact ⟨ea, C, H', rfl, I.os, I.bare, I'.base, I'.hok, x', z⟩
end
theorem qHm {X : Cx} {Ex : Value → Option Addr → Hp → Prop} (hex : X.ex = []) : wk (CXR X.prog X.w) (X.wish (XE X Ex)) Ex := by
  rintro pins σ H s e s' I ⟨ea, C, H', rfl, os, bare, un, hok, ⟨n1, hd, r, n3⟩, q⟩
  have I0 := I.unwish
  have I1 : Inv X pins σ H' s' := I0.call' (ch := []) os un hok bare fun b z => nomatch z
  have old : ∀ b, s.heap.get? b = none → X.s₀.heap.get? b = none := fun b z => by
    cases w : X.s₀.heap.get? b with
    | none => rfl
    | some o =>
      obtain ⟨o', w'⟩ := I0.base.there b o w (by rw [hex]; intro y; cases y)
      rw [z] at w'; cases w'
  have pn : ∀ b, s.heap.get? b = none → ∀ p ∈ X.pn, p.1 ≠ b := fun b z p hp w => by
    have q := (I0.pin p (List.mem_append_left _ hp)).1
    rw [w, z] at q; cases q
  exact ⟨ea, C, σ, H', rfl, I1.pins_of (pins' := []) fun p hp => (nomatch hp), ⟨⟨old _ n1.1, n1.2.1, pn _ n1.1⟩, hd, r, fun T e => ⟨old _ (n3 T e).1, (n3 T e).2.1, pn _ (n3 T e).1⟩⟩, q⟩
theorem vH {X : Cx} {Ex : Value → Option Addr → Hp → Prop} {k j : Nat} {x : Str} {st : Stmt} {ps : List Str} {f : Addr} {fd : FuncData} {sp : Sp} {e : Expr} {es : List Expr} {t : TA} {p pos : Pos} (D : Def X.K X.mg x st ps f fd) (F : FnOk X.prog X.w X.K X.mg X.base (CXR X.prog X.w) j f fd ps sp) (hr : Room k X.A) (hg : Gl X x)
    (ha : PA (X.wish (XE X Ex)) (e :: es) t) (hj : j ≤ k := by decide) (hex : X.ex = [] := by rfl)
    (hdb : (x == ("__debug__" : Str)) = false := by decide) (he : starEach (e :: es) X.env = (false, eval e X.env) :: starEach es X.env := by rfl) (hpl : (backTo pos (starEach es X.env)).any (·.1) = false := by rfl) :
    PE (X.wish (XE X Ex)) (.Call (.Name x p) (e :: es) [] pos) (qFg sp [] Ex t) :=
  qBg (X := X.wish (XE X Ex)) (CX := CXR X.prog X.w) F (hr.mono hj) hg D.m D.F.kp D.b .nil (qHm hex) ha hdb he hpl
def qEw : List Value := [.type "ValueError", .type "Exception", .type "BaseException", .type "object"]
def OwnX (K : PySem.W.Frag) (C : Addr) : Prop := PySem.W.excIn K C qEw "ValueError.__new__" = true
theorem qFi {K : PySem.W.Frag} {h : Heap} {mg : Str → Option Value} {x : Str} {C : Addr} (X : K.In h) (b : mg x = some (.ref C)) (q : OwnX K C) : OwnCls x C qEw "ValueError.__new__" mg h := by
  refine ⟨b, ?_⟩
  unfold OwnX PySem.W.excIn at q
  split at q
  · rename_i dd cd sl ho
    split at q
    · rename_i C' bm k0 k1 k2 k3 n k5 hm hs
      simp only [Bool.and_eq_true, beq_iff_eq, Bool.not_eq_true'] at q
      obtain ⟨⟨⟨⟨⟨eC, en⟩, del⟩, ht⟩, ok⟩, ni⟩ := q
      subst eC en
      obtain ⟨nm, bs, mro, ns, qn, hd, sn, sub, ab, col, dl⟩ := cd
      dsimp only at hm del ok ni
      subst hm del
      have hsl : sl = #[k0, k1, k2, k3, some (.builtin "ValueError.__new__"), k5] := by
        obtain ⟨l⟩ := sl
        simp only at hs
        rw [hs]
      subst hsl
      exact ⟨bm, ns, nm, qn, bs, hd, sn, sub, ab, col, dd, k0, k1, k2, k3, k5, _, X _ _ ho, .of_isNs (PySem.W.isNs_of_in X ok), PySem.W.nsMap_none_of_in X ok ni, PySem.W.tail_of_in X ht⟩
    · cases q
  · cases q
def qGa (C : Addr) (Ex : Value → Option Addr → Hp → Prop) (t : TA) : TS := fun _ σ H => t σ H fun vs H1 => vs.length ≤ sizeLine ∧ Ex (.ref C) none H1
theorem qCs {X : Cx} {Ex : Value → Option Addr → Hp → Prop} {x : Str} {C : Addr} {np cpos pos : Pos} {e₀ : Expr} {rest : List Expr} {t : TA} (hcm : X.calm = true) (hg : Gl X x) (hm : X.mg x = some (.ref C)) (hx : OwnX X.K C) (ha : PA (X.wish (XE X Ex)) (e₀ :: rest) t)
    (he : starEach (e₀ :: rest) X.env = (false, eval e₀ X.env) :: starEach rest X.env := by rfl) (hpl : (backTo cpos (starEach rest X.env)).any (·.1) = false := by rfl) (hex : X.ex = [] := by rfl) (hdb : (x == ("__debug__" : Str)) = false := by decide) :
    PS (X.wish (XE X Ex)) (.Raise (some (.Call (.Name x np) (e₀ :: rest) [] cpos)) none pos) (qGa C Ex t) := by
  intro pins s σ H D I h
  obtain ⟨tl, N, nm, q, bs, hdct, sn, sub, ab, col, dd, k0, k1, k2, k3, k5, mN, hC, hN, hni, T⟩ :=
    (qFi (X := I.ok.mod.kin) hm hx).obj
  refine wpAny_Raise_call_subT (bm := tl) (C := C) (N := N) (nm := nm) (q := q) (bs := bs) (hdct := hdct) (sn := sn) (sub := sub) (ab := ab) (col := col) (dd := dd) (k5 := k5) (k0 := k0) (k1 := k1) (k2 := k2) (k3 := k3)
    PySem.F.excBase_ValueError (mN := mN) (T.hasType PySem.F.excBase_ValueError.hasBase) (I.ok.hd hcm) (by rw [he]; show (false || (backTo cpos (starEach rest X.env)).any (·.1)) = false; rw [hpl]; rfl) hni (kI I hg hm ⟨rfl, ?_⟩ hdb)
  have z := ha cpos pins s σ H _ I h
  rw [show (X.wish (XE X Ex)).env = X.env from rfl] at z
  rw [he] at z ⊢
  refine Calls.evalArgs_plain (wpAny_mono z (fun us s2 w => ?_) fun _ _ y => y)
  obtain ⟨vs, H1, I1, r1, hl, ex⟩ := w
  have I1' := I1.unwish
  refine ⟨rfl, by rw [← r1.length]; exact hl, I1.bk _ _ hC, hN.keeps I1.bk, T.keeps I1.bk, fun h' e hmk => ?_⟩
  obtain ⟨tt, q1, q2, q3⟩ := hmk.there
  have I2 : Inv X pins σ H1 { s2 with heap := h' } := I1'.kept (t' := s2.toks) hmk.keeps
  refine ⟨e, (.ref C, none), σ, H1, rfl, I2.pins_of (pins' := []) fun p hp => (nomatch hp), ⟨⟨?_, ?_, fun p hp z => ?_⟩, none, ⟨_, _, q1, rfl⟩, fun T e' => nomatch e'⟩, ex⟩
  · cases w : X.s₀.heap.get? e with
    | none => rfl
    | some o =>
      obtain ⟨o', w'⟩ := I1'.base.there e o w (by rw [hex]; intro y; cases y)
      rw [hmk.new] at w'; cases w'
  · cases w : H1 e with
    | none => rfl
    | some u =>
      obtain ⟨o', w'⟩ := qD5 (I1'.hok e u w)
      rw [hmk.new] at w'; cases w'
  · have q' := (I1'.pin p (List.mem_append_left _ hp)).1
    rw [z, hmk.new] at q'; cases q'
end L3
set_option maxHeartbeats 4000000
namespace L3
open PySem PySem.Spec PyProof.Rows L2
def pnX (X : Cx) (l : List (Addr × Obj)) : Cx := { X with pn := l }
def hdX (X : Cx) (ea : Addr) : Cx := { X with A := X.A.mark (some (.ref ea)), calm := false }
section
variable {X : Cx} {pins : List (Addr × Obj)} {σ : L2.St} {H : Hp} {s : Shared}
theorem qGi (I : Inv X pins σ H s) : Inv (pnX X (X.pn ++ pins)) [] σ H s := by
  obtain ⟨a1, a2, a3, a4, a5, a6, a7, a8, a9, a10, a11, a12, a13, a14, a15, a16, a17, a18⟩ := I.ok
  exact ⟨⟨a1, a2, a3, a4, a5, a6, a7, a8, a9, a10, a11, a12, a13, a14, a15, a16, a17, a18⟩, I.os, I.bare, I.base, I.loc, I.cell, I.free, I.freeC, fun p hp => I.pin p (by have z : p ∈ (X.pn ++ pins) ++ [] := hp; simpa using z), I.hok, I.len⟩
theorem zt (I : Inv (pnX X (X.pn ++ pins)) [] σ H s) : Inv X pins σ H s := by
  obtain ⟨a1, a2, a3, a4, a5, a6, a7, a8, a9, a10, a11, a12, a13, a14, a15, a16, a17, a18⟩ := I.ok
  exact ⟨⟨a1, a2, a3, a4, a5, a6, a7, a8, a9, a10, a11, a12, a13, a14, a15, a16, a17, a18⟩, I.os, I.bare, I.base, I.loc, I.cell, I.free, I.freeC, fun p hp => I.pin p (by show p ∈ (X.pn ++ pins) ++ []; simpa using hp), I.hok, I.len⟩
theorem qBl {ea : Addr} (I : Inv X pins σ H s) : Inv (hdX X ea) pins σ H s := by
  obtain ⟨a1, a2, a3, a4, a5, a6, a7, a8, a9, a10, a11, a12, a13, a14, a15, a16, a17, a18⟩ := I.ok
  exact ⟨⟨a1, a2, a3, a4, a5, a6, a7, a8, fun h => absurd (show false = true from h) Bool.false_ne_true, a10, a11, a12, a13, a14, a15, a16, a17, a18⟩, I.os, I.bare, I.base, I.loc, I.cell, I.free, I.freeC, I.pin, I.hok, I.len⟩
theorem wB {ea : Addr} (I : Inv (hdX X ea) pins σ H s) (hd : X.calm = true → X.A.handled = none) : Inv X pins σ H s := by
  obtain ⟨a1, a2, a3, a4, a5, a6, a7, a8, a9, a10, a11, a12, a13, a14, a15, a16, a17, a18⟩ := I.ok
  exact ⟨⟨a1, a2, a3, a4, a5, a6, a7, a8, hd, a10, a11, a12, a13, a14, a15, a16, a17, a18⟩, I.os, I.bare, I.base, I.loc, I.cell, I.free, I.freeC, I.pin, I.hok, I.len⟩
def kd (e : Addr) (C : EC) : HO := .ext fun h => ∃ (vs : Array Value) (sl : Array (Option Value)), h.get? e = some { cls := C.1, dict := C.2, data := .fields vs, slots := sl }
theorem wM {a : Addr} {C : EC} {hd : Option Addr} (I : Inv X [] σ H s) (_ : X.ex = []) (n : qA8 X.s₀.heap H X.pn a) (r : xo s.heap a C hd) : Inv X [] σ (upd H a (kd a C)) s := by
  obtain ⟨vs, sl, q, _⟩ := r
  have B := I.base
  have ne : ∀ b o, X.s₀.heap.get? b = some o → b ≠ a := fun b o w z => by rw [z, n.1] at w; cases w
  refine ⟨I.ok, I.os, I.bare, ⟨B.keep, B.slot, fun b o w z hx => ?_, B.there, fun b xs w => ?_, fun b o u w => ?_, fun b ps w => ?_⟩, I.loc, I.cell, ?_, fun y c e => ?_, fun p hp => ?_, fun b u w => ?_, I.len⟩
  · rw [qV (ne b o w)]; exact B.free b o w z hx
  · have z := B.tups b xs w
    rw [qV (qZ z n.2.1)]; exact z
  · have z := B.frzs b o u w
    rw [qV (qZ z n.2.1)]; exact z
  · obtain ⟨more, z⟩ := B.tbls b ps w
    exact ⟨more, by rw [qV (qZ z n.2.1)]; exact z⟩
  · obtain ⟨m, ⟨o, es, ep, ho, hd', _⟩, _⟩ := I.loc
    rw [qV (fun z => by rw [z, q] at ho; cases ho; cases hd')]
    exact I.free
  · obtain ⟨v, o, ho, hd'⟩ := I.cell y c e
    rw [qV (fun z => by rw [z, q] at ho; cases ho; cases hd')]
    exact I.freeC y c e
  · obtain ⟨w1, w2, w3⟩ := I.pin p hp
    have hp' : p ∈ X.pn := by simpa using hp
    rw [qV (n.2.2 p hp')]
    exact ⟨w1, w2, w3⟩
  · by_cases hb : b = a
    · subst hb
      rw [qB] at w
      cases w
      refine ⟨⟨vs, sl, q⟩, ⟨_, q⟩, fun h1 h2 z k => ?_⟩
      obtain ⟨vs', sl', z⟩ := z
      exact ⟨vs', sl', k _ z⟩
    · rw [qV hb] at w
      exact (I.hok b u w).stay (fun _ _ _ z => z) (fun c z => by rw [qV (qZ z n.2.1)]; exact z) fun c xs z => by rw [qV (qZ z n.2.1)]; exact z
theorem zN {M : Model} {A : Around} {E : Value → Shared → Prop} {i : Nat} {n : Str} {pos : Pos} {Q : Unit → Shared → Prop} (I : Inv X pins σ H s) (hN : X.N.Nodup) (hi : X.N[i]? = some n) (hl : X.env.scope.names.lookup n = some .local)
    (h : ∀ s', Inv X pins (σ.set i none) H s' → Q () s') : wpAny M A (do bindName X.env n .none; unbindBehindTheSuite X.env n pos) Q E s := by
  refine wpAny_bind (wpAny_bindName (xV (v := .non) I hN hi (.inl hl) rfl (fun s1 I1 => ?_) (.inr hl)))
  unfold unbindBehindTheSuite
  refine wpAny_onRaise ?_
  have hcls : (X.env.scope.kind == .class || (X.env.scope.kind == .module && X.env.locals != X.env.globals)) = false := by rw [I1.ok.kind]; rfl
  have hiσ : i < σ.length := by rw [I.len]; exact (List.getElem?_eq_some_iff.mp hi).1
  obtain ⟨m, hn, hlk⟩ := I1.loc
  obtain ⟨u, r, lk⟩ := hlk i n .non hi (by rw [List.getElem?_set_self hiσ]) (.inl hl)
  have hm : m n = some u := by
    rcases lk with ⟨_, z⟩ | ⟨z, _⟩
    · exact z
    · have hl' : X.env.kindOf n = some .local := hl
      rw [hl'] at z
      rcases z with z | z <;> cases z
  obtain ⟨oL, es, ep, hoL, hdL, _⟩ := id hn
  refine wpAny_unbindName_local hl hn hm hcls fun h' u' hn' hs => h _ ?_
  have B := I1.base
  have neL : ∀ b o, X.s₀.heap.get? b = some o → b ≠ X.env.locals := fun b o e => Nat.ne_of_lt (Nat.lt_of_lt_of_le (Heap.lt_size e) I1.ok.above)
  refine ⟨I1.ok, I1.os, I1.bare, ⟨fun b o e n hb hx => (hs.2 b (neL b o e)).trans (B.keep b o e n hb hx), fun b o e n hb hx => ?_, B.free, fun b o e hx => ?_, B.tups, B.frzs, B.tbls⟩, ⟨_, hn', fun j y v e1 e2 e3 => ?_⟩, fun y c e => ?_, I1.free, I1.freeC, fun p hp => ?_, fun b ob e => ?_, ?_⟩
  · obtain ⟨sl, z⟩ := B.slot b o e n hb hx
    exact ⟨sl, (hs.2 b (neL b o e)).trans z⟩
  · obtain ⟨o', z⟩ := B.there b o e hx
    exact ⟨o', (hs.2 b (neL b o e)).trans z⟩
  · have hj : j ≠ i := fun z => by
      subst z
      rw [List.getElem?_set_self hiσ] at e2
      cases e2
    rw [List.getElem?_set_ne (Ne.symm hj)] at e2
    obtain ⟨u2, r2, l2⟩ := hlk j y v e1 (by rw [List.getElem?_set_ne (Ne.symm hj)]; exact e2) e3
    refine ⟨u2, r2, ?_⟩
    rcases l2 with ⟨k, z⟩ | ⟨k, c, ec, z⟩
    · refine .inl ⟨k, ?_⟩
      have : y ≠ n := fun w => hj (vS hN e1 (w ▸ hi))
      simp [this, z]
    · exact .inr ⟨k, c, ec, z.sameBut hs (I1.cne y c ec)⟩
  · obtain ⟨w', z⟩ := I1.cell y c e
    exact ⟨w', z.sameBut hs (I1.cne y c e)⟩
  · obtain ⟨e, n, ne, nf, d⟩ := I1.pin p hp
    exact ⟨(hs.2 p.1 ne).trans e, n, ne, nf, d⟩
  · refine (I1.hok b ob e).stay (fun c w' hc q => (hs.2 c fun z => ?_).trans q) (fun _ q => q) fun _ _ q => q
    have fr := I1.free
    rcases hc with hc | hc
    · rw [← hc, z, fr] at e; cases e
    · rw [z, fr] at hc; cases hc
  · have := I1.len
    simpa using this
end
def qEb (D : qA4) (i : Option Nat) : qA4 :=
  let f : (L2.St → Hp → Prop) → L2.St → Hp → Prop := fun q σ H => match i with | some i => q (σ.set i none) H | none => q σ H
  { nx := f D.nx, rt := D.rt, bk := f D.bk, ct := f D.ct }
def qHo (i : Option Nat) (ea : Addr) (σ : L2.St) : L2.St := match i with | some i => σ.set i (some (.ref ea)) | none => σ
inductive qA7 (X : Cx) : Option Str → Option Nat → Prop where
  | none : qA7 X none none
  | some {n : Str} {i : Nat} (hi : X.N[i]? = some n) (hl : X.env.scope.names.lookup n = some .local) : qA7 X (some n) (some i)
end L3
set_option maxHeartbeats 4000000
set_option maxRecDepth 100000
namespace L3
open PySem PySem.Spec PySem.Calls PyProof.Rows PySem.W
section
variable {prog : Program} {w : World} {A : Around} {E : Value → Shared → Prop} {K : Frag} {h : Heap} {g : Array GenState} {d : Drawn} {t : Nat} {os : OsState} {a D : Addr} {ox : Obj} {od : Option Obj}
structure ExcK (K : Frag) (D : Addr) : Prop where
  ga : findIn K (.ref D) "__getattribute__" = some (some (.builtin "BaseException.__getattribute__"))
  gt : findIn K (.ref D) "__getattr__" = some none
  ca : findIn K (.ref D) "__class__" = some (some (.builtin "object.__class__"))
  sg : specialIn K (.builtin "object.__class__") "__get__" = some (some (.builtin "getset_descriptor.__get__"))
  tk : takesIn K (.builtin "object.__class__") = some true
  mo : mroIn K D (.type "object") = some true
  mb : mroIn K D (.type "BaseException") = some true
theorem qCa {tk : Tok} {Q : Fin → Shared → Prop} (c : ExcK K D) (X : K.In h) (I : InstAt h a ox D od) (hq : Q (.done (.ret (.ref D))) ⟨h, g, d, t, os⟩) :
    wpAny (model prog w) A (Builtin.«object.__getattribute__» ⟨[.ref a, .str "__class__" tk], []⟩) Q E ⟨h, g, d, t, os⟩ := by
  have L0 := I.type (M := model prog w)
  have L1 := looks_findIn (M := model prog w) X c.ca
  have hf : findObj K D od "__class__" = some (.bind (.builtin "getset_descriptor.__get__") (.builtin "object.__class__")) := by
    have mo := c.mo
    unfold mroIn at mo
    unfold findObj
    cases e : clsIn K D with
    | none => rw [e] at mo; cases mo
    | some cd =>
      simp only [Option.bind_some, c.ca, c.sg, c.tk]
  have L2 := looks_find (M := model prog w) X I hf
  unfold Builtin.«object.__getattribute__»
  repeat (any_goals (first | assumption | (with_reducible refine wpAny_bind (L0.at ?_)) | (with_reducible refine wpAny_bind (L2.at ?_)) | wp_step))
  refine class_get (s := ⟨h, g, d, t, os⟩) (ox := ox) (od := od) X I c.mo ?_
  exact wpAny_pure hq
theorem qC7 {tk : Tok} {R : Result → Shared → Prop} (c : ExcK K D) (X : K.In h) (I : InstAt h a ox D od) (hq : R (.ok (.ret (.ref D))) ⟨h, g, d, t, os⟩) :
    codeAny (model prog w) A (.call (.builtin "BaseException.__getattribute__") ⟨[.ref a, .str "__class__" tk], []⟩) R ⟨h, g, d, t, os⟩ := by
  refine codeAny_call_builtin F.attr_ValueError.ga.plain F.entry_bexc_ga ?_
  have bkd : builtinKind "BaseException.__getattribute__" = some .slot := by decide +kernel
  have hsp : splitId "BaseException.__getattribute__" = some ("BaseException", "__getattribute__") := by decide +kernel
  have ha := F.args_bexc_ga (.ref a) (.str "__class__" tk)
  have L0 := I.type (M := model prog w)
  have L1 : Looks (model prog w) h (isInstance (.ref a) (.type "BaseException")) true := L0.andThen (looks_mroIn X c.mb)
  simp only [checkBuiltinCall, bkd, hsp]
  refine wpAny_bind (L1.at ?_)
  repeat (first | assumption | (with_reducible refine qCa c X I ?_) | exact hq | wp_step)
theorem qGj {tk : Tok} {fill : Bool} {Q : Value → Shared → Prop} (c : ExcK K D) (X : K.In h) (I : InstAt h a ox D od) (hq : Q (.ref D) ⟨h, g, d, t, os⟩) :
    wpAny (model prog w) A (getAttrBy (.ref a) (.str "__class__" tk) fill) Q E ⟨h, g, d, t, os⟩ := by
  have L0 := I.type (M := model prog w)
  have L1 := looks_findIn (M := model prog w) X c.ga
  have L2 := looks_findIn (M := model prog w) X c.gt
  have f3 := F.attr_ValueError.ga.bind (.ref a)
  have no2 : (Value.builtin "BaseException.__getattribute__" == Value.builtin "object.__getattribute__") = false := by decide +kernel
  have no1 : (onTheHeap (Value.ref D) && Value.builtin "BaseException.__getattribute__" == Value.builtin "object.__getattribute__") = false := by rw [no2]; rfl
  repeat (any_goals (first | assumption | (with_reducible refine wpAny_bind (L0.at ?_)) | (with_reducible refine wpAny_bind (L1.at ?_)) | (with_reducible refine wpAny_bind (L2.at ?_)) | (with_reducible refine L1.at ?_) | (with_reducible refine L2.at ?_) | wp_step))
  refine qC7 c X I ?_
  show wpAny _ _ (handedOut (.ref D)) Q E _
  exact wpAny_pure hq
theorem qCy {Q : Option Value → Shared → Prop} (c : ExcK K D) (X : K.In h) (I : InstAt h a ox D od) (hq : Q (some (.ref D)) ⟨h, g, d, t + 1, os⟩) : wpAny (model prog w) A (getAttr? (.ref a) "__class__") Q E ⟨h, g, d, t, os⟩ := by
  unfold getAttr? getAttrBy?
  repeat (any_goals (first | assumption | with_reducible refine qGj c X I ?_ | wp_step))
theorem wy (c : ExcK K D) : KitX K (.ref a) (.ref D) (fun h => InstAt h a ox D od) where
  ty := fun _ _ _ I => I.type
  it := fun _ _ X _ => by
    have mo := c.mo
    unfold mroIn clsIn at mo
    split at mo
    · rename_i kls kdi kcd ksl kob
      intro A' Q' E' s' kp wq
      unfold isType loadHead
      exact wpAny_bind (wpAny_loadPart (kp _ _ (X _ _ kob)) (wpAny_pure wq))
    · cases mo
  ne := fun h tp dd its n sl X htp => by
    have mo := c.mo
    refine Bool.eq_false_iff.mpr fun same => ?_
    have here : D = tp := Value.ref.inj (beq_iff_eq.mp same)
    subst here
    unfold mroIn clsIn at mo
    split at mo
    · rename_i kls kdi kcd ksl kob
      have z := (X _ _ kob).symm.trans htp
      cases z
    · cases mo
  ca := fun {_ _ _ _ _ s} X I k => by
    obtain ⟨h, g, d, t, os⟩ := s
    exact qCy c X I k
end
end L3
namespace L3
open PySem PySem.Spec PyProof.Rows L2
def OwnD (H : Hp) (od : Option Addr) : Prop := od = none ∨ ∃ dx fs, od = some dx ∧ H dx = some (.xd fs)
theorem OwnD.at {X : Cx} {pins : List (Addr × Obj)} {σ : L2.St} {H : Hp} {s : Shared} {e D : Addr} {od : Option Addr} {vs : Array Value} {sl : Array (Option Value)} (I : Inv X pins σ H s) (h : OwnD H od)
    (qe : s.heap.get? e = some { cls := .ref D, dict := od, data := .fields vs, slots := sl }) : ∃ o, PySem.W.InstAt s.heap e { cls := .ref D, dict := od, data := .fields vs, slots := sl } D o := by
  rcases h with rfl | ⟨dx, fs, rfl, hd⟩
  · exact ⟨none, qe, rfl, rfl, trivial⟩
  · obtain ⟨mA, ⟨o, es, ep, e', c⟩, r⟩ := I.hok dx _ hd
    exact ⟨some o, qe, rfl, rfl, e'⟩
theorem vq {X : Cx} : CallR X (.builtin "isinstance") (fun xs H Q => ∃ e D od c b, xs = [.ref e, c] ∧ H e = some (kd e (.ref D, od)) ∧ OwnD H od ∧ ExcK X.K D ∧
    ((∃ n, c = .ty n ∧ PySem.W.kitOne X.K (.ref D) (.type n) = some b) ∨ ∃ a, c = .ref a ∧ PySem.W.kitOne X.K (.ref D) (.ref a) = some b) ∧ Q (.bl b) H) := by
  intro pins s σ H xs us Q I r h
  obtain ⟨e, D, od, c, b, rfl, he, hod, hc, hk, q⟩ := h
  obtain ⟨u, u', rfl, rx, rc⟩ := qEe r
  cases rx
  obtain ⟨⟨vs, sl, qe⟩, _⟩ := I.hok e _ he
  obtain ⟨oo, J⟩ := hod.at I qe
  rcases hk with ⟨n, rfl, hk⟩ | ⟨a, rfl, hk⟩
  · cases rc
    exact PySem.W.kia_one (wy hc) I.kIn J hk (fun z => nomatch z) fun tk => ⟨.bl b, H, I.tok _, rfl, q⟩
  · cases rc
    exact PySem.W.kia_one (wy hc) I.kIn J hk (fun z => nomatch z) fun tk => ⟨.bl b, H, I.tok _, rfl, q⟩
end L3
set_option maxHeartbeats 4000000
set_option maxRecDepth 100000
namespace L3
open PySem PySem.Spec PySem.Calls PySem.Builtin PySem.Builtin.ObjectAttr PyProof.Rows
def exOver (K : PySem.W.Frag) (C D : Addr) : Bool := (PySem.W.clsIn K C).any fun cd => cd.mro == .ref C :: .ref D :: qEw
section
variable {prog : Program} {w : World} {A : Around} {E : Value → Shared → Prop} {K : PySem.W.Frag} {s : Shared} {x C D : Addr} {vs : Array Value} {sl : Array (Option Value)} {R : Result → Shared → Prop}
open PySem.W in
theorem qA5 {ox : Obj} {od : Option Obj} {name : Str} {tk : Tok} {v : Value} (X : K.In s.heap) (I : InstAt s.heap x ox C od) (hp : exOver K C D = true) (ht : takerIn K C name = some none)
    (h : ∀ b, wpAny (model prog w) A.in1 (storeInOwnDict (.ref x) (.ref C) (.str name tk) name v b)
      (fun fin s' => match fin with | .done f => R (.ok f) s' | .again c' => c'.quiet = true ∧ codeAny (model prog w) A c' R s') (fun e s' => R (.error e) s') s) :
    codeAny (model prog w) A (.call (.builtin "object.__setattr__") ⟨[.ref x, .str name tk, v], []⟩) R s := by
  have SF := PySem.F.store_object
  obtain ⟨cd, hc, ho⟩ := any_some hp
  have ho : cd.mro = .ref C :: .ref D :: qEw := beq_iff_eq.mp ho
  have sub : Looks (model prog w) s.heap (isInstance (.ref x) (.type "object")) true := I.type.andThen (looks_mroIn X (by unfold mroIn; rw [hc, Option.bind_some, ho]; rfl))
  refine codeAny_call_builtin SF.slot.plain SF.entry (@check_slot (model prog w) _ _ s "object.__setattr__" "object" "__setattr__" (.ref x) [.str name tk, v] [] _ SF.kind SF.split sub (SF.args (.ref x) (.str name tk) v) ?_)
  obtain ⟨attr, ha, hr⟩ := Option.bind_eq_some_iff.mp ht
  have hm : Looks (model prog w) s.heap (mroOf (.ref C)) cd.mro := (looks_clsIn X hc).andThen .now
  have L3 : Looks (model prog w) s.heap (storeTaker? attr) none := by
    cases attr with
    | none => cases hr; exact .now
    | some a =>
      obtain ⟨b, hb, hb2⟩ := Option.map_eq_some_iff.mp hr
      refine (looks_takesIn X hb).andThen ?_
      cases b
      · exact .now
      · cases hb2
  rw [osa_eq, refuse_eq]
  refine wpAny_bind (wpAny_bind (I.type.here (wpAny_bind (hm.here ?_))))
  rw [ho, refuseLoop_ref, refuseLoop_ref]
  rw [show refuseLoop (.ref x) "__setattr__" qEw = pure () from PySem.F.store_ValueError.passes (.ref x)]
  refine wpAny_pure (wpAny_bind (I.type.here (wpAny_bind ((looks_findIn X ha).here (wpAny_bind (L3.here ?_))))))
  exact h _
open PySem.W in
theorem qE1 {name : Str} {v : Value} {Q : Unit → Shared → Prop} (X : K.In s.heap) (hx : s.heap.get? x = some { cls := .ref C, dict := none, data := .fields vs, slots := sl })
    (hs : findIn K (.ref C) "__setattr__" = some (some (.builtin "object.__setattr__"))) (hp : exOver K C D = true) (ht : takerIn K C name = some none) (hh : hasDictIn K C = true)
    (h : ∀ h' tk, h'.get? x = some { cls := .ref C, dict := some s.heap.objs.size, data := .fields vs, slots := sl } → h'.Ns1 s.heap.objs.size (fun y => if y = name then some v else none) → (∀ b o, b ≠ x → s.heap.get? b = some o → h'.get? b = some o) → Q () { s with heap := h', toks := tk }) :
    wpAny (model prog w) A (setAttr (.ref x) name v) Q E s := by
  have J : InstAt s.heap x { cls := .ref C, dict := none, data := .fields vs, slots := sl } C none := ⟨hx, rfl, rfl, trivial⟩
  refine PySem.W.set_plain X J hs (qA5 (s := { s with toks := s.toks + 1 }) X J hp ht fun b => ?_)
  obtain ⟨cd, hc, hd'⟩ := PySem.W.any_some hh
  refine wpAny_bind (wpAny_pure (wpAny_bind (wpAny_bind (wpAny_loadPart hx (wpAny_bind (PySem.W.Looks.here (s := { s with toks := s.toks + 1 }) (PySem.W.looks_clsIn X hc) ?_))))))
  rw [hd']
  have hx₁ : (s.heap.push { cls := .type "dict", data := .dict #[] }).get? x = some { cls := .ref C, dict := none, data := .fields vs, slots := sl } := Heap.get?_push_of_some _ hx
  have hxs : x ≠ s.heap.objs.size := Nat.ne_of_lt (Heap.lt_size hx)
  refine wpAny_bind (wpAny_alloc' ?_)
  refine wpAny_bind (wpAny_update' hx₁ ?_)
  refine wpAny_pure ?_
  have hgd : ((s.heap.push { cls := .type "dict", data := .dict #[] }).update x fun o => { o with dict := some s.heap.objs.size }).get? s.heap.objs.size = some { cls := .type "dict", data := .dict #[] } :=
    (Heap.get?_update_ne _ _ _ _ hxs.symm).trans (Heap.get?_push_at rfl rfl)
  have hnd : ((s.heap.push { cls := .type "dict", data := .dict #[] }).update x fun o => { o with dict := some s.heap.objs.size }).Ns s.heap.objs.size (fun _ => none) :=
    ⟨_, #[], _, hgd, rfl, fun e he => absurd he (by simp), fun _ => rfl⟩
  refine wpAny_bind (wpAny_pure (wpAny_bind ?_))
  refine wpAny_nsSet1 (s := { s with heap := _, toks := s.toks + 1 }) (Heap.Ns1.of_empty hnd) fun h' hn' hs2 => ?_
  obtain ⟨oD, esD, epD, hoD, hdD, hcD⟩ := hn'.count (Within.cons name v Within.nil)
  refine wpAny_bind (wpAny_lookBehind hoD (by rw [hdD]; exact pastItsLine_dict (Nat.le_trans hcD (by rw [List.length_cons, List.length_nil, sizeLine_eq]; omega))) ?_)
  refine wpAny_pure (h _ _ ?_ hn' ?_)
  · refine (hs2.2 x hxs).trans (Heap.get?_update_self _ hx₁ rfl)
  · intro b o hb ho
    exact (hs2.2 b (Nat.ne_of_lt (Heap.lt_size ho))).trans ((Heap.get?_update_ne _ _ _ _ hb).trans (Heap.get?_push_of_some _ ho))
end
section
variable {prog : Program} {w : World} {A : Around} {E : Value → Shared → Prop} {h : Heap} {g : Array GenState} {d : Drawn} {t : Nat} {os : OsState}
variable {nm q : Str} {C N : Addr} {bs bm bmB : List Value} {hdct : Bool} {sn : List Str} {sub : List Value} {ab : Bool} {col : Option Bool} {dd : Option Addr} {k0 k1 k2 k3 k5 : Option Value} {B newId initId : String}
theorem kT (F : ExcBaseFacts B newId initId bmB) (T : OwnTail h bmB bm) {mN : Str → Option Value} {rest : List Value} {fI : Addr} {oI : Obj} {Q : PySem.Fin → Shared → Prop}
    (hC : h.get? C = some (excClassObj nm q C N bs bm hdct sn sub ab col dd k0 k1 k2 k3 k5 newId)) (hn : h.Ns N mN) (hi : mN "__init__" = some (.ref fI))
    (hfI : h.get? fI = some oI) (hfc : oI.cls = .type "function")
    (hq : ∀ h' e, Heap.MadeExcOf h h' e (.ref C) rest → h'.objs.size = h.objs.size + 2 → e = h.objs.size + 1 →
      wpAny (model prog w) A (call (.ref fI) (.ref e :: rest)) (fun r s' => r = .none ∧ Q (.done (.ret (.ref e))) s') E ⟨h', g, d, t, os⟩) (hrest : rest.length ≤ sizeLine := by size_fits) :
    wpAny (model prog w) A (Builtin.«type.__call__» ⟨.ref C :: rest, []⟩) Q E ⟨h, g, d, t, os⟩ := by
  repeat (first | with_reducible refine wpAny_loadPart_at hC ?_ | with_reducible refine wpAny_madeBy_exc hC ?_ | wp_step)
  refine codeAny_call_builtin_code (Code.quiet_builtin _ F.quiet) (wpAny_check_new_subT F T hC ?_)
  refine codeAny_exc_new_subT F T hC ?_ hrest
  show wpAny _ _ _ _ _ _
  have hC₁ := Heap.get?_push_of_some { cls := .ref C, data := .fields #[.ref h.objs.size, .none, .none, .none, .bool false, .none] }
    (Heap.get?_push_of_some { cls := .type "tuple", data := .seq rest.toArray } hC)
  have hfI₁ := Heap.get?_push_of_some { cls := .ref C, data := .fields #[.ref h.objs.size, .none, .none, .none, .bool false, .none] }
    (Heap.get?_push_of_some { cls := .type "tuple", data := .seq rest.toArray } hfI)
  have hn₁ : ((h.push { cls := .type "tuple", data := .seq rest.toArray }).push { cls := .ref C, data := .fields #[.ref h.objs.size, .none, .none, .none, .bool false, .none] }).Ns N mN :=
    let ⟨o, es, ep, e, r⟩ := hn; ⟨o, es, ep, Heap.get?_push_of_some _ (Heap.get?_push_of_some _ e), r⟩
  have hget : ((h.push { cls := .type "tuple", data := .seq rest.toArray }).push
      { cls := .ref C, data := .fields #[.ref h.objs.size, .none, .none, .none, .bool false, .none] }).get? (h.objs.size + 1) = some
      { cls := .ref C, data := .fields #[.ref h.objs.size, .none, .none, .none, .bool false, .none] } := by heap_get
  have hcC : (Value.ref C :: bm).contains (.ref C) = true := by simp
  have T₁ := T.keeps (h' := (h.push { cls := .type "tuple", data := .seq rest.toArray }).push { cls := .ref C, data := .fields #[.ref h.objs.size, .none, .none, .none, .bool false, .none] })
    fun b o e => Heap.get?_push_of_some _ (Heap.get?_push_of_some _ e)
  unfold isInstance
  repeat (first | with_reducible refine wpAny_loadPart_at hget ?_ | (with_reducible refine wpAny_isSubtype_exc hC₁ ?_; rw [hcC]) | wp_step)
  show wpAny _ _ (typeLookup (.ref C) _) _ _ _
  refine wpAny_typeLookup_tail hC₁ hn₁ T₁ F.mroIs F.init.lookup ?_
  rw [hi]
  refine wpAny_holding (wpAny_bind ?_)
  unfold bindSpecial
  refine wpAny_bind (wpAny_typeOf (T := "function") ⟨_, hfI₁, hfc⟩ ?_)
  rw [if_pos (by decide)]
  refine wpAny_pure (wpAny_bind (wpAny_mono (hq _ (h.objs.size + 1) ⟨fun b o hb => Heap.get?_push_of_some _ (Heap.get?_push_of_some _ hb), Heap.get?_none_of_le (Nat.le_succ _), h.objs.size, hget, Heap.get?_none_of_le (Nat.le_refl _), ?_⟩ (by simp only [Heap.size_push]) rfl) (fun r s' hr => ?_) fun _ _ x => x))
  · exact Heap.get?_push_of_some _ (Heap.get?_push_at rfl rfl)
  · obtain ⟨rfl, hQ⟩ := hr
    wp_walk
    exact hQ
theorem qAo (F : ExcBaseFacts B newId initId bmB) (T : OwnTail h bmB bm) {mN : Str → Option Value} {rest : List Value} {fI : Addr} {oI : Obj} {Q : Value → Shared → Prop}
    (hC : h.get? C = some (excClassObj nm q C N bs bm hdct sn sub ab col dd k0 k1 k2 k3 k5 newId)) (hn : h.Ns N mN) (hi : mN "__init__" = some (.ref fI))
    (hfI : h.get? fI = some oI) (hfc : oI.cls = .type "function")
    (hq : ∀ h' e, Heap.MadeExcOf h h' e (.ref C) rest → h'.objs.size = h.objs.size + 2 → e = h.objs.size + 1 →
      wpAny (model prog w) (A.under (.builtin "type.__call__" ⟨.ref C :: rest, []⟩)) (call (.ref fI) (.ref e :: rest)) (fun r s' => r = .none ∧ Q (.ref e) s') E ⟨h', g, d, t, os⟩) (hrest : rest.length ≤ sizeLine := by size_fits) :
    wpAny (model prog w) A (call (.ref C) rest) Q E ⟨h, g, d, t, os⟩ := by
  have f1 := tc_lookup
  have f2 := tc_bind (.ref C)
  have hT : (⟨h, g, d, t, os⟩ : Shared).TypeIs (.ref C) "type" := ⟨_, hC, rfl⟩
  refine wpAny_call (codeAny_of_tree ?_)
  show wpAny _ _ (callAny (.ref C) _) _ _ _
  repeat (any_goals (first | assumption | with_reducible refine wpAny_loadPart_at hC ?_ | wp_step))
  refine ⟨rfl, ?_⟩
  refine codeAny_call_builtin_at (Code.quiet_builtin _ (by decide +kernel)) entry_typeCall (wpAny_check_type_call_sub hC (kT (hrest := hrest) F T hC hn hi hfI hfc fun h' e hm h1 h2 => ?_))
  exact hq h' e hm h1 h2
end
section
variable {prog : Program} {w : World} {A : Around} {E : Value → Shared → Prop} {s : Shared} {env : Env}
variable {nm q : Str} {C N : Addr} {bs bm bmB : List Value} {hdct : Bool} {sn : List Str} {sub : List Value} {ab : Bool} {col : Option Bool} {dd : Option Addr} {k0 k1 k2 k3 k5 : Option Value} {B newId initId : String}
theorem qAg {M : Model} {x : Sem Value} {Q : Flow → Shared → Prop} (hbase : bm.contains (.type "BaseException") = true) (hh : A.handled = none)
    (h : wpAny M A x (fun v s₁ => ∃ e od vs sl, v = .ref e ∧ s₁.heap.get? C = some (excClassObj nm q C N bs bm hdct sn sub ab col dd k0 k1 k2 k3 k5 newId) ∧
      s₁.heap.get? e = some { cls := .ref C, dict := od, data := .fields vs, slots := sl } ∧ vs[1]? = some .none ∧ E (.ref e) s₁) E s) :
    wpAny M A (raiseStmt env (some x) none) Q E s := by
  have hcB : (Value.ref C :: bm).contains (.type "BaseException") = true := by rw [List.contains_cons, hbase, Bool.or_true]
  unfold raiseStmt
  refine wpAny_bind (wpAny_mono h (fun v s₁ h₁ => ?_) fun _ _ x => x)
  obtain ⟨e, od, vs, sl, rfl, hC, he, hv, hE⟩ := h₁
  obtain ⟨hp, g, d, tk, os⟩ := s₁
  repeat (first | with_reducible refine wpAny_loadPart_at he ?_ | with_reducible refine wpAny_loadPart_at hC ?_ | (with_reducible refine wpAny_isSubtype_exc hC ?_; rw [hcB]) | wp_step)
  rw [hv]
  refine wpAny_pure ?_
  rw [if_neg (by decide)]
  refine wpAny_pure ?_
  exact wpAny_raiseNew_none hh hE
theorem wf (F : ExcBaseFacts B newId initId bmB) {mN : Str → Option Value} {x : Str} {np cpos pos : Pos} {args : List Expr} {fI : Addr} {oI : Obj} {Q : Flow → Shared → Prop}
    (hbase : bm.contains (.type "BaseException") = true) (hh : A.handled = none) (hplain : (backTo cpos (starEach args env)).any (·.1) = false) (hi : mN "__init__" = some (.ref fI)) (hfc : oI.cls = .type "function")
    (h : wpAny (model prog w) A (eval (.Name x np) env) (fun f s₁ => f = .ref C ∧ wpAny (model prog w) A (evalArgs (.ref C) true (backTo cpos (starEach args env)) [])
      (fun a s₂ => a.kw = [] ∧ a.pos.length ≤ sizeLine ∧ s₂.heap.get? C = some (excClassObj nm q C N bs bm hdct sn sub ab col dd k0 k1 k2 k3 k5 newId) ∧ s₂.heap.Ns N mN ∧ OwnTail s₂.heap bmB bm ∧ s₂.heap.get? fI = some oI ∧
        ∀ h' e, Heap.MadeExcOf s₂.heap h' e (.ref C) a.pos → h'.objs.size = s₂.heap.objs.size + 2 → e = s₂.heap.objs.size + 1 →
          wpAny (model prog w) (A.under (.builtin "type.__call__" ⟨.ref C :: a.pos, []⟩)) (call (.ref fI) (.ref e :: a.pos))
            (fun r s' => r = .none ∧ s'.heap.get? C = some (excClassObj nm q C N bs bm hdct sn sub ab col dd k0 k1 k2 k3 k5 newId) ∧ (∃ od vs sl, s'.heap.get? e = some { cls := .ref C, dict := od, data := .fields vs, slots := sl } ∧ vs[1]? = some .none) ∧ E (.ref e) s') E { s₂ with heap := h' }) E s₁) E s) :
    wpAny (model prog w) A (exec (.Raise (some (.Call (.Name x np) args [] cpos)) none pos) env) Q E s := by
  rw [arm_exec_Raise]
  refine wpAny_bind (wpAny_standAt (qAg (C := C) (nm := nm) (q := q) (N := N) (bs := bs) (bm := bm) (hdct := hdct) (sn := sn) (sub := sub) (ab := ab) (col := col) (dd := dd) (k0 := k0) (k1 := k1) (k2 := k2) (k3 := k3) (k5 := k5) (newId := newId) hbase hh (wpAny_bind (wpAny_mono (wpAny_Call_ofName (wpAny_mono h (fun f s₁ h₁ => ?_) fun _ _ x => x)) (fun v s₃ h₃ => wpAny_bind (wpAny_standAt (wpAny_pure h₃))) fun _ _ x => x))))
  obtain ⟨rfl, h₁⟩ := h₁
  unfold callWith
  refine wpAny_bind (wpAny_holding (wpAny_mono h₁ (fun a s₂ h₂ => wpAny_bind (wpAny_standAt ?_)) fun _ _ x => x))
  obtain ⟨apos, akw⟩ := a
  obtain ⟨hkw, hlen, hC, hn, T, hfI, h₂⟩ := h₂
  obtain rfl : akw = [] := hkw
  obtain ⟨hp, g, d, tk, os⟩ := s₂
  simp only [hplain]
  refine wpAny_bind (wpAny_keeperOf_exc hC ?_)
  refine wpAny_bind (qAo (hrest := hlen) F T hC hn hi hfI hfc fun h' e hm h1 h2 => wpAny_mono (h₂ h' e hm h1 h2) (fun r s' z => ⟨z.1, ?_⟩) fun _ _ x => x)
  obtain ⟨_, hC', ⟨od, vs, sl, he, hv⟩, hE⟩ := z
  refine wpAny_bind (wpAny_holding (wpAny_point (wpAny_pure ?_)))
  exact ⟨e, od, vs, sl, rfl, hC', he, hv, hE⟩
end
end L3
namespace L3
open PySem PySem.Spec PyProof.Rows L2
def z0 (e : Addr) (C : Value) : HO := .ext fun h => ∃ (vs : Array Value) (sl : Array (Option Value)), h.get? e = some { cls := C, dict := none, data := .fields vs, slots := sl } ∧ vs[1]? = some .none
def kC (e : Addr) (C : EC) : HO := .ext fun h => xo h e C none
def excInitIn (K : PySem.W.Frag) (C f : Addr) : Bool := match K.lookup C with
  | some ⟨.type "type", _, .cls cd, sl⟩ => (match cd.mro, sl.toList with
    | .ref C' :: bm, [_, _, _, _, some (.builtin n), _] => C' == C && n == "ValueError.__new__" && !cd.hasDel && PySem.W.tailIn K qEw bm && PySem.W.nsOkIn K cd.ns && PySem.W.nsIn K cd.ns "__init__" == some (some (.ref f))
    | _, _ => false)
  | _ => false
structure XMk (K : PySem.W.Frag) (C D f : Addr) : Prop where
  ov : exOver K C D = true
  hd : PySem.W.hasDictIn K C = true
  sa : PySem.W.findIn K (.ref C) "__setattr__" = some (some (.builtin "object.__setattr__"))
  ex : excInitIn K C f = true
  fn : PySem.W.isFn K (.ref f) = true
theorem qAi {K : PySem.W.Frag} {h : Heap} {N : Addr} {mg : Str → Option Value} {n : Str} {v : Value} (X : K.In h) (G : h.Ns N mg) (e : PySem.W.nsIn K N n = some (some v)) : mg n = some v := by
  obtain ⟨o, es, ep, ho, hd, _, hf⟩ := G
  unfold PySem.W.nsIn at e
  split at e
  · rename_i c d es' n' sl q
    have := X _ _ q
    rw [ho] at this
    cases this
    cases hd
    split at e
    · rename_i en he
      cases e
      rw [← hf]
      unfold nsFind findBy
      rw [← Array.find?_toList, he]
      rfl
    · split at e <;> cases e
  · cases e
theorem qCz {K : PySem.W.Frag} {h : Heap} {C f : Addr} (X : K.In h) (q : excInitIn K C f = true) :
    ∃ bm N nm qn bs hdct sn sub ab col dd k0 k1 k2 k3 k5 mN, h.get? C = some (excClassObj nm qn C N bs bm hdct sn sub ab col dd k0 k1 k2 k3 k5 "ValueError.__new__") ∧ h.Ns N mN ∧ mN "__init__" = some (.ref f) ∧ OwnTail h qEw bm := by
  unfold excInitIn at q
  split at q
  · rename_i dd cd sl ho
    split at q
    · rename_i C' bm k0 k1 k2 k3 n k5 hm hs
      simp only [Bool.and_eq_true, beq_iff_eq, Bool.not_eq_true'] at q
      obtain ⟨⟨⟨⟨⟨eC, en⟩, del⟩, ht⟩, ok⟩, ni⟩ := q
      subst eC en
      obtain ⟨nm, bs, mro, ns, qn, hd, sn, sub, ab, col, dl⟩ := cd
      dsimp only at hm del ok ni
      subst hm del
      have hsl : sl = #[k0, k1, k2, k3, some (.builtin "ValueError.__new__"), k5] := by
        obtain ⟨l⟩ := sl
        simp only at hs
        rw [hs]
      subst hsl
      have N1 : h.Ns ns (h.nsMap ns) := .of_isNs (PySem.W.isNs_of_in X ok)
      refine ⟨bm, ns, nm, qn, bs, hd, sn, sub, ab, col, dd, k0, k1, k2, k3, k5, _, X _ _ ho, N1, qAi X N1 ni, PySem.W.tail_of_in X ht⟩
    · cases q
  · cases q
section
variable {X : Cx} {pins : List (Addr × Obj)} {σ : L2.St} {H : Hp} {s : Shared}
theorem qC1 {e : Addr} {φ : Heap → Prop} (I : Inv X pins σ (upd H e (.ext φ)) s) (h0 : H e = none) (hs : X.s₀.heap.get? e = none) : Inv X pins σ H s := by
  have B := I.base
  have nn : ∀ b u, upd H e (.ext φ) b = some u → (∀ ψ, u ≠ .ext ψ) → H b = some u := fun b u z n => by
    by_cases hb : b = e
    · subst hb
      rw [qB] at z
      cases z
      exact absurd rfl (n φ)
    · rwa [qV hb] at z
  have n0 : ∀ b, upd H e (.ext φ) b = none → H b = none := fun b z => by
    by_cases hb : b = e
    · rw [hb, qB] at z; cases z
    · rwa [qV hb] at z
  refine ⟨I.ok, I.os, I.bare, ⟨B.keep, B.slot, fun b o w z hx => n0 _ (B.free b o w z hx), B.there, fun b xs w => nn _ _ (B.tups b xs w) (fun _ z => nomatch z), fun b o u w => nn _ _ (B.frzs b o u w) (fun _ z => nomatch z), fun b ps w => ?_⟩, I.loc, I.cell, n0 _ I.free, fun y c z => n0 _ (I.freeC y c z), fun p hp => ?_, fun b u w => ?_, I.len⟩
  · obtain ⟨more, z⟩ := B.tbls b ps w
    exact ⟨more, nn _ _ z (fun _ z => nomatch z)⟩
  · obtain ⟨w1, w2, w3⟩ := I.pin p hp
    exact ⟨w1, n0 _ w2, w3⟩
  · have hb : b ≠ e := fun z => by rw [z, h0] at w; cases w
    refine (I.hok b u (by rw [qV hb]; exact w)).stay (fun _ _ _ z => z) (fun c z => nn _ _ z (fun _ z => nomatch z)) fun c xs z => nn _ _ z (fun _ z => nomatch z)
end
theorem qAl {X : Cx} {pins : List (Addr × Obj)} {σ : L2.St} {H : Hp} {s : Shared} {dx : Addr} {fs : List (Str × V)} (I : Inv X pins σ H s) (h0 : H dx = none) (hs0 : X.s₀.heap.get? dx = none) (hp : ∀ p ∈ X.pn ++ pins, p.1 ≠ dx)
    (hl : dx ≠ X.env.locals) (hc : ∀ y c, X.env.cells.lookup y = some c → c ≠ dx) (ok : ∃ mA, s.heap.Ns1 dx mA ∧ ∀ f, RelO (fs.lookup f) (mA f)) : Inv X pins σ (upd H dx (.xd fs)) s := by
  have B := I.base
  have ne : ∀ b o, X.s₀.heap.get? b = some o → b ≠ dx := fun b o w z => by rw [z, hs0] at w; cases w
  refine ⟨I.ok, I.os, I.bare, ⟨B.keep, B.slot, fun b o w z hx => ?_, B.there, fun b xs w => ?_, fun b o u w => ?_, fun b ps w => ?_⟩, I.loc, I.cell, ?_, fun y c e => ?_, fun p hp' => ?_, fun b u w => ?_, I.len⟩
  · rw [qV (ne b o w)]; exact B.free b o w z hx
  · have z := B.tups b xs w
    rw [qV (qZ z h0)]; exact z
  · have z := B.frzs b o u w
    rw [qV (qZ z h0)]; exact z
  · obtain ⟨more, z⟩ := B.tbls b ps w
    exact ⟨more, by rw [qV (qZ z h0)]; exact z⟩
  · rw [qV (Ne.symm hl)]; exact I.free
  · rw [qV (hc y c e)]; exact I.freeC y c e
  · obtain ⟨w1, w2, w3⟩ := I.pin p hp'
    rw [qV (hp p hp')]
    exact ⟨w1, w2, w3⟩
  · by_cases hb : b = dx
    · subst hb
      rw [qB] at w
      cases w
      exact ok
    · rw [qV hb] at w
      exact (I.hok b u w).stay (fun _ _ _ z => z) (fun c z => by rw [qV (qZ z h0)]; exact z) fun c xs z => by rw [qV (qZ z h0)]; exact z
def qHk (K : PySem.W.Frag) (ta tv : TE) (f : Str) : TS := fun D σ H => tv σ H fun y H1 => ta σ H1 fun x H2 => ∃ a C B, x = .ref a ∧ H2 a = some (z0 a (.ref C)) ∧ exOver K C B = true ∧ PySem.W.hasDictIn K C = true ∧
  PySem.W.findIn K (.ref C) "__setattr__" = some (some (.builtin "object.__setattr__")) ∧ PySem.W.takerIn K C f = some none ∧ ∀ dx, H2 dx = none → D.nx σ (upd (upd H2 a (kC a (.ref C, some dx))) dx (.xd [(f, y)]))
theorem qEk {X : Cx} {o value : Expr} {f : Str} {pos pos' : Pos} {ta tv : TE} (ha : PE X o ta) (hv : PE X value tv) (hs : swapsWith value (some (.Attribute o f pos')) pos.line X.env = pure false := by rfl) :
    PS X (.Assign [.Attribute o f pos'] value pos) (qHk X.K ta tv f) := by
  intro pins s σ H D I h
  refine plainObj_wpAny_Assign_Attribute (thn (hv pins s σ H _ I h) fun u s1 ⟨y, H1, I1, ry, q⟩ => thn (ha pins s1 σ H1 _ I1 q) fun ov s2 ⟨x, H2, I2, rx, a, C, B, ex, ea, o1, o2, o3, o4, q2⟩ => ?_) hs
  subst ex
  obtain rfl : ov = Value.ref a := rx
  obtain ⟨⟨vs, sl, he, hv1⟩, _, _⟩ := I2.hok a _ ea
  have hf : H2 s2.heap.objs.size = none := I2.hok.fresh (Nat.le_refl _)
  refine qE1 I2.kIn he o3 o1 o4 o2 fun h' tk he' hn k => ⟨σ, _, ?_, q2 _ hf⟩
  have I3 : Inv X pins σ (upd H2 a (kC a (.ref C, some s2.heap.objs.size))) { s2 with heap := h', toks := tk } := by
    refine I2.write (x := a) (e := a) (by rw [ea]; exact True.intro) (.inl rfl) k ⟨_, he'⟩ ?_
    refine ⟨⟨vs, sl, he', hv1⟩, ⟨_, he'⟩, fun h1 h2 z k => ?_⟩
    obtain ⟨vs', sl', z, z2⟩ := z
    exact ⟨vs', sl', k _ z, z2⟩
  have na : s2.heap.objs.size ≠ a := fun z => by rw [z, ea] at hf; cases hf
  refine qAl I3 (by rw [qV na]; exact hf) ?_ (fun p hp => Nat.ne_of_lt (Heap.lt_size (I2.pin p hp).1)) (Nat.ne_of_gt I2.lt) (fun y c e => ?_) ⟨_, hn, fun g => ?_⟩
  · cases w : X.s₀.heap.get? s2.heap.objs.size with
    | none => rfl
    | some o => exact absurd (Nat.lt_of_lt_of_le (Heap.lt_size w) I2.sz) (Nat.lt_irrefl _)
  · obtain ⟨v, o, ho, _⟩ := I2.cell y c e
    exact Nat.ne_of_lt (Heap.lt_size ho)
  · by_cases hg : g = f
    · subst hg
      simp [List.lookup]
      exact ry
    · have e1 : ([(f, y)] : List (Str × V)).lookup g = none := by
        rw [List.lookup_cons]
        have : (g == f) = false := beq_eq_false_iff_ne.mpr hg
        rw [this]
        rfl
      rw [e1, if_neg hg]
      trivial
def wX (C : Addr) (f : Str) : Sp := fun vs H Q _ => ∃ (e : Addr) (v : V), vs = [.ref e, v] ∧ H e = some (z0 e (.ref C)) ∧ ∀ dx, H dx = none → Q .non (upd (upd H e (kC e (.ref C, some dx))) dx (.xd [(f, v)]))
def qFf (C : Addr) (fn : Str) (Ex : Value → Option Addr → Hp → Prop) (t : TA) : TS := fun _ σ H => t σ H fun vs H1 => ∃ v, vs = [v] ∧ ∀ dx, H1 dx = none → Ex (.ref C) (some dx) (upd H1 dx (.xd [(fn, v)]))
theorem kA {X : Cx} {Ex : Value → Option Addr → Hp → Prop} {fn : Str} {k : Nat} {x : Str} {C B f : Addr} {fd : FuncData} {ps : List Str} {np cpos pos : Pos} {e₀ : Expr} {rest : List Expr} {t : TA} (M : XMk X.K C B f)
    (F : FnOk X.prog X.w X.K X.mg X.base CX0 k f fd ps (wX C fn)) (hb : Binds X.K fd ps []) (hr : Room (k + 1) X.A) (hcm : X.calm = true) (hg : Gl X x) (hm : X.mg x = some (.ref C)) (ha : PA (X.wish (XE X Ex)) (e₀ :: rest) t)
    (he : starEach (e₀ :: rest) X.env = (false, eval e₀ X.env) :: starEach rest X.env := by rfl) (hpl : (backTo cpos (starEach rest X.env)).any (·.1) = false := by rfl) (hex : X.ex = [] := by rfl) (hdb : (x == ("__debug__" : Str)) = false := by decide) :
    PS (X.wish (XE X Ex)) (.Raise (some (.Call (.Name x np) (e₀ :: rest) [] cpos)) none pos) (qFf C fn Ex t) := by
  intro pins s σ H D I h
  obtain ⟨tl, N, nm, q, bs, hdct, sn, sub, ab, col, dd, k0, k1, k2, k3, k5, mN, hC, hN, hni, T⟩ := qCz (K := X.K) I.ok.mod.kin M.ex
  have hfn : PySem.W.typeIn X.K (.ref f) = some (.type "function") := beq_iff_eq.mp M.fn
  have hfo : ∃ oI : Obj, X.base.get? f = some oI ∧ oI.cls = .type "function" := by
    replace hfn : (X.K.lookup f).map (·.cls) = some (.type "function") := hfn
    cases hl : X.K.lookup f with
    | none => rw [hl] at hfn; cases hfn
    | some o =>
      rw [hl] at hfn
      exact ⟨o, I.ok.mod.kin _ _ hl, by simpa using hfn⟩
  obtain ⟨oI, hfI, hfc⟩ := hfo
  refine wf (bm := tl) (C := C) (N := N) (nm := nm) (q := q) (bs := bs) (hdct := hdct) (sn := sn) (sub := sub) (ab := ab) (col := col) (dd := dd) (k5 := k5) (k0 := k0) (k1 := k1) (k2 := k2) (k3 := k3)
    PySem.F.excBase_ValueError (mN := mN) (fI := f) (oI := oI) (T.hasType PySem.F.excBase_ValueError.hasBase) (I.ok.hd hcm) (by rw [he]; show (false || (backTo cpos (starEach rest X.env)).any (·.1)) = false; rw [hpl]; rfl) hni hfc (kI I hg hm ⟨rfl, ?_⟩ hdb)
  have z := ha cpos pins s σ H _ I h
  rw [show (X.wish (XE X Ex)).env = X.env from rfl] at z
  rw [he] at z ⊢
  refine Calls.evalArgs_plain (wpAny_mono z (fun us s2 w => ?_) fun _ _ y => y)
  obtain ⟨vs, H1, I1, r1, v, rfl, ex⟩ := w
  have I1' := I1.unwish
  have hl1 : us.length = 1 := r1.length.symm
  refine ⟨rfl, by rw [hl1, sizeLine_eq]; decide, I1.bk _ _ hC, hN.keeps I1.bk, T.keeps I1.bk, I1.bk _ _ hfI, fun h' e hmk hsz hes => ?_⟩
  obtain ⟨tt, q1, q2, q3⟩ := hmk.there
  have hle : s2.heap.objs.size ≤ e := by rw [hes]; exact Nat.le_succ _
  have e0 : H1 e = none := I1'.hok.fresh hle
  have I2 : Inv X pins σ (upd H1 e (z0 e (.ref C))) { s2 with heap := h' } := I1'.laid (t' := s2.toks) hmk.keeps hle ⟨⟨_, _, q1, rfl⟩, ⟨_, q1⟩, fun h1 h2 z k => by
    obtain ⟨vs', sl', z, z2⟩ := z
    exact ⟨vs', sl', k _ z, z2⟩⟩
  have r2 : Vals [V.ref e, v] (Value.ref e :: us) := .cons rfl r1
  have hsp : wX C fn [V.ref e, v] (upd H1 e (z0 e (.ref C))) (fun u H2 => u = .non ∧ ∃ dx, H1 dx = none ∧ dx ≠ e ∧ H2 = upd (upd H1 dx (.xd [(fn, v)])) e (kC e (.ref C, some dx))) E0 := ⟨e, v, rfl, qB, fun dx hdx => ⟨rfl, dx, ?_⟩⟩
  rotate_left
  · have hne : dx ≠ e := fun z => by rw [z, qB] at hdx; cases hdx
    refine ⟨by rwa [qV hne] at hdx, hne, ?_⟩
    funext b
    by_cases hb : b = e
    · subst hb
      rw [qB, qV (Ne.symm hne), qB]
    · rw [qV hb (o := kC e (.ref C, some dx)) (H := upd H1 dx (.xd [(fn, v)]))]
      by_cases hb2 : b = dx
      · subst hb2
        rw [qB, qB]
      · rw [qV hb2, qV hb, qV hb, qV hb2]
  have hl : ((Value.ref e :: us) ++ []).length = ps.length := by
    have := F.len _ _ _ _ hsp
    rw [List.append_nil, List.length_cons, hl1]
    simpa using this
  have hbb := hb _ (Value.ref e :: us) I2.kIn hl
  rw [List.append_nil] at hbb
  refine wpAny_call (codeAny_mono (F.run _ X.stack _ _ ⟨Value.ref e :: us, []⟩ (Value.ref e :: us) _ _ E0 (hr.make C us []) (I2.env0.make C us []) hbb r2 hsp) fun r s' hq' => ?_)
  cases r with
  | error e => exact False.elim hq'
  | ok fl =>
    cases fl with
    | ret u =>
      obtain ⟨v', H', I3, rv, ev, dx, hdx, hne, rfl⟩ := I2.after hq'
      subst ev
      cases rv
      obtain ⟨⟨vs', sl', g1, g2⟩, _, _⟩ := I3.hok e _ qB
      have e0' : (upd H1 dx (.xd [(fn, v)])) e = none := by rw [qV (Ne.symm hne)]; exact e0
      have hs0 : X.s₀.heap.get? e = none := by
        cases w : X.s₀.heap.get? e with
        | none => rfl
        | some o =>
          obtain ⟨o', w'⟩ := I1'.base.there e o w (by rw [hex]; intro y; cases y)
          rw [hmk.new] at w'; cases w'
      refine ⟨rfl, I3.bk _ _ hC, ⟨some dx, vs', sl', g1, g2⟩, e, (.ref C, some dx), σ, upd H1 dx (.xd [(fn, v)]), rfl, (qC1 I3 e0' hs0).pins_of (pins' := []) fun p hp => (nomatch hp), ⟨⟨hs0, e0', fun p hp z => ?_⟩, none, ⟨vs', sl', g1, g2⟩, fun T e' => nomatch e'⟩, ex dx hdx⟩
      have q' := (I1'.pin p (List.mem_append_left _ hp)).1
      rw [z, hmk.new] at q'; cases q'
    | next => exact False.elim hq'
    | brk => exact False.elim hq'
    | cont => exact False.elim hq'
end L3
set_option maxHeartbeats 4000000
set_option maxRecDepth 100000
namespace L3
open PySem PySem.Spec PySem.Calls PyProof.Rows PySem.W
section
variable {prog : Program} {w : World} {A : Around} {E : Value → Shared → Prop} {K : Frag} {h : Heap} {g : Array GenState} {d : Drawn} {t : Nat} {os : OsState} {a D : Addr} {ox o : Obj} {name : Str} {v : Value}
theorem qAx {tk : Tok} {Q : PySem.Fin → Shared → Prop} (X : K.In h) (I : InstAt h a ox D (some o)) (hf : findObj K D (some o) name = some (.value v)) (hq : Q (.done (.ret v)) ⟨h, g, d, t, os⟩) :
    wpAny (model prog w) A (Builtin.«object.__getattribute__» ⟨[.ref a, .str name tk], []⟩) Q E ⟨h, g, d, t, os⟩ := by
  have L0 := I.type (M := model prog w)
  have L2 := looks_find (M := model prog w) X I hf
  unfold Builtin.«object.__getattribute__»
  repeat (any_goals (first | assumption | (with_reducible refine wpAny_bind (L0.at ?_)) | (with_reducible refine wpAny_bind (L2.at ?_)) | wp_step))
theorem qBq {tk : Tok} {R : Result → Shared → Prop} (c : ExcK K D) (X : K.In h) (I : InstAt h a ox D (some o)) (hf : findObj K D (some o) name = some (.value v)) (hq : R (.ok (.ret v)) ⟨h, g, d, t, os⟩) :
    codeAny (model prog w) A (.call (.builtin "BaseException.__getattribute__") ⟨[.ref a, .str name tk], []⟩) R ⟨h, g, d, t, os⟩ := by
  refine codeAny_call_builtin F.attr_ValueError.ga.plain F.entry_bexc_ga ?_
  have bkd : builtinKind "BaseException.__getattribute__" = some .slot := by decide +kernel
  have hsp : splitId "BaseException.__getattribute__" = some ("BaseException", "__getattribute__") := by decide +kernel
  have ha := F.args_bexc_ga (.ref a) (.str name tk)
  have L0 := I.type (M := model prog w)
  have L1 : Looks (model prog w) h (isInstance (.ref a) (.type "BaseException")) true := L0.andThen (looks_mroIn X c.mb)
  simp only [checkBuiltinCall, bkd, hsp]
  refine wpAny_bind (L1.at ?_)
  repeat (first | assumption | (with_reducible refine qAx X I hf ?_) | exact hq | wp_step)
theorem qFb {tk : Tok} {fill ex : Bool} {Q : Value → Shared → Prop} (c : ExcK K D) (X : K.In h) (I : InstAt h a ox D (some o)) (hf : findObj K D (some o) name = some (.value v)) (hv : handedIn v = true) (hq : Q v ⟨h, g, d, t, os⟩) :
    wpAny (model prog w) A (getAttrBy (.ref a) (.str name tk) fill ex) Q E ⟨h, g, d, t, os⟩ := by
  have L0 := I.type (M := model prog w)
  have L1 := looks_findIn (M := model prog w) X c.ga
  have L2 := looks_findIn (M := model prog w) X c.gt
  have f3 := F.attr_ValueError.ga.bind (.ref a)
  have no2 : (Value.builtin "BaseException.__getattribute__" == Value.builtin "object.__getattribute__") = false := by decide +kernel
  have no1 : (onTheHeap (Value.ref D) && Value.builtin "BaseException.__getattribute__" == Value.builtin "object.__getattribute__") = false := by rw [no2]; rfl
  have hho := handedOut_of hv
  repeat (any_goals (first | assumption | (with_reducible refine wpAny_bind (L0.at ?_)) | (with_reducible refine wpAny_bind (L1.at ?_)) | (with_reducible refine wpAny_bind (L2.at ?_)) | (with_reducible refine L1.at ?_) | (with_reducible refine L2.at ?_) | wp_step))
  have no3 : (ex && onTheHeap (Value.builtin "BaseException.__getattribute__")) = false := by
    rw [show onTheHeap (Value.builtin "BaseException.__getattribute__") = false from rfl, Bool.and_false]
  rw [if_neg (by rw [no3]; decide)]
  repeat (any_goals (first | assumption | (with_reducible refine wpAny_bind (L0.at ?_)) | (with_reducible refine wpAny_bind (L1.at ?_)) | (with_reducible refine wpAny_bind (L2.at ?_)) | (with_reducible refine L1.at ?_) | (with_reducible refine L2.at ?_) | wp_step))
  refine qBq c X I hf ?_
  show wpAny _ _ (handedOut v) Q E _
  rw [hho]
  exact wpAny_pure hq
end
end L3
namespace L3
open PySem PySem.Spec PyProof.Rows L2
theorem qB6 {o : Obj} {es : Array DictEntry} {ep : Nat} {name : Str} {v : Value} (hd : o.data = .dict es ep) (hf : nsFind es name = some v) : PySem.W.lookIn name o = some (some v) := by
  unfold PySem.W.lookIn
  rw [hd]
  dsimp only
  unfold nsFind findBy at hf
  rw [← Array.find?_toList] at hf
  cases he : es.toList.find? (fun e => e.key.isStr name) with
  | none => rw [he] at hf; cases hf
  | some en =>
    rw [he] at hf
    have : en.val = v := by simpa using hf
    subst this
    rfl
def qGg (K : PySem.W.Frag) (ta : TE) (f : Str) : TE := fun σ H Q => ta σ H fun x H1 => ∃ a D dx fs i, x = .ref a ∧ H1 a = some (kd a (.ref D, some dx)) ∧ H1 dx = some (.xd fs) ∧ fs.lookup f = some (.int i) ∧ ExcK K D ∧
  PySem.W.hasDictIn K D = true ∧ PySem.W.findIn K (.ref D) f = some none ∧ Q (.int i) H1
theorem qEy {X : Cx} {e : Expr} {f : Str} {pos : Pos} {ta : TE} (he : PE X e ta) (hb : attributeBase e f X.env (eval e X.env) = eval e X.env := by rfl) : PE X (.Attribute e f pos) (qGg X.K ta f) := by
  intro pins s σ H Q I h
  refine qE5 hb (thn (he pins s σ H _ I h) fun u s1 ⟨x, H1, I1, rx, a, D, dx, fs, i, ex, ea, ed, el, c, hh, hn, q⟩ => ?_)
  subst ex
  obtain rfl : u = Value.ref a := rx
  obtain ⟨⟨vs, sl, qe⟩, _⟩ := I1.hok a _ ea
  obtain ⟨mA, ⟨o, es, ep, eo, hd, _, _, hm⟩, r⟩ := I1.hok dx _ ed
  have J : PySem.W.InstAt s1.heap a { cls := .ref D, dict := some dx, data := .fields vs, slots := sl } D (some o) := ⟨qe, rfl, rfl, eo⟩
  have rf := r f
  rw [el] at rf
  cases hmf : mA f with
  | none => rw [hmf] at rf; exact False.elim rf
  | some u =>
    rw [hmf] at rf
    obtain ⟨tk, rfl⟩ : RelV (.int i) u := rf
    have hl := qB6 hd ((hm f).trans hmf)
    have hf : PySem.W.findObj X.K D (some o) f = some (.value (.int i tk)) := PySem.W.findObj_own hh hn rfl hl
    unfold getAttr
    obtain ⟨hp, g, d, t, os⟩ := s1
    refine wpAny_bind ?_
    refine wpAny_mkText ?_
    refine qFb c I1.kIn J hf rfl ?_
    exact ⟨.int i, H1, I1.tok _, ⟨_, rfl⟩, q⟩
end L3
set_option maxHeartbeats 4000000
set_option maxRecDepth 100000
namespace L3
open PySem PySem.Spec PyProof.Rows L2
inductive PHs (X : Cx) : List ExceptHandler → List (Addr × Option Nat × TS) → Prop where
  | nil : PHs X [] []
  | cons {x : Str} {np hpos : Pos} {nm : Option Str} {i : Option Nat} {b₀ : Stmt} {suite : List Stmt} {C : Addr} {ts : TS} {hs : List ExceptHandler} {cs : List (Addr × Option Nat × TS)} (hcl : qA7 X nm i) (hg : Gl X x) (hm : X.mg x = some (.ref C))
      (h : ∀ l ea, PSs (hdX (pnX X l) ea).nox (b₀ :: suite) ts) (r : PHs X hs cs) (hdb : (x == ("__debug__" : Str)) = false := by decide) : PHs X (.ExceptHandler (some (.Name x np)) nm (b₀ :: suite) hpos :: hs) ((C, i, ts) :: cs)
def qD4 (K : PySem.W.Frag) (D : qA4) (ea : Addr) (B : EC) (σ' : L2.St) (H' : Hp) : List (Addr × Option Nat × TS) → Prop
  | [] => False
  | (C, i, ts) :: cs => ∃ b, PySem.W.exmOne K B.1 (.ref C) = some b ∧ if b = true then ts (qEb D i) (qHo i ea σ') (upd H' ea (kd ea B)) else qD4 K D ea B σ' H' cs
def qG4 (K : PySem.W.Frag) (Ex : Value → Option Addr → Hp → Prop) (cs : List (Addr × Option Nat × TS)) (tb : TS) : TS := fun D σ H => tb D σ H ∧ ∀ (ea : Addr) (B : EC) (σ' : L2.St) (H' : Hp), Ex B.1 B.2 H' → H' ea = none → σ'.length = σ.length → qD4 K D ea B σ' H' cs
theorem qCo {X : Cx} {body : List Stmt} {h₀ : ExceptHandler} {hs : List ExceptHandler} {cs : List (Addr × Option Nat × TS)} {pos : Pos} {tb : TS} (Ex : Value → Option Addr → Hp → Prop) (hN : X.N.Nodup)
    (hb : ∀ l, PSs ((pnX X l).wish (XE (pnX X l) Ex)) body tb) (hh : PHs X (h₀ :: hs) cs)
    (hstk : X.stack = X.env :: X.outer := by rfl) (hfr : X.env.frame = some X.env.locals := by rfl) (hex : X.ex = [] := by rfl) :
    PS X (.Try body (h₀ :: hs) [] [] pos) (qG4 X.K Ex cs tb) := by
  rintro pins s σ H D I ⟨h1, h2⟩
  have I0 := qGi I
  refine wpAny_Try_except (wpAny_mono (hb (X.pn ++ pins) [] s σ H D (I0.wish _) h1) (fun f s1 q => ?_) fun e s1 q => ?_)
  · have q := q.unwish
    cases f with
    | next =>
      obtain ⟨σ', H', J, z⟩ := q
      exact wpAny_execs_nil ⟨σ', H', zt J, z⟩
    | brk =>
      obtain ⟨σ', H', J, z⟩ := q
      exact ⟨σ', H', zt J, z⟩
    | cont =>
      obtain ⟨σ', H', J, z⟩ := q
      exact ⟨σ', H', zt J, z⟩
    | ret u =>
      obtain ⟨v, σ', H', J, r, z⟩ := q
      exact ⟨v, σ', H', zt J, r, z⟩
  · obtain ⟨ea, B, σ', H', rfl, I1, ⟨n1, hd, r, n3⟩, ex⟩ := q
    have hlen : σ'.length = σ.length := I1.len.trans I.len.symm
    have ht := h2 ea B σ' H' ex n1.2.1 hlen
    have fr : X.A.frames = some (X.env :: X.outer) := by rw [← hstk]; exact I.ok.frames
    have ff : s1.heap.FunFrames X.base (X.env :: X.outer) := by
      have z := I1.stack
      rw [show (pnX X (X.pn ++ pins)).stack = X.env :: X.outer from hstk] at z
      exact z
    refine qCg fr ff hfr r fun h' N' => ?_
    have N' : Noted (frs X.stack) ea hd B s1.heap h' := by rw [hstk]; exact N'
    obtain ⟨I2, n1, hd2, r2, n3⟩ := xh I1 hex r n1 n3 N'
    clear h2
    generalize h₀ :: hs = hl0 at hh
    induction hh with
    | nil => exact False.elim ht
    | @cons x np hpos nm i b₀ suite C ts hs cs hcl hg hm hs' r' hdb ih =>
      obtain ⟨b, hx, ht⟩ := ht
      refine wpAny_handleBy_cons (codeAny_handlers_test (kI (X := hdX (pnX X (X.pn ++ pins)) ea) (qBl I2) hg hm ?_ hdb)) (by intro z; cases z)
      have LT : PySem.W.Looks (model X.prog X.w) h' (typeOf (.ref ea)) B.1 := by
        obtain ⟨vs, sl, qe, _⟩ := r2
        exact (PySem.W.Looks.ld qe).andThen .now
      refine (PySem.W.exm_one (M := model X.prog X.w) I2.kIn LT hx).here ?_
      cases b with
      | false =>
        rw [if_neg (by decide)] at ht
        exact ih ht
      | true =>
        rw [if_pos rfl] at ht
        show codeAny _ _ _ _ _
        obtain ⟨T, rfl, r3⟩ : ∃ T, hd2 = some T ∧ xo h' ea B (some T) := by
          obtain ⟨T, _, _⟩ := N'.ent
          cases hd2 with
          | some T => exact ⟨T, rfl, r2⟩
          | none =>
            obtain ⟨T, _, rT⟩ := N'.ent
            obtain ⟨vs, sl, q1, q2⟩ := r2
            obtain ⟨vs', sl', q1', q2', _⟩ := rT
            rw [q1] at q1'
            cases q1'
            rw [q2] at q2'
            cases q2'
        have run : ∀ (s4 : Shared) (σ4 : L2.St) (Q : Flow → Shared → Prop) (E : Value → Shared → Prop), Inv (hdX (pnX X (X.pn ++ pins)) ea) [] σ4 (upd H' ea (kd ea B)) s4 → ts (qEb D i) σ4 (upd H' ea (kd ea B)) →
            (∀ f s5, SP (hdX (pnX X (X.pn ++ pins)) ea) [] (qEb D i) f s5 → Q f s5) → wpAny (model X.prog X.w) (X.A.mark (some (.ref ea))) (execs (b₀ :: suite) X.env) Q E s4 := fun s4 σ4 Q E I4 z k =>
          wpAny_mono (hs' (X.pn ++ pins) ea [] s4 σ4 _ _ (I4.wish _) z) (fun f s5 q => k f s5 q.unwish) fun _ _ z => z.elim
        have hdn : (pnX X (X.pn ++ pins)).calm = true → (pnX X (X.pn ++ pins)).A.handled = none := I2.ok.hd
        cases hcl with
        | none =>
          refine codeAny_handlers_suite (kZ r3 fun h3 N3 => ?_)
          obtain ⟨I3, n1, hd3, r4, n3⟩ := xh I2 hex r3 n1 n3 (N3 _)
          refine run _ _ _ _ (qBl (wM I3 hex n1 r4)) ht fun f s5 q => ?_
          cases f with
          | next => obtain ⟨σ5, H5, J, z⟩ := q; exact ⟨σ5, H5, zt (wB J hdn), z⟩
          | brk => obtain ⟨σ5, H5, J, z⟩ := q; exact ⟨σ5, H5, zt (wB J hdn), z⟩
          | cont => obtain ⟨σ5, H5, J, z⟩ := q; exact ⟨σ5, H5, zt (wB J hdn), z⟩
          | ret u => obtain ⟨v, σ5, H5, J, rv, z⟩ := q; exact ⟨v, σ5, H5, zt (wB J hdn), rv, z⟩
        | some hi hl =>
          refine codeAny_handlers_suite_as (kZ r3 fun h3 N3 => ?_)
          obtain ⟨I3, n1, hd3, r4, n3⟩ := xh I2 hex r3 n1 n3 (N3 _)
          refine xV (X := hdX (pnX X (X.pn ++ pins)) ea) (v := .ref ea) (qBl (wM I3 hex n1 r4)) hN hi (.inl hl) rfl (fun s4 I4 => ?_) (.inr hl)
          refine run _ _ _ _ I4 ht fun f s5 q => ?_
          cases f with
          | next => obtain ⟨σ5, H5, J, z⟩ := q; exact zN (X := pnX X (X.pn ++ pins)) (wB J hdn) hN hi hl fun s6 J6 => ⟨_, H5, zt J6, z⟩
          | brk => obtain ⟨σ5, H5, J, z⟩ := q; exact zN (X := pnX X (X.pn ++ pins)) (wB J hdn) hN hi hl fun s6 J6 => ⟨_, H5, zt J6, z⟩
          | cont => obtain ⟨σ5, H5, J, z⟩ := q; exact zN (X := pnX X (X.pn ++ pins)) (wB J hdn) hN hi hl fun s6 J6 => ⟨_, H5, zt J6, z⟩
          | ret u => obtain ⟨v, σ5, H5, J, rv, z⟩ := q; exact zN (X := pnX X (X.pn ++ pins)) (wB J hdn) hN hi hl fun s6 J6 => ⟨v, _, H5, zt J6, rv, z⟩
end L3
set_option maxHeartbeats 4000000
namespace L3
open PySem PySem.Spec PyProof.Rows L2
section
variable {X : Cx}
theorem qDk {bs : List Bool} {its : List Value} {P : Program} {w : World} {A : Around} (r : Vals (bs.map V.bl) its) : TruthOf P w A (fun i v => its.toArray[i]? = some v) (fun i => (bs[i]?).getD false) := by
  intro i v s Q E hv hq
  have hv' : its[i]? = some v := by simpa using hv
  have hl := r.length
  have hi : i < bs.length := by
    have := (List.getElem?_eq_some_iff.mp hv').1
    rw [List.length_map] at hl
    omega
  obtain ⟨u, e1, q1⟩ := r.get (i := i) (x := .bl bs[i]) (by rw [List.getElem?_map, List.getElem?_eq_getElem hi]; rfl)
  rw [hv'] at e1
  cases e1
  cases q1
  have e : (bs[i]?).getD false = bs[i] := by rw [List.getElem?_eq_getElem hi]; rfl
  have hq' : Q ((bs[i]?).getD false) s := hq
  rw [e] at hq'
  exact wpAny_truthy_bool hq'
theorem qCb (bs : List Bool) : (List.range bs.length).all (fun i => (bs[i]?).getD false) = bs.all id := by
  rw [Bool.eq_iff_iff, List.all_eq_true, List.all_eq_true]
  constructor
  · intro h x hx
    obtain ⟨i, hi, e⟩ := List.mem_iff_getElem.mp hx
    have := h i (by simpa using hi)
    rw [List.getElem?_eq_getElem hi, e] at this
    exact this
  · intro h i hi
    have hi : i < bs.length := by simpa using hi
    rw [List.getElem?_eq_getElem hi]
    exact h _ (List.getElem_mem hi)
theorem qB7 (hc : X.calm = true) : CallR X (.builtin "all") (fun xs H Q => ∃ (p : Addr) (bs : List Bool), xs = [.ref p] ∧ SqL X.K H p (bs.map V.bl) ∧ Q (.bl (bs.all id)) H) := by
  intro pins s σ H xs us Q I r h
  obtain ⟨p, bs, rfl, hq, q⟩ := h
  obtain ⟨u, rfl, rx⟩ := qA6 r
  cases rx
  obtain ⟨its, rv, pl, hz⟩ := I.list hq
  have hp : p ≠ s.heap.objs.size := by
    obtain ⟨o, n, e, _⟩ := pl
    exact Nat.ne_of_lt (Heap.lt_size e)
  have hh : X.A.in1.handled = none := I.ok.hd hc
  have hl : its.toArray.size = bs.length := by rw [List.size_toArray, ← rv.length, List.length_map]
  refine call_all_walk (wpAny_pyIter_list pl.isList ?_)
  refine ⟨s.heap.objs.size, _, _, _, _, _, _, rfl, Walks.list hh _ p hp its.toArray, ⟨⟨_, Heap.get?_push_size _ rfl, rfl, rfl⟩, pl.isList.at fun o e => Heap.get?_push_of_some _ e⟩, qDk rv, fun h' tk hk => ?_⟩
  rw [hl, qCb]
  refine ⟨.bl _, H, I.kept fun b o e => hk b o (fun z => ?_) (Heap.get?_push_of_some _ e), rfl, q⟩
  have z' : b = s.heap.objs.size := by simpa using z
  exact absurd (Heap.lt_size e) (by rw [z']; exact Nat.lt_irrefl _)
theorem qFt : OpR X (compareOp .In) (fun x y H Q => ∃ (a b : Str), x = .str a ∧ y = .str b ∧ Q (.bl (!(Builtin.Str.occurrences b a 0 b.length 1).isEmpty)) H) := by
  intro pins s σ H x y v u Q I rx ry h
  obtain ⟨a, b, rfl, rfl, q⟩ := h
  obtain ⟨t, rfl⟩ := rx
  obtain ⟨t', rfl⟩ := ry
  exact P.in_str ⟨.bl _, H, I, rfl, q⟩
def Its (z : Str) : It := ⟨fun i _ => i < z.cps.size, fun i H x H' => H' = H ∧ ∃ c, z.cps[i]? = some c ∧ x = .str ⟨#[c]⟩, fun i _ => z.cps.size ≤ i⟩
theorem qB5 {P : Program} {w : World} {K : PySem.W.Frag} {tg : Expr} (it : Addr) (z : Str) (t : Tok) (ty : String) (hty : ty = "str_ascii_iterator" ∨ ty = "str_iterator") :
    qFr P w K tg (Its z) [it] it (fun i h => h.IsStrIter it ty z t i ∧ i ≤ z.cps.size) where
  mem := by simp
  obj := fun i h st b hb => by
    have e : b = it := by simpa using hb
    subst e
    obtain ⟨⟨o, e, c, d⟩, _⟩ := st
    exact ⟨o, e, fun v z => by rw [d] at z; cases z⟩
  keep := fun i h h' st k => ⟨let ⟨o, ho, r⟩ := st.1; ⟨o, k it (by simp) o ho, r⟩, st.2⟩
  item := by
    intro X hP hw hK hc i pins s σ H E I hf st hg
    subst hP hw hK
    have hi : i < z.cps.size := hg
    have hx : z.cps[i]? = some z.cps[i] := by simp [hi]
    obtain ⟨f0, f1, f2, f3, f4, f5⟩ := hf it (by simp)
    have fin : ∀ h', h'.IsStrIter it ty z t (i + 1) → Heap.SameBut it s.heap h' → ∃ u, some (Value.str ⟨#[z.cps[i]]⟩ s.toks) = some u ∧ wpAny (model X.prog X.w) X.A (letOwnedTupleGo tg (.ref it) u) (fun _ s2 => ∃ x H', Inv X pins σ H' s2 ∧ RelV x u ∧ (Its z).yld i H x H' ∧ (s2.heap.IsStrIter it ty z t (i + 1) ∧ i + 1 ≤ z.cps.size) ∧ ∀ b ∈ [it], H' b = none) E { s with heap := h', toks := s.toks + 1 } := fun h' st' sb => by
      have I1 : Inv X pins σ H { s with heap := h', toks := s.toks + 1 } := I.turned (t' := s.toks + 1) (fun b o hb e => (sb.2 b hb).trans e) f0 f1 f3 f4 f5
      obtain ⟨o, e, c, d⟩ := id st'
      refine ⟨_, rfl, qFh (s := { s with heap := h', toks := s.toks + 1 }) e c d (by rcases hty with rfl | rfl <;> decide) ⟨.str ⟨#[z.cps[i]]⟩, H, I1, ⟨_, rfl⟩, ⟨rfl, _, hx, rfl⟩, ⟨st', hi⟩, fun b hb => (hf b hb).1⟩⟩
    rcases hty with rfl | rfl
    · exact wpAny_pyNext_ascii_item st.1 hx fin
    · exact wpAny_pyNext_wide_item st.1 hx fin
  done := by
    intro X hP hw hK hc i pins s σ H E I hf st hg
    subst hP hw hK
    have hi : z.cps.size ≤ i := hg
    have hx : z.cps[i]? = none := by simp [hi]
    obtain ⟨f0, f1, f2, f3, f4, f5⟩ := hf it (by simp)
    rcases hty with rfl | rfl
    · exact wpAny_pyNext_ascii_end (I.ok.hd hc) st.1 hx fun h' eb => ⟨rfl, I.turned (t' := s.toks) (fun b o hb e => eb b o hb e) f0 f1 f3 f4 f5⟩
    · exact wpAny_pyNext_wide_end (I.ok.hd hc) st.1 hx fun h' eb => ⟨rfl, I.turned (t' := s.toks) (fun b o hb e => eb b o hb e) f0 f1 f3 f4 f5⟩
  self := fun _ _ _ _ _ st h => by
    rcases hty with rfl | rfl
    · exact wpAny_pyIter_striter_ascii st.1 h
    · exact wpAny_pyIter_striter_wide st.1 h
def qIm (tl : TE) : TI := fun σ H R => tl σ H fun x H1 => ∃ z, x = .str z ∧ R (Its z) H1
theorem qF4 {tg l : Expr} {tl : TE} (hl : PE X l tl) : PI X tg l (qIm tl) := by
  intro pins s σ H R I h
  refine thn (hl pins s σ H _ I h) fun v s1 ⟨x, H1, I1, r1, q1⟩ => ?_
  obtain ⟨z, e, q⟩ := q1
  subst e
  obtain ⟨t, rfl⟩ := r1
  have key : ∀ ty : String, (ty = "str_ascii_iterator" ∨ ty = "str_iterator") → PIE X pins σ tg R (.ref s1.heap.objs.size) { s1 with heap := s1.heap.push { cls := .type ty, data := .fields #[.str z t, .int 0 0] } } := fun ty hty => by
    refine ⟨s1.heap.objs.size, [s1.heap.objs.size], _, _, H1, rfl, I1.kept (t' := s1.toks) fun b o e => Heap.get?_push_of_some _ e, qB5 _ z t ty hty, ⟨⟨_, Heap.get?_push_size _ rfl, rfl, rfl⟩, Nat.zero_le _⟩, fun b hb => ?_, q⟩
    have e : b = s1.heap.objs.size := by simpa using hb
    subst e
    exact I1.fpOk (Nat.le_refl _) (I1.hok.fresh (Nat.le_refl _))
  cases ha : z.cps.all (· < 128)
  · exact wpAny_pyIter_wide ha (key _ (.inr rfl))
  · exact wpAny_pyIter_ascii ha (key _ (.inl rfl))
theorem qDt {z : Str} {js : List Nat} {te : TE} {σ : L2.St} {H : Hp} {Q : VK} (Pv : Nat → List V → Hp → Prop) (h0 : Pv 0 [] H) (hl : ∀ i acc H, i ≤ z.cps.size → Pv i acc H → acc.length < sizeLine)
    (hs : ∀ i c acc H, i < z.cps.size → z.cps[i]? = some c → Pv i acc H → te (some (.str ⟨#[c]⟩) :: qB0 js σ) H fun v H' => Nxt z.cps.size i (Pv (i + 1) (acc ++ [v]) H')) (hd : ∀ acc H, Pv z.cps.size acc H → ∀ D, H D = none → Q (.ref D) (upd H D (.lst acc))) : qCj js te σ Q (Its z) H := by
  refine ⟨fun i m acc H => m = z.cps.size - i ∧ i ≤ z.cps.size ∧ Pv i acc H, ⟨z.cps.size, by simp, Nat.zero_le _, h0⟩, ?_⟩
  rintro i m acc H2 ⟨rfl, hi, p⟩
  refine ⟨hl i acc H2 hi p, ?_⟩
  by_cases hlt : i < z.cps.size
  · refine .inr ⟨hlt, fun x H3 y => ?_⟩
    obtain ⟨e, c, hc, rfl⟩ := y
    subst e
    exact hs i c acc _ hlt hc p
  · have e : i = z.cps.size := by omega
    subst e
    exact .inl ⟨Nat.le_refl _, hd acc H2 p⟩
end
theorem j3 {X : Cx} {K : PySem.W.Frag} (h : X.K = K) : CallR X (.builtin "isinstance") (fun xs H Q => ∃ e D od c b, xs = [.ref e, c] ∧ H e = some (kd e (.ref D, od)) ∧ OwnD H od ∧ ExcK K D ∧
    ((∃ n, c = .ty n ∧ PySem.W.kitOne K (.ref D) (.type n) = some b) ∨ ∃ a, c = .ref a ∧ PySem.W.kitOne K (.ref D) (.ref a) = some b) ∧ Q (.bl b) H) := h ▸ vq
end L3
namespace L3
open PySem PySem.Spec PyProof.Rows L2
end L3
set_option maxHeartbeats 4000000
namespace L3
open PySem PySem.Spec PyProof.Rows L2
section
variable {X : Cx}
end
end L3
set_option maxHeartbeats 4000000
namespace L3
open PySem PySem.Spec PyProof.Rows L2
inductive D where
  | leaf (v : V)
  | tup (xs : List D)
  | lst (xs : List D)
mutual
def Rep (K : PySem.W.Frag) (H : Hp) : D → V → Prop
  | .leaf v, x => x = v ∧ xE v = true
  | .tup ds, x => ∃ p xs, x = .ref p ∧ SqT K H p xs ∧ Reps K H ds xs
  | .lst ds, x => ∃ p xs, x = .ref p ∧ SqL K H p xs ∧ Reps K H ds xs
def Reps (K : PySem.W.Frag) (H : Hp) : List D → List V → Prop
  | [], [] => True
  | d :: ds, x :: xs => Rep K H d x ∧ Reps K H ds xs
  | _, _ => False
end
mutual
def eqD : D → D → Bool
  | .leaf v, .leaf w => eqV v w
  | .tup xs, .tup ys => zI xs ys
  | .lst xs, .lst ys => zI xs ys
  | _, _ => false
def zI : List D → List D → Bool
  | [], [] => true
  | x :: xs, y :: ys => eqD x y && zI xs ys
  | _, _ => false
end
mutual
def dep : D → Nat
  | .leaf _ => 0
  | .tup xs => vB xs + 1
  | .lst xs => vB xs + 1
def vB : List D → Nat
  | [] => 0
  | x :: xs => max (dep x) (vB xs)
end
theorem Reps.length {K : PySem.W.Frag} {H : Hp} : ∀ {ds : List D} {xs : List V}, Reps K H ds xs → ds.length = xs.length
  | [], [], _ => rfl
  | _ :: _, _ :: _, h => by
    unfold Reps at h
    rw [List.length_cons, List.length_cons, h.2.length]
  | [], _ :: _, h => by unfold Reps at h; exact h.elim
  | _ :: _, [], h => by unfold Reps at h; exact h.elim
theorem qC2 {v : V} (h : xE v = true) : eqV v v = true := by
  cases v <;> simp_all [xE, eqV]
theorem z7 : ∀ {xs ys : List D}, zI xs ys = true → xs.length = ys.length
  | [], [], _ => rfl
  | x :: xs, y :: ys, h => by
    unfold zI at h
    rw [Bool.and_eq_true] at h
    rw [List.length_cons, List.length_cons, z7 h.2]
  | [], _ :: _, h => by simp [zI] at h
  | _ :: _, [], h => by simp [zI] at h
def itE (xs ys : List D) (j : Nat) : Bool := match xs[j]?, ys[j]? with
  | some a, some b => eqD a b
  | _, _ => false
theorem vz : ∀ (xs ys : List D), ((List.range (min xs.length ys.length)).all (itE xs ys) && xs.length == ys.length) = zI xs ys
  | [], [] => by simp [zI]
  | [], y :: ys => by simp [zI]
  | x :: xs, [] => by simp [zI]
  | x :: xs, y :: ys => by
    have ih := vz xs ys
    have e : min (x :: xs).length (y :: ys).length = min xs.length ys.length + 1 := by simp only [List.length_cons]; omega
    rw [e, List.range_succ_eq_map, List.all_cons, List.all_map]
    have e2 : (itE (x :: xs) (y :: ys)) ∘ Nat.succ = itE xs ys := by
      funext j
      simp [itE]
    have e3 : itE (x :: xs) (y :: ys) 0 = eqD x y := by simp [itE]
    have e4 : ((x :: xs).length == (y :: ys).length) = (xs.length == ys.length) := by
      rw [Bool.eq_iff_iff]; simp
    rw [e2, e3, e4, Bool.and_assoc, ih]
    conv => rhs; unfold zI
theorem wb {xs ys : List D} (h : xs.length = ys.length) : (List.range xs.length).all (itE xs ys) = zI xs ys := by
  have := vz xs ys
  rw [← h, Nat.min_self] at this
  simpa using this
section
variable {X : Cx} {pins : List (Addr × Obj)} {σ : L2.St} {H : Hp} {s : Shared}
mutual
theorem vG (I : Inv X pins σ H s) : ∀ (d e : D) {x : V}, Rep X.K H d x → Rep X.K H e x → eqD d e = true
  | .leaf v, .leaf w, x, h1, h2 => by
    unfold Rep at h1 h2
    obtain ⟨rfl, f⟩ := h1
    obtain ⟨rfl, _⟩ := h2
    unfold eqD
    exact qC2 f
  | .leaf v, .tup ds, x, h1, h2 => by
    unfold Rep at h1 h2
    obtain ⟨rfl, f⟩ := h1
    obtain ⟨p, xs, rfl, _⟩ := h2
    cases f
  | .leaf v, .lst ds, x, h1, h2 => by
    unfold Rep at h1 h2
    obtain ⟨rfl, f⟩ := h1
    obtain ⟨p, xs, rfl, _⟩ := h2
    cases f
  | .tup ds, .leaf w, x, h1, h2 => by
    unfold Rep at h1 h2
    obtain ⟨rfl, f⟩ := h2
    obtain ⟨p, xs, rfl, _⟩ := h1
    cases f
  | .lst ds, .leaf w, x, h1, h2 => by
    unfold Rep at h1 h2
    obtain ⟨rfl, f⟩ := h2
    obtain ⟨p, xs, rfl, _⟩ := h1
    cases f
  | .tup ds, .tup es, x, h1, h2 => by
    unfold Rep at h1 h2
    obtain ⟨p, xs, rfl, t1, r1⟩ := h1
    obtain ⟨q, ys, e, t2, r2⟩ := h2
    cases e
    rw [I.tuple_inj t1 t2] at r1
    unfold eqD
    exact kR I ds es r1 r2
  | .lst ds, .lst es, x, h1, h2 => by
    unfold Rep at h1 h2
    obtain ⟨p, xs, rfl, t1, r1⟩ := h1
    obtain ⟨q, ys, e, t2, r2⟩ := h2
    cases e
    rw [I.list_inj t1 t2] at r1
    unfold eqD
    exact kR I ds es r1 r2
  | .tup ds, .lst es, x, h1, h2 => by
    unfold Rep at h1 h2
    obtain ⟨p, xs, rfl, t1, r1⟩ := h1
    obtain ⟨q, ys, e, t2, r2⟩ := h2
    cases e
    obtain ⟨_, _, i1, _⟩ := I.tuple t1
    obtain ⟨_, _, i2, _⟩ := I.list t2
    exact (SeqAt.ne_of_list_tuple i2.isList i1 rfl).elim
  | .lst ds, .tup es, x, h1, h2 => by
    unfold Rep at h1 h2
    obtain ⟨p, xs, rfl, t1, r1⟩ := h1
    obtain ⟨q, ys, e, t2, r2⟩ := h2
    cases e
    obtain ⟨_, _, i1, _⟩ := I.list t1
    obtain ⟨_, _, i2, _⟩ := I.tuple t2
    exact (SeqAt.ne_of_list_tuple i1.isList i2 rfl).elim
theorem kR (I : Inv X pins σ H s) : ∀ (ds es : List D) {xs : List V}, Reps X.K H ds xs → Reps X.K H es xs → zI ds es = true
  | [], [], _, _, _ => by simp [zI]
  | d :: ds, e :: es, [], h1, _ => by unfold Reps at h1; exact h1.elim
  | d :: ds, e :: es, x :: xs, h1, h2 => by
    unfold Reps at h1 h2
    unfold zI
    rw [vG I d e h1.1 h2.1, kR I ds es h1.2 h2.2]
    rfl
  | [], e :: es, [], _, h2 => by unfold Reps at h2; exact h2.elim
  | [], e :: es, _ :: _, h1, _ => by unfold Reps at h1; exact h1.elim
  | d :: ds, [], [], h1, _ => by unfold Reps at h1; exact h1.elim
  | d :: ds, [], _ :: _, _, h2 => by unfold Reps at h2; exact h2.elim
end
theorem xu {A : Around} {x : V} {u : Value} {p : Addr} {its : Array Value} (f : xE x = true) (r : RelV x u) (hu : A.units < cLine) (h : s.heap.IsTuple p its ∨ s.heap.IsList p its) : SeqAt.EqAt A s u (.ref p) false ∧ SeqAt.EqAt A s (.ref p) u false := by
  cases x with
  | non => cases r; rcases h with h | h <;> exact ⟨by first | exact SeqAt.EqAt.none_tuple h hu | exact SeqAt.EqAt.none_list h hu, by first | exact SeqAt.EqAt.tuple_none h hu | exact SeqAt.EqAt.list_none h hu⟩
  | bl b => cases r; rcases h with h | h <;> exact ⟨by first | exact SeqAt.EqAt.bool_tuple _ h hu | exact SeqAt.EqAt.bool_list _ h hu, by first | exact SeqAt.EqAt.tuple_bool _ h hu | exact SeqAt.EqAt.list_bool _ h hu⟩
  | int i => obtain ⟨t, rfl⟩ := r; rcases h with h | h <;> exact ⟨by first | exact SeqAt.EqAt.int_tuple _ _ h hu | exact SeqAt.EqAt.int_list _ _ h hu, by first | exact SeqAt.EqAt.tuple_int _ _ h hu | exact SeqAt.EqAt.list_int _ _ h hu⟩
  | str i => obtain ⟨t, rfl⟩ := r; rcases h with h | h <;> exact ⟨by first | exact SeqAt.EqAt.str_tuple _ _ h hu | exact SeqAt.EqAt.str_list _ _ h hu, by first | exact SeqAt.EqAt.tuple_str _ _ h hu | exact SeqAt.EqAt.list_str _ _ h hu⟩
  | _ => cases f
theorem Reps.get {K : PySem.W.Frag} {H : Hp} : ∀ {ds : List D} {xs : List V}, Reps K H ds xs → ∀ (j : Nat) (d : D), ds[j]? = some d → ∃ x, xs[j]? = some x ∧ Rep K H d x
  | [], [], _, j, d, e => by simp at e
  | a :: ds, x :: xs, h, 0, d, e => by
    unfold Reps at h
    have : a = d := by simpa using e
    subst this
    exact ⟨x, rfl, h.1⟩
  | a :: ds, x :: xs, h, j + 1, d, e => by
    unfold Reps at h
    exact h.2.get j d (by simpa using e)
  | [], _ :: _, h, _, _, _ => by unfold Reps at h; exact h.elim
  | _ :: _, [], h, _, _, _ => by unfold Reps at h; exact h.elim
theorem vO : ∀ {ds : List D} {j : Nat} {d : D}, ds[j]? = some d → dep d ≤ vB ds
  | a :: ds, 0, d, e => by
    have : a = d := by simpa using e
    subst this
    unfold vB
    exact Nat.le_max_left _ _
  | a :: ds, j + 1, d, e => by
    have := vO (ds := ds) (j := j) (d := d) (by simpa using e)
    unfold vB
    exact Nat.le_trans this (Nat.le_max_right _ _)
  | [], _, _, e => by simp at e
theorem qBr {A : Around} {ds es : List D} {xs ys : List V} {us ws : List Value} (r1 : Reps X.K H ds xs) (r2 : Reps X.K H es ys) (v1 : Vals xs us) (v2 : Vals ys ws)
    (ih : ∀ d e x y u w, d ∈ ds → Rep X.K H d x → Rep X.K H e y → RelV x u → RelV y w → SeqAt.EqAt A s u w (eqD d e)) :
    ∀ j (h1 : j < us.toArray.size) (h2 : j < ws.toArray.size), SeqAt.EqAt A s us.toArray[j] ws.toArray[j] (itE ds es j) := by
  intro j h1 h2
  have l1 := v1.length
  have l2 := v2.length
  have m1 := r1.length
  have m2 := r2.length
  rw [List.size_toArray] at h1 h2
  have g1 : ds[j]? = some ds[j] := List.getElem?_eq_getElem (by omega)
  have g2 : es[j]? = some es[j] := List.getElem?_eq_getElem (by omega)
  obtain ⟨x, ex, rx⟩ := r1.get j _ g1
  obtain ⟨y, ey, ry⟩ := r2.get j _ g2
  obtain ⟨u, eu, qu⟩ := v1.get ex
  obtain ⟨w, ew, qw⟩ := v2.get ey
  have c1 : us.toArray[j] = u := by
    have := (List.getElem?_eq_some_iff.mp eu).2
    simpa using this
  have c2 : ws.toArray[j] = w := by
    have := (List.getElem?_eq_some_iff.mp ew).2
    simpa using this
  have e : itE ds es j = eqD ds[j] es[j] := by unfold itE; rw [g1, g2]
  rw [c1, c2, e]
  exact ih _ _ _ _ _ _ (List.getElem_mem _) rx ry qu qw
theorem qDw (I : Inv X pins σ H s) : ∀ (n : Nat) (A : Around) (d e : D) (x y : V) (u w : Value), dep d ≤ n → A.units + n < cLine → Rep X.K H d x → Rep X.K H e y → RelV x u → RelV y w → SeqAt.EqAt A s u w (eqD d e) := by
  intro n
  induction n with
  | zero =>
    intro A d e x y u w hd hu r1 r2 q1 q2
    cases d with
    | leaf v =>
      unfold Rep at r1
      obtain ⟨rfl, f1⟩ := r1
      cases e with
      | leaf v' =>
        unfold Rep at r2
        obtain ⟨rfl, f2⟩ := r2
        unfold eqD
        exact vf q1 q2 f1 f2
      | tup es =>
        unfold Rep at r2
        obtain ⟨p, ys, rfl, t, _⟩ := r2
        cases q2
        obtain ⟨_, _, i, _⟩ := I.tuple t
        unfold eqD
        exact (xu f1 q1 hu (.inl i)).1
      | lst es =>
        unfold Rep at r2
        obtain ⟨p, ys, rfl, t, _⟩ := r2
        cases q2
        obtain ⟨_, _, i, _⟩ := I.list t
        unfold eqD
        exact (xu f1 q1 hu (.inr i.isList)).1
    | tup ds => unfold dep at hd; omega
    | lst ds => unfold dep at hd; omega
  | succ n ih =>
    intro A d e x y u w hd hu r1 r2 q1 q2
    have hu0 : A.units < cLine := by omega
    have hu1 : A.in1.units + n < cLine := by show A.units + 1 + n < cLine; omega
    cases d with
    | leaf v =>
      unfold Rep at r1
      obtain ⟨rfl, f1⟩ := r1
      cases e with
      | leaf v' =>
        unfold Rep at r2
        obtain ⟨rfl, f2⟩ := r2
        unfold eqD
        exact vf q1 q2 f1 f2
      | tup es =>
        unfold Rep at r2
        obtain ⟨p, ys, rfl, t, _⟩ := r2
        cases q2
        obtain ⟨_, _, i, _⟩ := I.tuple t
        unfold eqD
        exact (xu f1 q1 hu0 (.inl i)).1
      | lst es =>
        unfold Rep at r2
        obtain ⟨p, ys, rfl, t, _⟩ := r2
        cases q2
        obtain ⟨_, _, i, _⟩ := I.list t
        unfold eqD
        exact (xu f1 q1 hu0 (.inr i.isList)).1
    | tup ds =>
      have r1' := r1
      unfold Rep at r1
      obtain ⟨p, xs, rfl, t1, s1⟩ := r1
      cases q1
      obtain ⟨us, v1, i1, _⟩ := I.tuple t1
      cases e with
      | leaf v' =>
        unfold Rep at r2
        obtain ⟨rfl, f2⟩ := r2
        unfold eqD
        exact (xu f2 q2 hu0 (.inl i1)).2
      | lst es =>
        unfold Rep at r2
        obtain ⟨q, ys, rfl, t2, _⟩ := r2
        cases q2
        obtain ⟨_, _, i2, _⟩ := I.list t2
        unfold eqD
        exact SeqAt.EqAt.tuple_list i1 i2.isList hu0
      | tup es =>
        have r2' := r2
        unfold Rep at r2
        obtain ⟨q, ys, rfl, t2, s2⟩ := r2
        cases q2
        by_cases pq : p = q
        · subst pq
          rw [vG I _ _ r1' r2']
          exact SeqAt.EqAt.same _
        obtain ⟨ws, v2, i2, _⟩ := I.tuple t2
        have hdd : vB ds ≤ n := by unfold dep at hd; omega
        have := SeqAt.EqAt.of_refs pq (SeqAt.RcAt.tuples i1 i2 hu0 (qBr s1 s2 v1 v2 fun d e x y u w hm ra rb qa qb => by
          obtain ⟨j, hj, ej⟩ := List.mem_iff_getElem.mp hm
          have hde : dep d ≤ vB ds := vO (j := j) (by rw [List.getElem?_eq_getElem hj, ej])
          exact ih A.in1 d e x y u w (by omega) hu1 ra rb qa qb))
        rw [List.size_toArray, List.size_toArray, ← v1.length, ← v2.length, ← s1.length, ← s2.length, vz] at this
        unfold eqD
        exact this
    | lst ds =>
      have r1' := r1
      unfold Rep at r1
      obtain ⟨p, xs, rfl, t1, s1⟩ := r1
      cases q1
      obtain ⟨us, v1, i1, _⟩ := I.list t1
      cases e with
      | leaf v' =>
        unfold Rep at r2
        obtain ⟨rfl, f2⟩ := r2
        unfold eqD
        exact (xu f2 q2 hu0 (.inr i1.isList)).2
      | tup es =>
        unfold Rep at r2
        obtain ⟨q, ys, rfl, t2, _⟩ := r2
        cases q2
        obtain ⟨_, _, i2, _⟩ := I.tuple t2
        unfold eqD
        exact SeqAt.EqAt.list_tuple i1.isList i2 hu0
      | lst es =>
        have r2' := r2
        unfold Rep at r2
        obtain ⟨q, ys, rfl, t2, s2⟩ := r2
        cases q2
        by_cases pq : p = q
        · subst pq
          rw [vG I _ _ r1' r2']
          exact SeqAt.EqAt.same _
        obtain ⟨ws, v2, i2, _⟩ := I.list t2
        have hdd : vB ds ≤ n := by unfold dep at hd; omega
        unfold eqD
        by_cases hl : ds.length = es.length
        · have hsz : us.toArray.size = ws.toArray.size := by rw [List.size_toArray, List.size_toArray, ← v1.length, ← v2.length, ← s1.length, ← s2.length]; exact hl
          have := SeqAt.EqAt.of_refs pq (SeqAt.RcAt.lists i1.isList i2.isList hsz hu0 (qBr s1 s2 v1 v2 fun d e x y u w hm ra rb qa qb => by
            obtain ⟨j, hj, ej⟩ := List.mem_iff_getElem.mp hm
            have hde : dep d ≤ vB ds := vO (j := j) (by rw [List.getElem?_eq_getElem hj, ej])
            exact ih A.in1 d e x y u w (by omega) hu1 ra rb qa qb))
          rw [List.size_toArray, ← v1.length, ← s1.length, wb hl] at this
          exact this
        · have hsz : (us.toArray.size != ws.toArray.size) = true := by
            rw [List.size_toArray, List.size_toArray, ← v1.length, ← v2.length, ← s1.length, ← s2.length]
            simpa using hl
          have e : zI ds es = false := by
            rw [Bool.eq_false_iff]
            intro z
            exact hl (z7 z)
          rw [e]
          exact SeqAt.EqAt.of_refs pq (SeqAt.RcAt.lists_lengths i1.isList i2.isList hsz hu0)
def kin : D → D → Bool
  | .tup _, .tup _ => true
  | .lst _, .lst _ => true
  | _, _ => false
def qFk (K : PySem.W.Frag) (neg : Bool) : R2 := fun x y H Q => ∃ d e : D, Rep K H d x ∧ Rep K H e y ∧ kin d e = true ∧ dep d ≤ 60 ∧ Q (.bl (if neg then !eqD d e else eqD d e)) H
theorem xy {A : Around} (I : Inv X pins σ H s) (hu : A.units + 64 < cLine) {ds es : List D} {xs ys : List V} {us ws : List Value} (hd : vB ds ≤ 60) (s1 : Reps X.K H ds xs) (s2 : Reps X.K H es ys) (v1 : Vals xs us) (v2 : Vals ys ws) :
    ∀ j (h1 : j < us.toArray.size) (h2 : j < ws.toArray.size), SeqAt.EqAt A.in1 s us.toArray[j] ws.toArray[j] (itE ds es j) :=
  qBr s1 s2 v1 v2 fun d e x y u w hm ra rb qa qb => by
    obtain ⟨j, hj, ej⟩ := List.mem_iff_getElem.mp hm
    have hde : dep d ≤ vB ds := vO (j := j) (by rw [List.getElem?_eq_getElem hj, ej])
    exact qDw I 60 A.in1 d e x y u w (by omega) (by show A.units + 1 + 60 < cLine; omega) ra rb qa qb
theorem qB3 (hu : X.A.units + 64 < cLine) : OpR X (compareOp .Eq) (qFk X.K false) := by
  intro pins s σ H x y v u Q I rx ry h
  obtain ⟨d, e, r1, r2, hk, hd, q⟩ := h
  have hu0 : X.A.units < cLine := by omega
  cases d with
  | leaf a => cases e <;> cases hk
  | tup ds =>
    cases e with
    | leaf b => cases hk
    | lst es => cases hk
    | tup es =>
      unfold Rep at r1 r2
      obtain ⟨p, xs, rfl, t1, s1⟩ := r1
      obtain ⟨p', ys, rfl, t2, s2⟩ := r2
      cases rx; cases ry
      obtain ⟨us, v1, i1, _⟩ := I.tuple t1
      obtain ⟨ws, v2, i2, _⟩ := I.tuple t2
      refine SeqAt.eq_tupleAt i1 i2 hu0 (xy I hu (by unfold dep at hd; omega) s1 s2 v1 v2) ?_
      rw [List.size_toArray, List.size_toArray, ← v1.length, ← v2.length, ← s1.length, ← s2.length, vz]
      refine ⟨.bl _, H, I, rfl, ?_⟩
      unfold eqD at q
      exact q
  | lst ds =>
    cases e with
    | leaf b => cases hk
    | tup es => cases hk
    | lst es =>
      unfold Rep at r1 r2
      obtain ⟨p, xs, rfl, t1, s1⟩ := r1
      obtain ⟨p', ys, rfl, t2, s2⟩ := r2
      cases rx; cases ry
      obtain ⟨us, v1, i1, _⟩ := I.list t1
      obtain ⟨ws, v2, i2, _⟩ := I.list t2
      unfold eqD at q
      by_cases hl : ds.length = es.length
      · have hsz : us.toArray.size = ws.toArray.size := by rw [List.size_toArray, List.size_toArray, ← v1.length, ← v2.length, ← s1.length, ← s2.length]; exact hl
        refine SeqAt.eq_listAt i1.isList i2.isList hsz hu0 (xy I hu (by unfold dep at hd; omega) s1 s2 v1 v2) ?_
        rw [List.size_toArray, ← v1.length, ← s1.length, wb hl]
        exact ⟨.bl _, H, I, rfl, q⟩
      · have hsz : (us.toArray.size != ws.toArray.size) = true := by
          rw [List.size_toArray, List.size_toArray, ← v1.length, ← v2.length, ← s1.length, ← s2.length]
          simpa using hl
        have e : zI ds es = false := by
          rw [Bool.eq_false_iff]
          intro z
          exact hl (z7 z)
        rw [e] at q
        exact SeqAt.eq_list_lengthsAt i1.isList i2.isList hsz hu0 ⟨.bl _, H, I, rfl, q⟩
theorem qDy (hu : X.A.units + 64 < cLine) : OpR X (compareOp .NotEq) (qFk X.K true) := by
  intro pins s σ H x y v u Q I rx ry h
  obtain ⟨d, e, r1, r2, hk, hd, q⟩ := h
  have hu0 : X.A.units < cLine := by omega
  cases d with
  | leaf a => cases e <;> cases hk
  | tup ds =>
    cases e with
    | leaf b => cases hk
    | lst es => cases hk
    | tup es =>
      unfold Rep at r1 r2
      obtain ⟨p, xs, rfl, t1, s1⟩ := r1
      obtain ⟨p', ys, rfl, t2, s2⟩ := r2
      cases rx; cases ry
      obtain ⟨us, v1, i1, _⟩ := I.tuple t1
      obtain ⟨ws, v2, i2, _⟩ := I.tuple t2
      refine SeqAt.RcNeAt.tuples i1 i2 hu0 (xy I hu (by unfold dep at hd; omega) s1 s2 v1 v2) _ _ _ _ ?_
      rw [List.size_toArray, List.size_toArray, ← v1.length, ← v2.length, ← s1.length, ← s2.length, vz]
      refine ⟨.bl _, H, I, rfl, ?_⟩
      unfold eqD at q
      exact q
  | lst ds =>
    cases e with
    | leaf b => cases hk
    | tup es => cases hk
    | lst es =>
      unfold Rep at r1 r2
      obtain ⟨p, xs, rfl, t1, s1⟩ := r1
      obtain ⟨p', ys, rfl, t2, s2⟩ := r2
      cases rx; cases ry
      obtain ⟨us, v1, i1, _⟩ := I.list t1
      obtain ⟨ws, v2, i2, _⟩ := I.list t2
      unfold eqD at q
      by_cases hl : ds.length = es.length
      · have hsz : us.toArray.size = ws.toArray.size := by rw [List.size_toArray, List.size_toArray, ← v1.length, ← v2.length, ← s1.length, ← s2.length]; exact hl
        refine SeqAt.RcNeAt.lists i1.isList i2.isList hsz hu0 (xy I hu (by unfold dep at hd; omega) s1 s2 v1 v2) _ _ _ _ ?_
        rw [List.size_toArray, ← v1.length, ← s1.length, wb hl]
        exact ⟨.bl _, H, I, rfl, q⟩
      · have hsz : (us.toArray.size != ws.toArray.size) = true := by
          rw [List.size_toArray, List.size_toArray, ← v1.length, ← v2.length, ← s1.length, ← s2.length]
          simpa using hl
        have e : zI ds es = false := by
          rw [Bool.eq_false_iff]
          intro z
          exact hl (z7 z)
        rw [e] at q
        exact SeqAt.RcNeAt.lists_lengths i1.isList i2.isList hsz hu0 _ _ _ _ ⟨.bl _, H, I, rfl, q⟩
end
mutual
theorem Rep.same {K : PySem.W.Frag} {H H' : Hp} (e : Same H H') : ∀ (d : D) {x : V}, Rep K H d x → Rep K H' d x
  | .leaf v, x, h => by unfold Rep at h ⊢; exact h
  | .tup ds, x, h => by
    unfold Rep at h ⊢
    obtain ⟨p, xs, h1, h2, h3⟩ := h
    exact ⟨p, xs, h1, L3.Same.tup e h2, Reps.same e ds h3⟩
  | .lst ds, x, h => by
    unfold Rep at h ⊢
    obtain ⟨p, xs, h1, h2, h3⟩ := h
    exact ⟨p, xs, h1, e.seq h2, Reps.same e ds h3⟩
theorem Reps.same {K : PySem.W.Frag} {H H' : Hp} (e : Same H H') : ∀ (ds : List D) {xs : List V}, Reps K H ds xs → Reps K H' ds xs
  | [], [], h => by unfold Reps; trivial
  | d :: ds, x :: xs, h => by
    unfold Reps at h ⊢
    exact ⟨Rep.same e d h.1, Reps.same e ds h.2⟩
  | [], _ :: _, h => by unfold Reps at h; exact h.elim
  | _ :: _, [], h => by unfold Reps at h; exact h.elim
end
end L3
set_option maxHeartbeats 4000000
namespace L3
open PySem PySem.Spec PyProof.Rows L2
end L3
set_option maxHeartbeats 4000000
namespace L3
open PySem PySem.Spec PyProof.Rows L2
end L3
set_option maxHeartbeats 4000000
namespace L3
open PySem PySem.Spec PyProof.Rows L2
theorem qEt {X : Cx} {pins : List (Addr × Obj)} {σ : L2.St} {H : Hp} {s : Shared} {h' : Heap} {t' : Nat} {ch : List Addr} (I : Inv X pins σ H s) (hf : ∀ b ∈ ch, qC9 X pins H b)
    (k : ∀ b o, b ∉ ch → s.heap.get? b = some o → h'.get? b = some o) : Inv X pins σ H { s with heap := h', toks := t' } := by
  have nit : ∀ b u, H b = some u → b ∉ ch := fun b u e z => by rw [(hf b z).1] at e; cases e
  refine I.step (g' := s.gens) (d' := s.drawn) (ch := ch) (fun b hb => ?_) (fun b o _ _ hc e _ => k b o hc e) (fun b o _ _ hc e _ => ⟨o.slots, k b o hc e⟩) (fun _ _ _ _ n => n)
    (fun b o hc e => ⟨o, k b o hc e⟩) (fun _ _ e => e) (fun _ _ _ e => e) (fun b ps e => ⟨#[], by rw [e]; simp⟩) (fun m hm => ?_) (fun b u e => ?_) I.bare
  · obtain ⟨_, f1, _, f3, f4, f5⟩ := hf b hb
    exact ⟨f3, f1, f4, f5⟩
  · obtain ⟨o, es, ep, ho, r⟩ := hm
    exact ⟨o, es, ep, k _ o (fun z => (hf _ z).2.1 rfl) ho, r⟩
  · refine (I.hok b u e).stay (fun c v hc q => k c v ?_ q) (fun _ q => q) fun _ _ q => q
    rcases hc with z | z
    · rw [z]; exact nit b u e
    · exact nit c _ z
theorem qF5 {X : Cx} {pins : List (Addr × Obj)} {σ : L2.St} {H : Hp} {s : Shared} {h' : Heap} {t' : Nat} {ch : List Addr} {xs : List V} {us : Array Value} (I : Inv X pins σ H s) (hf : ∀ b ∈ ch, qC9 X pins H b) (hlt : ∀ b ∈ ch, b < s.heap.objs.size)
    (k : ∀ b o, b ∉ ch → s.heap.get? b = some o → h'.get? b = some o) (hT : h'.get? s.heap.objs.size = some { cls := .type "tuple", data := .seq us }) (r : Vals xs us.toList) (hz : xs.length ≤ sizeLine) :
    Inv X pins σ (upd H s.heap.objs.size (.tup xs)) { s with heap := h', toks := t' } ∧ ∀ b ∈ ch, upd H s.heap.objs.size (.tup xs) b = none := by
  have hn : ∀ b ∈ ch, upd H s.heap.objs.size (.tup xs) b = none := fun b hb => by
    rw [qV (Nat.ne_of_lt (hlt b hb))]; exact (hf b hb).1
  have I1 : Inv X pins σ (upd H s.heap.objs.size (.tup xs)) { s with heap := s.heap.push { cls := .type "tuple", data := .seq us }, toks := t' } :=
    I.laid (t' := t') (fun b o e => Heap.get?_push_of_some _ e) (Nat.le_refl _) ⟨hz, us.toList, r, ⟨_, Heap.get?_push_size _ rfl, rfl, _, rfl⟩⟩
  have I2 := qEt (h' := h') (t' := t') (ch := ch) I1 (fun b hb => ⟨hn b hb, (hf b hb).2⟩) (fun b o hb e => ?_)
  · exact ⟨I2, hn⟩
  rcases Heap.get?_push_cases e with ⟨e1, e2⟩ | e1
  · rw [e1, e2]; exact hT
  · exact k b o hb e1
def Ite (K : PySem.W.Frag) (a : Addr) : It :=
  ⟨fun i H => ∃ xs x, SqL K H a xs ∧ xs[i]? = some x, fun i H x H' => ∃ p v, H p = none ∧ x = .ref p ∧ (∀ xs, SqL K H a xs → xs[i]? = some v) ∧ H' = upd H p (.tup [.int i, v]), fun i H => ∃ xs, SqL K H a xs ∧ xs.length ≤ i⟩
theorem qB2 {P : Program} {w : World} {K : PySem.W.Frag} {elts : List Expr} {k1 : Nat} {pos : Pos} (a e it : Addr) (hne : e ≠ it) :
    qFr P w K (.Tuple elts k1 pos) (Ite K a) [e, it] e (fun i h => (∃ old, IsEnum h e it (i : Nat) old) ∧ h.IsListIter it a i) where
  mem := by simp
  obj := fun i h st b hb => by
    obtain ⟨⟨old, he⟩, o, ho, c, d⟩ := st
    rcases List.mem_cons.mp hb with rfl | hb
    · exact ⟨_, he, fun v z => by cases z⟩
    · have e : b = it := by simpa using hb
      subst e
      exact ⟨o, ho, fun v z => by rw [d] at z; cases z⟩
  keep := fun i h h' st k => by
    obtain ⟨⟨old, he⟩, hi⟩ := st
    exact ⟨⟨old, k e (by simp) _ he⟩, hi.at fun o q => k it (by simp) o q⟩
  item := by
    intro X hP hw hK hc i pins s σ H E I hf st hg
    subst hP hw hK
    obtain ⟨⟨old, he⟩, hit⟩ := st
    obtain ⟨xs, x, hq, hx⟩ := hg
    obtain ⟨its, rv, p, hz⟩ := I.list hq
    obtain ⟨u, hu, ru⟩ := rv.get hx
    refine wpAny_pyNext_enum_item he hit p.isList (x := u) (by simpa using hu) hne fun h' heo hit' hT hsz hk => ?_
    refine ⟨_, rfl, wpAny_letOwnedTupleGo_enum heo fun h'' he'' hs'' => ?_⟩
    have hel : e < s.heap.objs.size := Heap.lt_size he
    have hil : it < s.heap.objs.size := by obtain ⟨_, q, _⟩ := hit; exact Heap.lt_size q
    have T := qF5 (h' := h'') (t' := s.toks + 1) (ch := [e, it]) (xs := [.int i, x]) (us := #[.int i s.toks, u]) I hf (fun b hb => by
        rcases List.mem_cons.mp hb with rfl | hb
        · exact hel
        · have z : b = it := by simpa using hb
          subst z; exact hil)
      (fun b o hb q => (hs''.2 b (fun z => hb (by simp [z]))).trans (hk b o (fun z => hb (by simp [z])) (fun z => hb (by simp [z])) q))
      ((hs''.2 _ (Nat.ne_of_gt hel)).trans hT) (.cons ⟨_, rfl⟩ (.cons ru .nil)) (by show 2 ≤ sizeLine; decide)
    refine ⟨.ref s.heap.objs.size, _, T.1, rfl, ⟨_, x, I.hok.fresh (Nat.le_refl _), rfl, fun ys hy => by rw [I.list_inj hy hq]; exact hx, rfl⟩, ⟨⟨u, by simpa using he''⟩, hit'.at fun o q => (hs''.2 it hne.symm).trans q⟩, T.2⟩
  done := by
    intro X hP hw hK hc i pins s σ H E I hf st hg
    subst hP hw hK
    obtain ⟨⟨old, he⟩, hit⟩ := st
    obtain ⟨xs, hq, hx⟩ := hg
    obtain ⟨its, rv, p, hz⟩ := I.list hq
    obtain ⟨f0, f1, f2, f3, f4, f5⟩ := hf it (by simp)
    have hl := rv.length
    exact wpAny_pyNext_enum_end (I.ok.hd hc) he hit p.isList (by simp; omega) fun h' eb => ⟨rfl, I.turned (t' := s.toks) (fun b o hb e => eb b o hb e) f0 f1 f3 f4 f5⟩
  self := fun _ _ _ _ _ st h => by
    obtain ⟨⟨old, he⟩, _⟩ := st
    exact wpAny_pyIter_enum he h
def qHc (K : PySem.W.Frag) (t : TA) : TI := fun σ H R => t σ H fun vs H1 => ∃ a, vs = [.ref a] ∧ (∃ xs, SqL K H1 a xs) ∧ R (Ite K a) H1
theorem qCf {X : Cx} {l : Expr} {tl : TA} {elts : List Expr} {k1 : Nat} {tpos p pos : Pos} (hg : Gl X "enumerate") (hm : X.mg "enumerate" = none) (hl : PA X [l] tl) (hs : starEach [l] X.env = [(false, eval l X.env)] := by rfl) :
    PI X (.Tuple elts k1 tpos) (.Call (.Name "enumerate" p) [l] [] pos) (qHc X.K tl) := by
  intro pins s σ H R I h
  refine Call_ (wH I hg hm boot_enumerate (PyProof.Rows.callWith_type1 (thn (hl pos pins s σ H _ I h) fun us s1 ⟨vs, H1, I1, r1, q1⟩ => ?_) hs rfl))
  obtain ⟨a, e, ⟨xs, hq⟩, q⟩ := q1
  subst e
  cases r1 with
  | cons r rr =>
    cases rr
    cases r
    obtain ⟨its, rv, pl, hz⟩ := I1.list hq
    refine call_enumerate_list pl.isList fun h' he hit hsz hk => ?_
    refine wpAny_pyIter_enum he ?_
    refine ⟨s1.heap.objs.size + 1, [s1.heap.objs.size + 1, s1.heap.objs.size], _, _, H1, rfl, I1.kept (t' := s1.toks) fun b o e => hk b o e, qB2 a _ _ (Nat.succ_ne_self _), ⟨⟨_, he⟩, hit⟩, fun b hb => ?_, q⟩
    rcases List.mem_cons.mp hb with rfl | hb
    · exact I1.fpOk (Nat.le_succ _) (I1.hok.fresh (Nat.le_succ _))
    · have e : b = s1.heap.objs.size := by simpa using hb
      subst e
      exact I1.fpOk (Nat.le_refl _) (I1.hok.fresh (Nat.le_refl _))
theorem wr {K : PySem.W.Frag} {a : Addr} {xs : List V} {g : TG} {tb : TS} {D : qA4} {σ : L2.St} {H : Hp} (Pv : Nat → L2.St → Hp → Prop) (h0 : Pv 0 σ H) (hl : ∀ i σ H, i ≤ xs.length → Pv i σ H → SqL K H a xs)
    (hs : ∀ i x σ H p, xs[i]? = some x → Pv i σ H → H p = none → g (.ref p) σ (upd H p (.tup [.int i, x])) fun σ2 H2 => tb { D with nx := Pv (i + 1), ct := Pv (i + 1), bk := D.nx } σ2 H2) (hd : ∀ σ H, Pv xs.length σ H → D.nx σ H) :
    ∃ W : Nat → Nat → L2.St → Hp → Prop, (∃ m, W 0 m σ H) ∧ ∀ i m σ H, W i m σ H →
      ((Ite K a).stop i H ∧ D.nx σ H) ∨ ((Ite K a).go i H ∧ ∃ N : L2.St → Hp → Prop, (∀ σ' H', N σ' H' → ∃ m', m' < m ∧ W (i + 1) m' σ' H') ∧ ∀ x H', (Ite K a).yld i H x H' → g x σ H' fun σ2 H2 => tb { D with nx := N, ct := N, bk := D.nx } σ2 H2) := by
  refine ⟨fun i m σ H => m = xs.length - i ∧ i ≤ xs.length ∧ Pv i σ H, ⟨xs.length, by simp, Nat.zero_le _, h0⟩, ?_⟩
  rintro i m σ H ⟨rfl, hi, p⟩
  have q := hl i σ H hi p
  by_cases hlt : i < xs.length
  · refine .inr ⟨⟨xs, xs[i], q, by simp [hlt]⟩, Pv (i + 1), fun σ' H' p' => ⟨xs.length - (i + 1), by omega, rfl, hlt, p'⟩, fun x H' y => ?_⟩
    obtain ⟨z, v, hz, rfl, y, rfl⟩ := y
    exact hs i v σ _ z (y xs q) p hz
  · have e : i = xs.length := by omega
    subst e
    exact .inl ⟨⟨xs, q, Nat.le_refl _⟩, hd σ H p⟩
def qH7 (t : TT) : TT := fun σ H Q => ∃ R : Bool → Hp → Prop, t σ H R ∧ ∀ b H', R b H' → Q b H'
theorem wK {X : Cx} {e : Expr} {t : TT} (h : PT X e t) : PT X e (qH7 t) := by
  rintro pins s σ H Q I ⟨R, ht, hR⟩
  exact thn (h pins s σ H R I ht) fun b s' ⟨H', I', r⟩ => ⟨H', I', hR b H' r⟩
end L3
set_option maxHeartbeats 4000000
namespace L3
open PySem PySem.Spec PyProof.Rows L2
end L3
set_option maxHeartbeats 4000000
namespace L3
open PySem PySem.Spec PyProof.Rows L2
theorem KV.get {κ : Type} {kvs : List (κ × V)} {vs : List (κ × Value)} (r : KV kvs vs) {i : Nat} {k : κ} {v : V} (h : kvs[i]? = some (k, v)) : ∃ u, vs[i]? = some (k, u) ∧ RelV v u := by
  induction r generalizing i with
  | nil => simp at h
  | @cons p q ps qs hpq _ ih =>
    cases i with
    | zero =>
      have e : p = (k, v) := by simpa using h
      subst e
      obtain ⟨k', u⟩ := q
      have e : k = k' := hpq.1
      subst e
      exact ⟨u, rfl, hpq.2⟩
    | succ i => exact ih (by simpa using h)
section
variable {P : Program} {w : World} {K : PySem.W.Frag}
end
end L3
set_option maxHeartbeats 4000000
namespace L3
open PySem PySem.Spec PyProof.Rows L2
theorem vj {X : Cx} : CallR X (.builtin "isinstance") (fun xs H Q => ∃ (p : Addr) (n t : String) (b : Bool), xs = [.ref p, .ty n] ∧ ((∃ ys, SqT X.K H p ys ∧ t = "tuple") ∨ ∃ kvs : List (Key × V), Rd H p (.dK kvs) ∧ t = "dict") ∧ PySem.W.kitOne X.K (.type t) (.type n) = some b ∧ Q (.bl b) H) := by
  intro pins s σ H xs us Q I r h
  obtain ⟨p, n, t, b, rfl, ht, e, q⟩ := h
  obtain ⟨u, w', rfl, ru, rw'⟩ := qEe r
  cases ru
  have ew : w' = .type n := rw'
  subst ew
  rcases ht with ⟨ys, hy, rfl⟩ | ⟨kvs, hk, rfl⟩
  · obtain ⟨its, _, ⟨o, h1, h2, _⟩, _⟩ := I.tuple hy
    exact PySem.W.kia_one PySem.W.kitx_tuple I.kIn ⟨o, h1, h2⟩ e (fun z => nomatch z) fun tk => ⟨.bl b, H, I.tok tk, rfl, q⟩
  · obtain ⟨_, _, vs, _, o, es, ep, h1, h2, _⟩ := qFc I.hok hk
    exact PySem.W.kia_one PySem.W.kitx_dict I.kIn ⟨o, h1, h2.1⟩ e (fun z => nomatch z) fun tk => ⟨.bl b, H, I.tok tk, rfl, q⟩
def EqIn (P : Program) (w : World) (A : Around) (s : Shared) (y x : Value) : Prop := ∀ (E : Value → Shared → Prop) (Q : Bool → Shared → Prop), Q true s → wpAny (model P w) A (eqBool y x) Q E s
theorem EqIn.rc {P : Program} {w : World} {A : Around} {s : Shared} {l b : Addr} (h : ∀ (E : Value → Shared → Prop) (Q : Value → Shared → Prop), Q (.bool true) s → wpAny (model P w) A (richCompare .Eq (.ref l) (.ref b)) Q E s) : EqIn P w A s (.ref l) (.ref b) := by
  by_cases e : l = b
  · subst e
    exact fun E Q hq => SeqAt.EqAt.same _ P w E Q hq
  · intro E Q hq
    unfold eqBool
    refine wpAny_holding (wpAny_ite_split (fun z => ?_) (fun _ => ?_))
    · have := eq_of_beq z
      injection this with this
      exact absurd this e
    · exact wpAny_bind (h E _ (wpAny_truthy_bool hq))
def DEq (K : PySem.W.Frag) (H : Hp) (a b : Addr) : Prop := ∃ ka kb : List (Key × V), Rd H a (.dK ka) ∧ Rd H b (.dK kb) ∧ ka.length = kb.length ∧ ∀ p ∈ ka, ∃ v d, wl kb p.1 = some v ∧ Rep K H d p.2 ∧ Rep K H d v ∧ eqD d d = true ∧ dep d ≤ 50
section
variable {X : Cx} {pins : List (Addr × Obj)} {σ : L2.St} {H : Hp} {s : Shared}
theorem qEj (I : Inv X pins σ H s) {A : Around} (hu : A.units + 50 < cLine) {kb : List (Key × V)} {vb : List (Key × Value)} (rb : KV kb vb) : ∀ {ka : List (Key × V)} {va : List (Key × Value)}, KV ka va →
    (∀ p ∈ ka, ∃ v d, wl kb p.1 = some v ∧ Rep X.K H d p.2 ∧ Rep X.K H d v ∧ eqD d d = true ∧ dep d ≤ 50) → PySem.W.KeqHits A s vb va true := by
  intro ka va r
  unfold KV at r
  induction r with
  | nil => exact fun _ => .nil
  | @cons p q ps qs h t ih =>
    intro hp
    obtain ⟨h1, h2⟩ := h
    obtain ⟨v, d, e, r1, r2, g, hd⟩ := hp p (by simp)
    have rv := rb.val p.1
    rw [e] at rv
    cases w : valueAt vb p.1 with
    | none => rw [w] at rv; exact (show False from rv).elim
    | some y =>
      rw [w] at rv
      have rv : RelV v y := rv
      have ea := qDw I 50 A d d p.2 v q.2 y hd hu r1 r2 h2 rv
      rw [g] at ea
      have hq : q = (p.1, q.2) := by rw [h1]
      have k := PySem.W.KeqHits.hit (A := A) (s := s) (kb := vb) (k := p.1) (v := q.2) (e := true) w ea (ih fun x hx => hp x (by simp [hx]))
      rw [hq]
      exact k
theorem DEq.at (I : Inv X pins σ H s) {A : Around} (hu : A.units + 51 < cLine) {a b : Addr} (h : DEq X.K H a b) : EqIn X.prog X.w A s (.ref a) (.ref b) := by
  obtain ⟨ka, kb, ra, rb, hl, hh⟩ := h
  obtain ⟨_, na, va, qa, da⟩ := qFc I.hok ra
  obtain ⟨_, nb, vb, qb, db⟩ := qFc I.hok rb
  refine EqIn.rc fun E Q hq => ?_
  refine PySem.W.keq_eq (r := true) na nb da db (by omega) (fun _ => qEj I (by show A.units + 1 + 50 < cLine; omega) qb qa hh) ?_
  have e : (va.length == vb.length) = true := by rw [← qa.length, ← qb.length, hl]; simp
  rw [e]
  exact hq
end
end L3
set_option maxHeartbeats 4000000
set_option maxRecDepth 100000
namespace L3
open PySem PySem.Spec PyProof.Rows L2
theorem KV.keys {kvs : List (Key × V)} {vs : List (Key × Value)} (r : KV kvs vs) : vs.map (·.1) = kvs.map (·.1) := by
  induction r with
  | nil => rfl
  | cons h _ ih => rw [List.map_cons, List.map_cons, ih, h.1]
end L3
set_option maxHeartbeats 4000000
namespace L3
open PySem PySem.Spec PyProof.Rows L2
end L3
set_option maxHeartbeats 4000000
namespace L3
open PySem PySem.Spec PyProof.Rows L2
end L3
set_option maxHeartbeats 4000000
namespace L3
open PySem PySem.Spec PyProof.Rows L2
variable {X : Cx}
end L3
set_option maxHeartbeats 4000000
namespace L3
open PySem PySem.Spec PyProof.Rows L2 PySem.NumText PySem.Builtin.Str
def qHq (l : List Nat) : List Nat := if l.head? = some 45 then l.tail else l
def qIi (c : Nat) : Bool := !(occurrences "0123456789" ⟨#[c]⟩ 0 ("0123456789" : Str).length 1).isEmpty
structure Fig (l : List Nat) : Prop where
  ne : qHq l ≠ []
  len : (qHq l).length ≤ 60
  all : (qHq l).all qIi = true
end L3
set_option maxHeartbeats 4000000
namespace L3
open PySem PySem.Spec PyProof.Rows L2 PySem.NumText PySem.Builtin.Str
inductive qDc (l : List Nat) : List Str → Prop where
  | none (h : l = []) : qDc l []
  | one {p : Str} (h : l = p.cps.toList) (hf : 47 ∉ l) : qDc l [p]
  | two {p q : Str} (h : l = p.cps.toList ++ 47 :: q.cps.toList) (hp : 47 ∉ p.cps.toList) (hq : 47 ∉ q.cps.toList) : qDc l [p, q]
  | more {p q r : Str} {t : List Str} (rest : List Nat) (h : l = p.cps.toList ++ 47 :: rest) (hp : 47 ∉ p.cps.toList) (hq : 47 ∈ rest) : qDc l (p :: q :: r :: t)
end L3
set_option maxHeartbeats 4000000
namespace L3
open PySem PySem.Spec PyProof.Rows L2
theorem qAe {X : Cx} {K : PySem.W.Frag} {e : Expr} {f : Str} {pos : Pos} {ta : TE} (h : X.K = K) (he : PE X e ta) (hb : attributeBase e f X.env (eval e X.env) = eval e X.env := by rfl) : PE X (.Attribute e f pos) (qGg K ta f) := h ▸ qEy he hb
end L3
set_option maxHeartbeats 4000000
set_option maxRecDepth 100000
namespace Lw
open PySem L2 L3 Mt
seal L2.PSs L2.PS L2.PE L2.PA L2.PT L2.PW L2.PC L2.PI L2.PG L2.PGs L2.PO
def top (i : Nat) : Stmt := PySem.Challenge.pw_reelcut_k83_lists_refused.main.body.getD i (.Pass ⟨0, 0, 0, 0⟩)
abbrev j8 : Stmt := top 6
abbrev jE : Stmt := top 7
abbrev jZ : Stmt := top 8
abbrev j6 : Stmt := top 9
abbrev xq : Stmt := top 10
abbrev j7 : Stmt := top 11
abbrev xA : Stmt := top 12
abbrev jv : Stmt := top 13
abbrev j9 : Stmt := top 14
abbrev xS : Stmt := top 15
abbrev xR : Stmt := top 20
abbrev jK : Stmt := top 21
abbrev jw : Stmt := top 23
abbrev jJ : Stmt := top 24
abbrev qk : Stmt := top 25
abbrev jh : Stmt := top 26
abbrev xQ : Stmt := top 31
abbrev jY : Stmt := top 32
abbrev jD : Stmt := top 33
abbrev xt : Stmt := top 34
abbrev xK : Stmt := top 35
abbrev xM : Stmt := top 36
abbrev jN : Stmt := top 37
abbrev jj : Stmt := top 38
abbrev ji : Stmt := top 39
abbrev jP : Stmt := top 40
abbrev jt : Stmt := top 41
abbrev jO : Stmt := top 43
abbrev jg : Stmt := top 44
abbrev jz : Stmt := top 45
abbrev jf : Stmt := top 46
abbrev j0 : Stmt := top 47
abbrev jR : Stmt := top 48
abbrev jQ : Stmt := top 49
abbrev jr : Stmt := top 50
abbrev jb : Stmt := top 51
abbrev jX : Stmt := top 52
abbrev ja : Stmt := top 53
abbrev qt : Stmt := top 54
abbrev jx : Stmt := top 55
abbrev vR : Stmt := top 56
theorem kX : qX ["x"] ["x"] (qG j8) := ⟨rfl, rfl, rfl, by decide +kernel, rfl, by decide +kernel, by decide +kernel⟩
theorem sc_common_divisor : qX ["one", "other", "rest"] ["one", "other"] (qG jE) := ⟨rfl, rfl, rfl, by decide +kernel, rfl, by decide +kernel, by decide +kernel⟩
theorem kr : qX ["x"] ["x"] (qG jZ) := ⟨rfl, rfl, rfl, by decide +kernel, rfl, by decide +kernel, by decide +kernel⟩
theorem sc_fraction : qX ["top", "bottom", "divisor"] ["top", "bottom"] (qG j6) := ⟨rfl, rfl, rfl, by decide +kernel, rfl, by decide +kernel, by decide +kernel⟩
theorem qBt : qX ["one", "other"] ["one", "other"] (qG xq) := ⟨rfl, rfl, rfl, by decide +kernel, rfl, by decide +kernel, by decide +kernel⟩
theorem wj : qX ["one", "other"] ["one", "other"] (qG j7) := ⟨rfl, rfl, rfl, by decide +kernel, rfl, by decide +kernel, by decide +kernel⟩
theorem wR : qX ["one", "other"] ["one", "other"] (qG xA) := ⟨rfl, rfl, rfl, by decide +kernel, rfl, by decide +kernel, by decide +kernel⟩
theorem wE : qX ["one", "other"] ["one", "other"] (qG jv) := ⟨rfl, rfl, rfl, by decide +kernel, rfl, by decide +kernel, by decide +kernel⟩
theorem wZ : qX ["one"] ["one"] (qG j9) := ⟨rfl, rfl, rfl, by decide +kernel, rfl, by decide +kernel, by decide +kernel⟩
theorem qAs : qX ["one"] ["one"] (qG xS) := ⟨rfl, rfl, rfl, by decide +kernel, rfl, by decide +kernel, by decide +kernel⟩
theorem qAt : qX ["thing"] ["thing"] (qG xR) := ⟨rfl, rfl, rfl, by decide +kernel, rfl, by decide +kernel, by decide +kernel⟩
theorem zh : qX ["item"] ["item"] (qG jK) := ⟨rfl, rfl, rfl, by decide +kernel, rfl, by decide +kernel, by decide +kernel⟩
theorem wN : qX ["thing"] ["thing"] (qG jw) := ⟨rfl, rfl, rfl, by decide +kernel, rfl, by decide +kernel, by decide +kernel⟩
theorem zn : qX ["item"] ["item"] (qG jJ) := ⟨rfl, rfl, rfl, by decide +kernel, rfl, by decide +kernel, by decide +kernel⟩
theorem xc : qX ["item"] ["item"] (qG qk) := ⟨rfl, rfl, rfl, by decide +kernel, rfl, by decide +kernel, by decide +kernel⟩
theorem vJ : qX ["item"] ["item"] (qG jh) := ⟨rfl, rfl, rfl, by decide +kernel, rfl, by decide +kernel, by decide +kernel⟩
theorem qAn : qX ["thing"] ["thing"] (qG xQ) := ⟨rfl, rfl, rfl, by decide +kernel, rfl, by decide +kernel, by decide +kernel⟩
theorem x9 : qX ["rate", "other"] ["rate", "other"] (qG jY) := ⟨rfl, rfl, rfl, by decide +kernel, rfl, by decide +kernel, by decide +kernel⟩
theorem zR : qX ["item"] ["item"] (qG jD) := ⟨rfl, rfl, rfl, by decide +kernel, rfl, by decide +kernel, by decide +kernel⟩
theorem sc_row_at : qX ["border", "by", "what", "place"] ["border", "by", "what"] (qG xt) := ⟨rfl, rfl, rfl, by decide +kernel, rfl, by decide +kernel, by decide +kernel⟩
theorem sc_written : qX ["track", "rate", "other", "by", "rows", "border", "item"] ["track", "rate", "other"] (qG xK) := ⟨rfl, rfl, rfl, by decide +kernel, rfl, by decide +kernel, by decide +kernel⟩
theorem qAh : qX ["what"] ["what"] (qG xM) := ⟨rfl, rfl, rfl, by decide +kernel, rfl, by decide +kernel, by decide +kernel⟩
theorem kN : qX ["row"] ["row"] (qG jN) := ⟨rfl, rfl, rfl, by decide +kernel, rfl, by decide +kernel, by decide +kernel⟩
theorem vV : qX ["kind", "ahead"] ["kind", "ahead"] (qG jj) := ⟨rfl, rfl, rfl, by decide +kernel, rfl, by decide +kernel, by decide +kernel⟩
theorem vC : qX ["border", "borders", "ahead"] ["border", "borders", "ahead"] (qG ji) := ⟨rfl, rfl, rfl, by decide +kernel, rfl, by decide +kernel, by decide +kernel⟩
theorem sc_borders_read : qX ["rows", "rate", "other", "by", "borders", "ahead", "number", "row", "place"] ["rows", "rate", "other"] (qG jP) := ⟨rfl, rfl, rfl, by decide +kernel, rfl, by decide +kernel, by decide +kernel⟩
theorem sc_read_back : qX ["rows", "rate", "other", "borders", "track", "number", "row", "what"] ["rows", "rate", "other"] (qG jt) := ⟨rfl, rfl, rfl, by decide +kernel, rfl, by decide +kernel, by decide +kernel⟩
theorem kK : qX ["_law_script", "_law_k"] ["_law_script", "_law_k"] (qG jO) := ⟨rfl, rfl, rfl, by decide +kernel, rfl, by decide +kernel, by decide +kernel⟩
theorem sc__law_drawn : qX ["_law_number", "_law_many", "_law_found", "_law_x", "_law_k"] ["_law_number", "_law_many"] (qG jg) := ⟨rfl, rfl, rfl, by decide +kernel, rfl, by decide +kernel, by decide +kernel⟩
theorem sc__law_part : qX ["_law_x", "_law_cell", "_law_step", "_law_start", "_law_length"] ["_law_x", "_law_cell"] (qG jz) := ⟨rfl, rfl, rfl, by decide +kernel, rfl, by decide +kernel, by decide +kernel⟩
theorem sc__law_track : qX ["_law_cells", "_law_track_here", "_law_k", "_law_x", "_law_item"] ["_law_cells"] (qG jf) := ⟨rfl, rfl, rfl, by decide +kernel, rfl, by decide +kernel, by decide +kernel⟩
theorem wC : qX ["_law_x"] ["_law_x"] (qG j0) := ⟨rfl, rfl, rfl, by decide +kernel, rfl, by decide +kernel, by decide +kernel⟩
theorem sc__law_spoiled : qX ["_law_row", "_law_x", "_law_whole", "_law_rest", "_law_what", "_law_some", "_law_far"] ["_law_row", "_law_x"] (qG jR) := ⟨rfl, rfl, rfl, by decide +kernel, rfl, by decide +kernel, by decide +kernel⟩
theorem sc__law_changed : qX ["_law_rows", "_law_x", "_law_y", "_law_at"] ["_law_rows", "_law_x", "_law_y"] (qG jQ) := ⟨rfl, rfl, rfl, by decide +kernel, rfl, by decide +kernel, by decide +kernel⟩
theorem wO : qX ["_law_what"] ["_law_what"] (qG jr) := ⟨rfl, rfl, rfl, by decide +kernel, rfl, by decide +kernel, by decide +kernel⟩
theorem sc__law_lowest : qX ["_law_one", "_law_low", "_law_high"] ["_law_one"] (qG jb) := ⟨rfl, rfl, rfl, by decide +kernel, rfl, by decide +kernel, by decide +kernel⟩
theorem sc__law_border : qX ["_law_row", "_law_rate_here", "_law_other", "_law_whole", "_law_rest", "_law_what", "_law_top", "_law_bottom"] ["_law_row", "_law_rate_here", "_law_other"] (qG jX) := ⟨rfl, rfl, rfl, by decide +kernel, rfl, by decide +kernel, by decide +kernel⟩
theorem ki : qX ["_law_now", "_law_word", "_law_border_here", "_law_ahead"] ["_law_now", "_law_word", "_law_border_here", "_law_ahead"] (qG ja) := ⟨rfl, rfl, rfl, by decide +kernel, rfl, by decide +kernel, by decide +kernel⟩
theorem sc__law_first_wrong : qX ["_law_rows", "_law_rate_here", "_law_other", "_law_ahead", "_law_now", "_law_at", "_law_border_here"] ["_law_rows", "_law_rate_here", "_law_other"] (qG qt) := ⟨rfl, rfl, rfl, by decide +kernel, rfl, by decide +kernel, by decide +kernel⟩
theorem sc__law_told : qX ["_law_rows", "_law_rate_here", "_law_other", "_law_found", "e"] ["_law_rows", "_law_rate_here", "_law_other"] (qG jx) := ⟨rfl, rfl, rfl, by decide +kernel, rfl, by decide +kernel, by decide +kernel⟩
theorem sc_law : qX ["_law_script", "_law_cell", "_law_xs", "_law_rate_here", "_law_other", "_law_good", "_law_rows", "_law_third", "_law_due", "_law_found", "_law_rates"] ["_law_script"] (qG vR) := ⟨rfl, rfl, rfl, by decide +kernel, rfl, by decide +kernel, by decide +kernel⟩
abbrev xN : Stmt := qEc (top 4) 0
theorem qA1 : qX ["self", "at"] ["self", "at"] (qG xN) := ⟨rfl, rfl, rfl, by decide +kernel, rfl, by decide +kernel, by decide +kernel⟩
set_option genInjectivity false
set_option genSizeOf false
structure Ads where
  a_is_whole : Addr
  f_is_whole : FuncData
  a_common_divisor : Addr
  f_common_divisor : FuncData
  a_is_fraction : Addr
  f_is_fraction : FuncData
  a_fraction : Addr
  f_fraction : FuncData
  a_sum_of : Addr
  f_sum_of : FuncData
  a_times_of : Addr
  f_times_of : FuncData
  a_quotient : Addr
  f_quotient : FuncData
  a_is_before : Addr
  f_is_before : FuncData
  a_floor_of : Addr
  f_floor_of : FuncData
  a_rest_of : Addr
  f_rest_of : FuncData
  a_is_name : Addr
  f_is_name : FuncData
  a_has_clip_form : Addr
  f_has_clip_form : FuncData
  a_is_length : Addr
  f_is_length : FuncData
  a_has_nest_form : Addr
  f_has_nest_form : FuncData
  a_has_gap_or_mix_form : Addr
  f_has_gap_or_mix_form : FuncData
  a_moments_of : Addr
  f_moments_of : FuncData
  a_is_rate : Addr
  f_is_rate : FuncData
  a_check_rates : Addr
  f_check_rates : FuncData
  a_without_length : Addr
  f_without_length : FuncData
  a_row_at : Addr
  f_row_at : FuncData
  a_written : Addr
  f_written : FuncData
  a_is_what : Addr
  f_is_what : FuncData
  a_has_row_form : Addr
  f_has_row_form : FuncData
  a_may_follow : Addr
  f_may_follow : FuncData
  a_lies_right : Addr
  f_lies_right : FuncData
  a_borders_read : Addr
  f_borders_read : FuncData
  a_read_back : Addr
  f_read_back : FuncData
  a__law_cell_at : Addr
  f__law_cell_at : FuncData
  a__law_drawn : Addr
  f__law_drawn : FuncData
  a__law_part : Addr
  f__law_part : FuncData
  a__law_track : Addr
  f__law_track : FuncData
  a__law_rate : Addr
  f__law_rate : FuncData
  a__law_spoiled : Addr
  f__law_spoiled : FuncData
  a__law_changed : Addr
  f__law_changed : FuncData
  a__law_said : Addr
  f__law_said : FuncData
  a__law_lowest : Addr
  f__law_lowest : FuncData
  a__law_border : Addr
  f__law_border : FuncData
  a__law_stands : Addr
  f__law_stands : FuncData
  a__law_first_wrong : Addr
  f__law_first_wrong : FuncData
  a__law_told : Addr
  f__law_told : FuncData
  a_law : Addr
  f_law : FuncData
  k_CutError : Addr
  k_NoNumber : Addr
  k_NoText : Addr
  k_NoList : Addr
  t_LETTERS : Tok
  t_LONGEST_NAME : Tok
  n_NOUGHT : Addr
  n_ONE : Addr
  n_END : Addr
  n_GAP : Addr
  fi_NoList : Addr
  gi_NoList : FuncData
structure Tx (K : PySem.W.Frag) (mg : Str → Option Value) (a : Ads) : Prop where
  d_is_whole : L3.Def K mg "is_whole" j8 ["x"] a.a_is_whole a.f_is_whole
  d_common_divisor : L3.Def K mg "common_divisor" jE ["one", "other"] a.a_common_divisor a.f_common_divisor
  d_is_fraction : L3.Def K mg "is_fraction" jZ ["x"] a.a_is_fraction a.f_is_fraction
  d_fraction : L3.Def K mg "fraction" j6 ["top", "bottom"] a.a_fraction a.f_fraction
  d_sum_of : L3.Def K mg "sum_of" xq ["one", "other"] a.a_sum_of a.f_sum_of
  d_times_of : L3.Def K mg "times_of" j7 ["one", "other"] a.a_times_of a.f_times_of
  d_quotient : L3.Def K mg "quotient" xA ["one", "other"] a.a_quotient a.f_quotient
  d_is_before : L3.Def K mg "is_before" jv ["one", "other"] a.a_is_before a.f_is_before
  d_floor_of : L3.Def K mg "floor_of" j9 ["one"] a.a_floor_of a.f_floor_of
  d_rest_of : L3.Def K mg "rest_of" xS ["one"] a.a_rest_of a.f_rest_of
  d_is_name : L3.Def K mg "is_name" xR ["thing"] a.a_is_name a.f_is_name
  d_has_clip_form : L3.Def K mg "has_clip_form" jK ["item"] a.a_has_clip_form a.f_has_clip_form
  d_is_length : L3.Def K mg "is_length" jw ["thing"] a.a_is_length a.f_is_length
  d_has_nest_form : L3.Def K mg "has_nest_form" jJ ["item"] a.a_has_nest_form a.f_has_nest_form
  d_has_gap_or_mix_form : L3.Def K mg "has_gap_or_mix_form" qk ["item"] a.a_has_gap_or_mix_form a.f_has_gap_or_mix_form
  d_moments_of : L3.Def K mg "moments_of" jh ["item"] a.a_moments_of a.f_moments_of
  d_is_rate : L3.Def K mg "is_rate" xQ ["thing"] a.a_is_rate a.f_is_rate
  d_check_rates : L3.Def K mg "check_rates" jY ["rate", "other"] a.a_check_rates a.f_check_rates
  d_without_length : L3.Def K mg "without_length" jD ["item"] a.a_without_length a.f_without_length
  d_row_at : L3.Def K mg "row_at" xt ["border", "by", "what"] a.a_row_at a.f_row_at
  d_written : L3.Def K mg "written" xK ["track", "rate", "other"] a.a_written a.f_written
  d_is_what : L3.Def K mg "is_what" xM ["what"] a.a_is_what a.f_is_what
  d_has_row_form : L3.Def K mg "has_row_form" jN ["row"] a.a_has_row_form a.f_has_row_form
  d_may_follow : L3.Def K mg "may_follow" jj ["kind", "ahead"] a.a_may_follow a.f_may_follow
  d_lies_right : L3.Def K mg "lies_right" ji ["border", "borders", "ahead"] a.a_lies_right a.f_lies_right
  d_borders_read : L3.Def K mg "borders_read" jP ["rows", "rate", "other"] a.a_borders_read a.f_borders_read
  d_read_back : L3.Def K mg "read_back" jt ["rows", "rate", "other"] a.a_read_back a.f_read_back
  d__law_cell_at : L3.Def K mg "_law_cell_at" jO ["_law_script", "_law_k"] a.a__law_cell_at a.f__law_cell_at
  d__law_drawn : L3.Def K mg "_law_drawn" jg ["_law_number", "_law_many"] a.a__law_drawn a.f__law_drawn
  d__law_part : L3.Def K mg "_law_part" jz ["_law_x", "_law_cell"] a.a__law_part a.f__law_part
  d__law_track : L3.Def K mg "_law_track" jf ["_law_cells"] a.a__law_track a.f__law_track
  d__law_rate : L3.Def K mg "_law_rate" j0 ["_law_x"] a.a__law_rate a.f__law_rate
  d__law_spoiled : L3.Def K mg "_law_spoiled" jR ["_law_row", "_law_x"] a.a__law_spoiled a.f__law_spoiled
  d__law_changed : L3.Def K mg "_law_changed" jQ ["_law_rows", "_law_x", "_law_y"] a.a__law_changed a.f__law_changed
  d__law_said : L3.Def K mg "_law_said" jr ["_law_what"] a.a__law_said a.f__law_said
  d__law_lowest : L3.Def K mg "_law_lowest" jb ["_law_one"] a.a__law_lowest a.f__law_lowest
  d__law_border : L3.Def K mg "_law_border" jX ["_law_row", "_law_rate_here", "_law_other"] a.a__law_border a.f__law_border
  d__law_stands : L3.Def K mg "_law_stands" ja ["_law_now", "_law_word", "_law_border_here", "_law_ahead"] a.a__law_stands a.f__law_stands
  d__law_first_wrong : L3.Def K mg "_law_first_wrong" qt ["_law_rows", "_law_rate_here", "_law_other"] a.a__law_first_wrong a.f__law_first_wrong
  d__law_told : L3.Def K mg "_law_told" jx ["_law_rows", "_law_rate_here", "_law_other"] a.a__law_told a.f__law_told
  d_law : L3.Def K mg "law" vR ["_law_script"] a.a_law a.f_law
  c_CutError : mg "CutError" = some (.ref a.k_CutError)
  c_NoNumber : mg "NoNumber" = some (.ref a.k_NoNumber)
  c_NoText : mg "NoText" = some (.ref a.k_NoText)
  c_NoList : mg "NoList" = some (.ref a.k_NoList)
  b_isinstance : mg "isinstance" = none
  b_int : mg "int" = none
  b_bool : mg "bool" = none
  b_abs : mg "abs" = none
  b_tuple : mg "tuple" = none
  b_len : mg "len" = none
  b_all : mg "all" = none
  b_str : mg "str" = none
  b_enumerate : mg "enumerate" = none
  b_range : mg "range" = none
  b_list : mg "list" = none
  g_LETTERS : mg "LETTERS" = some (.str "abcdefghijklmnopqrstuvwxyz" a.t_LETTERS)
  g_LONGEST_NAME : mg "LONGEST_NAME" = some (.int 8 a.t_LONGEST_NAME)
  g_NOUGHT : mg "NOUGHT" = some (.ref a.n_NOUGHT)
  sq_NOUGHT : ∀ H, SqT K H a.n_NOUGHT [.int 0, .int 1]
  g_ONE : mg "ONE" = some (.ref a.n_ONE)
  sq_ONE : ∀ H, SqT K H a.n_ONE [.int 1, .int 1]
  g_END : mg "END" = some (.ref a.n_END)
  sq_END : ∀ H, SqT K H a.n_END [.str "end"]
  g_GAP : mg "GAP" = some (.ref a.n_GAP)
  sq_GAP : ∀ H, SqT K H a.n_GAP [.str "gap"]
  x_NoNumber : L3.OwnX K a.k_NoNumber
  e_NoList : L3.ExcK K a.k_NoList
  m_NN : PySem.W.exmOne K (.ref a.k_NoNumber) (.ref a.k_NoNumber) = some true
  m_LN : PySem.W.exmOne K (.ref a.k_NoList) (.ref a.k_NoNumber) = some false
  m_LL : PySem.W.exmOne K (.ref a.k_NoList) (.ref a.k_NoList) = some true
  i_LT : PySem.W.kitOne K (.ref a.k_NoList) (.ref a.k_NoText) = some false
  i_LC : PySem.W.kitOne K (.ref a.k_NoList) (.ref a.k_CutError) = some true
  f_at : PySem.W.findIn K (.ref a.k_NoList) "at" = some none
  i_NoList : Fun K "__init__" "NoList.__init__" xN a.fi_NoList a.gi_NoList
  ib_NoList : Binds K a.gi_NoList ["self", "at"] []
  m_NoList : L3.XMk K a.k_NoList a.k_CutError a.fi_NoList
  tk_NoList : PySem.W.takerIn K a.k_NoList "at" = some none
def qDp (K : PySem.W.Frag) : Sp := fun vs H Q _ => ∃ (a : Addr) (ns : List Int), vs = [.ref a] ∧ SqL K H a (ns.map V.int) ∧ ns.length ≤ 63 ∧ ∀ H', Q (.bl true) H'
def qEs (H : Hp) (Q : VK) (p q : Int) : Prop := ∀ z, H z = none → Q (.ref z) (upd H z (.tup [.int p, .int q]))
theorem xG {CX : CXT} {P : Program} {w : World} {K : PySem.W.Frag} {mg : Str → Option Value} {base : Heap} {ns : List Str} {n : Str} {sc : Scope} {ad : Addr} {cdv : Value} {A : Around} {outer : List Env} {s : Shared} {H : Hp} {E : XK} : (qCq CX P w K mg base ns n sc ad cdv A outer s H E).K = K := rfl
theorem jG {CX : CXT} {P : Program} {w : World} {K : PySem.W.Frag} {mg : Str → Option Value} {base : Heap} {ns : List Str} {n : Str} {sc : Scope} {ad : Addr} {cdv : Value} {A : Around} {outer : List Env} {s : Shared} {H : Hp} {E : XK} : (qCq CX P w K mg base ns n sc ad cdv A outer s H E).nox.K = K := rfl
theorem sL0 : (0 : Nat) ≤ sizeLine := by decide
theorem sL1 : (1 : Nat) ≤ sizeLine := by decide
theorem sL2 : (2 : Nat) ≤ sizeLine := by decide
theorem sL3 : (3 : Nat) ≤ sizeLine := by decide
theorem sL4 : (4 : Nat) ≤ sizeLine := by decide
theorem sL5 : (5 : Nat) ≤ sizeLine := by decide
theorem glt {α : Type} {xs : List α} {i : Nat} {x : α} (h : xs[i]? = some x) : i < xs.length := (List.getElem?_eq_some_iff.mp h).1
theorem xT {K : PySem.W.Frag} {σ : St} {H : Hp} {p : Addr} {xs : List V} {i : Int} {v : V} {Q : VK} {j : Nat} (e : σ[j]? = some (some (.ref p))) (h : SqT K H p xs) (a : atI xs i = some v) (q : Q v H) : tOp (qHy K) (qHw j) (tC (.int i)) σ H Q := ⟨.ref p, e, p, xs, i, v, rfl, rfl, h, a, q⟩
section
variable {P : Program} {w : World} {K : W.Frag} {mg : Str → Option Value} {base : Heap} {a : Ads}
def wT : Sp := fun vs H Q _ => ∃ i : Int, vs = [.int i] ∧ Q (.bl true) H
theorem xX (T : Tx K mg a) : FnOk P w K mg base CX0 1 a.a_is_whole a.f_is_whole ["x"] wT := by
  refine T.d_is_whole.F.ok kX (fun vs H Q E h => ?_) (fun cdv A outer s H vs Q E hr h => ?_)
  · obtain ⟨i, rfl, _⟩ := h
    rfl
  obtain ⟨i, rfl, q⟩ := h
  refine ⟨_, (qH (qK (xa (qU qm rfl T.b_isinstance rfl (qA (pv 0) (qA (zD rfl T.b_int rfl) qE))) (xF (qBs (qU qm rfl T.b_isinstance rfl (qA (pv 0) (qA (zD rfl T.b_bool rfl) qE)))))))), ?_⟩
  try dsimp only [xG, jG]
  refine ⟨_, rfl, _, _, _, true, rfl, .int i, ⟨_, .inl ⟨rfl, rfl⟩⟩, true, rfl, jI ?_⟩
  refine ⟨_, rfl, _, _, _, false, rfl, .int i, ⟨_, .inl ⟨rfl, by kernel_rfl⟩⟩, false, rfl, ?_⟩
  exact q
def zT : Sp := fun vs H Q _ => ∃ i j : Int, vs = [.int i, .int j] ∧ Q (.int ((Int.gcd i j : Nat) : Int)) H
theorem xL (T : Tx K mg a) : FnOk P w K mg base CX0 1 a.a_common_divisor a.f_common_divisor ["one", "other"] zT := by
  refine T.d_common_divisor.F.ok sc_common_divisor (fun vs H Q E h => ?_) (fun cdv A outer s H vs Q E hr h => ?_)
  · obtain ⟨i, j, rfl, _⟩ := h
    rfl
  obtain ⟨i, j, rfl, q⟩ := h
  refine ⟨_, (qF (wz PassesOwn.never (qM xH (pv 1) qD (qL _)) (qF (qc (i := 2) sc_common_divisor.nd rfl (Or.inl rfl) (qN qh (pv 0) (pv 1)))
      (qF (qc (i := 0) sc_common_divisor.nd rfl (Or.inl rfl) (pv 1))
      (qH (qc (i := 1) sc_common_divisor.nd rfl (Or.inl rfl) (pv 2))))))
      (qH (qK (qU qAc rfl T.b_abs rfl (qA (pv 0) qE))))), ?_⟩
  try dsimp only [xG, jG]
  refine qAb (fun σ H' => H' = H ∧ ∃ (x y : Int) (v : Option V), σ = [some (.int x), some (.int y), v] ∧ Int.gcd x y = Int.gcd i j)
    (fun σ _ => match σ with | [_, some (.int y), _] => y.natAbs | _ => 0) ⟨rfl, i, j, none, rfl, rfl⟩ ?_ ?_
  · rintro σ H1 ⟨rfl, x, y, v, rfl, e⟩
    refine ⟨_, rfl, rfl, _, rfl, ?_⟩
    refine zH (fun c => ?_) (fun c => ?_)
    · have hy : y ≠ 0 := by simpa using c
      refine ⟨_, rfl, _, rfl, _, _, rfl, rfl, hy, _, rfl, _, rfl, ⟨rfl, y, x.fmod y, _, rfl, ?_⟩, ?_⟩
      · rw [zz]; exact e
      · exact qCd x y hy
    · have hy : y = 0 := by simpa using c
      subst hy
      refine ⟨_, rfl, x, rfl, ?_⟩
      have e2 : (if x < 0 then -x else x) = ((Int.gcd i j : Nat) : Int) := by
        rw [← e, Int.gcd_zero_right]
        split <;> omega
      rw [e2]
      exact q
  · rintro σ H1 Q1 Q2 hq h
    obtain ⟨v, e, s, k, hk, z⟩ := h
    exact ⟨v, e, s, k, hk, hq _ _ z⟩
theorem qDg {t b : Int} (h : b ≠ 0) (hb : b.natAbs < 2 ^ 8000) : CDivB t (sg t b) ∧ CDivB b (sg t b) := by
  have h1 := qG2 (t := t) h
  have h2 : (sg t b).natAbs < 2 ^ 8000 := by
    rw [wp]
    exact Nat.lt_of_le_of_lt (Nat.le_of_dvd (by omega) (Int.gcd_dvd_natAbs_right ..)) hb
  exact ⟨⟨h1, h2⟩, ⟨h1, h2⟩⟩
def wV : Sp := fun vs H Q _ => ∃ t b : Int, vs = [.int t, .int b] ∧ b ≠ 0 ∧ b.natAbs < 2 ^ 8000 ∧ qEs H Q (qp t b) (qY t b)
theorem xD (T : Tx K mg a) : FnOk P w K mg base CX0 2 a.a_fraction a.f_fraction ["top", "bottom"] wV := by
  refine T.d_fraction.F.ok sc_fraction (fun vs H Q E h => ?_) (fun cdv A outer s H vs Q E hr h => ?_)
  · obtain ⟨t, b, rfl, _⟩ := h
    rfl
  obtain ⟨t, b, rfl, hb, hs, q⟩ := h
  refine ⟨_, (qF (q8 (PW.pt (jk (jA (q9 (qP T.d_is_whole (xX T) hr rfl (qA (pv 0) qE)))) (jT (jA (q9 (qP T.d_is_whole (xX T) hr rfl (qA (pv 1) qE))))))) kF qQ)
      (qF (q8 (qM jc (pv 1) qD (qL _)) kF qQ)
      (qF (qc (i := 2) sc_fraction.nd rfl (Or.inl rfl) (qP T.d_common_divisor (xL T) hr rfl (qA (pv 0) (qA (pv 1) qE))))
      (qF (q8 (qM wD (pv 1) qD (qL _)) (qH (qc (i := 2) sc_fraction.nd rfl (Or.inl rfl) (zW xP (pv 2)))) qQ)
      (qH (qK (qO (qA (qN qr (pv 0) (pv 2)) (qA (qN qr (pv 1) (pv 2)) qE))))))))), ?_⟩
  try dsimp only [xG, jG]
  refine ⟨_, rfl, t, rfl, true, rfl, qo ?_⟩
  refine ⟨_, rfl, b, rfl, true, rfl, qo ?_⟩
  refine ⟨_, rfl, rfl, _, rfl, ?_⟩
  refine zH (fun c => absurd (by simpa using c) hb) (fun _ => ?_)
  refine ⟨_, rfl, _, rfl, t, b, rfl, ?_⟩
  refine ⟨_, rfl, _, _, rfl, rfl, _, rfl, ?_⟩
  obtain ⟨d1, d2⟩ := qDg (t := t) hb hs
  refine zH (fun c => ?_) (fun c => ?_)
  · have c' : b < 0 := by simpa using c
    have e : -((Int.gcd t b : Nat) : Int) = sg t b := by unfold sg; rw [if_pos c']
    have q' : qEs H Q (t.fdiv (-((Int.gcd t b : Nat) : Int))) (b.fdiv (-((Int.gcd t b : Nat) : Int))) := by rw [e]; exact q
    exact ⟨_, rfl, _, rfl, _, rfl, _, rfl, _, _, rfl, rfl, (by rw [e]; exact d1), _, rfl, _, rfl, _, _, rfl, rfl, (by rw [e]; exact d2), sL2, q'⟩
  · have c' : ¬ b < 0 := by simpa using c
    have e : ((Int.gcd t b : Nat) : Int) = sg t b := by unfold sg; rw [if_neg c']
    have q' : qEs H Q (t.fdiv ((Int.gcd t b : Nat) : Int)) (b.fdiv ((Int.gcd t b : Nat) : Int)) := by rw [e]; exact q
    exact ⟨_, rfl, _, rfl, _, _, rfl, rfl, (by rw [e]; exact d1), _, rfl, _, rfl, _, _, rfl, rfl, (by rw [e]; exact d2), sL2, q'⟩
def Pr (K : W.Frag) (H : Hp) (v : V) (p q : Int) : Prop := ∃ z, v = .ref z ∧ SqT K H z [.int p, .int q]
theorem Pr.same {H H' : Hp} {v : V} {p q : Int} (e : Same H H') (h : Pr K H v p q) : Pr K H' v p q := let ⟨z, h1, h2⟩ := h; ⟨z, h1, L3.Same.tup e h2⟩
def Sm (i : Int) : Prop := i.natAbs < 2 ^ 3000
theorem Sm.mul {i j : Int} (h1 : Sm i) (h2 : Sm j) : CMulB i j := by
  unfold Sm at h1 h2
  have : (2 : Nat) ^ 3000 ≤ 2 ^ 60000 := Nat.pow_le_pow_right (by decide) (by decide)
  exact .inr ⟨by omega, by omega⟩
theorem Sm.prod {i j : Int} (h1 : Sm i) (h2 : Sm j) : (i * j).natAbs < 2 ^ 8000 := by
  unfold Sm at h1 h2
  rw [Int.natAbs_mul]
  have h3 : i.natAbs * j.natAbs < 2 ^ 3000 * 2 ^ 3000 := Nat.mul_lt_mul'' h1 h2
  rw [← Nat.pow_add] at h3
  exact Nat.lt_of_lt_of_le h3 (Nat.pow_le_pow_right (by decide) (by decide))
theorem at0 {x y : V} : atI [x, y] 0 = some x := rfl
theorem at1 {x y : V} : atI [x, y] 1 = some y := rfl
def qBx (K : W.Frag) : Sp := fun vs H Q _ => ∃ (x y : V) (p q r s : Int), vs = [x, y] ∧ Pr K H x p q ∧ Pr K H y r s ∧ q ≠ 0 ∧ s ≠ 0 ∧ Sm p ∧ Sm q ∧ Sm r ∧ Sm s ∧ qEs H Q (qp (p * s + r * q) (q * s)) (qY (p * s + r * q) (q * s))
theorem qBc (T : Tx K mg a) : FnOk P w K mg base CX0 3 a.a_sum_of a.f_sum_of ["one", "other"] (qBx K) := by
  refine T.d_sum_of.F.ok qBt (fun vs H Q E h => ?_) (fun cdv A outer s H vs Q E hr h => ?_)
  · obtain ⟨x, y, p, q, r, s, rfl, _⟩ := h
    rfl
  obtain ⟨x, y, p, q, r, s', rfl, ⟨z1, rfl, h1⟩, ⟨z2, rfl, h2⟩, hq, hs, bp, bq, br, bs, k⟩ := h
  refine ⟨_, (qH (qK (qP T.d_fraction (xD T) hr rfl (qA (qN jW (qN jH (qJ qI (pv 0) qD (fun _ _ => rfl)) (qJ qI (pv 1) qD (fun _ _ => rfl))) (qN jH (qJ qI (pv 1) qD (fun _ _ => rfl)) (qJ qI (pv 0) qD (fun _ _ => rfl)))) (qA (qN jH (qJ qI (pv 0) qD (fun _ _ => rfl)) (qJ qI (pv 1) qD (fun _ _ => rfl))) qE))))), ?_⟩
  try dsimp only [xG, jG]
  refine (xT rfl h1 at0 (xT rfl h2 at1 ⟨_, _, rfl, rfl, bp.mul bs, ?_⟩))
  refine (xT rfl h2 at0 (xT rfl h1 at1 ⟨_, _, rfl, rfl, br.mul bq, _, _, rfl, rfl, ?_⟩))
  refine (xT rfl h1 at1 (xT rfl h2 at1 ⟨_, _, rfl, rfl, bq.mul bs, ?_⟩))
  exact ⟨_, _, rfl, Int.mul_ne_zero hq hs, bq.prod bs, k⟩
def wY (K : W.Frag) : Sp := fun vs H Q _ => ∃ (x : V) (p q : Int), vs = [x] ∧ Pr K H x p q ∧ q ≠ 0 ∧ q.natAbs < 2 ^ 8000 ∧ Q (.int (p.fdiv q)) H
theorem zC (T : Tx K mg a) : FnOk P w K mg base CX0 1 a.a_floor_of a.f_floor_of ["one"] (wY K) := by
  refine T.d_floor_of.F.ok wZ (fun vs H Q E h => ?_) (fun cdv A outer s H vs Q E hr h => ?_)
  · obtain ⟨x, p, q, rfl, _⟩ := h
    rfl
  obtain ⟨x, p, q, rfl, ⟨z1, rfl, h1⟩, hq, bq, k⟩ := h
  refine ⟨_, (qH (qK (qN qr (qJ qI (pv 0) qD (fun _ _ => rfl)) (qJ qI (pv 0) qD (fun _ _ => rfl))))), ?_⟩
  try dsimp only [xG, jG]
  exact (xT rfl h1 at0 (xT rfl h1 at1 ⟨_, _, rfl, rfl, ⟨hq, bq⟩, k⟩))
theorem nz {j : Int} (h : j ≠ 0 := by decide) : j ≠ 0 := h
theorem cdB {i j : Int} (h0 : j ≠ 0) (h : j.natAbs < 18446744073709551616) : CDivB i j :=
  ⟨h0, Nat.lt_of_lt_of_le h (Nat.le_trans (by decide : 18446744073709551616 ≤ 2 ^ 64) (Nat.pow_le_pow_right (by decide) (by decide)))⟩
theorem cmR {i j : Int} (h1 : -(18446744073709551616 : Int) < j) (h2 : j < 18446744073709551616) : CMulB i j := .inl (.inr ⟨h1, h2⟩)
theorem cmL {i j : Int} (h1 : -(18446744073709551616 : Int) < i) (h2 : i < 18446744073709551616) : CMulB i j := .inl (.inl ⟨h1, h2⟩)
theorem at3 {x y z : V} {i : Int} (h0 : 0 ≤ i) (h1 : i < 3) : ∃ v, atI [x, y, z] i = some v ∧ (v = x ∨ v = y ∨ v = z) := by
  have : i = 0 ∨ i = 1 ∨ i = 2 := by omega
  rcases this with rfl | rfl | rfl
  · exact ⟨x, rfl, .inl rfl⟩
  · exact ⟨y, rfl, .inr (.inl rfl)⟩
  · exact ⟨z, rfl, .inr (.inr rfl)⟩
theorem at4 {x y z u : V} {i : Int} (h0 : 0 ≤ i) (h1 : i < 4) : ∃ v, atI [x, y, z, u] i = some v ∧ (v = x ∨ v = y ∨ v = z ∨ v = u) := by
  have : i = 0 ∨ i = 1 ∨ i = 2 ∨ i = 3 := by omega
  rcases this with rfl | rfl | rfl | rfl
  · exact ⟨x, rfl, .inl rfl⟩
  · exact ⟨y, rfl, .inr (.inl rfl)⟩
  · exact ⟨z, rfl, .inr (.inr (.inl rfl))⟩
  · exact ⟨u, rfl, .inr (.inr (.inr rfl))⟩
theorem fm (i : Int) {j : Int} (h : 0 < j) : 0 ≤ i.fmod j ∧ i.fmod j < j := ⟨Int.fmod_nonneg_of_pos i h, Int.fmod_lt_of_pos i h⟩
theorem cpw {n : Nat} (h : n ≤ 1000000) : qH0 10 (n : Int) := ⟨by omega, by omega, by decide⟩
def Good (n : Nat) (p q : Int) : Prop := 0 < q ∧ Int.gcd p q = 1 ∧ p.natAbs < 2 ^ n ∧ q.natAbs < 2 ^ n
theorem Good.mono {n m : Nat} {p q : Int} (h : Good n p q) (l : n ≤ m) : Good m p q := ⟨h.1, h.2.1, Nat.lt_of_lt_of_le h.2.2.1 (Nat.pow_le_pow_right (by decide) l), Nat.lt_of_lt_of_le h.2.2.2 (Nat.pow_le_pow_right (by decide) l)⟩
theorem Sm.of200 {i : Int} (h : i.natAbs < 2 ^ 200) : Sm i := Nat.lt_of_lt_of_le h (Nat.pow_le_pow_right (by decide) (by decide))
theorem qFx {x y X Y : Int} (h0 : 0 ≤ x) (h1 : x < X) (h2 : 0 ≤ y) (h3 : y < Y) : x * y < X * Y :=
  Int.lt_of_le_of_lt (Int.mul_le_mul_of_nonneg_left (Int.le_of_lt h3) h0) (Int.mul_lt_mul_of_pos_right h1 (by omega))
def wa (K : W.Frag) : Sp := fun vs H Q _ => ∃ (x y : V) (p q r s : Int), vs = [x, y] ∧ Pr K H x p q ∧ Pr K H y r s ∧ q ≠ 0 ∧ s ≠ 0 ∧ Sm p ∧ Sm q ∧ Sm r ∧ Sm s ∧ qEs H Q (qp (p * r) (q * s)) (qY (p * r) (q * s))
theorem kP (T : Tx K mg a) : FnOk P w K mg base CX0 3 a.a_times_of a.f_times_of ["one", "other"] (wa K) := by
  refine T.d_times_of.F.ok wj (fun vs H Q E h => ?_) (fun cdv A outer s H vs Q E hr h => ?_)
  · obtain ⟨x, y, p, q, r, s, rfl, _⟩ := h
    rfl
  obtain ⟨x, y, p, q, r, s', rfl, ⟨z1, rfl, h1⟩, ⟨z2, rfl, h2⟩, hq, hs, bp, bq, br, bs, k⟩ := h
  refine ⟨_, (qH (qK (qP T.d_fraction (xD T) hr rfl (qA (qN jH (qJ qI (pv 0) qD (fun _ _ => rfl)) (qJ qI (pv 1) qD (fun _ _ => rfl))) (qA (qN jH (qJ qI (pv 0) qD (fun _ _ => rfl)) (qJ qI (pv 1) qD (fun _ _ => rfl))) qE))))), ?_⟩
  try dsimp only [xG, jG]
  refine (xT rfl h1 at0 (xT rfl h2 at0 ⟨_, _, rfl, rfl, bp.mul br, ?_⟩))
  refine (xT rfl h1 at1 (xT rfl h2 at1 ⟨_, _, rfl, rfl, bq.mul bs, ?_⟩))
  exact ⟨_, _, rfl, Int.mul_ne_zero hq hs, bq.prod bs, k⟩
def wg (K : W.Frag) : Sp := fun vs H Q _ => ∃ (x y : V) (p q r s : Int), vs = [x, y] ∧ Pr K H x p q ∧ Pr K H y r s ∧ q ≠ 0 ∧ r ≠ 0 ∧ Sm p ∧ Sm q ∧ Sm r ∧ Sm s ∧ qEs H Q (qp (p * s) (q * r)) (qY (p * s) (q * r))
theorem kE (T : Tx K mg a) : FnOk P w K mg base CX0 3 a.a_quotient a.f_quotient ["one", "other"] (wg K) := by
  refine T.d_quotient.F.ok wR (fun vs H Q E h => ?_) (fun cdv A outer s H vs Q E hr h => ?_)
  · obtain ⟨x, y, p, q, r, s, rfl, _⟩ := h
    rfl
  obtain ⟨x, y, p, q, r, s', rfl, ⟨z1, rfl, h1⟩, ⟨z2, rfl, h2⟩, hq, hr', bp, bq, br, bs, k⟩ := h
  refine ⟨_, (qH (qK (qP T.d_fraction (xD T) hr rfl (qA (qN jH (qJ qI (pv 0) qD (fun _ _ => rfl)) (qJ qI (pv 1) qD (fun _ _ => rfl))) (qA (qN jH (qJ qI (pv 0) qD (fun _ _ => rfl)) (qJ qI (pv 1) qD (fun _ _ => rfl))) qE))))), ?_⟩
  try dsimp only [xG, jG]
  refine (xT rfl h1 at0 (xT rfl h2 at1 ⟨_, _, rfl, rfl, bp.mul bs, ?_⟩))
  refine (xT rfl h1 at1 (xT rfl h2 at0 ⟨_, _, rfl, rfl, bq.mul br, ?_⟩))
  exact ⟨_, _, rfl, Int.mul_ne_zero hq hr', bq.prod br, k⟩
inductive NoW (H : Hp) : V → Prop where
  | non : NoW H .non
  | bl (b : Bool) : NoW H (.bl b)
  | str (z : Str) : NoW H (.str z)
  | lst {a : Addr} {xs : List V} (e : H a = some (.lst xs)) : NoW H (.ref a)
  | tup {a : Addr} {xs : List V} (e : H a = some (.tup xs)) : NoW H (.ref a)
theorem NoW.same {H H' : Hp} {x : V} (s : Same H H') : NoW H x → NoW H' x
  | .non => .non
  | .bl b => .bl b
  | .str z => .str z
  | .lst e => .lst (s _ _ e)
  | .tup e => .tup (s _ _ e)
def WhB (H : Hp) (x : V) (b : Bool) : Prop := (∃ i : Int, x = .int i ∧ b = true) ∨ (NoW H x ∧ b = false)
theorem WhB.int {H : Hp} (i : Int) : WhB H (.int i) true := .inl ⟨i, rfl, rfl⟩
theorem WhB.no {H : Hp} {x : V} (h : NoW H x) : WhB H x false := .inr ⟨h, rfl⟩
theorem WhB.ty {H : Hp} {x : V} {b : Bool} (h : WhB H x b) : ∃ t i c, vW K H x t ∧ W.kitOne K t (.type "int") = some i ∧ W.kitOne K t (.type "bool") = some c ∧ b = (i && !c) := by
  rcases h with ⟨i, rfl, rfl⟩ | ⟨h, rfl⟩
  · exact ⟨_, true, false, .int i, by kernel_rfl, by kernel_rfl, rfl⟩
  · cases h with
    | non => exact ⟨_, false, false, .non, by kernel_rfl, by kernel_rfl, rfl⟩
    | bl b => exact ⟨_, true, true, .bl b, by kernel_rfl, by kernel_rfl, rfl⟩
    | str z => exact ⟨_, false, false, .str z, by kernel_rfl, by kernel_rfl, rfl⟩
    | lst e => exact ⟨_, false, false, .lst e, by kernel_rfl, by kernel_rfl, rfl⟩
    | tup e => exact ⟨_, false, false, .tup e, by kernel_rfl, by kernel_rfl, rfl⟩
def vK : Sp := fun vs H Q _ => ∃ (x : V) (b : Bool), vs = [x] ∧ WhB H x b ∧ Q (.bl b) H
theorem j5 (T : Tx K mg a) : FnOk P w K mg base CX0 1 a.a_is_whole a.f_is_whole ["x"] vK := by
  refine T.d_is_whole.F.ok kX (fun vs H Q E h => ?_) (fun cdv A outer s H vs Q E hr h => ?_)
  · obtain ⟨x, b, rfl, _⟩ := h
    rfl
  obtain ⟨x, b, rfl, hx, q⟩ := h
  refine ⟨_, (qH (qK (xa (qU qm rfl T.b_isinstance rfl (qA (pv 0) (qA (zD rfl T.b_int rfl) qE))) (xF (qBs (qU qm rfl T.b_isinstance rfl (qA (pv 0) (qA (zD rfl T.b_bool rfl) qE)))))))), ?_⟩
  try dsimp only [xG, jG]
  obtain ⟨t, i, c, ty, e1, e2, rfl⟩ := hx.ty (K := K)
  refine ⟨_, rfl, _, _, _, i, rfl, ty, ⟨_, .inl ⟨rfl, e1⟩⟩, i, rfl, ?_⟩
  cases i with
  | false => exact qo q
  | true => exact jI ⟨_, rfl, _, _, _, c, rfl, ty, ⟨_, .inl ⟨rfl, e2⟩⟩, c, rfl, q⟩
inductive FrB (K : W.Frag) (H : Hp) : V → Bool → Prop where
  | no {x : V} {t : Value} (ty : vW K H x t) (e : W.kitOne K t (.type "tuple") = some false) : FrB K H x false
  | len {z : Addr} {xs : List V} (e : H z = some (.tup xs)) (h : xs.length ≠ 2) : FrB K H (.ref z) false
  | one {z : Addr} {x y : V} (e : H z = some (.tup [x, y])) (h : NoW H x) : FrB K H (.ref z) false
  | two {z : Addr} {i : Int} {y : V} (e : H z = some (.tup [.int i, y])) (h : NoW H y) : FrB K H (.ref z) false
  | nums {z : Addr} {p q : Int} (e : H z = some (.tup [.int p, .int q])) : FrB K H (.ref z) (decide (1 ≤ q) && decide (Int.gcd p q = 1))
def kj (K : W.Frag) : Sp := fun vs H Q _ => ∃ (x : V) (b : Bool), vs = [x] ∧ FrB K H x b ∧ Q (.bl b) H
theorem j1 (T : Tx K mg a) : FnOk P w K mg base CX0 2 a.a_is_fraction a.f_is_fraction ["x"] (kj K) := by
  refine T.d_is_fraction.F.ok kr (fun vs H Q E h => ?_) (fun cdv A outer s H vs Q E hr h => ?_)
  · obtain ⟨x, b, rfl, _⟩ := h
    rfl
  obtain ⟨x, b, rfl, hx, k⟩ := h
  refine ⟨_, (qF (q8 (PW.pt (jk (jA (q9 (qU qm rfl T.b_isinstance rfl (qA (pv 0) (qA (zD rfl T.b_tuple rfl) qE))))) (jT (qM xH (qU qf rfl T.b_len rfl (qA (pv 0) qE)) qD (qL _))))) (qH (qK jS)) qQ)
      (qF (q8 (PW.pt (jk (jA (q9 (qP T.d_is_whole (j5 T) hr rfl (qA (qJ qI (pv 0) qD (fun _ _ => rfl)) qE)))) (jT (jA (q9 (qP T.d_is_whole (j5 T) hr rfl (qA (qJ qI (pv 0) qD (fun _ _ => rfl)) qE))))))) (qH (qK jS)) qQ)
      (qH (qK (xa (qv qCu (qJ qI (pv 0) qD (fun _ _ => rfl)) qD (qL _)) (xF (qv jc (qP T.d_common_divisor (xL T) hr rfl (qA (qJ qI (pv 0) qD (fun _ _ => rfl)) (qA (qJ qI (pv 0) qD (fun _ _ => rfl)) qE))) qD (qL _)))))))), ?_⟩
  try dsimp only [xG, jG]
  cases hx with
  | no ty e => exact ⟨_, rfl, _, _, _, false, rfl, ty, ⟨_, .inl ⟨rfl, e⟩⟩, false, rfl, jI (jI k)⟩
  | @len z xs e h =>
    refine ⟨_, rfl, _, _, _, true, rfl, .tup e, ⟨_, .inl ⟨rfl, by kernel_rfl⟩⟩, true, rfl, qo ?_⟩
    refine ⟨_, rfl, _, _, rfl, .inr (SqT.of e), rfl, _, rfl, ?_⟩
    have d : (!decide (V.int (xs.length : Int) = V.int 2)) = true := by
      have : ¬ (V.int (xs.length : Int) = V.int 2) := fun z => h (by injection z with z; omega)
      simp [this]
    rw [d]
    exact jI k
  | @one z x y e h =>
    refine ⟨_, rfl, _, _, _, true, rfl, .tup e, ⟨_, .inl ⟨rfl, by kernel_rfl⟩⟩, true, rfl, qo ?_⟩
    refine ⟨_, rfl, _, _, rfl, .inr (SqT.of e), rfl, _, rfl, qo ?_⟩
    exact (xT rfl (SqT.of e) at0 ⟨x, false, rfl, .no h, false, rfl, jI (jI k)⟩)
  | @two z i y e h =>
    refine ⟨_, rfl, _, _, _, true, rfl, .tup e, ⟨_, .inl ⟨rfl, by kernel_rfl⟩⟩, true, rfl, qo ?_⟩
    refine ⟨_, rfl, _, _, rfl, .inr (SqT.of e), rfl, _, rfl, qo ?_⟩
    refine (xT rfl (SqT.of e) at0 ⟨_, true, rfl, .int i, true, rfl, qo ?_⟩)
    exact (xT rfl (SqT.of e) at1 ⟨y, false, rfl, .no h, false, rfl, jI k⟩)
  | @nums z p q e =>
    refine ⟨_, rfl, _, _, _, true, rfl, .tup e, ⟨_, .inl ⟨rfl, by kernel_rfl⟩⟩, true, rfl, qo ?_⟩
    refine ⟨_, rfl, _, _, rfl, .inr (SqT.of e), rfl, _, rfl, qo ?_⟩
    refine (xT rfl (SqT.of e) at0 ⟨_, true, rfl, .int p, true, rfl, qo ?_⟩)
    refine (xT rfl (SqT.of e) at1 ⟨_, true, rfl, .int q, true, rfl, qo ?_⟩)
    refine (xT rfl (SqT.of e) at1 ⟨_, _, rfl, rfl, decide (1 ≤ q), rfl, ?_⟩)
    by_cases hq : 1 ≤ q
    · rw [decide_eq_true hq] at k ⊢
      refine jI (xT rfl (SqT.of e) at0 (xT rfl (SqT.of e) at1 ⟨p, q, rfl, rfl, ?_⟩))
      have d : decide (V.int ((Int.gcd p q : Nat) : Int) = V.int 1) = (true && decide (Int.gcd p q = 1)) := by
        rw [Bool.true_and, Bool.eq_iff_iff, decide_eq_true_eq, decide_eq_true_eq]
        constructor
        · intro z; injection z with z; omega
        · intro z; rw [z]; rfl
      rw [d]
      exact k
    · rw [decide_eq_false hq] at k ⊢
      exact qo k
def vi (K : W.Frag) : Sp := fun vs H Q _ => ∃ (x y : V) (p q r s : Int), vs = [x, y] ∧ Pr K H x p q ∧ Pr K H y r s ∧ Sm p ∧ Sm q ∧ Sm r ∧ Sm s ∧ Q (.bl (decide (p * s < r * q))) H
theorem xm (T : Tx K mg a) : FnOk P w K mg base CX0 1 a.a_is_before a.f_is_before ["one", "other"] (vi K) := by
  refine T.d_is_before.F.ok wE (fun vs H Q E h => ?_) (fun cdv A outer s H vs Q E hr h => ?_)
  · obtain ⟨x, y, p, q, r, s, rfl, _⟩ := h
    rfl
  obtain ⟨x, y, p, q, r, s', rfl, ⟨z1, rfl, h1⟩, ⟨z2, rfl, h2⟩, bp, bq, br, bs, k⟩ := h
  refine ⟨_, (qH (qK (qv wD (qN jH (qJ qI (pv 0) qD (fun _ _ => rfl)) (qJ qI (pv 1) qD (fun _ _ => rfl))) (qN jH (qJ qI (pv 1) qD (fun _ _ => rfl)) (qJ qI (pv 0) qD (fun _ _ => rfl))) (qL _)))), ?_⟩
  try dsimp only [xG, jG]
  refine (xT rfl h1 at0 (xT rfl h2 at1 ⟨_, _, rfl, rfl, bp.mul bs, ?_⟩))
  exact (xT rfl h2 at0 (xT rfl h1 at1 ⟨_, _, rfl, rfl, br.mul bq, _, _, rfl, rfl, k⟩))
def qA2 (K : W.Frag) : Sp := fun vs H Q _ => ∃ (x : V) (p q : Int), vs = [x] ∧ Pr K H x p q ∧ q ≠ 0 ∧ qEs H Q (p.fmod q) q
theorem vA (T : Tx K mg a) : FnOk P w K mg base CX0 1 a.a_rest_of a.f_rest_of ["one"] (qA2 K) := by
  refine T.d_rest_of.F.ok qAs (fun vs H Q E h => ?_) (fun cdv A outer s H vs Q E hr h => ?_)
  · obtain ⟨x, p, q, rfl, _⟩ := h
    rfl
  obtain ⟨x, p, q, rfl, ⟨z1, rfl, h1⟩, hq, k⟩ := h
  refine ⟨_, (qH (qK (qO (qA (qN qh (qJ qI (pv 0) qD (fun _ _ => rfl)) (qJ qI (pv 0) qD (fun _ _ => rfl))) (qA (qJ qI (pv 0) qD (fun _ _ => rfl)) qE))))), ?_⟩
  try dsimp only [xG, jG]
  exact (xT rfl h1 at0 (xT rfl h1 at1 ⟨_, _, rfl, rfl, hq, xT rfl h1 at1 ⟨sL2, k⟩⟩))
theorem jC {i j : Int} {n m : Nat} (h1 : i.natAbs < 2 ^ n) (h2 : j.natAbs < 2 ^ m) : (i * j).natAbs < 2 ^ (n + m) := by
  rw [Int.natAbs_mul, Nat.pow_add]
  exact Nat.mul_lt_mul'' h1 h2
theorem qEf {x0 x1 x2 x3 x4 : V} : atI [x0, x1, x2, x3, x4] 2 = some x2 := rfl
theorem qGq {x0 x1 x2 x3 x4 : V} : atI [x0, x1, x2, x3, x4] 3 = some x3 := rfl
theorem qBj {x0 x1 x2 x3 x4 : V} : atI [x0, x1, x2, x3, x4] 0 = some x0 := rfl
theorem qDe {x0 x1 x2 x3 x4 : V} : atI [x0, x1, x2, x3, x4] 1 = some x1 := rfl
theorem qEx {x0 x1 x2 x3 x4 : V} : atI [x0, x1, x2, x3, x4] 4 = some x4 := rfl
structure Bn (n : Nat) (p q r s : Int) : Prop where
  q0 : 0 < q
  s0 : 0 < s
  bp : p.natAbs < 2 ^ n
  bq : q.natAbs < 2 ^ n
  br : r.natAbs < 2 ^ n
  bs : s.natAbs < 2 ^ n
theorem jo {i : Int} {n m : Nat} (h : i.natAbs < 2 ^ n) (l : n ≤ m := by decide) : i.natAbs < 2 ^ m := Nat.lt_of_lt_of_le h (Nat.pow_le_pow_right (by decide) l)
theorem Bn.mono {n m : Nat} {p q r s : Int} (h : Bn n p q r s) (l : n ≤ m := by decide) : Bn m p q r s := ⟨h.q0, h.s0, jo h.bp l, jo h.bq l, jo h.br l, jo h.bs l⟩
theorem Bn.part {p q r s k : Int} (h : Bn 110 p q r s) (hk : k.natAbs < 2 ^ 30) : Bn 340 (plP p q r s k) (plQ p q r s k) r s := by
  obtain ⟨hq, hs, bp, bq, br, bs⟩ := h
  refine ⟨qFq hq hs, hs, Nat.lt_of_le_of_lt (qEd hq hs) ?_, Nat.lt_of_le_of_lt (qE9 hq hs) (jo (jC bq bs)), jo br, jo bs⟩
  have h1 := jC bp bs
  have h2 := jC (jC hk br) bq
  have e : (2 : Nat) ^ (110 + 110) + 2 ^ (30 + 110 + 110) ≤ 2 ^ 340 := by decide
  omega
theorem qDm {i : Int} {n : Nat} (h : i.natAbs < 2 ^ n) (l : n ≤ 8000 := by decide) : i.natAbs < 2 ^ 8000 := jo h l
def qHr (c : Nat) : Bool := !(Builtin.Str.occurrences "abcdefghijklmnopqrstuvwxyz" ⟨#[c]⟩ 0 ("abcdefghijklmnopqrstuvwxyz" : Str).length 1).isEmpty
def xC (z : Str) : Bool := decide (1 ≤ z.length ∧ z.length ≤ 8) && z.cps.toList.all qHr
def kQ (K : W.Frag) : Sp := fun vs H Q _ => ∃ (z : Addr) (ns : List Int) (i : Int), vs = [.ref z, .int i] ∧ SqL K H z (ns.map V.int) ∧ ns.length ≤ 63 ∧ 0 ≤ i ∧ ∀ c : Int, Q (.int c) H
theorem xn (T : Tx K mg a) : FnOk P w K mg base CX0 1 a.a__law_cell_at a.f__law_cell_at ["_law_script", "_law_k"] (kQ K) := by
  refine T.d__law_cell_at.F.ok kK (fun vs H Q E h => ?_) (fun cdv A outer s H vs Q E hr h => ?_)
  · obtain ⟨z, ns, i, rfl, _⟩ := h
    rfl
  obtain ⟨z, ns, i, rfl, hS, hl, h0, k⟩ := h
  refine ⟨_, (qF (q8 (qM wD (pv 1) (qU qf rfl T.b_len rfl (qA (pv 0) qE)) (qL _)) (qH (qK (qJ qg (pv 0) (pv 1) (fun _ _ => rfl)))) qQ)
      (qH (qK qD))), ?_⟩
  try dsimp only [xG, jG]
  have hml : (ns.map V.int).length = ns.length := List.length_map _
  refine ⟨_, rfl, _, rfl, z, _, rfl, .inl hS, _, _, rfl, rfl, _, rfl, ?_⟩
  refine zH (fun c => ?_) (fun _ => ?_)
  · have c' : i < ((ns.map V.int).length : Int) := of_decide_eq_true c
    rw [hml] at c'
    have hi : i.toNat < ns.length := by omega
    have e : i = ((i.toNat : Nat) : Int) := by omega
    have hat : atI (ns.map V.int) ((i.toNat : Nat) : Int) = some (.int ns[i.toNat]) := zV (by rw [List.getElem?_map, List.getElem?_eq_getElem hi]; rfl)
    rw [← e] at hat
    exact ⟨_, rfl, _, rfl, z, _, _, .int ns[i.toNat], rfl, rfl, hS, hat, k _⟩
  · exact k 0
theorem qDh (ns : List Int) (lo hi : Option Int) : ∃ ms : List Int, xv (ns.map V.int) lo hi = ms.map V.int ∧ ms.length ≤ ns.length := by
  refine ⟨(ns.drop (HT.sIx (ns.map V.int).length 0 lo)).take (HT.sIx (ns.map V.int).length (ns.map V.int).length hi - HT.sIx (ns.map V.int).length 0 lo), ?_, ?_⟩
  · unfold xv
    rw [List.map_take, List.map_drop]
  · rw [List.length_take, List.length_drop]; omega
inductive Im where
  | clip (n : Str) (p q r s l : Int)
  | nest (n : Str) (b l : Int)
  | gap (l : Int)
  | mix (l : Int)
def Im.d : Im → D
  | .clip n p q r s l => .tup [.leaf (.str "clip"), .leaf (.str n), .tup [.leaf (.int p), .leaf (.int q)], .tup [.leaf (.int r), .leaf (.int s)], .leaf (.int l)]
  | .nest n b l => .tup [.leaf (.str "nest"), .leaf (.str n), .leaf (.int b), .leaf (.int l)]
  | .gap l => .tup [.leaf (.str "gap"), .leaf (.int l)]
  | .mix l => .tup [.leaf (.str "mix"), .leaf (.int l)]
def Im.wd : Im → Str
  | .clip .. => "clip"
  | .nest .. => "nest"
  | .gap _ => "gap"
  | .mix _ => "mix"
def Im.l : Im → Int
  | .clip _ _ _ _ _ l => l
  | .nest _ _ l => l
  | .gap l => l
  | .mix l => l
def TS (H H' : Hp) : Prop := ∀ b xs, H b = some (.tup xs) → H' b = some (.tup xs)
theorem TS.refl (H : Hp) : TS H H := fun _ _ h => h
theorem TS.trans {H H1 H2 : Hp} (a : TS H H1) (b : TS H1 H2) : TS H H2 := fun c o h => b c o (a c o h)
theorem qj {H H' : Hp} (e : Same H H') : TS H H' := fun _ _ h => e _ _ h
theorem zA {H : Hp} {l : Addr} {xs : List V} {o : HO} (h : H l = some (.lst xs)) : TS H (upd H l o) := fun b ys hb => by
  rw [qV (qHt hb h (by intro z; cases z))]; exact hb
theorem jq {H H' : Hp} {y : Addr} {o : HO} (e : Same H H') (h : H y = none) : Same H (upd H' y o) := fun b u hb => by
  rw [qV (qZ hb h)]; exact e b u hb
def IsI (H : Hp) : Im → V → Prop
  | .clip n p q r s l, v => ∃ z x y : Addr, v = .ref z ∧ H z = some (.tup [.str "clip", .str n, .ref x, .ref y, .int l]) ∧ H x = some (.tup [.int p, .int q]) ∧ H y = some (.tup [.int r, .int s])
  | .nest n b l, v => ∃ z : Addr, v = .ref z ∧ H z = some (.tup [.str "nest", .str n, .int b, .int l])
  | .gap l, v => ∃ z : Addr, v = .ref z ∧ H z = some (.tup [.str "gap", .int l])
  | .mix l, v => ∃ z : Addr, v = .ref z ∧ H z = some (.tup [.str "mix", .int l])
theorem isM {H : Hp} {z : Addr} {l : Int} (h : H z = some (.tup [.str "mix", .int l])) : IsI H (.mix l) (.ref z) := ⟨z, rfl, h⟩
theorem IsI.ts {H H' : Hp} (e : TS H H') : ∀ {m : Im} {v : V}, IsI H m v → IsI H' m v
  | .clip .., _, ⟨z, x, y, h, hz, hx, hy⟩ => ⟨z, x, y, h, e _ _ hz, e _ _ hx, e _ _ hy⟩
  | .nest .., _, ⟨z, h, hz⟩ => ⟨z, h, e _ _ hz⟩
  | .gap _, _, ⟨z, h, hz⟩ => ⟨z, h, e _ _ hz⟩
  | .mix _, _, ⟨z, h, hz⟩ => ⟨z, h, e _ _ hz⟩
theorem IsI.opn {H : Hp} {m : Im} {v : V} (h : IsI H m v) : ∃ (z : Addr) (xs : List V), v = .ref z ∧ H z = some (.tup xs) ∧ atI xs 0 = some (.str m.wd) ∧ atI xs (-1) = some (.int m.l) := by
  cases m with
  | clip n p q r s l => obtain ⟨z, x, y, h, hz, _⟩ := h; exact ⟨z, _, h, hz, rfl, rfl⟩
  | nest n b l => obtain ⟨z, h, hz⟩ := h; exact ⟨z, _, h, hz, rfl, rfl⟩
  | gap l => obtain ⟨z, h, hz⟩ := h; exact ⟨z, _, h, hz, rfl, rfl⟩
  | mix l => obtain ⟨z, h, hz⟩ := h; exact ⟨z, _, h, hz, rfl, rfl⟩
theorem vM {H : Hp} : ∀ {xs : List V}, xs.all xE = true → Reps K H (xs.map D.leaf) xs
  | [], _ => by simp [Reps]
  | x :: xs, h => by
    rw [List.all_cons, Bool.and_eq_true] at h
    rw [List.map_cons]; unfold Reps Rep
    exact ⟨⟨rfl, h.1⟩, vM h.2⟩
theorem jl {H : Hp} {z : Addr} {xs : List V} (hz : H z = some (.tup xs)) (h : xs.all xE = true) : Rep K H (.tup (xs.map D.leaf)) (.ref z) := by
  unfold Rep
  exact ⟨z, xs, rfl, SqT.of hz, vM h⟩
theorem IsI.rep {H : Hp} : ∀ {m : Im} {v : V}, IsI H m v → Rep K H m.d v
  | .clip n p q r s l, _, ⟨z, x, y, h, hz, hx, hy⟩ => by
    subst h
    have h1 : Rep K H (.tup [.leaf (.int p), .leaf (.int q)]) (.ref x) := jl hx rfl
    have h2 : Rep K H (.tup [.leaf (.int r), .leaf (.int s)]) (.ref y) := jl hy rfl
    unfold Im.d Rep
    refine ⟨z, _, rfl, SqT.of hz, ?_⟩
    unfold Reps Reps Reps Reps Reps Reps
    refine ⟨?_, ?_, h1, h2, ?_, trivial⟩
    · unfold Rep; exact ⟨rfl, rfl⟩
    · unfold Rep; exact ⟨rfl, rfl⟩
    · unfold Rep; exact ⟨rfl, rfl⟩
  | .nest n b l, _, ⟨z, h, hz⟩ => by subst h; exact jl hz rfl
  | .gap l, _, ⟨z, h, hz⟩ => by subst h; exact jl hz rfl
  | .mix l, _, ⟨z, h, hz⟩ => by subst h; exact jl hz rfl
theorem qG8 (m : Im) : dep m.d ≤ 2 := by
  cases m <;> simp [Im.d, dep, vB]
def IsIs (H : Hp) : List Im → List V → Prop
  | [], [] => True
  | m :: ms, v :: vs => IsI H m v ∧ IsIs H ms vs
  | _, _ => False
theorem IsIs.len {H : Hp} : ∀ {ms : List Im} {vs : List V}, IsIs H ms vs → vs.length = ms.length
  | [], [], _ => rfl
  | _ :: _, _ :: _, h => by rw [List.length_cons, List.length_cons, IsIs.len h.2]
  | [], _ :: _, h => h.elim
  | _ :: _, [], h => h.elim
theorem IsIs.ts {H H' : Hp} (e : TS H H') : ∀ {ms : List Im} {vs : List V}, IsIs H ms vs → IsIs H' ms vs
  | [], [], _ => trivial
  | _ :: _, _ :: _, h => ⟨IsI.ts e h.1, IsIs.ts e h.2⟩
  | [], _ :: _, h => h.elim
  | _ :: _, [], h => h.elim
theorem IsIs.get {H : Hp} : ∀ {ms : List Im} {vs : List V} {i : Nat} {v : V}, IsIs H ms vs → vs[i]? = some v → ∃ m, ms[i]? = some m ∧ IsI H m v
  | [], [], _, _, _, h => by simp at h
  | m :: _, x :: _, 0, v, h, e => by
    have e' : x = v := by simpa using e
    subst e'
    exact ⟨m, rfl, h.1⟩
  | _ :: ms, _ :: vs, i + 1, v, h, e => by
    obtain ⟨m, h1, h2⟩ := IsIs.get (i := i) h.2 (by simpa using e)
    exact ⟨m, by simpa using h1, h2⟩
  | [], _ :: _, _, _, h, _ => h.elim
  | _ :: _, [], _, _, h, _ => h.elim
theorem IsIs.app {H : Hp} : ∀ {ms : List Im} {vs : List V} {ms' : List Im} {vs' : List V}, IsIs H ms vs → IsIs H ms' vs' → IsIs H (ms ++ ms') (vs ++ vs')
  | [], [], _, _, _, h' => h'
  | _ :: _, _ :: _, _, _, h, h' => ⟨h.1, h.2.app h'⟩
  | [], _ :: _, _, _, h, _ => h.elim
  | _ :: _, [], _, _, h, _ => h.elim
theorem IsIs.one {H : Hp} {m : Im} {v : V} (h : IsI H m v) : IsIs H [m] [v] := ⟨h, trivial⟩
theorem IsIs.rep {H : Hp} : ∀ {ms : List Im} {vs : List V}, IsIs H ms vs → Reps K H (ms.map Im.d) vs
  | [], [], _ => by unfold List.map Reps; trivial
  | _ :: _, _ :: _, h => by unfold List.map Reps; exact ⟨h.1.rep, h.2.rep⟩
  | [], _ :: _, h => h.elim
  | _ :: _, [], h => h.elim
theorem qA9 : ∀ ms : List Im, vB (ms.map Im.d) ≤ 2
  | [] => by simp [vB]
  | m :: ms => by
    have h1 := qG8 m
    have h2 := qA9 ms
    unfold List.map vB
    omega
def Tr (H : Hp) (z : Addr) (ms : List Im) : Prop := ∃ vs, H z = some (.lst vs) ∧ IsIs H ms vs
theorem Tr.same {H H' : Hp} {z : Addr} {ms : List Im} (e : Same H H') (h : Tr H z ms) : Tr H' z ms := let ⟨vs, h1, h2⟩ := h; ⟨vs, e _ _ h1, h2.ts (qj e)⟩
theorem Tr.rep {H : Hp} {z : Addr} {ms : List Im} (h : Tr H z ms) : Rep K H (.lst (ms.map Im.d)) (.ref z) := by
  obtain ⟨vs, h1, h2⟩ := h
  unfold Rep
  exact ⟨z, vs, rfl, SqL.of h1, h2.rep⟩
theorem qG9 {H : Hp} {x y : Addr} {ms : List Im} {Q : VK} (h1 : Tr H x ms) (h2 : H y = some (.lst [])) (q : Q (.bl ms.isEmpty) H) : qFk K false (.ref x) (.ref y) H Q := by
  refine ⟨_, .lst [], h1.rep, ?_, rfl, by have := qA9 ms; unfold dep; omega, ?_⟩
  · unfold Rep; exact ⟨y, [], rfl, SqL.of h2, by unfold Reps; trivial⟩
  · have e : eqD (.lst (ms.map Im.d)) (.lst []) = ms.isEmpty := by cases ms <;> simp [eqD, zI]
    rw [e]
    exact q
theorem qGr {H : Hp} {x y : Addr} {ms : List Im} {Q : VK} (h1 : Tr H x ms) (h2 : H y = some (.lst [])) (q : Q (.bl (!ms.isEmpty)) H) : qFk K true (.ref x) (.ref y) H Q := by
  refine ⟨_, .lst [], h1.rep, ?_, rfl, by have := qA9 ms; unfold dep; omega, ?_⟩
  · unfold Rep; exact ⟨y, [], rfl, SqL.of h2, by unfold Reps; trivial⟩
  · have e : eqD (.lst (ms.map Im.d)) (.lst []) = ms.isEmpty := by cases ms <;> simp [eqD, zI]
    rw [e]
    exact q
theorem IsIs.dl {H : Hp} : ∀ {ms : List Im} {vs : List V}, IsIs H ms vs → IsIs H ms.dropLast vs.dropLast
  | [], [], _ => trivial
  | [_], [_], _ => trivial
  | _ :: _ :: _, _ :: _ :: _, h => ⟨h.1, IsIs.dl h.2⟩
  | [], _ :: _, h => h.elim
  | _ :: _, [], h => h.elim
  | [_], _ :: _ :: _, h => h.2.elim
  | _ :: _ :: _, [_], h => h.2.elim
theorem IsIs.last {H : Hp} {ms : List Im} {vs : List V} (h : IsIs H ms vs) (hne : ms ≠ []) : ∃ v m, vs[vs.length - 1]? = some v ∧ ms.getLast? = some m ∧ m ∈ ms ∧ IsI H m v := by
  have hl : 0 < ms.length := List.length_pos_iff.mpr hne
  have hi : vs.length - 1 < vs.length := by rw [h.len]; omega
  have ev : vs[vs.length - 1]? = some vs[vs.length - 1] := List.getElem?_eq_getElem hi
  obtain ⟨m, h1, h2⟩ := h.get ev
  refine ⟨_, m, ev, ?_, List.mem_of_getElem? h1, h2⟩
  rw [h.len] at h1
  rw [List.getLast?_eq_getElem?]
  exact h1
theorem qHa {m : Im} (h : m.wd = "gap") : ∃ l, m = .gap l := by
  cases m with
  | gap l => exact ⟨l, rfl⟩
  | clip => exact absurd (show ("clip" : Str) = "gap" from h) (by decide +kernel)
  | nest => exact absurd (show ("nest" : Str) = "gap" from h) (by decide +kernel)
  | mix => exact absurd (show ("mix" : Str) = "gap" from h) (by decide +kernel)
def Im.mo : Im → Int
  | .mix _ => 0
  | .clip _ _ _ _ _ l => l
  | .nest _ _ l => l
  | .gap l => l
theorem z6 {α : Type} {xs : List α} {v : α} (h : xs[xs.length - 1]? = some v) : atI xs (-1) = some v := by
  have hl : 0 < xs.length := by
    have := (glt h)
    omega
  have e : ixN xs.length (-1) = some (xs.length - 1) := by
    unfold ixN
    rw [if_neg (by decide), if_pos (by omega)]
    congr 1
    omega
  unfold atI; rw [e]; exact h
theorem qEn {m : Im} (h : m.wd = "mix") : ∃ l, m = .mix l := by
  cases m with
  | mix l => exact ⟨l, rfl⟩
  | clip => exact absurd (show ("clip" : Str) = "mix" from h) (by decide +kernel)
  | nest => exact absurd (show ("nest" : Str) = "mix" from h) (by decide +kernel)
  | gap => exact absurd (show ("gap" : Str) = "mix" from h) (by decide +kernel)
theorem qIk {m : Im} (h : m.wd ≠ "mix") : m.mo = m.l := by
  cases m with
  | mix l => exact absurd rfl h
  | _ => rfl
theorem qHn {x y : Str} : decide (V.str x = V.str y) = decide (x = y) := by
  rw [Bool.eq_iff_iff]; simp
def vP : Sp := fun vs H Q _ => ∃ (v : V) (m : Im), vs = [v] ∧ IsI H m v ∧ Q (.int m.mo) H
theorem vQ (T : Tx K mg a) : FnOk P w K mg base CX0 1 a.a_moments_of a.f_moments_of ["item"] vP := by
  refine T.d_moments_of.F.ok vJ (fun vs H Q E h => ?_) (fun cdv A outer s H vs Q E hr h => ?_)
  · obtain ⟨v, m, rfl, _⟩ := h
    rfl
  obtain ⟨v, m, rfl, hI, kk⟩ := h
  refine ⟨_, (qH (qK (wo (qM jc (qJ qI (pv 0) qD (fun _ _ => rfl)) qR (qL _)) qD (qJ qI (pv 0) (zW xP qD) (fun _ _ => rfl))))), ?_⟩
  try dsimp only [xG, jG]
  obtain ⟨z, xs, rfl, hz, h0, h1⟩ := hI.opn
  refine ⟨_, rfl, z, xs, _, _, rfl, rfl, SqT.of hz, h0, rfl, _, rfl, zH (fun c => ?_) (fun c => ?_)⟩
  · obtain ⟨l, rfl⟩ := qEn (by simpa using c)
    exact kk
  · rw [qIk (by simpa using c)] at kk
    exact ⟨_, rfl, _, rfl, z, xs, _, _, rfl, rfl, SqT.of hz, h1, kk⟩
inductive RtB (K : W.Frag) (H : Hp) : V → Bool → Prop where
  | no {x : V} (h : FrB K H x false) : RtB K H x false
  | nums {z : Addr} {p q : Int} (e : H z = some (.tup [.int p, .int q])) (hq : 1 ≤ q) (hg : Int.gcd p q = 1) (bp : Sm p) (bq : Sm q) : RtB K H (.ref z) (decide (0 < p))
theorem qE7 {H H' : Hp} (s : Same H H') {x : V} {t : Value} (h : vW K H x t) : vW K H' x t := by
  cases h with
  | non => exact .non
  | bl x => exact .bl x
  | int i => exact .int i
  | str z => exact .str z
  | flt x => exact .flt x
  | lst e => exact .lst (s _ _ e)
  | frz e => exact .frz (s _ _ e)
  | tup e => exact .tup (s _ _ e)
  | dK e => exact .dK (s _ _ e)
  | dT e => exact .dT (s _ _ e)
  | ins e cl ha hn htk hm => exact .ins (s _ _ e) cl ha hn htk hm
theorem FrB.same {H H' : Hp} (s : Same H H') {x : V} {b : Bool} (h : FrB K H x b) : FrB K H' x b := by
  cases h with
  | no ty e => exact .no (qE7 s ty) e
  | len e h => exact .len (s _ _ e) h
  | one e h => exact .one (s _ _ e) (h.same s)
  | two e h => exact .two (s _ _ e) (h.same s)
  | nums e => exact .nums (s _ _ e)
theorem RtB.same {H H' : Hp} (s : Same H H') {x : V} {b : Bool} (h : RtB K H x b) : RtB K H' x b := by
  cases h with
  | no h => exact .no (h.same s)
  | nums e hq hg bp bq => exact .nums (s _ _ e) hq hg bp bq
structure Rate (H : Hp) (x : V) (p q : Int) : Prop where
  ex : ∃ z, x = .ref z ∧ H z = some (.tup [.int p, .int q])
  p0 : 0 < p
  q0 : 0 < q
  g : Int.gcd p q = 1
  bp : p < 1000000
  bq : q < 1000000
theorem xz {i : Int} (h0 : -1000000 < i) (h : i < 1000000) : Sm i := Sm.of200 (Nat.lt_of_lt_of_le (show i.natAbs < 2 ^ 20 by omega) (Nat.pow_le_pow_right (by decide) (by decide)))
theorem Rate.same {H H' : Hp} {x : V} {p q : Int} (s : Same H H') (h : Rate H x p q) : Rate H' x p q := ⟨let ⟨z, e1, e2⟩ := h.ex; ⟨z, e1, s _ _ e2⟩, h.p0, h.q0, h.g, h.bp, h.bq⟩
theorem Rate.rt {H : Hp} {x : V} {p q : Int} (h : Rate H x p q) : RtB K H x true := by
  obtain ⟨z, rfl, e⟩ := h.ex
  have hp := h.p0
  have hq := h.q0
  have bp := h.bp
  have bq := h.bq
  have := RtB.nums (K := K) e (by omega) h.g (xz (by omega) (by omega)) (xz (by omega) (by omega))
  rwa [decide_eq_true hp] at this
theorem Rate.pr {H : Hp} {x : V} {p q : Int} (h : Rate H x p q) : Pr K H x p q := let ⟨z, e1, e2⟩ := h.ex; ⟨z, e1, SqT.of e2⟩
def qAr (K : W.Frag) : Sp := fun vs H Q _ => ∃ (x : V) (b : Bool), vs = [x] ∧ RtB K H x b ∧ Q (.bl b) H
theorem xx (T : Tx K mg a) : FnOk P w K mg base CX0 3 a.a_is_rate a.f_is_rate ["thing"] (qAr K) := by
  refine T.d_is_rate.F.ok qAn (fun vs H Q E h => ?_) (fun cdv A outer s H vs Q E hr h => ?_)
  · obtain ⟨x, b, rfl, _⟩ := h
    rfl
  obtain ⟨x, b, rfl, hx, k⟩ := h
  refine ⟨_, (qH (qK (xa (qP T.d_is_fraction (j1 T) hr rfl (qA (pv 0) qE)) (xF (qP T.d_is_before (xm T) hr rfl (qA (ju (v := .ref a.n_NOUGHT) rfl T.g_NOUGHT rfl) (qA (pv 0) qE))))))), ?_⟩
  try dsimp only [xG, jG]
  cases hx with
  | no h => exact ⟨_, rfl, x, false, rfl, h, false, rfl, qo k⟩
  | @nums z p q e hq hg bp bq =>
    have f := FrB.nums (K := K) e
    have d : (decide (1 ≤ q) && decide (Int.gcd p q = 1)) = true := by rw [hg, decide_eq_true hq]; rfl
    rw [d] at f
    refine ⟨_, rfl, _, true, rfl, f, true, rfl, jI ?_⟩
    refine ⟨_, rfl, _, _, 0, 1, p, q, rfl, ⟨_, rfl, T.sq_NOUGHT H⟩, ⟨z, rfl, SqT.of e⟩, xz (by decide) (by decide), xz (by decide) (by decide), bp, bq, ?_⟩
    have e : decide (0 * q < p * 1) = decide (0 < p) := by rw [Int.zero_mul, Int.mul_one]
    rw [e]
    exact k
def kq (K : W.Frag) : Sp := fun vs H Q _ => ∃ (x y : V), vs = [x, y] ∧ RtB K H x true ∧ RtB K H y true ∧ Q .non H
theorem km (T : Tx K mg a) : FnOk P w K mg base CX0 4 a.a_check_rates a.f_check_rates ["rate", "other"] (kq K) := by
  refine T.d_check_rates.F.ok x9 (fun vs H Q E h => ?_) (fun cdv A outer s H vs Q E hr h => ?_)
  · obtain ⟨x, y, rfl, _⟩ := h
    rfl
  obtain ⟨x, y, rfl, hx, hy, k⟩ := h
  refine ⟨_, (qH (q8 (PW.pt (jk (jA (q9 (qP T.d_is_rate (xx T) hr rfl (qA (pv 0) qE)))) (jT (jA (q9 (qP T.d_is_rate (xx T) hr rfl (qA (pv 1) qE))))))) kF qQ)), ?_⟩
  try dsimp only [xG, jG]
  refine ⟨_, rfl, x, true, rfl, hx, true, rfl, qo ?_⟩
  exact ⟨_, rfl, y, true, rfl, hy, true, rfl, qo k⟩
def whD : Option Im → D
  | none => .tup [.leaf (.str "end")]
  | some (.clip n p q r s _) => .tup [.leaf (.str "clip"), .leaf (.str n), .tup [.leaf (.int p), .leaf (.int q)], .tup [.leaf (.int r), .leaf (.int s)]]
  | some (.nest n b _) => .tup [.leaf (.str "nest"), .leaf (.str n), .leaf (.int b)]
  | some (.gap _) => .tup [.leaf (.str "gap")]
  | some (.mix l) => .tup [.leaf (.str "mix"), .leaf (.int l)]
def WhV (K : W.Frag) (H : Hp) : Option Im → V → Prop
  | none, v => ∃ z, v = .ref z ∧ (H z = some (.tup [.str "end"]) ∨ ∀ H', SqT K H' z [.str "end"])
  | some (.clip n p q r s _), v => ∃ z x y, v = .ref z ∧ H z = some (.tup [.str "clip", .str n, .ref x, .ref y]) ∧ H x = some (.tup [.int p, .int q]) ∧ H y = some (.tup [.int r, .int s])
  | some (.nest n b _), v => ∃ z, v = .ref z ∧ H z = some (.tup [.str "nest", .str n, .int b])
  | some (.gap _), v => ∃ z, v = .ref z ∧ H z = some (.tup [.str "gap"])
  | some (.mix l), v => ∃ z, v = .ref z ∧ H z = some (.tup [.str "mix", .int l])
theorem qGy {H : Hp} {z : Addr} (h : H z = some (.tup [.str "end"]) ∨ ∀ H', SqT K H' z [.str "end"]) : SqT K H z [.str "end"] := h.elim SqT.of fun h => h H
theorem nm5 : ¬ (HT.sIx 5 0 none = 0 ∧ HT.sIx 5 5 (some (-1)) = 5) := by decide
theorem nm4 : ¬ (HT.sIx 4 0 none = 0 ∧ HT.sIx 4 4 (some (-1)) = 4) := by decide
theorem nm2 : ¬ (HT.sIx 2 0 none = 0 ∧ HT.sIx 2 2 (some (-1)) = 2) := by decide
theorem WhV.ts {H H' : Hp} (e : TS H H') : ∀ {m : Option Im} {v : V}, WhV K H m v → WhV K H' m v
  | none, _, ⟨z, h, hz⟩ => ⟨z, h, hz.imp (fun h => e _ _ h) id⟩
  | some (.clip ..), _, ⟨z, x, y, h, hz, hx, hy⟩ => ⟨z, x, y, h, e _ _ hz, e _ _ hx, e _ _ hy⟩
  | some (.nest ..), _, ⟨z, h, hz⟩ => ⟨z, h, e _ _ hz⟩
  | some (.gap _), _, ⟨z, h, hz⟩ => ⟨z, h, e _ _ hz⟩
  | some (.mix _), _, ⟨z, h, hz⟩ => ⟨z, h, e _ _ hz⟩
theorem qCc {H : Hp} {z : Addr} {xs : List V} (hz : SqT K H z xs) (h : xs.all xE = true) : Rep K H (.tup (xs.map D.leaf)) (.ref z) := by
  unfold Rep
  exact ⟨z, xs, rfl, hz, vM h⟩
theorem WhV.rep {H : Hp} : ∀ {m : Option Im} {v : V}, WhV K H m v → Rep K H (whD m) v
  | none, _, ⟨z, h, hz⟩ => by subst h; exact qCc (qGy hz) rfl
  | some (.clip n p q r s l), _, ⟨z, x, y, h, hz, hx, hy⟩ => by
    subst h
    have h1 : Rep K H (.tup [.leaf (.int p), .leaf (.int q)]) (.ref x) := jl hx rfl
    have h2 : Rep K H (.tup [.leaf (.int r), .leaf (.int s)]) (.ref y) := jl hy rfl
    unfold whD Rep
    refine ⟨z, _, rfl, SqT.of hz, ?_⟩
    unfold Reps Reps Reps Reps Reps
    refine ⟨?_, ?_, h1, h2, trivial⟩
    · unfold Rep; exact ⟨rfl, rfl⟩
    · unfold Rep; exact ⟨rfl, rfl⟩
  | some (.nest n b l), _, ⟨z, h, hz⟩ => by subst h; exact jl hz rfl
  | some (.gap l), _, ⟨z, h, hz⟩ => by subst h; exact jl hz rfl
  | some (.mix l), _, ⟨z, h, hz⟩ => by subst h; exact jl hz rfl
theorem qF7 (m : Option Im) : dep (whD m) ≤ 2 := by
  rcases m with _ | m
  · simp [whD, dep, vB]
  · cases m <;> simp [whD, dep, vB]
theorem WhV.tup {H : Hp} : ∀ {m : Option Im} {v : V}, WhV K H m v → ∃ z xs, v = .ref z ∧ SqT K H z xs
  | none, _, ⟨z, h, hz⟩ => ⟨z, _, h, qGy hz⟩
  | some (.clip ..), _, ⟨z, _, _, h, hz, _⟩ => ⟨z, _, h, SqT.of hz⟩
  | some (.nest ..), _, ⟨z, h, hz⟩ => ⟨z, _, h, SqT.of hz⟩
  | some (.gap _), _, ⟨z, h, hz⟩ => ⟨z, _, h, SqT.of hz⟩
  | some (.mix _), _, ⟨z, h, hz⟩ => ⟨z, _, h, SqT.of hz⟩
theorem qFz {H : Hp} {m : Im} {v : V} (h : IsI H m v) (hm : m.wd ≠ "mix") : ∃ (z : Addr) (xs : List V), v = .ref z ∧ H z = some (.tup xs) ∧ ¬ (HT.sIx xs.length 0 none = 0 ∧ HT.sIx xs.length xs.length (some (-1)) = xs.length) ∧
    ∀ (t : Addr), H t = none → WhV K (upd H t (.tup (xv xs none (some (-1))))) (some m) (.ref t) := by
  cases m with
  | clip n p q r s l =>
    obtain ⟨z, x, y, h, hz, hx, hy⟩ := h
    refine ⟨z, _, h, hz, nm5, fun t ht => ⟨t, x, y, rfl, qB, (qC ht _) _ _ hx, (qC ht _) _ _ hy⟩⟩
  | nest n b l =>
    obtain ⟨z, h, hz⟩ := h
    exact ⟨z, _, h, hz, nm4, fun t ht => ⟨t, rfl, qB⟩⟩
  | gap l =>
    obtain ⟨z, h, hz⟩ := h
    exact ⟨z, _, h, hz, nm2, fun t ht => ⟨t, rfl, qB⟩⟩
  | mix l => exact absurd rfl hm
theorem qF1 {H : Hp} {l : Int} {v : V} (h : IsI H (.mix l) v) : WhV K H (some (.mix l)) v := let ⟨z, h1, h2⟩ := h; ⟨z, h1, h2⟩
def zS (K : W.Frag) : Sp := fun vs H Q _ => ∃ (v : V) (m : Im), vs = [v] ∧ IsI H m v ∧ ∀ (u : V) (H' : Hp), Same H H' → WhV K H' (some m) u → Q u H'
theorem zU (T : Tx K mg a) : FnOk P w K mg base CX0 1 a.a_without_length a.f_without_length ["item"] (zS K) := by
  refine T.d_without_length.F.ok zR (fun vs H Q E h => ?_) (fun cdv A outer s H vs Q E hr h => ?_)
  · obtain ⟨v, m, rfl, _⟩ := h
    rfl
  obtain ⟨v, m, rfl, hI, kk⟩ := h
  refine ⟨_, (qH (qK (wo (qM jc (qJ qI (pv 0) qD (fun _ _ => rfl)) qR (qL _)) (pv 0) (j2 qD7 (pv 0) xW (xB (zW xP qD)))))), ?_⟩
  try dsimp only [xG, jG]
  obtain ⟨z, xs, rfl, hz, h0, h1⟩ := hI.opn
  refine ⟨_, rfl, z, xs, _, _, rfl, rfl, SqT.of hz, h0, rfl, _, rfl, zH (fun c => ?_) (fun c => ?_)⟩
  · obtain ⟨l, rfl⟩ := qEn (by simpa using c)
    exact ⟨_, rfl, kk _ _ (Same.refl _) (qF1 hI)⟩
  · obtain ⟨z', xs', e, hz', hn, hw⟩ := qFz (K := K) hI (by simpa using c)
    cases e
    exact ⟨_, rfl, 1, rfl, _, rfl, z, _, rfl, SqT.of hz', hn, fun t ht => kk _ _ (qC ht _) (hw t ht)⟩
def wpP (P Q b : Int) : Int := qp (qp b 1 * P) (qY b 1 * Q)
def wpQ (P Q b : Int) : Int := qY (qp b 1 * P) (qY b 1 * Q)
theorem qBz {Q : Int} (b : Int) (h : 0 < Q) : qY b 1 * Q ≠ 0 := Int.mul_ne_zero (by have := jL (t := b) (b := 1) (by decide); omega) (by omega)
theorem we {P Q b : Int} (h : 0 < Q) : 0 < wpQ P Q b := jL (qBz b h)
theorem qF2 {P Q b : Int} (h : 0 < Q) : Int.gcd (wpP P Q b) (wpQ P Q b) = 1 := qBu (qBz b h)
def RowV (K : W.Frag) (H : Hp) (P Q : Int) (r : Int × Option Im) (v : V) : Prop := ∃ z x u, v = .ref z ∧ H z = some (.tup [.int ((wpP P Q r.1).fdiv (wpQ P Q r.1)), .ref x, u]) ∧ H x = some (.tup [.int ((wpP P Q r.1).fmod (wpQ P Q r.1)), .int (wpQ P Q r.1)]) ∧ WhV K H r.2 u
theorem RowV.ts {H H' : Hp} (e : TS H H') {P Q : Int} {r : Int × Option Im} {v : V} (h : RowV K H P Q r v) : RowV K H' P Q r v := let ⟨z, x, u, h1, h2, h3, h4⟩ := h; ⟨z, x, u, h1, e _ _ h2, e _ _ h3, h4.ts e⟩
def RowsV (K : W.Frag) (H : Hp) (P Q : Int) : List (Int × Option Im) → List V → Prop
  | [], [] => True
  | r :: rs, v :: vs => RowV K H P Q r v ∧ RowsV K H P Q rs vs
  | _, _ => False
theorem RowsV.len {H : Hp} {P Q : Int} : ∀ {rs : List (Int × Option Im)} {vs : List V}, RowsV K H P Q rs vs → vs.length = rs.length
  | [], [], _ => rfl
  | _ :: _, _ :: _, h => by rw [List.length_cons, List.length_cons, RowsV.len h.2]
  | [], _ :: _, h => h.elim
  | _ :: _, [], h => h.elim
theorem RowsV.ts {H H' : Hp} (e : TS H H') {P Q : Int} : ∀ {rs : List (Int × Option Im)} {vs : List V}, RowsV K H P Q rs vs → RowsV K H' P Q rs vs
  | [], [], _ => trivial
  | _ :: _, _ :: _, h => ⟨RowV.ts e h.1, RowsV.ts e h.2⟩
  | [], _ :: _, h => h.elim
  | _ :: _, [], h => h.elim
theorem RowsV.get {H : Hp} {P Q : Int} : ∀ {rs : List (Int × Option Im)} {vs : List V} {i : Nat} {v : V}, RowsV K H P Q rs vs → vs[i]? = some v → ∃ r, rs[i]? = some r ∧ RowV K H P Q r v
  | [], [], _, _, _, h => by simp at h
  | m :: _, x :: _, 0, v, h, e => by
    have e' : x = v := by simpa using e
    subst e'
    exact ⟨m, rfl, h.1⟩
  | _ :: ms, _ :: vs, i + 1, v, h, e => by
    obtain ⟨m, h1, h2⟩ := RowsV.get (i := i) h.2 (by simpa using e)
    exact ⟨m, by simpa using h1, h2⟩
  | [], _ :: _, _, _, h, _ => h.elim
  | _ :: _, [], _, _, h, _ => h.elim
theorem RowsV.app {H : Hp} {P Q : Int} : ∀ {ms : List (Int × Option Im)} {vs : List V} {ms' : List (Int × Option Im)} {vs' : List V}, RowsV K H P Q ms vs → RowsV K H P Q ms' vs' → RowsV K H P Q (ms ++ ms') (vs ++ vs')
  | [], [], _, _, _, h' => h'
  | _ :: _, _ :: _, _, _, h, h' => ⟨h.1, h.2.app h'⟩
  | [], _ :: _, _, _, h, _ => h.elim
  | _ :: _, [], _, _, h, _ => h.elim
theorem RowsV.one {H : Hp} {P Q : Int} {r : Int × Option Im} {v : V} (h : RowV K H P Q r v) : RowsV K H P Q [r] [v] := ⟨h, trivial⟩
def qBy (K : W.Frag) : Sp := fun vs H Q _ => ∃ (b P R : Int) (y u : V) (m : Option Im), vs = [.int b, y, u] ∧ Pr K H y P R ∧ 0 < R ∧ b.natAbs < 2 ^ 200 ∧ P.natAbs < 2 ^ 200 ∧ R.natAbs < 2 ^ 200 ∧ WhV K H m u ∧ ∀ (v : V) (H' : Hp), Same H H' → RowV K H' P R (b, m) v → Q v H'
theorem vm (T : Tx K mg a) : FnOk P w K mg base CX0 4 a.a_row_at a.f_row_at ["border", "by", "what"] (qBy K) := by
  refine T.d_row_at.F.ok sc_row_at (fun vs H Q E h => ?_) (fun cdv A outer s H vs Q E hr h => ?_)
  · obtain ⟨b, P, R, y, u, m, rfl, _⟩ := h
    rfl
  obtain ⟨b, P', R, y, u, m, rfl, hy, hR, bb, bP, bR, hw, kk⟩ := h
  refine ⟨_, (qF (qc (i := 3) sc_row_at.nd rfl (Or.inl rfl) (qP T.d_times_of (kP T) hr rfl (qA (qP T.d_fraction (xD T) hr rfl (qA (pv 0) (qA qD qE))) (qA (pv 1) qE))))
      (qH (qK (qO (qA (qP T.d_floor_of (zC T) hr rfl (qA (pv 3) qE)) (qA (qP T.d_rest_of (vA T) hr rfl (qA (pv 3) qE)) (qA (pv 2) qE))))))), ?_⟩
  try dsimp only [xG, jG]
  have l1 : (qp b 1).natAbs < 2 ^ 200 := Nat.lt_of_le_of_lt (j4 (by decide)) bb
  have l2 : (qY b 1).natAbs < 2 ^ 200 := Nat.lt_of_le_of_lt (jn (by decide)) (by decide)
  have l3 := jL (t := b) (b := 1) (by decide)
  refine ⟨_, rfl, b, 1, rfl, by decide, qDm (n := 1) (by decide), fun z1 h1 => ?_⟩
  have w1 := qC h1 (.tup [.int (qp b 1), .int (qY b 1)])
  refine ⟨_, rfl, _, _, qp b 1, qY b 1, P', R, rfl, ⟨z1, rfl, SqT.of qB⟩, hy.same w1, by omega, by omega, .of200 l1, .of200 l2, .of200 bP, .of200 bR, fun z2 h2 => ?_⟩
  have w2 := qC h2 (.tup [.int (wpP P' R b), .int (wpQ P' R b)])
  have hq := we (P := P') (b := b) hR
  have bq : (wpQ P' R b).natAbs < 2 ^ 8000 := by
    refine Nat.lt_of_le_of_lt (jn (qBz b hR)) ?_
    exact Sm.prod (.of200 l2) (.of200 bR)
  have p2 : Pr K (upd (upd H z1 (.tup [.int (qp b 1), .int (qY b 1)])) z2 (.tup [.int (wpP P' R b), .int (wpQ P' R b)])) (.ref z2) (wpP P' R b) (wpQ P' R b) := ⟨z2, rfl, SqT.of qB⟩
  refine ⟨_, rfl, _, _, _, rfl, p2, by omega, bq, _, rfl, _, _, _, rfl, p2, by omega, fun z3 h3 => ?_⟩
  have w3 := qC h3 (.tup [.int ((wpP P' R b).fmod (wpQ P' R b)), .int (wpQ P' R b)])
  refine ⟨_, rfl, sL3, fun z4 h4 => ?_⟩
  have w4 := qC h4 (.tup [.int ((wpP P' R b).fdiv (wpQ P' R b)), .ref z3, u])
  exact kk _ _ (((w1.trans w2).trans w3).trans w4) ⟨z4, z3, u, rfl, qB, w4 _ _ qB, hw.ts (qj (((w1.trans w2).trans w3).trans w4))⟩
def pre : Int → List Im → List (Int × Option Im)
  | _, [] => []
  | b, m :: ms => (b, some m) :: pre (b + m.mo) ms
theorem wm : ∀ (ms : List Im) (b : Int) (m : Im), pre b (ms ++ [m]) = pre b ms ++ [(b + (ms.map Im.mo).sum, some m)]
  | [], b, m => by simp [pre]
  | x :: ms, b, m => by
    rw [List.cons_append, pre, wm ms, pre, List.map_cons, List.sum_cons, List.cons_append, Int.add_assoc]
theorem zB : ∀ (ms : List Im) (b : Int), (pre b ms).length = ms.length
  | [], _ => rfl
  | _ :: ms, _ => by rw [pre, List.length_cons, List.length_cons, zB ms]
theorem qB9 : ∀ (ms : List Im) (b : Int) (i : Nat) (m : Im), ms[i]? = some m → (pre b ms)[i]? = some (b + ((ms.take i).map Im.mo).sum, some m)
  | [], _, _, _, h => by simp at h
  | x :: ms, b, 0, m, h => by
    have : x = m := by simpa using h
    subst this
    simp [pre]
  | x :: ms, b, i + 1, m, h => by
    have := qB9 ms (b + x.mo) i m (by simpa using h)
    rw [pre, List.getElem?_cons_succ, this, List.take_succ_cons, List.map_cons, List.sum_cons, Int.add_assoc]
def zg (ms : List Im) : List (Int × Option Im) := pre 0 ms ++ [((ms.map Im.mo).sum, none)]
theorem wv (ms : List Im) : (zg ms).length = ms.length + 1 := by unfold zg; rw [List.length_append, zB]; rfl
theorem qDb {ms : List Im} {i : Nat} {m : Im} (h : ms[i]? = some m) : (zg ms)[i]? = some (((ms.take i).map Im.mo).sum, some m) := by
  unfold zg
  rw [List.getElem?_append_left (by rw [zB]; exact glt h), qB9 ms 0 i m h, Int.zero_add]
theorem qDs (ms : List Im) : (zg ms)[ms.length]? = some ((ms.map Im.mo).sum, none) := by
  unfold zg
  rw [List.getElem?_append_right (by rw [zB]; omega), zB, Nat.sub_self]
  rfl
def Bd (ms : List Im) : Prop := ms.length ≤ 200 ∧ ∀ m ∈ ms, 0 ≤ m.mo ∧ m.mo ≤ 10 ^ 30
theorem qDz : ∀ (ms : List Im), (∀ m ∈ ms, 0 ≤ m.mo ∧ m.mo ≤ 10 ^ 30) → 0 ≤ (ms.map Im.mo).sum ∧ (ms.map Im.mo).sum ≤ ms.length * 10 ^ 30
  | [], _ => by simp
  | m :: ms, h => by
    have h1 := h m (by simp)
    have h2 := qDz ms fun x hx => h x (by simp [hx])
    rw [List.map_cons, List.sum_cons, List.length_cons]
    omega
theorem Bd.sum {ms : List Im} (h : Bd ms) (i : Nat) : 0 ≤ ((ms.take i).map Im.mo).sum ∧ ((ms.take i).map Im.mo).sum ≤ 200 * 10 ^ 30 := by
  have h2 := qDz (ms.take i) fun m hm => h.2 m (List.mem_of_mem_take hm)
  have h3 : (ms.take i).length ≤ 200 := by rw [List.length_take]; have := h.1; omega
  omega
theorem Bd.abs {ms : List Im} (h : Bd ms) (i : Nat) : (((ms.take i).map Im.mo).sum).natAbs < 2 ^ 200 := by
  have := h.sum i
  have e : (200 * 10 ^ 30 : Nat) < 2 ^ 200 := by decide
  omega
def byP (r0 r1 o0 o1 : Int) : Int := qp (o0 * r1) (o1 * r0)
def byQ (r0 r1 o0 o1 : Int) : Int := qY (o0 * r1) (o1 * r0)
theorem qEg {r0 o1 : Int} (h1 : 0 < r0) (h2 : 0 < o1) : o1 * r0 ≠ 0 := Int.mul_ne_zero (by omega) (by omega)
theorem xJ {x y : Int} (h0 : 0 < x) (h1 : x < 1000000) (h2 : 0 < y) (h3 : y < 1000000) : (x * y).natAbs < 2 ^ 200 := by
  have h := qFx (Int.le_of_lt h0) h1 (Int.le_of_lt h2) h3
  have h' := Int.mul_pos h0 h2
  exact Nat.lt_of_lt_of_le (show (x * y).natAbs < 2 ^ 40 by omega) (Nat.pow_le_pow_right (by decide) (by decide))
def qA0 (K : W.Frag) : Sp := fun vs H Q _ => ∃ (z : Addr) (ms : List Im) (x y : V) (r0 r1 o0 o1 : Int), vs = [.ref z, x, y] ∧ Tr H z ms ∧ Bd ms ∧ Rate H x r0 r1 ∧ Rate H y o0 o1 ∧
  ∀ (l : Addr) (us : List V) (H' : Hp), Same H H' → H l = none → H' l = some (.lst us) → RowsV K H' (byP r0 r1 o0 o1) (byQ r0 r1 o0 o1) (zg ms) us → Q (.ref l) H'
theorem qAv (T : Tx K mg a) : FnOk P w K mg base CX0 5 a.a_written a.f_written ["track", "rate", "other"] (qA0 K) := by
  refine T.d_written.F.ok sc_written (fun vs H Q E h => ?_) (fun cdv A outer s H vs Q E hr h => ?_)
  · obtain ⟨z, ms, x, y, r0, r1, o0, o1, rfl, _⟩ := h
    rfl
  obtain ⟨z, ms, x, y, r0, r1, o0, o1, rfl, tT, hB, rx, ry, kk⟩ := h
  refine ⟨_, (qF (jp (qP T.d_check_rates (km T) hr rfl (qA (pv 1) (qA (pv 2) qE))))
      (qF (qc (i := 3) sc_written.nd rfl (Or.inl rfl) (qP T.d_quotient (kE T) hr rfl (qA (pv 2) (qA (pv 1) qE))))
      (qF (qc (i := 4) sc_written.nd rfl (Or.inl rfl) (jF qE))
      (qF (qc (i := 5) sc_written.nd rfl (Or.inl rfl) qD)
      (qF (kY PassesOwn.never rfl (qCh (pv 0)) (jU (i := 6) sc_written.nd rfl (Or.inl rfl)) (qF (jp (vU F.plainAttrs_list F.slot_list_append F.type_list_append jm (pv 4) (qA (qP T.d_row_at (vm T) hr rfl (qA (pv 5) (qA (pv 3) (qA (qP T.d_without_length (zU T) hr rfl (qA (pv 6) qE)) qE)))) qE)))
      (qH (qc (i := 5) sc_written.nd rfl (Or.inl rfl) (qN jW (pv 5) (qP T.d_moments_of (vQ T) hr rfl (qA (pv 6) qE)))))))
      (qH (qK (qN xg (pv 4) (jF (qA (qP T.d_row_at (vm T) hr rfl (qA (pv 5) (qA (pv 3) (qA (ju (v := .ref a.n_END) rfl T.g_END rfl) qE)))) qE)))))))))), ?_⟩
  try dsimp only [xG, jG]
  have px := rx.p0
  have py := ry.p0
  have qx := rx.q0
  have qy := ry.q0
  have c1 := rx.bp
  have c2 := rx.bq
  have c3 := ry.bp
  have c4 := ry.bq
  refine ⟨_, rfl, _, rfl, x, y, rfl, rx.rt, ry.rt, ?_⟩
  refine ⟨_, rfl, _, rfl, y, x, o0, o1, r0, r1, rfl, ry.pr, rx.pr, by omega, by omega, xz (by omega) (by omega), xz (by omega) (by omega), xz (by omega) (by omega), xz (by omega) (by omega), fun zb hb => ?_⟩
  unfold byP byQ at kk
  have hne := qEg px qy
  have bP : (qp (o0 * r1) (o1 * r0)).natAbs < 2 ^ 200 := Nat.lt_of_le_of_lt (j4 hne) (xJ py c3 qx c2)
  have bQ : (qY (o0 * r1) (o1 * r0)).natAbs < 2 ^ 200 := Nat.lt_of_le_of_lt (jn hne) (xJ qy c4 px c1)
  have q0 : 0 < qY (o0 * r1) (o1 * r0) := jL hne
  generalize qp (o0 * r1) (o1 * r0) = BP at kk bP ⊢
  generalize qY (o0 * r1) (o1 * r0) = BQ at kk bQ q0 ⊢
  have w1 := qC hb (.tup [.int BP, .int BQ])
  refine ⟨sL0, fun l hl => ?_⟩
  have w2 := qC hl (.lst [])
  have w12 := w1.trans w2
  have pB : (upd (upd H zb (.tup [.int BP, .int BQ])) l (.lst [])) zb = some (.tup [.int BP, .int BQ]) := w2 _ _ qB
  obtain ⟨vs, hz, his⟩ := tT
  have el : (upd (upd H zb (.tup [.int BP, .int BQ])) l (.lst [])) l = some (.lst []) := qB
  have hl0 : H l = none := w1.free hl
  generalize upd (upd H zb (.tup [.int BP, .int BQ])) l (.lst []) = H2 at w12 pB el ⊢
  have pB' : ∀ {H' : Hp}, TS H2 H' → Pr K H' (.ref zb) BP BQ := fun ts => ⟨zb, rfl, SqT.of (ts _ _ pB)⟩
  refine ⟨_, rfl, z, rfl, ⟨_, SqL.of (w12 _ _ hz)⟩, qAd (K := K) (a := z) (xs := vs) (fun i σ H' => ∃ (o : Option V) (us : List V), σ = [some (.ref z), some x, some y, some (.ref zb), some (.ref l), some (.int ((ms.take i).map Im.mo).sum), o] ∧ H' l = some (.lst us) ∧ RowsV K H' BP BQ (pre 0 (ms.take i)) us ∧ TS H2 H' ∧ Same H H')
    ⟨none, [], rfl, el, trivial, TS.refl _, w12⟩ ?_ ?_ ?_⟩
  · rintro i σ H' hi ⟨_, _, _, _, _, _, e⟩
    exact SqL.of (e _ _ hz)
  · rintro i x' σ H' hx ⟨o, us, rfl, hus, hrs, ts, e⟩
    obtain ⟨m, hm, hI⟩ := his.get hx
    have hI := hI.ts (qj e)
    have hul : us.length ≤ 200 := by rw [hrs.len, zB, List.length_take]; have := hB.1; omega
    have et : ms.take (i + 1) = ms.take i ++ [m] := by rw [List.take_add_one, hm]; rfl
    refine ⟨_, rfl, .inl ⟨rfl, _, SqL.of hus⟩, _, rfl, _, rfl, _, rfl, x', m, rfl, hI, fun u H3 s3 hw => ?_⟩
    refine ⟨_, BP, BQ, _, u, some m, rfl, (pB' ts).same s3, q0, hB.abs i, bP, bQ, hw, fun v H4 s4 rv => ?_⟩
    have s34 := s3.trans s4
    have hus4 := s34 _ _ hus
    refine ⟨l, us, v, rfl, rfl, hus4, qd (by omega), ?_⟩
    have t5 : TS H4 (upd H4 l (.lst (us ++ [v]))) := zA hus4
    have tI := (hI.ts (qj s34)).ts t5
    refine ⟨_, rfl, _, rfl, x', m, rfl, tI, _, _, rfl, rfl, some x', us ++ [v], ?_, qB, ?_, (ts.trans (qj s34)).trans t5, jq (e.trans s34) hl0⟩
    · rw [et, List.map_append, List.sum_append]
      show _ = [some (V.ref z), some x, some y, some (.ref zb), some (.ref l), some (.int (((ms.take i).map Im.mo).sum + (m.mo + 0))), some x']
      rw [Int.add_zero]
      rfl
    · rw [et, wm, Int.zero_add]
      exact ((hrs.ts (qj s34)).app (.one rv)).ts t5
  · rintro σ H' ⟨o, us, rfl, hus, hrs, ts, e⟩
    have em : ms.take vs.length = ms := by rw [his.len, List.take_length]
    rw [em] at hrs ⊢
    have hul : us.length ≤ 200 := by rw [hrs.len, zB]; exact hB.1
    have ba : ((ms.map Im.mo).sum).natAbs < 2 ^ 200 := by have := hB.abs vs.length; rwa [em] at this
    refine ⟨_, rfl, _, rfl, _, rfl, _, BP, BQ, _, .ref a.n_END, none, rfl, pB' ts, q0, ba, bP, bQ, ⟨_, rfl, .inr T.sq_END⟩, fun v H4 s4 rv => ?_⟩
    refine ⟨sL1, fun d hd => ?_⟩
    have w5 := qC hd (.lst [v])
    refine ⟨l, d, us, [v], rfl, rfl, w5 _ _ (s4 _ _ hus), qB, Nat.le_of_lt (qd (by show us.length + 1 ≤ 1000; omega)), fun L hL => ?_⟩
    have w6 := qC hL (.lst (us ++ [v]))
    have s46 := (s4.trans w5).trans w6
    exact kk L _ _ (e.trans s46) ((e.trans (s4.trans w5)).free hL) qB ((hrs.ts (qj s46)).app (.one (rv.ts (qj (w5.trans w6)))))
def zr (P Q : Int) (r : Int × Option Im) : Bool := xO [.int ((wpP P Q r.1).fmod (wpQ P Q r.1)), .int (wpQ P Q r.1)] [.int 0, .int 1]
def vI : Sp := fun vs H Q _ => ∃ n m : Int, vs = [.int n, .int m] ∧ 0 ≤ m ∧ m ≤ 100 ∧
  ∀ (z : Addr) (xs : List Int), H z = none → xs.length = m.toNat → (∀ x ∈ xs, 0 ≤ x ∧ x < 2147483629) → Q (.ref z) (upd H z (.lst (xs.map V.int)))
theorem xY (T : Tx K mg a) : FnOk P w K mg base CX0 1 a.a__law_drawn a.f__law_drawn ["_law_number", "_law_many"] vI := by
  refine T.d__law_drawn.F.ok sc__law_drawn (fun vs H Q E h => ?_) (fun cdv A outer s H vs Q E hr h => ?_)
  · obtain ⟨n, m, rfl, _⟩ := h
    rfl
  obtain ⟨n, m, rfl, h0, h1, k⟩ := h
  refine ⟨_, (qF (qc (i := 2) sc__law_drawn.nd rfl (Or.inl rfl) (jF qE))
      (qF (qc (i := 3) sc__law_drawn.nd rfl (Or.inl rfl) (qN qh (pv 0) qD))
      (qF (kY PassesOwn.never rfl (kM rfl T.b_range (qA (pv 1) qE)) (jU (i := 4) sc__law_drawn.nd rfl (Or.inl rfl)) (qF (qc (i := 3) sc__law_drawn.nd rfl (Or.inl rfl) (qN qh (qN jW (qN jW (qN jW (qN jH (pv 3) (pv 3)) (qN jH qD (pv 3))) (qN jH qD (pv 4))) qD) qD))
      (qH (jp (vU F.plainAttrs_list F.slot_list_append F.type_list_append jm (pv 2) (qA (qN qr (pv 3) qD) qE))))))
      (qH (qK (pv 2)))))), ?_⟩
  try dsimp only [xG, jG]
  refine ⟨sL0, fun z hz => ?_⟩
  refine ⟨_, rfl, _, _, rfl, rfl, nz, ?_⟩
  refine ⟨_, rfl, m, rfl, by omega, by omega, kO (n := m.toNat) (fun i σ H' => ∃ (xs : List Int) (x : Int) (o : Option V), σ = [some (.int n), some (.int m), some (.ref z), some (.int x), o] ∧ H' = upd H z (.lst (xs.map V.int)) ∧ xs.length = i ∧ (∀ x ∈ xs, 0 ≤ x ∧ x < 2147483629) ∧ 0 ≤ x ∧ x < 2147483629)
    ⟨[], _, none, rfl, rfl, rfl, (by simp), Int.fmod_nonneg_of_pos n (by decide), Int.fmod_lt_of_pos n (by decide)⟩ ?_ ?_⟩
  · rintro i σ H' hi ⟨xs, x, o, rfl, rfl, hl, hx, x0, x1⟩
    have q0 := Int.fmod_nonneg_of_pos (x * x + 40692 * x + 2 * (0 + (i : Int)) + 1) (show (0 : Int) < 2147483629 by decide)
    have q1 := Int.fmod_lt_of_pos (x * x + 40692 * x + 2 * (0 + (i : Int)) + 1) (show (0 : Int) < 2147483629 by decide)
    refine ⟨_, rfl, _, rfl, _, _, rfl, rfl, cmL (by omega) (by omega), _, rfl, _, _, rfl, rfl, cmL (by decide) (by decide), _, _, rfl, rfl, ?_⟩
    refine ⟨_, rfl, _, _, rfl, rfl, cmL (by decide) (by decide), _, _, rfl, rfl, _, _, rfl, rfl, _, _, rfl, rfl, nz, ?_⟩
    refine ⟨_, rfl, .inl ⟨rfl, _, SqL.of qB⟩, _, rfl, _, _, rfl, rfl, cdB (by decide) (by decide), z, _, _, rfl, rfl, qB, (by rw [List.length_map]; exact qd (by omega)), ?_⟩
    refine ⟨xs ++ [(x * x + 40692 * x + 2 * (0 + (i : Int)) + 1).fmod 2147483629 |>.fdiv 3], _, _, rfl, ?_, ?_, ?_, q0, q1⟩
    · rw [qFa, List.map_append]
      rfl
    · rw [List.length_append, hl]
      rfl
    · intro y hy
      rcases List.mem_append.mp hy with hy | hy
      · exact hx y hy
      · have e : y = ((x * x + 40692 * x + 2 * (0 + (i : Int)) + 1).fmod 2147483629).fdiv 3 := by simpa using hy
        rw [e, Int.fdiv_eq_ediv_of_nonneg _ (by decide)]
        omega
  · rintro σ H' ⟨xs, x, o, rfl, rfl, hl, hx, x0, x1⟩
    exact ⟨_, rfl, k z xs hz hl hx⟩
theorem atN {xs : List V} {i : Int} {n : Nat} (h : xs.length = n) (h0 : 0 ≤ i) (h1 : i < (n : Int)) : ∃ v, atI xs i = some v ∧ v ∈ xs := by
  have hi : i.toNat < xs.length := by omega
  have e : i = ((i.toNat : Nat) : Int) := by omega
  have hat := zV (List.getElem?_eq_getElem hi)
  rw [← e] at hat
  exact ⟨_, hat, List.getElem_mem hi⟩
theorem xU {b : Bool} {A B : Prop} (h : b = false) (q : B) : if b = true then A else B := by subst h; exact q
theorem zv {b : Bool} {A B : Prop} (h : b = true) (q : A) : if b = true then A else B := by subst h; exact q
inductive NmB (K : W.Frag) (H : Hp) : V → Bool → Prop where
  | str (z : Str) (h : z.length ≤ 1000) : NmB K H (.str z) (xC z)
  | no {x : V} {t : Value} (ty : vW K H x t) (e : W.kitOne K t (.type "str") = some false) : NmB K H x false
def wL (K : W.Frag) : Sp := fun vs H Q _ => ∃ (x : V) (b : Bool), vs = [x] ∧ NmB K H x b ∧ ∀ H', Same H H' → Q (.bl b) H'
theorem ze (T : Tx K mg a) : FnOk P w K mg base CX0 1 a.a_is_name a.f_is_name ["thing"] (wL K) := by
  refine T.d_is_name.F.ok qAt (fun vs H Q E h => ?_) (fun cdv A outer s H vs Q E hr h => ?_)
  · obtain ⟨x, b, rfl, _⟩ := h
    rfl
  obtain ⟨x, b, rfl, hx, kk⟩ := h
  refine ⟨_, (qF (q8 (jA (q9 (qU qm rfl T.b_isinstance rfl (qA (pv 0) (qA (zD rfl T.b_str rfl) qE))))) (qH (qK jS)) qQ)
      (qF (q8 (PW.pt (jk (qM wD (qU za rfl T.b_len rfl (qA (pv 0) qE)) qD (qL _)) (jT (qM qDf (qU za rfl T.b_len rfl (qA (pv 0) qE)) (ju (v := .int 8) rfl T.g_LONGEST_NAME ⟨_, rfl⟩) (qL _))))) (qH (qK jS)) qQ)
      (qH (qK (qU (qB7 rfl) rfl T.b_all rfl (qA (qEm [] [] rfl (qF4 (pv 0)) (fun _ _ _ _ => (qv qFt (pv 0) (ju (v := .str "abcdefghijklmnopqrstuvwxyz") rfl T.g_LETTERS ⟨_, rfl⟩) rfl))) qE)))))), ?_⟩
  try dsimp only [xG, jG]
  cases hx with
  | no ty e => exact ⟨_, rfl, _, _, _, false, rfl, ty, ⟨_, .inl ⟨rfl, e⟩⟩, false, rfl, jI (kk H (Same.refl _))⟩
  | str z hz =>
    have hsz : z.length ≤ sizeLine := Nat.le_of_lt (qd hz)
    refine ⟨_, rfl, _, _, _, true, rfl, .str z, ⟨_, .inl ⟨rfl, by kernel_rfl⟩⟩, true, rfl, qo ?_⟩
    refine ⟨_, rfl, z, rfl, hsz, _, _, rfl, rfl, _, rfl, ?_⟩
    by_cases h1 : (z.length : Int) < 1
    · rw [decide_eq_true h1]
      have e : xC z = false := by unfold xC; rw [decide_eq_false (by omega)]; rfl
      have := kk H (Same.refl _)
      rw [e] at this
      exact jI (jI this)
    rw [decide_eq_false h1]
    refine qo ⟨_, rfl, z, rfl, hsz, _, _, rfl, rfl, _, rfl, ?_⟩
    by_cases h2 : (8 : Int) < (z.length : Int)
    · rw [decide_eq_true h2]
      have e : xC z = false := by unfold xC; rw [decide_eq_false (by omega)]; rfl
      have := kk H (Same.refl _)
      rw [e] at this
      exact jI this
    rw [decide_eq_false h2]
    refine qo ?_
    refine ⟨_, rfl, z, rfl, qDt (fun i acc H' => H' = H ∧ acc = ((z.cps.toList.take i).map qHr).map V.bl) ⟨rfl, rfl⟩ ?_ ?_ ?_⟩
    · rintro i acc H' hi ⟨_, rfl⟩
      rw [List.length_map, List.length_map, List.length_take]
      exact qd (by have : z.cps.size = z.length := rfl; omega)
    · rintro i c acc H' hi hc ⟨rfl, rfl⟩
      refine ⟨_, rfl, _, _, rfl, rfl, Nxt.mk hi ⟨rfl, ?_⟩⟩
      have hc' : z.cps.toList[i]? = some c := by simpa using hc
      rw [List.take_succ, hc', List.map_append, List.map_append]
      rfl
    · rintro acc H' ⟨rfl, rfl⟩ D hD
      refine ⟨D, _, rfl, SqL.of qB, ?_⟩
      have e : ((z.cps.toList.take z.cps.size).map qHr).all id = xC z := by
        rw [List.take_of_length_le (by simp)]
        unfold xC
        rw [decide_eq_true (by omega : 1 ≤ z.length ∧ z.length ≤ 8), Bool.true_and, List.all_map]
        rfl
      rw [e]
      exact kk _ (qC hD _)
inductive LnB (H : Hp) : V → Bool → Prop where
  | int (i : Int) : LnB H (.int i) (decide (1 ≤ i))
  | no {x : V} (h : NoW H x) : LnB H x false
inductive CfB (K : W.Frag) (H : Hp) : V → Bool → Prop where
  | no {x : V} {t : Value} (ty : vW K H x t) (e : W.kitOne K t (.type "tuple") = some false) : CfB K H x false
  | len {z : Addr} {xs : List V} (e : H z = some (.tup xs)) (h : xs.length ≠ 5) : CfB K H (.ref z) false
  | word {z : Addr} {x0 x1 x2 x3 x4 : V} (e : H z = some (.tup [x0, x1, x2, x3, x4])) (hs : qHu x0 (.str "clip") = true) (hn : x0 ≠ .str "clip") : CfB K H (.ref z) false
  | nm {z : Addr} {x1 x2 x3 x4 : V} (e : H z = some (.tup [.str "clip", x1, x2, x3, x4])) (h : NmB K H x1 false) : CfB K H (.ref z) false
  | st {z : Addr} {x1 x2 x3 x4 : V} (e : H z = some (.tup [.str "clip", x1, x2, x3, x4])) (h1 : NmB K H x1 true) (h2 : FrB K H x2 false) : CfB K H (.ref z) false
  | sp {z : Addr} {x1 x2 x3 x4 : V} (e : H z = some (.tup [.str "clip", x1, x2, x3, x4])) (h1 : NmB K H x1 true) (h2 : FrB K H x2 true) (h3 : FrB K H x3 false) : CfB K H (.ref z) false
  | ln {z : Addr} {x1 x2 x3 x4 : V} {b : Bool} (e : H z = some (.tup [.str "clip", x1, x2, x3, x4])) (h1 : NmB K H x1 true) (h2 : FrB K H x2 true) (h3 : FrB K H x3 true) (h4 : LnB H x4 b) : CfB K H (.ref z) b
theorem LnB.wh {H : Hp} {x : V} {b : Bool} (h : LnB H x b) : (∃ i : Int, x = .int i ∧ b = decide (1 ≤ i)) ∨ (NoW H x ∧ b = false) := by
  cases h with
  | int i => exact .inl ⟨i, rfl, rfl⟩
  | no h => exact .inr ⟨h, rfl⟩
def zq (K : W.Frag) : Sp := fun vs H Q _ => ∃ (v : V) (b : Bool), vs = [v] ∧ CfB K H v b ∧ ∀ H', Same H H' → Q (.bl b) H'
theorem zk (T : Tx K mg a) : FnOk P w K mg base CX0 3 a.a_has_clip_form a.f_has_clip_form ["item"] (zq K) := by
  refine T.d_has_clip_form.F.ok zh (fun vs H Q E h => ?_) (fun cdv A outer s H vs Q E hr h => ?_)
  · obtain ⟨v, b, rfl, _⟩ := h
    rfl
  obtain ⟨v, b, rfl, hv, kk⟩ := h
  refine ⟨_, (qF (q8 (PW.pt (jk (jA (q9 (qU qm rfl T.b_isinstance rfl (qA (pv 0) (qA (zD rfl T.b_tuple rfl) qE))))) (jT (qM xH (qU qf rfl T.b_len rfl (qA (pv 0) qE)) qD (qL _))))) (qH (qK jS)) qQ)
      (qF (q8 (PW.pt (jk (qM xH (qJ qI (pv 0) qD (fun _ _ => rfl)) qR (qL _)) (jT (jA (q9 (qP T.d_is_name (ze T) hr rfl (qA (qJ qI (pv 0) qD (fun _ _ => rfl)) qE))))))) (qH (qK jS)) qQ)
      (qF (q8 (PW.pt (jk (jA (q9 (qP T.d_is_fraction (j1 T) hr rfl (qA (qJ qI (pv 0) qD (fun _ _ => rfl)) qE)))) (jT (jA (q9 (qP T.d_is_fraction (j1 T) hr rfl (qA (qJ qI (pv 0) qD (fun _ _ => rfl)) qE))))))) (qH (qK jS)) qQ)
      (qH (qK (xa (qP T.d_is_whole (j5 T) hr rfl (qA (qJ qI (pv 0) qD (fun _ _ => rfl)) qE)) (xF (qv qCu (qJ qI (pv 0) qD (fun _ _ => rfl)) qD (qL _))))))))), ?_⟩
  try dsimp only [xG, jG]
  have five : ∀ {z : Addr} {x1 x2 x3 x4 : V} {H' : Hp}, H z = some (.tup [.str "clip", x1, x2, x3, x4]) → Same H H' → SqT K H' z [.str "clip", x1, x2, x3, x4] := fun e s => SqT.of (s _ _ e)
  cases hv with
  | no ty e => exact ⟨_, rfl, _, _, _, false, rfl, ty, ⟨_, .inl ⟨rfl, e⟩⟩, false, rfl, jI (jI (kk H (Same.refl _)))⟩
  | @len z xs e h =>
    refine ⟨_, rfl, _, _, _, true, rfl, .tup e, ⟨_, .inl ⟨rfl, by kernel_rfl⟩⟩, true, rfl, qo ?_⟩
    refine ⟨_, rfl, _, _, rfl, .inr (SqT.of e), rfl, _, rfl, ?_⟩
    have d : (!decide (V.int (xs.length : Int) = V.int 5)) = true := by
      have : ¬ (V.int (xs.length : Int) = V.int 5) := fun z => h (by injection z with z; omega)
      simp [this]
    rw [d]
    exact jI (kk H (Same.refl _))
  | @word z x0 x1 x2 x3 x4 e hs hn =>
    refine ⟨_, rfl, _, _, _, true, rfl, .tup e, ⟨_, .inl ⟨rfl, by kernel_rfl⟩⟩, true, rfl, qo ?_⟩
    refine ⟨_, rfl, _, _, rfl, .inr (SqT.of e), rfl, _, rfl, qo ?_⟩
    refine (xT rfl (SqT.of e) qBj ⟨hs, _, rfl, ?_⟩)
    rw [show (!decide (x0 = V.str "clip")) = true by simp [hn]]
    exact jI (jI (kk H (Same.refl _)))
  | @nm z x1 x2 x3 x4 e h =>
    refine ⟨_, rfl, _, _, _, true, rfl, .tup e, ⟨_, .inl ⟨rfl, by kernel_rfl⟩⟩, true, rfl, qo ?_⟩
    refine ⟨_, rfl, _, _, rfl, .inr (SqT.of e), rfl, _, rfl, qo ?_⟩
    refine (xT rfl (SqT.of e) qBj ⟨rfl, _, rfl, qBa rfl ?_⟩)
    exact (xT rfl (SqT.of e) qDe ⟨x1, false, rfl, h, fun H1 s1 => ⟨false, rfl, jI (kk H1 s1)⟩⟩)
  | @st z x1 x2 x3 x4 e h1 h2 =>
    refine ⟨_, rfl, _, _, _, true, rfl, .tup e, ⟨_, .inl ⟨rfl, by kernel_rfl⟩⟩, true, rfl, qo ?_⟩
    refine ⟨_, rfl, _, _, rfl, .inr (SqT.of e), rfl, _, rfl, qo ?_⟩
    refine (xT rfl (SqT.of e) qBj ⟨rfl, _, rfl, qBa rfl ?_⟩)
    refine (xT rfl (SqT.of e) qDe ⟨x1, true, rfl, h1, fun H1 s1 => ⟨true, rfl, qo ?_⟩⟩)
    exact ⟨_, rfl, _, _, _, _, rfl, rfl, five e s1, qEf, x2, false, rfl, h2.same s1, false, rfl, jI (jI (kk H1 s1))⟩
  | @sp z x1 x2 x3 x4 e h1 h2 h3 =>
    refine ⟨_, rfl, _, _, _, true, rfl, .tup e, ⟨_, .inl ⟨rfl, by kernel_rfl⟩⟩, true, rfl, qo ?_⟩
    refine ⟨_, rfl, _, _, rfl, .inr (SqT.of e), rfl, _, rfl, qo ?_⟩
    refine (xT rfl (SqT.of e) qBj ⟨rfl, _, rfl, qBa rfl ?_⟩)
    refine (xT rfl (SqT.of e) qDe ⟨x1, true, rfl, h1, fun H1 s1 => ⟨true, rfl, qo ?_⟩⟩)
    refine ⟨_, rfl, _, _, _, _, rfl, rfl, five e s1, qEf, x2, true, rfl, h2.same s1, true, rfl, qo ?_⟩
    exact ⟨_, rfl, _, _, _, _, rfl, rfl, five e s1, qGq, x3, false, rfl, h3.same s1, false, rfl, jI (kk H1 s1)⟩
  | @ln z x1 x2 x3 x4 b e h1 h2 h3 h4 =>
    refine ⟨_, rfl, _, _, _, true, rfl, .tup e, ⟨_, .inl ⟨rfl, by kernel_rfl⟩⟩, true, rfl, qo ?_⟩
    refine ⟨_, rfl, _, _, rfl, .inr (SqT.of e), rfl, _, rfl, qo ?_⟩
    refine (xT rfl (SqT.of e) qBj ⟨rfl, _, rfl, qBa rfl ?_⟩)
    refine (xT rfl (SqT.of e) qDe ⟨x1, true, rfl, h1, fun H1 s1 => ⟨true, rfl, qo ?_⟩⟩)
    refine ⟨_, rfl, _, _, _, _, rfl, rfl, five e s1, qEf, x2, true, rfl, h2.same s1, true, rfl, qo ?_⟩
    refine ⟨_, rfl, _, _, _, _, rfl, rfl, five e s1, qGq, x3, true, rfl, h3.same s1, true, rfl, qo ?_⟩
    rcases h4.wh with ⟨i, rfl, rfl⟩ | ⟨h5, rfl⟩
    · refine ⟨_, rfl, _, _, _, _, rfl, rfl, five e s1, qEx, _, true, rfl, .int i, true, rfl, jI ?_⟩
      exact ⟨_, rfl, _, _, _, _, rfl, rfl, five e s1, qEx, _, _, rfl, rfl, kk H1 s1⟩
    · exact ⟨_, rfl, _, _, _, _, rfl, rfl, five e s1, qEx, x4, false, rfl, .no (h5.same s1), false, rfl, qo (kk H1 s1)⟩
theorem two : (2 : Nat) ≤ sizeLine := by decide
def GI : Im → Prop
  | .clip n p q r s l => xC n = true ∧ n.length ≤ 8 ∧ Good 40 p q ∧ Good 40 r s ∧ 1 ≤ l ∧ l ≤ 10 ^ 30
  | .nest n b l => xC n = true ∧ n.length ≤ 8 ∧ 0 ≤ b ∧ 1 ≤ l ∧ l ≤ 10 ^ 30
  | .gap l => 1 ≤ l ∧ l ≤ 10 ^ 30
  | .mix l => 1 ≤ l
theorem GI.mo {m : Im} (h : GI m) : 0 ≤ m.mo ∧ m.mo ≤ 10 ^ 30 := by
  cases m with
  | clip n p q r s l => obtain ⟨_, _, _, _, h1, h2⟩ := h; exact ⟨by show 0 ≤ l; omega, h2⟩
  | nest n b l => obtain ⟨_, _, _, h1, h2⟩ := h; exact ⟨by show 0 ≤ l; omega, h2⟩
  | gap l => obtain ⟨h1, h2⟩ := h; exact ⟨by show 0 ≤ l; omega, h2⟩
  | mix l => exact ⟨Int.le_refl _, by show (0 : Int) ≤ 10 ^ 30; decide⟩
theorem qC0 {k : Int} (h0 : 0 ≤ k) (h1 : k < 90) : Good 40 (1 + 2 * k) 2 := by
  refine ⟨by decide, ?_, ?_, by decide⟩
  · have e : Int.gcd (1 + 2 * k) 2 = Int.gcd 2 ((1 + 2 * k).fmod 2) := by rw [zz, Int.gcd_comm]
    have e2 : (1 + 2 * k).fmod 2 = 1 := by rw [Int.fmod_eq_emod_of_nonneg _ (by decide)]; omega
    rw [e, e2]; rfl
  · exact Nat.lt_of_lt_of_le (show (1 + 2 * k).natAbs < 2 ^ 10 by omega) (by decide)
theorem qCt {k : Int} (h0 : 0 ≤ k) (h1 : k < 90) : Good 40 k 1 :=
  ⟨by decide, by simp, Nat.lt_of_lt_of_le (show k.natAbs < 2 ^ 10 by omega) (by decide), by decide⟩
def vg : Sp := fun vs H Q _ => ∃ x c : Int, vs = [.int x, .int c] ∧ 0 ≤ x ∧ ∀ (m : Im) (v : V) (H' : Hp), Same H H' → IsI H' m v → GI m → m.wd ≠ "mix" → Q v H'
theorem vy (T : Tx K mg a) : FnOk P w K mg base CX0 1 a.a__law_part a.f__law_part ["_law_x", "_law_cell"] vg := by
  refine T.d__law_part.F.ok sc__law_part (fun vs H Q E h => ?_) (fun cdv A outer s H vs Q E hr h => ?_)
  · obtain ⟨x, c, rfl, _⟩ := h
    rfl
  obtain ⟨x, c, rfl, x0, kk⟩ := h
  refine ⟨_, (qF (qc (i := 2) sc__law_part.nd rfl (Or.inl rfl) (qJ qg (jF (qA (qO (qA qD (qA qD qE))) (qA (qO (qA qD (qA qD qE))) (qA (qO (qA (zW xP qD) (qA qD qE))) (qA (qO (qA qD (qA qD qE))) (qA (qO (qA qD (qA qD qE))) (qA (qO (qA (zW xP qD) (qA qD qE))) qE))))))) (qN qh (qN qr (pv 0) qD) qD) (fun _ _ => rfl)))
      (qF (qc (i := 3) sc__law_part.nd rfl (Or.inl rfl) (qJ qg (jF (qA (qO (qA qD (qA qD qE))) (qA (qO (qA (qN qh (qN qr (pv 0) qD) qD) (qA qD qE))) (qA (qO (qA (qN jW qD (qN jH qD (qN qh (qN qr (pv 0) qD) qD))) (qA qD qE))) (qA (qO (qA (zW xP qD) (qA qD qE))) qE))))) (qN qh (qN qr (pv 0) qD) qD) (fun _ _ => rfl)))
      (qF (qc (i := 4) sc__law_part.nd rfl (Or.inl rfl) (qJ qg (jF (qA (qN jW qD (qN qh (qN qr (pv 0) qD) qD)) (qA (qN jW qD (qN qh (qN qr (pv 0) qD) qD)) (qA (qN jW qD (qN qh (pv 0) qD)) (qA (qN jW qD (qN qh (qN jW (qN jH (pv 1) qD) (pv 0)) (qN qF6 qD qD))) qE))))) (qN qh (qN qr (pv 0) qD) qD) (fun _ _ => rfl)))
      (qF (q8 (qM jc (qN qh (pv 0) qD) qD (qL _)) (qH (qK (qO (qA qR (qA (pv 4) qE))))) qQ)
      (qF (q8 (qM jc (qN qh (pv 0) qD) qD (qL _)) (qH (qK (qO (qA qR (qA (qJ qg (jF (qA qR (qA qR (qA qR qE)))) (qN qh (qN qr (pv 0) qD) qD) (fun _ _ => rfl)) (qA (qN qh (qN qr (pv 0) qD) qD) (qA (pv 4) qE))))))) qQ)
      (qH (qK (qO (qA qR (qA (qJ qg (jF (qA qR (qA qR (qA qR qE)))) (qN qh (qN qr (pv 0) qD) qD) (fun _ _ => rfl)) (qA (pv 3) (qA (pv 2) (qA (pv 4) qE))))))))))))), ?_⟩
  try dsimp only [xG, jG]
  refine ⟨two, fun t0 u0 => ⟨two, fun t1 u1 => ⟨_, rfl, two, fun t2 u2 => ⟨two, fun t3 u3 => ⟨two, fun t4 u4 => ⟨_, rfl, two, fun t5 u5 => ⟨(by show 6 ≤ sizeLine; decide), fun lt ut => ?_⟩⟩⟩⟩⟩⟩⟩
  have p0 := qC u0 (.tup [.int 1, .int 1])
  have p1 := qC u1 (.tup [.int 1, .int 2])
  have p2 := qC u2 (.tup [.int (-1), .int 1])
  have p3 := qC u3 (.tup [.int 0, .int 1])
  have p4 := qC u4 (.tup [.int 7, .int 3])
  have p5 := qC u5 (.tup [.int (-30000), .int 1001])
  have p6 := qC ut (.lst [.ref t0, .ref t1, .ref t2, .ref t3, .ref t4, .ref t5])
  have q5 := p6
  have q4 := p5.trans q5
  have q3 := p4.trans q4
  have q2 := p3.trans q3
  have q1 := p2.trans q2
  have q0 := p1.trans q1
  have qz := p0.trans q0
  have i0 := q0 _ _ qB
  have i1 := q1 _ _ qB
  have i2 := q2 _ _ qB
  have i3 := q3 _ _ qB
  have i4 := q4 _ _ qB
  have i5 := q5 _ _ qB
  have it := qB (H := upd (upd (upd (upd (upd (upd H t0 (.tup [.int 1, .int 1])) t1 (.tup [.int 1, .int 2])) t2 (.tup [.int (-1), .int 1])) t3 (.tup [.int 0, .int 1])) t4 (.tup [.int 7, .int 3])) t5 (.tup [.int (-30000), .int 1001])) (a := lt) (o := .lst [.ref t0, .ref t1, .ref t2, .ref t3, .ref t4, .ref t5])
  clear p0 p1 p2 p3 p4 p5 p6 q0 q1 q2 q3 q4 q5
  generalize upd (upd (upd (upd (upd (upd (upd H t0 _) t1 _) t2 _) t3 _) t4 _) t5 _) lt _ = H1 at qz i0 i1 i2 i3 i4 i5 it ⊢
  have f1 := fm (x.fdiv 5) (show (0 : Int) < 6 by decide)
  obtain ⟨v, hv, hvm⟩ := atN (xs := [V.ref t0, .ref t1, .ref t2, .ref t3, .ref t4, .ref t5]) (n := 6) rfl f1.1 f1.2
  refine ⟨_, rfl, _, _, rfl, rfl, cdB (by decide) (by decide), _, _, rfl, rfl, nz, lt, _, _, v, rfl, rfl, SqL.of it, hv, ?_⟩
  obtain ⟨zp, r, s', rfl, ep, gs⟩ : ∃ (zp : Addr) (r s' : Int), v = .ref zp ∧ H1 zp = some (.tup [.int r, .int s']) ∧ Good 40 r s' := by
    simp only [List.mem_cons, List.not_mem_nil, or_false] at hvm
    rcases hvm with rfl | rfl | rfl | rfl | rfl | rfl
    · exact ⟨t0, _, _, rfl, i0, by decide, by decide, by decide, by decide⟩
    · exact ⟨t1, _, _, rfl, i1, by decide, by decide, by decide, by decide⟩
    · exact ⟨t2, _, _, rfl, i2, by decide, by decide, by decide, by decide⟩
    · exact ⟨t3, _, _, rfl, i3, by decide, by decide, by decide, by decide⟩
    · exact ⟨t4, _, _, rfl, i4, by decide, by decide, by decide, by decide⟩
    · exact ⟨t5, _, _, rfl, i5, by decide, by decide, by decide, by decide⟩
  clear hv hvm i0 i1 i2 i3 i4 i5 it
  have f9 := fm (x.fdiv 30) (show (0 : Int) < 90 by decide)
  refine ⟨two, fun t0 u0 => ⟨_, rfl, _, _, rfl, rfl, cdB (by decide) (by decide), _, _, rfl, rfl, nz, two, fun t1 u1 => ⟨_, rfl, _, _, rfl, rfl, cdB (by decide) (by decide), _, _, rfl, rfl, nz, _, _, rfl, rfl, cmL (by decide) (by decide), _, _, rfl, rfl, two, fun t2 u2 => ⟨_, rfl, two, fun t3 u3 => ⟨sL4, fun lt ut => ?_⟩⟩⟩⟩⟩
  have p0 := qC u0 (.tup [.int 0, .int 1])
  have p1 := qC u1 (.tup [.int ((x.fdiv 30).fmod 90), .int 1])
  have p2 := qC u2 (.tup [.int (1 + 2 * (x.fdiv 30).fmod 90), .int 2])
  have p3 := qC u3 (.tup [.int (-5), .int 3])
  have p6 := qC ut (.lst [.ref t0, .ref t1, .ref t2, .ref t3])
  have q3 := p6
  have q2 := p3.trans q3
  have q1 := p2.trans q2
  have q0 := p1.trans q1
  have qy := p0.trans q0
  have i0 := q0 _ _ qB
  have i1 := q1 _ _ qB
  have i2 := q2 _ _ qB
  have i3 := q3 _ _ qB
  have it := qB (H := upd (upd (upd (upd H1 t0 (.tup [.int 0, .int 1])) t1 (.tup [.int ((x.fdiv 30).fmod 90), .int 1])) t2 (.tup [.int (1 + 2 * (x.fdiv 30).fmod 90), .int 2])) t3 (.tup [.int (-5), .int 3])) (a := lt) (o := .lst [.ref t0, .ref t1, .ref t2, .ref t3])
  clear p0 p1 p2 p3 p6 q0 q1 q2 q3
  generalize upd (upd (upd (upd (upd H1 t0 _) t1 _) t2 _) t3 _) lt _ = H2 at qy i0 i1 i2 i3 it ⊢
  have f4 := fm (x.fdiv 30) (show (0 : Int) < 4 by decide)
  obtain ⟨v, hv, hvm⟩ := at4 (x := V.ref t0) (y := .ref t1) (z := .ref t2) (u := .ref t3) f4.1 f4.2
  refine ⟨_, rfl, _, _, rfl, rfl, cdB (by decide) (by decide), _, _, rfl, rfl, nz, lt, _, _, v, rfl, rfl, SqL.of it, hv, ?_⟩
  obtain ⟨zs, p, q, rfl, es, gp⟩ : ∃ (zs : Addr) (p q : Int), v = .ref zs ∧ H2 zs = some (.tup [.int p, .int q]) ∧ Good 40 p q := by
    rcases hvm with rfl | rfl | rfl | rfl
    · exact ⟨t0, _, _, rfl, i0, by decide, by decide, by decide, by decide⟩
    · exact ⟨t1, _, _, rfl, i1, qCt f9.1 f9.2⟩
    · exact ⟨t2, _, _, rfl, i2, qC0 f9.1 f9.2⟩
    · exact ⟨t3, _, _, rfl, i3, by decide, by decide, by decide, by decide⟩
  have ep := qy _ _ ep
  have qz := qz.trans qy
  clear hv hvm i0 i1 i2 i3 it qy
  have f5 := fm (x.fdiv 17) (show (0 : Int) < 9 by decide)
  have f6 := fm x (show (0 : Int) < 5000 by decide)
  have f7 := fm (c * 48271 + x) (show (0 : Int) < 10 ^ (30 : Int).toNat by decide)
  refine ⟨_, rfl, _, _, rfl, rfl, cdB (by decide) (by decide), _, _, rfl, rfl, nz, _, _, rfl, rfl, _, rfl, _, _, rfl, rfl, cdB (by decide) (by decide), _, _, rfl, rfl, nz, _, _, rfl, rfl, ?_⟩
  refine ⟨_, rfl, _, _, rfl, rfl, nz, _, _, rfl, rfl, _, rfl, _, _, rfl, rfl, cmR (by decide) (by decide), _, rfl, _, _, rfl, rfl, _, _, rfl, rfl, cpw (n := 30) (by decide), _, _, rfl, rfl, nz, _, _, rfl, rfl, sL4, fun ll ul => ?_⟩
  have f8 := fm (x.fdiv 11) (show (0 : Int) < 4 by decide)
  obtain ⟨v, hv, hvm⟩ := at4 (x := V.int (1 + (x.fdiv 17).fmod 9)) (y := .int (1 + (x.fdiv 17).fmod 9)) (z := .int (1 + x.fmod 5000)) (u := .int (1 + (c * 48271 + x).fmod (10 ^ (30 : Int).toNat))) f8.1 f8.2
  refine ⟨_, rfl, _, _, rfl, rfl, cdB (by decide) (by decide), _, _, rfl, rfl, nz, ll, _, _, v, rfl, rfl, SqL.of qB, hv, ?_⟩
  have ql := qC ul (.lst [.int (1 + (x.fdiv 17).fmod 9), .int (1 + (x.fdiv 17).fmod 9), .int (1 + x.fmod 5000), .int (1 + (c * 48271 + x).fmod (10 ^ (30 : Int).toNat))])
  obtain ⟨l, rfl, l1, l2⟩ : ∃ l : Int, v = .int l ∧ 1 ≤ l ∧ l ≤ 10 ^ 30 := by
    have e : (10 ^ (30 : Int).toNat : Int) = 10 ^ 30 := rfl
    rcases hvm with rfl | rfl | rfl | rfl
    · exact ⟨_, rfl, by omega, by omega⟩
    · exact ⟨_, rfl, by omega, by omega⟩
    · exact ⟨_, rfl, by omega, by omega⟩
    · exact ⟨_, rfl, by omega, by omega⟩
  have ep := ql _ _ ep
  have es := ql _ _ es
  have qz := qz.trans ql
  clear hv hvm
  generalize upd H2 ll (.lst [.int (1 + (x.fdiv 17).fmod 9), .int (1 + (x.fdiv 17).fmod 9), .int (1 + x.fmod 5000), .int (1 + (c * 48271 + x).fmod (10 ^ (30 : Int).toNat))]) = H3 at ep es qz ⊢
  refine ⟨_, rfl, _, _, rfl, rfl, nz, rfl, _, rfl, zH (fun _ => ?_) (fun _ => ?_)⟩
  · refine ⟨_, rfl, two, fun u hu => ?_⟩
    exact kk (.gap l) _ _ (qz.trans (qC hu _)) ⟨u, rfl, qB⟩ ⟨l1, l2⟩ (by show ("gap" : Str) ≠ "mix"; decide +kernel)
  have f10 := fm (x.fdiv 7) (show (0 : Int) < 3 by decide)
  refine ⟨_, rfl, _, _, rfl, rfl, nz, rfl, _, rfl, zH (fun _ => ?_) (fun _ => ?_)⟩
  · refine ⟨sL3, fun y hy => ?_⟩
    have w3 := qC hy (.lst [.str "t", .str "other", .str "zzzzzzzz"])
    obtain ⟨v, hv, hor⟩ := at3 (x := V.str "t") (y := .str "other") (z := .str "zzzzzzzz") f10.1 f10.2
    have f11 := fm (x.fdiv 19) (show (0 : Int) < 50 by decide)
    refine ⟨_, rfl, _, _, rfl, rfl, cdB (by decide) (by decide), _, _, rfl, rfl, nz, y, _, _, v, rfl, rfl, SqL.of qB, hv, ?_⟩
    refine ⟨_, rfl, _, _, rfl, rfl, cdB (by decide) (by decide), _, _, rfl, rfl, nz, _, rfl, sL4, fun u hu => ?_⟩
    obtain ⟨n, rfl, hn⟩ : ∃ n : Str, v = .str n ∧ (xC n = true ∧ n.length ≤ 8) := by
      rcases hor with rfl | rfl | rfl
      · exact ⟨_, rfl, by decide +kernel⟩
      · exact ⟨_, rfl, by decide +kernel⟩
      · exact ⟨_, rfl, by decide +kernel⟩
    exact kk (.nest n _ l) _ _ ((qz.trans w3).trans (qC hu _)) ⟨u, rfl, qB⟩ ⟨hn.1, hn.2, f11.1, l1, l2⟩ (by show ("nest" : Str) ≠ "mix"; decide +kernel)
  refine ⟨sL3, fun y hy => ?_⟩
  have w3 := qC hy (.lst [.str "a", .str "reel", .str "abcdefgh"])
  obtain ⟨v, hv, hor⟩ := at3 (x := V.str "a") (y := .str "reel") (z := .str "abcdefgh") f10.1 f10.2
  refine ⟨_, rfl, _, _, rfl, rfl, cdB (by decide) (by decide), _, _, rfl, rfl, nz, y, _, _, v, rfl, rfl, SqL.of qB, hv, _, rfl, _, rfl, _, rfl, sL5, fun u hu => ?_⟩
  obtain ⟨n, rfl, hn⟩ : ∃ n : Str, v = .str n ∧ (xC n = true ∧ n.length ≤ 8) := by
    rcases hor with rfl | rfl | rfl
    · exact ⟨_, rfl, by decide +kernel⟩
    · exact ⟨_, rfl, by decide +kernel⟩
    · exact ⟨_, rfl, by decide +kernel⟩
  have w6 := qC hu (.tup [.str "clip", .str n, .ref zs, .ref zp, .int l])
  exact kk (.clip n p q r s' l) _ _ ((qz.trans w3).trans w6) ⟨u, zs, zp, rfl, qB, w6 _ _ (w3 _ _ es), w6 _ _ (w3 _ _ ep)⟩ ⟨hn.1, hn.2, gp, gs, l1, l2⟩ (by show ("clip" : Str) ≠ "mix"; decide +kernel)
theorem wQ (m : Im) : m.wd ≠ "end" := by
  cases m with
  | clip => show ("clip" : Str) ≠ "end"; decide +kernel
  | nest => show ("nest" : Str) ≠ "end"; decide +kernel
  | gap => show ("gap" : Str) ≠ "end"; decide +kernel
  | mix => show ("mix" : Str) ≠ "end"; decide +kernel
def qAj (a k : Str) : Bool := if a = "mix" then decide (k = "clip") else if k = "mix" then decide (a = "clip") else !(decide (a = "gap") && (decide (k = "gap") || decide (k = "end")))
def jy (a : Str) (ms : List Im) : Str := match ms.getLast? with | none => a | some m => m.wd
def Chn : Str → List Im → Prop
  | _, [] => True
  | a, m :: ms => qAj a m.wd = true ∧ Chn m.wd ms
theorem qAk (a : Str) (ms : List Im) (m : Im) : jy a (ms ++ [m]) = m.wd := by unfold jy; rw [List.getLast?_append]; rfl
theorem zZ (a : Str) (m : Im) (ms : List Im) : jy a (m :: ms) = jy m.wd ms := by
  unfold jy
  cases ms with
  | nil => rfl
  | cons x xs => rw [List.getLast?_cons_cons]; cases h : (x :: xs).getLast? <;> simp_all
theorem Chn.snoc : ∀ {a : Str} {ms : List Im} {m : Im}, Chn a ms → qAj (jy a ms) m.wd = true → Chn a (ms ++ [m])
  | a, [], m, _, h => ⟨h, trivial⟩
  | a, x :: ms, m, h, h' => ⟨h.1, Chn.snoc h.2 (by rw [← zZ a]; exact h')⟩
theorem Chn.dl : ∀ {a : Str} {ms : List Im}, Chn a ms → Chn a ms.dropLast
  | _, [], _ => trivial
  | _, [_], _ => trivial
  | _, _ :: _ :: _, h => ⟨h.1, Chn.dl h.2⟩
theorem Chn.last : ∀ {a : Str} {ms : List Im} {m : Im}, Chn a ms → ms.getLast? = some m → qAj (jy a ms.dropLast) m.wd = true
  | _, [], _, _, h => by simp at h
  | a, [x], m, h, e => by
    have : x = m := by simpa using e
    subst this
    exact h.1
  | a, x :: y :: ms, m, h, e => by
    have := Chn.last (a := x.wd) (ms := y :: ms) (m := m) h.2 (by rw [List.getLast?_cons_cons] at e; exact e)
    rw [List.dropLast_cons₂, zZ]
    exact this
def vd (K : W.Frag) : Sp := fun vs H Q _ => ∃ (z : Addr) (ns : List Int), vs = [.ref z] ∧ SqL K H z (ns.map V.int) ∧ ns.length ≤ 63 ∧ ∀ (y : Addr) (ms : List Im) (H' : Hp), Same H H' → H y = none → Tr H' y ms → ms.length ≤ 126 → (∀ m ∈ ms, GI m) → Chn "" ms → jy "" ms ≠ "mix" → jy "" ms ≠ "gap" → Q (.ref y) H'
theorem vT (T : Tx K mg a) : FnOk P w K mg base CX0 2 a.a__law_track a.f__law_track ["_law_cells"] (vd K) := by
  refine T.d__law_track.F.ok sc__law_track (fun vs H Q E h => ?_) (fun cdv A outer s H vs Q E hr h => ?_)
  · obtain ⟨z, ns, rfl, _⟩ := h
    rfl
  obtain ⟨z, ns, rfl, hS, hlen, kk⟩ := h
  have hu := hr.units
  refine ⟨_, (qF (qc (i := 1) sc__law_track.nd rfl (Or.inl rfl) (jF qE))
      (qF (kY PassesOwn.never rfl (kM rfl T.b_range (qA (qU qf rfl T.b_len rfl (qA (pv 0) qE)) qE)) (jU (i := 2) sc__law_track.nd rfl (Or.inl rfl)) (qF (qc (i := 3) sc__law_track.nd rfl (Or.inl rfl) (qJ qg (qP T.d__law_drawn (xY T) hr rfl (qA (qN jW (qJ qg (pv 0) (pv 2) (fun _ _ => rfl)) (qN jH qD (pv 2))) (qA qD qE))) qD (fun _ _ => rfl)))
      (qF (qc (i := 4) sc__law_track.nd rfl (Or.inl rfl) (qP T.d__law_part (vy T) hr rfl (qA (pv 3) (qA (qJ qg (pv 0) (pv 2) (fun _ _ => rfl)) qE))))
      (qF (qCp (q8 (wK (PW.pt (zL (qM jc (qJ qI (pv 4) qD (fun _ _ => rfl)) qR (qL _)) (zL (qM (qDy hu) (pv 1) (jF qE) (qL _)) (zL (qM jc (qJ qI (qJ qg (pv 1) (zW xP qD) (fun _ _ => rfl)) qD (fun _ _ => rfl)) qR (qL _)) (zF (qM wD (qN qh (pv 3) qD) qD (qL _)))))))) (qH (jp (vU F.plainAttrs_list F.slot_list_append F.type_list_append jm (pv 1) (qA (qO (qA qR (qA (qN jW qD (qN qh (qN qr (pv 3) qD) qD)) qE))) qE)))) qQ))
      (qH (q8 (wK (PW.pt (jk (qM xH (qJ qI (pv 4) qD (fun _ _ => rfl)) qR (qL _)) (jk (qM (qB3 hu) (pv 1) (jF qE) (qL _)) (jT (qM xH (qJ qI (qJ qg (pv 1) (zW xP qD) (fun _ _ => rfl)) qD (fun _ _ => rfl)) qR (qL _))))))) (qH (jp (vU F.plainAttrs_list F.slot_list_append F.type_list_append jm (pv 1) (qA (pv 4) qE)))) qQ))))))
      (qF (q8 (wK (PW.pt (zL (qM (qDy hu) (pv 1) (jF qE) (qL _)) (zF (qM jc (qJ qI (qJ qg (pv 1) (zW xP qD) (fun _ _ => rfl)) qD (fun _ _ => rfl)) qR (qL _)))))) (qH (jp (qGw F.plainAttrs_list F.slot_list_pop F.type_list_pop qFv (pv 1)))) qQ)
      (qH (qK (pv 1)))))), ?_⟩
  try dsimp only [xG, jG]
  refine ⟨sL0, fun y hy => ?_⟩
  have w0 := qC hy (.lst [])
  have hml : (ns.map V.int).length = ns.length := List.length_map _
  refine ⟨_, rfl, z, _, rfl, .inl (w0.seq hS), _, rfl, by omega, by omega, kO (n := (((ns.map V.int).length : Nat) : Int).toNat) (fun i σ H' => ∃ (o1 o2 o3 : Option V) (ms : List Im) (vs : List V), σ = [some (.ref z), some (.ref y), o1, o2, o3] ∧ H' y = some (.lst vs) ∧ IsIs H' ms vs ∧ ms.length ≤ 2 * i ∧ (∀ m ∈ ms, GI m) ∧ Chn "" ms ∧ jy "" ms ≠ "mix" ∧ Same H H')
    ⟨none, none, none, [], [], rfl, qB, trivial, by simp, by simp, trivial, by decide +kernel, w0⟩ ?_ ?_⟩
  · rintro i σ H' hi ⟨o1, o2, o3, ms, vs, rfl, hv, hiv, hml', hg, hc, hnm, e⟩
    have hi' : i < ns.length := by omega
    have at1' : atI (ns.map V.int) (0 + (i : Int)) = some (.int ns[i]) := by
      rw [Int.zero_add]
      exact zV (by rw [List.getElem?_map, List.getElem?_eq_getElem hi']; rfl)
    have hvl : vs.length ≤ 2 * i := by rw [hiv.len]; exact hml'
    refine ⟨_, rfl, _, rfl, z, _, _, _, rfl, rfl, e.seq hS, at1', _, rfl, _, _, rfl, rfl, cmL (by decide) (by decide), _, _, rfl, rfl, _, 3, rfl, by decide, by decide, fun zx xs hzx hxl hx => ?_⟩
    have w1 := qC hzx (.lst (xs.map V.int))
    obtain ⟨x0, x1, x2, rfl⟩ : ∃ x0 x1 x2 : Int, xs = [x0, x1, x2] := by
      match xs, hxl with
      | [x0, x1, x2], _ => exact ⟨x0, x1, x2, rfl⟩
    have b2 := hx x2 (by simp)
    refine ⟨zx, _, _, .int x2, rfl, rfl, SqL.of qB, rfl, ?_⟩
    refine ⟨_, rfl, _, rfl, _, rfl, z, _, _, _, rfl, rfl, (e.trans w1).seq hS, at1', x2, _, rfl, b2.1, fun m v H2 w2 hI hGm hmm => ?_⟩
    have w12 := w1.trans w2
    have hv := w12 _ _ hv
    have hiv := hiv.ts (qj w12)
    have e2 := e.trans w12
    obtain ⟨zi, xi, rfl, hzi, h0, _⟩ := hI.opn
    refine ⟨fun σ H4 => ∃ (ms2 : List Im) (vs2 : List V), σ = [some (.ref z), some (.ref y), some (.int (0 + (i : Int))), some (.int x2), some (.ref zi)] ∧ H4 y = some (.lst vs2) ∧ IsIs H4 ms2 vs2 ∧ ms2.length ≤ 2 * i + 1 ∧ (∀ m ∈ ms2, GI m) ∧ Chn "" ms2 ∧ (jy "" ms2 = "mix" → m.wd = "clip") ∧ IsI H4 m (.ref zi) ∧ Same H H4, ?_, ?_⟩
    · refine ⟨fun b H3 => Same H2 H3 ∧ (b = true → m.wd = "clip" ∧ jy "" ms = "clip"), ?_, ?_⟩
      · refine ⟨_, rfl, zi, xi, _, _, rfl, rfl, SqT.of hzi, h0, rfl, _, rfl, zH (fun c => ?_) (fun _ => ⟨Same.refl _, fun z => by cases z⟩)⟩
        have hmc : m.wd = "clip" := by simpa using c
        refine ⟨_, rfl, sL0, fun en hen => qGr ⟨vs, (qC hen _) _ _ hv, hiv.ts (qj (qC hen _))⟩ qB ⟨_, rfl, ?_⟩⟩
        have w3 := qC hen (.lst [])
        cases hms : ms with
        | nil => exact qo ⟨w3, fun z => by cases z⟩
        | cons m0 ms0 =>
          refine jI ?_
          obtain ⟨v, m', h1, h2, _, h4⟩ := (hiv.ts (qj w3)).last (by rw [hms]; simp)
          obtain ⟨zl, xl, rfl, hzl, hl0, _⟩ := h4.opn
          refine ⟨_, rfl, _, rfl, y, _, _, _, rfl, rfl, SqL.of (w3 _ _ hv), z6 h1, zl, xl, _, _, rfl, rfl, SqT.of hzl, hl0, rfl, _, rfl, zH (fun c => ?_) (fun _ => ⟨w3, fun z => by cases z⟩)⟩
          have hlc : jy "" ms = "clip" := by unfold jy; rw [h2]; simpa using c
          exact ⟨_, rfl, _, _, rfl, rfl, nz, _, _, rfl, rfl, _, rfl, w3, fun _ => ⟨hmc, by rw [← hms]; exact hlc⟩⟩
      rintro b H3 ⟨w3, hb⟩
      have e3 := e2.trans w3
      have hv := w3 _ _ hv
      have hiv := hiv.ts (qj w3)
      have hI := hI.ts (qj w3)
      cases b with
      | false => exact qo ⟨ms, vs, rfl, hv, hiv, by omega, hg, hc, fun z => absurd z hnm, hI, e3⟩
      | true =>
        obtain ⟨hmc, hlc⟩ := hb rfl
        have f9 := fm (x2.fdiv 23) (show (0 : Int) < 9 by decide)
        refine jI ⟨_, rfl, .inl ⟨rfl, _, SqL.of hv⟩, _, rfl, _, _, rfl, rfl, cdB (by decide) (by decide), _, _, rfl, rfl, nz, _, _, rfl, rfl, two, fun g hgn => ?_⟩
        have w4 := qC hgn (.tup [.str "mix", .int (1 + (x2.fdiv 23).fmod 9)])
        refine ⟨y, _, _, rfl, rfl, w4 _ _ hv, qd (by omega), ?_⟩
        refine ⟨ms ++ [.mix (1 + (x2.fdiv 23).fmod 9)], _, rfl, qB, ((hiv.ts (qj w4)).app (.one (isM qB))).ts (zA (w4 _ _ hv)), by simp; omega, ?_, hc.snoc ?_, fun _ => hmc, (hI.ts (qj w4)).ts (zA (w4 _ _ hv)), jq (e3.trans w4) hy⟩
        · intro m hm
          rcases List.mem_append.mp hm with hm | hm
          · exact hg m hm
          · have : m = .mix (1 + (x2.fdiv 23).fmod 9) := by simpa using hm
            rw [this]; show 1 ≤ 1 + (x2.fdiv 23).fmod 9; omega
        · rw [hlc]; show qAj "clip" "mix" = true; decide +kernel
    rintro σ H4 ⟨ms2, vs2, rfl, hv, hiv, hml2, hg2, hc2, hlm, hI, e4⟩
    have hvl2 : vs2.length ≤ 2 * i + 1 := by rw [hiv.len]; exact hml2
    obtain ⟨zi', xi', ez, hzi, h0, _⟩ := hI.opn
    cases ez
    refine ⟨fun b H5 => Same H4 H5 ∧ (b = true → m.wd = "gap" → jy "" ms2 ≠ "gap") ∧ (b = false → m.wd = "gap"), ?_, ?_⟩
    · refine ⟨_, rfl, zi, xi', _, _, rfl, rfl, SqT.of hzi, h0, rfl, _, rfl, zH (fun c => ⟨Same.refl _, fun _ z => ?_, fun z => by cases z⟩) (fun c => ?_)⟩
      · rw [z] at c; exact absurd c (by decide +kernel)
      have hmg : m.wd = "gap" := by simpa using c
      refine ⟨_, rfl, sL0, fun en hen => qG9 ⟨vs2, (qC hen _) _ _ hv, hiv.ts (qj (qC hen _))⟩ qB ⟨_, rfl, ?_⟩⟩
      have w5 := qC hen (.lst [])
      cases hms : ms2 with
      | nil => exact jI ⟨w5, fun _ _ => by decide +kernel, fun z => by cases z⟩
      | cons m0 ms0 =>
        refine qo ?_
        obtain ⟨v, m', h1, h2, _, h4⟩ := (hiv.ts (qj w5)).last (by rw [hms]; simp)
        obtain ⟨zl, xl, rfl, hzl, hl0, _⟩ := h4.opn
        refine ⟨_, rfl, _, rfl, y, _, _, _, rfl, rfl, SqL.of (w5 _ _ hv), z6 h1, zl, xl, _, _, rfl, rfl, SqT.of hzl, hl0, rfl, _, rfl, w5, fun c _ => ?_, fun _ => hmg⟩
        have : jy "" ms2 = m'.wd := by unfold jy; rw [h2]
        rw [← hms, this]
        simpa using c
    rintro b H5 ⟨w5, hb1, hb2⟩
    have e5 := e4.trans w5
    have hv := w5 _ _ hv
    have hiv := hiv.ts (qj w5)
    have hI := hI.ts (qj w5)
    cases b with
    | false =>
      have hmg := hb2 rfl
      refine qo ⟨_, _, _, ms2, vs2, rfl, hv, hiv, by omega, hg2, hc2, fun z => ?_, e5⟩
      have := hlm z
      rw [hmg] at this
      exact absurd this (by decide +kernel)
    | true =>
      refine jI ⟨_, rfl, .inl ⟨rfl, _, SqL.of hv⟩, _, rfl, y, _, _, rfl, rfl, hv, qd (by omega), ?_⟩
      refine ⟨_, _, _, ms2 ++ [m], _, rfl, qB, (hiv.app (.one hI)).ts (zA hv), by simp; omega, ?_, hc2.snoc ?_, by rw [qAk]; exact hmm, jq e5 hy⟩
      · intro x hx
        rcases List.mem_append.mp hx with hx | hx
        · exact hg2 x hx
        · have : x = m := by simpa using hx
          rw [this]; exact hGm
      · unfold qAj
        by_cases c1 : jy "" ms2 = "mix"
        · rw [if_pos c1, hlm c1]; decide +kernel
        rw [if_neg c1, if_neg hmm]
        by_cases c2 : m.wd = "gap"
        · have := hb1 rfl c2
          simp [this]
        · have c3 := wQ m
          simp [c2, c3]
  · rintro σ H' ⟨o1, o2, o3, ms, vs, rfl, hv, hiv, hml', hg, hc, hnm, e⟩
    have hvl : vs.length ≤ 126 := by rw [hiv.len]; omega
    refine ⟨fun b H3 => Same H' H3 ∧ (b = true → ∃ l, ms.getLast? = some (.gap l)) ∧ (b = false → jy "" ms ≠ "gap"), ?_, ?_⟩
    · refine ⟨_, rfl, sL0, fun en hen => qGr ⟨vs, (qC hen _) _ _ hv, hiv.ts (qj (qC hen _))⟩ qB ⟨_, rfl, ?_⟩⟩
      have w3 := qC hen (.lst [])
      cases hms : ms with
      | nil => exact qo ⟨w3, (fun z => by cases z), fun _ => by decide +kernel⟩
      | cons m0 ms0 =>
        refine jI ?_
        obtain ⟨v, m', h1, h2, _, h4⟩ := (hiv.ts (qj w3)).last (by rw [hms]; simp)
        obtain ⟨zl, xl, rfl, hzl, hl0, _⟩ := h4.opn
        refine ⟨_, rfl, _, rfl, y, _, _, _, rfl, rfl, SqL.of (w3 _ _ hv), z6 h1, zl, xl, _, _, rfl, rfl, SqT.of hzl, hl0, rfl, _, rfl, w3, fun c => ?_, fun c => ?_⟩
        · obtain ⟨l, rfl⟩ := qHa (m := m') (by simpa using c)
          exact ⟨l, by rw [← hms]; exact h2⟩
        · have : jy "" ms = m'.wd := by unfold jy; rw [h2]
          rw [← hms, this]
          simpa using c
    rintro b H3 ⟨w3, hb1, hb2⟩
    have e3 := e.trans w3
    have hv := w3 _ _ hv
    have hiv := hiv.ts (qj w3)
    cases b with
    | false => exact qo ⟨_, rfl, kk y ms H3 e3 hy ⟨vs, hv, hiv⟩ (by omega) hg hc hnm (hb2 rfl)⟩
    | true =>
      obtain ⟨l, hgl⟩ := hb1 rfl
      have hne : ms ≠ [] := by intro z; rw [z] at hgl; cases hgl
      have hvne : vs ≠ [] := by intro z; have := hiv.len; rw [z] at this; exact hne (List.length_eq_zero_iff.mp this.symm)
      have hmay := hc.last hgl
      obtain ⟨lv, hlv⟩ : ∃ v, vs[vs.length - 1]? = some v := ⟨_, List.getElem?_eq_getElem (by have := List.length_pos_iff.mpr hvne; omega)⟩
      refine jI ⟨_, rfl, .inl ⟨rfl, _, SqL.of hv⟩, y, vs, lv, rfl, rfl, hv, hlv, ?_⟩
      have hl1 : jy "" ms.dropLast ≠ "mix" := by
        intro z; rw [z] at hmay; exact absurd hmay (by show ¬ qAj "mix" "gap" = true; decide +kernel)
      have hl2 : jy "" ms.dropLast ≠ "gap" := by
        intro z; rw [z] at hmay; exact absurd hmay (by show ¬ qAj "gap" "gap" = true; decide +kernel)
      exact ⟨_, rfl, kk y ms.dropLast _ (jq e3 hy) hy ⟨vs.dropLast, qB, hiv.dl.ts (zA hv)⟩ (by rw [List.length_dropLast]; omega) (fun m hm => hg m (List.dropLast_subset _ hm)) hc.dl hl1 hl2⟩
def RtF (p q : Int) : Prop := (q = 1 ∧ 1 ≤ p ∧ p ≤ 900) ∨ (p = 30000 ∧ q = 1001) ∨ (p = 1 ∧ q = 3) ∨ (p = 24000 ∧ q = 1001)
def vx : Sp := fun vs H Q _ => ∃ x : Int, vs = [.int x] ∧ ∀ (v : V) (p q : Int) (H' : Hp), Same H H' → Rate H' v p q → RtF p q → Q v H'
theorem xp (T : Tx K mg a) : FnOk P w K mg base CX0 1 a.a__law_rate a.f__law_rate ["_law_x"] vx := by
  refine T.d__law_rate.F.ok wC (fun vs H Q E h => ?_) (fun cdv A outer s H vs Q E hr h => ?_)
  · obtain ⟨x, rfl, _⟩ := h
    rfl
  obtain ⟨x, rfl, kk⟩ := h
  refine ⟨_, (qH (qK (qJ qg (jF (qA (qO (qA qD (qA qD qE))) (qA (qO (qA qD (qA qD qE))) (qA (qO (qA qD (qA qD qE))) (qA (qO (qA qD (qA qD qE))) (qA (qO (qA qD (qA qD qE))) (qA (qO (qA qD (qA qD qE))) (qA (qO (qA (qN jW qD (qN qh (qN qr (pv 0) qD) qD)) (qA qD qE))) (qA (qO (qA qD (qA qD qE))) qE))))))))) (qN qh (pv 0) qD) (fun _ _ => rfl)))), ?_⟩
  try dsimp only [xG, jG]
  refine ⟨two, fun t0 u0 => ⟨two, fun t1 u1 => ⟨two, fun t2 u2 => ⟨two, fun t3 u3 => ⟨two, fun t4 u4 => ⟨two, fun t5 u5 => ⟨_, rfl, _, _, rfl, rfl, cdB (by decide) (by decide), _, _, rfl, rfl, nz, _, _, rfl, rfl, two, fun t6 u6 => ⟨two, fun t7 u7 => ⟨(by show 8 ≤ sizeLine; decide), fun lt ut => ?_⟩⟩⟩⟩⟩⟩⟩⟩⟩
  have f9 := fm (x.fdiv 8) (show (0 : Int) < 900 by decide)
  have p0 := qC u0 (.tup [.int 24, .int 1])
  have p1 := qC u1 (.tup [.int 25, .int 1])
  have p2 := qC u2 (.tup [.int 30000, .int 1001])
  have p3 := qC u3 (.tup [.int 1, .int 3])
  have p4 := qC u4 (.tup [.int 60, .int 1])
  have p5 := qC u5 (.tup [.int 24000, .int 1001])
  have p6 := qC u6 (.tup [.int (1 + (x.fdiv 8).fmod 900), .int 1])
  have p7 := qC u7 (.tup [.int 12, .int 1])
  have p8 := qC ut (.lst [.ref t0, .ref t1, .ref t2, .ref t3, .ref t4, .ref t5, .ref t6, .ref t7])
  have q7 := p8
  have q6 := p7.trans q7
  have q5 := p6.trans q6
  have q4 := p5.trans q5
  have q3 := p4.trans q4
  have q2 := p3.trans q3
  have q1 := p2.trans q2
  have q0 := p1.trans q1
  have qz := p0.trans q0
  have i0 := q0 _ _ qB
  have i1 := q1 _ _ qB
  have i2 := q2 _ _ qB
  have i3 := q3 _ _ qB
  have i4 := q4 _ _ qB
  have i5 := q5 _ _ qB
  have i6 := q6 _ _ qB
  have i7 := q7 _ _ qB
  have it := qB (H := upd (upd (upd (upd (upd (upd (upd (upd H t0 (.tup [.int 24, .int 1])) t1 (.tup [.int 25, .int 1])) t2 (.tup [.int 30000, .int 1001])) t3 (.tup [.int 1, .int 3])) t4 (.tup [.int 60, .int 1])) t5 (.tup [.int 24000, .int 1001])) t6 (.tup [.int (1 + (x.fdiv 8).fmod 900), .int 1])) t7 (.tup [.int 12, .int 1])) (a := lt) (o := .lst [.ref t0, .ref t1, .ref t2, .ref t3, .ref t4, .ref t5, .ref t6, .ref t7])
  clear p0 p1 p2 p3 p4 p5 p6 p7 p8 q0 q1 q2 q3 q4 q5 q6 q7
  generalize upd (upd (upd (upd (upd (upd (upd (upd (upd H t0 _) t1 _) t2 _) t3 _) t4 _) t5 _) t6 _) t7 _) lt _ = H1 at qz i0 i1 i2 i3 i4 i5 i6 i7 it ⊢
  have f1 := fm x (show (0 : Int) < 8 by decide)
  obtain ⟨v, hv, hvm⟩ := atN (xs := [V.ref t0, .ref t1, .ref t2, .ref t3, .ref t4, .ref t5, .ref t6, .ref t7]) (n := 8) rfl f1.1 f1.2
  refine ⟨_, rfl, _, _, rfl, rfl, nz, lt, _, _, v, rfl, rfl, SqL.of it, hv, ?_⟩
  obtain ⟨p, q, hR, hF⟩ : ∃ (p q : Int), Rate H1 v p q ∧ RtF p q := by
    simp only [List.mem_cons, List.not_mem_nil, or_false] at hvm
    rcases hvm with rfl | rfl | rfl | rfl | rfl | rfl | rfl | rfl
    · exact ⟨_, _, ⟨⟨t0, rfl, i0⟩, by decide, by decide, by decide, by decide, by decide⟩, .inl ⟨rfl, by decide, by decide⟩⟩
    · exact ⟨_, _, ⟨⟨t1, rfl, i1⟩, by decide, by decide, by decide, by decide, by decide⟩, .inl ⟨rfl, by decide, by decide⟩⟩
    · exact ⟨_, _, ⟨⟨t2, rfl, i2⟩, by decide, by decide, by decide, by decide, by decide⟩, .inr (.inl ⟨rfl, rfl⟩)⟩
    · exact ⟨_, _, ⟨⟨t3, rfl, i3⟩, by decide, by decide, by decide, by decide, by decide⟩, .inr (.inr (.inl ⟨rfl, rfl⟩))⟩
    · exact ⟨_, _, ⟨⟨t4, rfl, i4⟩, by decide, by decide, by decide, by decide, by decide⟩, .inl ⟨rfl, by decide, by decide⟩⟩
    · exact ⟨_, _, ⟨⟨t5, rfl, i5⟩, by decide, by decide, by decide, by decide, by decide⟩, .inr (.inr (.inr ⟨rfl, rfl⟩))⟩
    · exact ⟨_, _, ⟨⟨t6, rfl, i6⟩, by omega, by decide, by simp, by omega, by decide⟩, .inl ⟨rfl, by omega, by omega⟩⟩
    · exact ⟨_, _, ⟨⟨t7, rfl, i7⟩, by decide, by decide, by decide, by decide, by decide⟩, .inl ⟨rfl, by decide, by decide⟩⟩
  exact kk v p q H1 qz hR hF
theorem qEh {P Q b : Int} (h : 0 < Q) : 0 ≤ (wpP P Q b).fmod (wpQ P Q b) ∧ (wpP P Q b).fmod (wpQ P Q b) < wpQ P Q b := fm _ (we h)
theorem qEr {b r0 r1 o0 o1 : Int} (h1 : 0 < r0) (h2 : 0 < o1) :
    ((wpP (byP r0 r1 o0 o1) (byQ r0 r1 o0 o1) b).fdiv (wpQ (byP r0 r1 o0 o1) (byQ r0 r1 o0 o1) b) * wpQ (byP r0 r1 o0 o1) (byQ r0 r1 o0 o1) b + (wpP (byP r0 r1 o0 o1) (byQ r0 r1 o0 o1) b).fmod (wpQ (byP r0 r1 o0 o1) (byQ r0 r1 o0 o1) b)) * r0 * o1 = b * o0 * r1 * wpQ (byP r0 r1 o0 o1) (byQ r0 r1 o0 o1) b := by
  have hne := qEg h1 h2
  have e1 : byP r0 r1 o0 o1 * (o1 * r0) = o0 * r1 * byQ r0 r1 o0 o1 := jV _ _
  have q0 : 0 < byQ r0 r1 o0 o1 := jL hne
  generalize byP r0 r1 o0 o1 = BP at *
  generalize byQ r0 r1 o0 o1 = BQ at *
  have e2 : qp b 1 * 1 = b * qY b 1 := jV _ _
  have q1 : 0 < qY b 1 := jL (by decide)
  have e3 : wpP BP BQ b * (qY b 1 * BQ) = qp b 1 * BP * wpQ BP BQ b := jV _ _
  have ed : (wpP BP BQ b).fdiv (wpQ BP BQ b) * wpQ BP BQ b + (wpP BP BQ b).fmod (wpQ BP BQ b) = wpP BP BQ b := by
    have := Int.mul_fdiv_add_fmod (wpP BP BQ b) (wpQ BP BQ b)
    rw [Int.mul_comm] at this
    exact this
  rw [ed]
  generalize wpP BP BQ b = X at *
  generalize wpQ BP BQ b = Y at *
  generalize qp b 1 = U at *
  generalize qY b 1 = W at *
  have hw : W * BQ ≠ 0 := Int.mul_ne_zero (by omega) (by omega)
  refine Int.eq_of_mul_eq_mul_right hw ?_
  have a1 : X * r0 * o1 * (W * BQ) = X * (W * BQ) * (o1 * r0) := by grind
  have a2 : U * BP * Y * (o1 * r0) = U * Y * (BP * (o1 * r0)) := by grind
  rw [a1, e3, a2, e1]
  have a3 : U = b * W := by rw [← e2]; omega
  rw [a3]
  grind
def GW : Option Im → Prop
  | some (.clip n p q r s _) => xC n = true ∧ n.length ≤ 1000 ∧ 0 < q ∧ Int.gcd p q = 1 ∧ 0 < s ∧ Int.gcd r s = 1
  | some (.nest n b _) => xC n = true ∧ n.length ≤ 1000 ∧ 0 ≤ b
  | some (.mix l) => 1 ≤ l
  | _ => True
theorem nh2 : ¬ (HT.sIx 2 0 none = 0 ∧ HT.sIx 2 2 (some 1) = 2) := by decide
theorem nh3 : ¬ (HT.sIx 3 0 none = 0 ∧ HT.sIx 3 3 (some 1) = 3) := by decide
theorem nh4 : ¬ (HT.sIx 4 0 none = 0 ∧ HT.sIx 4 4 (some 1) = 4) := by decide
structure Rw where
  w : Int
  p : Int
  q : Int
  b : Int
  m : Option Im
def RowG (K : W.Frag) (H : Hp) (r : Rw) (v : V) : Prop := ∃ z x u, v = .ref z ∧ H z = some (.tup [.int r.w, .ref x, u]) ∧ H x = some (.tup [.int r.p, .int r.q]) ∧ WhV K H r.m u
theorem RowG.ts {H H' : Hp} (e : TS H H') {r : Rw} {v : V} (h : RowG K H r v) : RowG K H' r v := let ⟨z, x, u, h1, h2, h3, h4⟩ := h; ⟨z, x, u, h1, e _ _ h2, e _ _ h3, h4.ts e⟩
def RowsG (K : W.Frag) (H : Hp) : List Rw → List V → Prop
  | [], [] => True
  | r :: rs, v :: vs => RowG K H r v ∧ RowsG K H rs vs
  | _, _ => False
theorem RowsG.len {H : Hp} : ∀ {rs : List Rw} {vs : List V}, RowsG K H rs vs → vs.length = rs.length
  | [], [], _ => rfl
  | _ :: _, _ :: _, h => by rw [List.length_cons, List.length_cons, RowsG.len h.2]
  | [], _ :: _, h => h.elim
  | _ :: _, [], h => h.elim
theorem RowsG.ts {H H' : Hp} (e : TS H H') : ∀ {rs : List Rw} {vs : List V}, RowsG K H rs vs → RowsG K H' rs vs
  | [], [], _ => trivial
  | _ :: _, _ :: _, h => ⟨RowG.ts e h.1, RowsG.ts e h.2⟩
  | [], _ :: _, h => h.elim
  | _ :: _, [], h => h.elim
theorem RowsG.get {H : Hp} : ∀ {rs : List Rw} {vs : List V} {i : Nat} {v : V}, RowsG K H rs vs → vs[i]? = some v → ∃ r, rs[i]? = some r ∧ RowG K H r v
  | [], [], _, _, _, h => by simp at h
  | m :: _, x :: _, 0, v, h, e => by
    have e' : x = v := by simpa using e
    subst e'
    exact ⟨m, rfl, h.1⟩
  | _ :: ms, _ :: vs, i + 1, v, h, e => by
    obtain ⟨m, h1, h2⟩ := RowsG.get (i := i) h.2 (by simpa using e)
    exact ⟨m, by simpa using h1, h2⟩
  | [], _ :: _, _, _, h, _ => h.elim
  | _ :: _, [], _, _, h, _ => h.elim
def wdO : Option Im → Str
  | none => "end"
  | some m => m.wd
theorem WhV.w0 {H : Hp} : ∀ {m : Option Im} {v : V}, WhV K H m v → ∃ z xs, v = .ref z ∧ SqT K H z xs ∧ atI xs 0 = some (.str (wdO m))
  | none, _, ⟨z, h, hz⟩ => ⟨z, _, h, qGy hz, rfl⟩
  | some (.clip ..), _, ⟨z, _, _, h, hz, _⟩ => ⟨z, _, h, SqT.of hz, rfl⟩
  | some (.nest ..), _, ⟨z, h, hz⟩ => ⟨z, _, h, SqT.of hz, rfl⟩
  | some (.gap _), _, ⟨z, h, hz⟩ => ⟨z, _, h, SqT.of hz, rfl⟩
  | some (.mix _), _, ⟨z, h, hz⟩ => ⟨z, _, h, SqT.of hz, rfl⟩
theorem qDn {w p q r0 r1 o0 o1 b : Int} (hq : 0 < q) (h1 : 0 < r1) (h2 : 0 < o0) (pl : (w * q + p) * r0 * o1 = b * (q * r1 * o0)) :
    qp (qp (qp w 1 * q + p * qY w 1) (qY w 1 * q) * qp (r0 * o1) (r1 * o0)) (qY (qp w 1 * q + p * qY w 1) (qY w 1 * q) * qY (r0 * o1) (r1 * o0)) = b ∧
    qY (qp (qp w 1 * q + p * qY w 1) (qY w 1 * q) * qp (r0 * o1) (r1 * o0)) (qY (qp w 1 * q + p * qY w 1) (qY w 1 * q) * qY (r0 * o1) (r1 * o0)) = 1 := by
  have e1 : qp w 1 * 1 = w * qY w 1 := jV _ _
  have q1 : 0 < qY w 1 := jL (by decide)
  generalize qp w 1 = U at *
  generalize qY w 1 = W at *
  have hWq : W * q ≠ 0 := Int.mul_ne_zero (by omega) (by omega)
  have e2 : qp (U * q + p * W) (W * q) * (W * q) = (U * q + p * W) * qY (U * q + p * W) (W * q) := jV _ _
  have q2 : 0 < qY (U * q + p * W) (W * q) := jL hWq
  generalize qp (U * q + p * W) (W * q) = S at *
  generalize qY (U * q + p * W) (W * q) = Tq at *
  have hro : r1 * o0 ≠ 0 := Int.mul_ne_zero (by omega) (by omega)
  have e3 : qp (r0 * o1) (r1 * o0) * (r1 * o0) = r0 * o1 * qY (r0 * o1) (r1 * o0) := jV _ _
  have q3 : 0 < qY (r0 * o1) (r1 * o0) := jL hro
  generalize qp (r0 * o1) (r1 * o0) = BP at *
  generalize qY (r0 * o1) (r1 * o0) = BQ at *
  refine qGk (Int.mul_ne_zero (by omega) (by omega)) (by decide) (by simp) ?_
  have hU : U = w * W := by rw [← e1]; omega
  subst hU
  have hS : S * q = (w * q + p) * Tq := by
    have hW : W ≠ 0 := by omega
    refine Int.eq_of_mul_eq_mul_right hW ?_
    have a1 : S * q * W = S * (W * q) := by grind
    have a2 : (w * q + p) * Tq * W = (w * W * q + p * W) * Tq := by grind
    rw [a1, a2, e2]
  have hz : q * (r1 * o0) ≠ 0 := Int.mul_ne_zero (by omega) hro
  refine Int.eq_of_mul_eq_mul_right hz ?_
  have b1 : b * (Tq * BQ) * (q * (r1 * o0)) = b * (q * r1 * o0) * (Tq * BQ) := by grind
  have b2 : S * BP * 1 * (q * (r1 * o0)) = S * q * (BP * (r1 * o0)) := by grind
  rw [b1, b2, ← pl, hS, e3]
  grind
theorem wx {α : Type} {xs : List α} {i : Nat} {x : α} (h : xs[i]? = some x) : xs.drop i = x :: xs.drop (i + 1) := by
  obtain ⟨hi, e⟩ := List.getElem?_eq_some_iff.mp h
  rw [List.drop_eq_getElem_cons hi, e]
def vn : Sp := fun vs H Q _ => ∃ i : Int, vs = [.int i] ∧ Q (.bl (decide (1 ≤ i))) H
theorem zd (T : Tx K mg a) : FnOk P w K mg base CX0 2 a.a_is_length a.f_is_length ["thing"] vn := by
  refine T.d_is_length.F.ok wN (fun vs H Q E h => ?_) (fun cdv A outer s H vs Q E hr h => ?_)
  · obtain ⟨i, rfl, _⟩ := h
    rfl
  obtain ⟨i, rfl, q⟩ := h
  refine ⟨_, (qH (qK (xa (qP T.d_is_whole (xX T) hr rfl (qA (pv 0) qE)) (xF (qv qCu (pv 0) qD (qL _)))))), ?_⟩
  try dsimp only [xG, jG]
  exact ⟨_, rfl, i, rfl, true, rfl, jI ⟨_, rfl, _, _, rfl, rfl, q⟩⟩
inductive NfB (H : Hp) : V → Bool → Prop where
  | len {z : Addr} {xs : List V} (e : H z = some (.tup xs)) (h : xs.length ≠ 4) : NfB H (.ref z) false
  | word {z : Addr} {w : Str} {x1 x2 x3 : V} (e : H z = some (.tup [.str w, x1, x2, x3])) (h : w ≠ "nest") : NfB H (.ref z) false
  | nums {z : Addr} {n : Str} {b l : Int} (e : H z = some (.tup [.str "nest", .str n, .int b, .int l])) (hn : xC n = true) (hl : n.length ≤ 1000) (l1 : 1 ≤ l) : NfB H (.ref z) (decide (0 ≤ b))
def zm : Sp := fun vs H Q _ => ∃ (v : V) (b : Bool), vs = [v] ∧ NfB H v b ∧ ∀ H', Same H H' → Q (.bl b) H'
theorem zu (T : Tx K mg a) : FnOk P w K mg base CX0 3 a.a_has_nest_form a.f_has_nest_form ["item"] zm := by
  refine T.d_has_nest_form.F.ok zn (fun vs H Q E h => ?_) (fun cdv A outer s H vs Q E hr h => ?_)
  · obtain ⟨v, b, rfl, _⟩ := h
    rfl
  obtain ⟨v, b, rfl, hf, kk⟩ := h
  refine ⟨_, (qF (q8 (PW.pt (jk (jA (q9 (qU qm rfl T.b_isinstance rfl (qA (pv 0) (qA (zD rfl T.b_tuple rfl) qE))))) (jT (qM xH (qU qf rfl T.b_len rfl (qA (pv 0) qE)) qD (qL _))))) (qH (qK jS)) qQ)
      (qF (q8 (PW.pt (jk (qM xH (qJ qI (pv 0) qD (fun _ _ => rfl)) qR (qL _)) (jT (jA (q9 (qP T.d_is_name (ze T) hr rfl (qA (qJ qI (pv 0) qD (fun _ _ => rfl)) qE))))))) (qH (qK jS)) qQ)
      (qH (qK (xa (qP T.d_is_whole (xX T) hr rfl (qA (qJ qI (pv 0) qD (fun _ _ => rfl)) qE)) (xa (qv qCu (qJ qI (pv 0) qD (fun _ _ => rfl)) qD (qL _)) (xF (qP T.d_is_length (zd T) hr rfl (qA (qJ qI (pv 0) qD (fun _ _ => rfl)) qE))))))))), ?_⟩
  try dsimp only [xG, jG]
  cases hf with
  | @len z xs e h =>
    refine ⟨_, rfl, _, _, _, true, rfl, .tup e, ⟨_, .inl ⟨rfl, by kernel_rfl⟩⟩, true, rfl, qo ?_⟩
    refine ⟨_, rfl, _, _, rfl, .inr (SqT.of e), rfl, _, rfl, zv ?_ (kk _ (Same.refl _))⟩
    have : ¬ V.int (xs.length : Int) = V.int 4 := fun z => h (by injection z with z; omega)
    rw [decide_eq_false this]; rfl
  | @word z w x1 x2 x3 e h =>
    refine ⟨_, rfl, _, _, _, true, rfl, .tup e, ⟨_, .inl ⟨rfl, by kernel_rfl⟩⟩, true, rfl, qo ?_⟩
    refine ⟨_, rfl, _, _, rfl, .inr (SqT.of e), rfl, _, rfl, qo ?_⟩
    refine ⟨_, rfl, _, _, _, _, rfl, rfl, SqT.of e, rfl, rfl, _, rfl, zv ?_ (jI (kk _ (Same.refl _)))⟩
    have : ¬ V.str w = V.str "nest" := fun z => h (by injection z)
    rw [decide_eq_false this]; rfl
  | @nums z n b l hz hn hl l1 =>
    have nm := NmB.str (K := K) (H := H) n hl
    rw [hn] at nm
    refine ⟨_, rfl, _, _, _, true, rfl, .tup hz, ⟨_, .inl ⟨rfl, by kernel_rfl⟩⟩, true, rfl, qo ?_⟩
    refine ⟨_, rfl, _, _, rfl, .inr (SqT.of hz), rfl, _, rfl, qo ?_⟩
    refine ⟨_, rfl, _, _, _, _, rfl, rfl, SqT.of hz, rfl, rfl, _, rfl, qBa rfl ?_⟩
    refine ⟨_, rfl, _, _, _, _, rfl, rfl, SqT.of hz, rfl, _, true, rfl, nm, fun H1 s1 => ⟨true, rfl, qo ?_⟩⟩
    have hz1 : SqT K H1 z [.str "nest", .str n, .int b, .int l] := SqT.of (s1 _ _ hz)
    refine ⟨_, rfl, _, _, _, _, rfl, rfl, hz1, rfl, b, rfl, true, rfl, jI ?_⟩
    refine ⟨_, rfl, _, _, _, _, rfl, rfl, hz1, rfl, _, _, rfl, rfl, decide (0 ≤ b), rfl, ?_⟩
    by_cases b0 : 0 ≤ b
    · have k1 := kk _ s1
      rw [decide_eq_true b0] at k1 ⊢
      refine jI ⟨_, rfl, _, _, _, _, rfl, rfl, hz1, rfl, l, rfl, ?_⟩
      rw [decide_eq_true l1]
      exact k1
    · have k1 := kk _ s1
      rw [decide_eq_false b0] at k1 ⊢
      exact qo k1
def xb (K : W.Frag) : Sp := fun vs H Q _ => ∃ (z : Addr) (l : Int), vs = [.ref z] ∧ H z = some (.tup [.str "mix", .int l]) ∧ ∀ H', Same H H' → Q (.bl (decide (1 ≤ l))) H'
theorem xf (T : Tx K mg a) : FnOk P w K mg base CX0 3 a.a_has_gap_or_mix_form a.f_has_gap_or_mix_form ["item"] (xb K) := by
  refine T.d_has_gap_or_mix_form.F.ok xc (fun vs H Q E h => ?_) (fun cdv A outer s H vs Q E hr h => ?_)
  · obtain ⟨z, l, rfl, _⟩ := h
    rfl
  obtain ⟨z, l, rfl, hz, kk⟩ := h
  refine ⟨_, (qF (q8 (PW.pt (jk (jA (q9 (qU qm rfl T.b_isinstance rfl (qA (pv 0) (qA (zD rfl T.b_tuple rfl) qE))))) (jT (qM xH (qU qf rfl T.b_len rfl (qA (pv 0) qE)) qD (qL _))))) (qH (qK jS)) qQ)
      (qH (qK (xa (qv v9 (qJ qI (pv 0) qD (fun _ _ => rfl)) (qO (qA qR (qA qR qE))) rfl) (xF (qP T.d_is_length (zd T) hr rfl (qA (qJ qI (pv 0) qD (fun _ _ => rfl)) qE))))))), ?_⟩
  try dsimp only [xG, jG]
  refine ⟨_, rfl, _, _, _, true, rfl, .tup hz, ⟨_, .inl ⟨rfl, by kernel_rfl⟩⟩, true, rfl, qo ?_⟩
  refine ⟨_, rfl, _, _, rfl, .inr (SqT.of hz), rfl, _, rfl, qo ?_⟩
  refine ⟨_, rfl, _, _, _, _, rfl, rfl, SqT.of hz, rfl, sL2, fun t ht => ?_⟩
  have w1 := qC ht (.tup [.str "gap", .str "mix"])
  refine ⟨t, _, rfl, .inr (SqT.of qB), rfl, rfl, true, ?_, jI ?_⟩
  · have : inV (.str "mix") [.str "gap", .str "mix"] = true := by decide +kernel
    rw [this]
    rfl
  exact ⟨_, rfl, _, _, _, _, rfl, rfl, SqT.of (w1 _ _ hz), rfl, l, rfl, kk _ w1⟩
def WG : Option Im → Prop
  | some (.clip n p q r s _) => n.length ≤ 1000 ∧ (xC n = true ∨ n = "A") ∧ 0 < q ∧ Int.gcd p q = 1 ∧ 0 < s ∧ Int.gcd r s = 1
  | some (.nest n _ _) => xC n = true ∧ n.length ≤ 1000
  | _ => True
def gB : Option Im → Bool
  | some (.clip n _ _ _ _ _) => xC n
  | some (.nest _ b _) => decide (0 ≤ b)
  | some (.mix l) => decide (1 ≤ l)
  | _ => true
theorem WG.of {m : Option Im} (h : GW m) : WG m ∧ gB m = true := by
  rcases m with _ | m
  · exact ⟨trivial, rfl⟩
  cases m with
  | clip n p q r s l => obtain ⟨h1, h2, h3, h4, h5, h6⟩ := h; exact ⟨⟨h2, .inl h1, h3, h4, h5, h6⟩, h1⟩
  | nest n b l => obtain ⟨h1, h2, h3⟩ := h; exact ⟨⟨h1, h2⟩, decide_eq_true h3⟩
  | gap l => exact ⟨trivial, rfl⟩
  | mix l => exact ⟨trivial, decide_eq_true h⟩
theorem qEq : xC "A" = false := by decide +kernel
def qD2 (m : Option Im) : Option (Option Im) := if gB m = true then some m else none
inductive WhC (K : W.Frag) (H : Hp) : V → Option (Option Im) → Prop where
  | say {u : V} {m : Option Im} {o : Option (Option Im)} (h : WhV K H m u) (g : WG m) (e : o = qD2 m) : WhC K H u o
  | lst {z : Addr} {xs : List V} (e : H z = some (.lst xs)) : WhC K H (.ref z) none
  | clip3 {z x : Addr} {n : Str} {p q : Int} (e : H z = some (.tup [.str "clip", .str n, .ref x])) (hx : H x = some (.tup [.int p, .int q])) : WhC K H (.ref z) none
theorem WhC.ts {H H' : Hp} (s : TS H H') (hl : ∀ z xs, H z = some (.lst xs) → ∃ ys, H' z = some (.lst ys)) {u : V} {o : Option (Option Im)} (h : WhC K H u o) : WhC K H' u o := by
  cases h with
  | say h g e => exact .say (h.ts s) g e
  | lst e => obtain ⟨ys, e'⟩ := hl _ _ e; exact .lst e'
  | clip3 e hx => exact .clip3 (s _ _ e) (s _ _ hx)
theorem WhC.same {H H' : Hp} (s : Same H H') {u : V} {o : Option (Option Im)} (h : WhC K H u o) : WhC K H' u o := h.ts (qj s) fun z xs e => ⟨xs, s _ _ e⟩
theorem eqG {H : Hp} {d : D} {u : V} {z : Addr} {c : Str} {Q : VK} {σ : L2.St} (hr : Rep K H d u) (hk : kin d (.tup [.leaf (.str c)]) = true) (hd : dep d ≤ 60) (hz : SqT K H z [.str c]) (q : Q (.bl (eqD d (.tup [.leaf (.str c)]))) H) : tC (.ref z) σ H (fun y H2 => qFk K false u y H2 Q) :=
  ⟨_, .tup [.leaf (.str c)], hr, qCc hz rfl, hk, hd, q⟩
theorem eqC {H : Hp} {m : Option Im} {u : V} {z : Addr} {c : Str} {Q : VK} {σ : L2.St} (hw : WhV K H m u) (hz : SqT K H z [.str c]) (q : Q (.bl (eqD (whD m) (.tup [.leaf (.str c)]))) H) : tC (.ref z) σ H (fun y H2 => qFk K false u y H2 Q) := by
  refine eqG hw.rep ?_ (by have := qF7 m; omega) hz q
  rcases m with _ | m
  · rfl
  · cases m <;> rfl
theorem zc {X : Cx} : CallR X (.builtin "isinstance") (fun xs H Q => ∃ (p : Addr) (n : String) (b : Bool), xs = [.ref p, .ty n] ∧ ((∃ ys, SqT X.K H p ys ∧ W.kitOne X.K (.type "tuple") (.type n) = some b) ∨ ∃ ys, H p = some (.lst ys) ∧ W.kitOne X.K (.type "list") (.type n) = some b) ∧ Q (.bl b) H) := by
  intro pins s σ H xs us Q I r h
  obtain ⟨p, n, b, e, h, q⟩ := h
  rcases h with ⟨ys, hy, hk⟩ | ⟨ys, hy, hk⟩
  · exact vj pins s σ H xs us Q I r ⟨p, n, "tuple", b, e, .inl ⟨ys, hy, rfl⟩, hk, q⟩
  · exact qm pins s σ H xs us Q I r ⟨.ref p, .ty n, _, b, e, .lst hy, ⟨n, .inl ⟨rfl, hk⟩⟩, q⟩
def qAu (K : W.Frag) : Sp := fun vs H Q _ => ∃ (u : V) (o : Option (Option Im)), vs = [u] ∧ WhC K H u o ∧ ∀ H', Same H H' → Q (.bl o.isSome) H'
theorem qD8 {m : Option Im} : (qD2 m).isSome = gB m := by
  unfold qD2
  cases gB m <;> rfl
theorem qA3 (T : Tx K mg a) : FnOk P w K mg base CX0 4 a.a_is_what a.f_is_what ["what"] (qAu K) := by
  refine T.d_is_what.F.ok qAh (fun vs H Q E h => ?_) (fun cdv A outer s H vs Q E hr h => ?_)
  · obtain ⟨u, o, rfl, _⟩ := h
    rfl
  obtain ⟨u, o, rfl, hw, kk⟩ := h
  have hu := hr.units
  have hu0 := hr.units0
  refine ⟨_, (qF (q8 (jA (q9 (qU zc rfl T.b_isinstance rfl (qA (pv 0) (qA (zD rfl T.b_tuple rfl) qE))))) (qH (qK jS)) qQ)
      (qF (q8 (PW.pt (jk (qM (qB3 hu) (pv 0) (ju (v := .ref a.n_GAP) rfl T.g_GAP rfl) (qL _)) (jT (qM (qB3 hu) (pv 0) (ju (v := .ref a.n_END) rfl T.g_END rfl) (qL _))))) (qH (qK jS)) qQ)
      (qF (q8 (qM (qCm hu0) (j2 qD7 (pv 0) xW (xB qD)) (qO (qA qR qE)) (qL _)) (qH (qK (qP T.d_has_gap_or_mix_form (xf T) hr rfl (qA (pv 0) qE)))) qQ)
      (qH (qK (qFe (qP T.d_has_clip_form (zk T) hr rfl (qA (qN wW (pv 0) (qO (qA qD qE))) qE)) (xF (qP T.d_has_nest_form (zu T) hr rfl (qA (qN wW (pv 0) (qO (qA qD qE))) qE))))))))), ?_⟩
  try dsimp only [xG, jG]
  cases hw with
  | lst e => exact ⟨_, rfl, _, _, false, rfl, .inr ⟨_, e, by kernel_rfl⟩, false, rfl, jI (kk _ (Same.refl _))⟩
  | @clip3 z x n p q hz hx =>
    have hz' : SqT K H z _ := SqT.of hz
    refine ⟨_, rfl, z, _, true, rfl, .inl ⟨_, hz', by kernel_rfl⟩, true, rfl, qo ?_⟩
    have hrp : Rep K H (.tup [.leaf (.str "clip"), .leaf (.str n), .tup [.leaf (.int p), .leaf (.int q)]]) (.ref z) := by
      have h1 : Rep K H (.tup [.leaf (.int p), .leaf (.int q)]) (.ref x) := jl hx rfl
      unfold Rep
      refine ⟨z, _, rfl, SqT.of hz, ?_⟩
      unfold Reps Reps Reps Reps
      refine ⟨?_, ?_, h1, trivial⟩
      · unfold Rep; exact ⟨rfl, rfl⟩
      · unfold Rep; exact ⟨rfl, rfl⟩
    refine ⟨_, rfl, eqG hrp rfl (by simp [dep, vB]) (T.sq_GAP H) ⟨false, ?_, qo ⟨_, rfl, eqG hrp rfl (by simp [dep, vB]) (T.sq_END H) ⟨false, ?_, qo ?_⟩⟩⟩⟩
    · simp [eqD, zI]
    · simp [eqD, zI]
    refine ⟨_, rfl, _, rfl, z, _, rfl, hz', nh3, fun t ht => ?_⟩
    have w1 := qC ht (.tup (xv [V.str "clip", .str n, .ref x] none (some 1)))
    refine ⟨sL1, fun t2 ht2 => ?_⟩
    have w2 := qC ht2 (.tup [.str "mix"])
    refine ⟨t, t2, [.str "clip"], _, rfl, rfl, SqT.of (w2 _ _ qB), SqT.of qB, rfl, rfl, false, ?_, qo ?_⟩
    · exact congrArg V.bl (show xO [V.str "clip"] [V.str "mix"] = false by decide +kernel)
    have hz2 := L3.Same.tup (w1.trans w2) hz'
    refine ⟨_, rfl, sL1, fun t3 ht3 => ?_⟩
    have w3 := qC ht3 (.tup [.int 1])
    refine ⟨z, t3, _, _, rfl, rfl, L3.Same.tup w3 hz2, SqT.of qB, (List.cons_ne_nil _ _), (by show 3 + 1 ≤ sizeLine; decide), fun z => absurd z (by simp), fun _ t4 ht4 => ?_⟩
    have w4 := qC ht4 (.tup ([V.str "clip", .str n, .ref x] ++ [.int 1]))
    refine ⟨_, false, rfl, .len qB (by show 4 ≠ 5; decide), fun H5 s5 => ⟨false, rfl, qo ?_⟩⟩
    have w15 := (((w1.trans w2).trans w3).trans w4).trans s5
    refine ⟨_, rfl, sL1, fun t6 ht6 => ?_⟩
    have w6 := qC ht6 (.tup [.int 1])
    refine ⟨z, t6, _, _, rfl, rfl, L3.Same.tup (w15.trans w6) hz', SqT.of qB, (List.cons_ne_nil _ _), (by show 3 + 1 ≤ sizeLine; decide), fun z => absurd z (by simp), fun _ t7 ht7 => ?_⟩
    have w7 := qC ht7 (.tup ([V.str "clip", .str n, .ref x] ++ [.int 1]))
    exact ⟨_, false, rfl, .word (w := "clip") qB (by decide +kernel), fun H8 s8 => kk _ (((w15.trans w6).trans w7).trans s8)⟩
  | @say u m o hw hg eo =>
  subst eo
  rw [qD8] at kk
  obtain ⟨z, xs, rfl, hz⟩ := hw.tup
  refine ⟨_, rfl, z, _, true, rfl, .inl ⟨_, hz, by kernel_rfl⟩, true, rfl, qo ?_⟩
  match m, hw, hg with
  | none, hw, hg =>
    refine ⟨_, rfl, eqC hw (T.sq_GAP H) ⟨false, ?_, qo ⟨_, rfl, eqC hw (T.sq_END H) ⟨true, ?_, jI (kk _ (Same.refl _))⟩⟩⟩⟩
    · exact congrArg V.bl (show eqD (whD none) (.tup [.leaf (.str "gap")]) = false by decide +kernel)
    · exact congrArg V.bl (show eqD (whD none) (.tup [.leaf (.str "end")]) = true by decide +kernel)
  | some (.gap l), hw, hg =>
    refine ⟨_, rfl, eqC hw (T.sq_GAP H) ⟨true, ?_, jI (jI (kk _ (Same.refl _)))⟩⟩
    simp [whD, eqD, zI, eqV]
  | some (.mix l), hw, hg =>
    refine ⟨_, rfl, eqC hw (T.sq_GAP H) ⟨false, ?_, qo ⟨_, rfl, eqC hw (T.sq_END H) ⟨false, ?_, qo ?_⟩⟩⟩⟩
    · simp [whD, eqD, zI]
    · simp [whD, eqD, zI]
    obtain ⟨z', e, hz'⟩ := id hw
    cases e
    refine ⟨_, rfl, _, rfl, z, _, rfl, SqT.of hz', nh2, fun t ht => ?_⟩
    have w1 := qC ht (.tup (xv [V.str "mix", .int l] none (some 1)))
    refine ⟨sL1, fun t2 ht2 => ?_⟩
    have w2 := qC ht2 (.tup [.str "mix"])
    refine ⟨t, t2, [.str "mix"], _, rfl, rfl, SqT.of (w2 _ _ qB), SqT.of qB, rfl, rfl, true, ?_, jI ?_⟩
    · exact congrArg V.bl (show xO [V.str "mix"] [V.str "mix"] = true by decide +kernel)
    exact ⟨_, rfl, z, l, rfl, (w1.trans w2) _ _ hz', fun H' s' => kk _ ((w1.trans w2).trans s')⟩
  | some (.nest n b l), hw, hg =>
    refine ⟨_, rfl, eqC hw (T.sq_GAP H) ⟨false, ?_, qo ⟨_, rfl, eqC hw (T.sq_END H) ⟨false, ?_, qo ?_⟩⟩⟩⟩
    · simp [whD, eqD, zI]
    · simp [whD, eqD, zI]
    obtain ⟨z', e, hz'⟩ := id hw
    cases e
    have hz' : SqT K H z _ := SqT.of hz'
    refine ⟨_, rfl, _, rfl, z, _, rfl, hz', nh3, fun t ht => ?_⟩
    have w1 := qC ht (.tup (xv [V.str "nest", .str n, .int b] none (some 1)))
    refine ⟨sL1, fun t2 ht2 => ?_⟩
    have w2 := qC ht2 (.tup [.str "mix"])
    refine ⟨t, t2, [.str "nest"], _, rfl, rfl, SqT.of (w2 _ _ qB), SqT.of qB, rfl, rfl, false, ?_, qo ?_⟩
    · exact congrArg V.bl (show xO [V.str "nest"] [V.str "mix"] = false by decide +kernel)
    have hz2 := L3.Same.tup (w1.trans w2) hz'
    refine ⟨_, rfl, sL1, fun t3 ht3 => ?_⟩
    have w3 := qC ht3 (.tup [.int 1])
    refine ⟨z, t3, _, _, rfl, rfl, L3.Same.tup w3 hz2, SqT.of qB, (List.cons_ne_nil _ _), (by show 3 + 1 ≤ sizeLine; decide), fun z => absurd z (by simp), fun _ t4 ht4 => ?_⟩
    have w4 := qC ht4 (.tup ([V.str "nest", .str n, .int b] ++ [.int 1]))
    refine ⟨_, false, rfl, .len qB (by show 4 ≠ 5; decide), fun H5 s5 => ⟨false, rfl, qo ?_⟩⟩
    have w15 := (((w1.trans w2).trans w3).trans w4).trans s5
    refine ⟨_, rfl, sL1, fun t6 ht6 => ?_⟩
    have w6 := qC ht6 (.tup [.int 1])
    refine ⟨z, t6, _, _, rfl, rfl, L3.Same.tup (w15.trans w6) hz', SqT.of qB, (List.cons_ne_nil _ _), (by show 3 + 1 ≤ sizeLine; decide), fun z => absurd z (by simp), fun _ t7 ht7 => ?_⟩
    have w7 := qC ht7 (.tup ([V.str "nest", .str n, .int b] ++ [.int 1]))
    obtain ⟨g1, g2⟩ := hg
    exact ⟨_, _, rfl, .nums (l := 1) qB g1 g2 (by decide), fun H8 s8 => kk _ (((w15.trans w6).trans w7).trans s8)⟩
  | some (.clip n p q r s' l), hw, hg =>
    refine ⟨_, rfl, eqC hw (T.sq_GAP H) ⟨false, ?_, qo ⟨_, rfl, eqC hw (T.sq_END H) ⟨false, ?_, qo ?_⟩⟩⟩⟩
    · simp [whD, eqD, zI]
    · simp [whD, eqD, zI]
    obtain ⟨z', x, y, e, hz', hx, hy⟩ := id hw
    cases e
    have hz' : SqT K H z _ := SqT.of hz'
    refine ⟨_, rfl, _, rfl, z, _, rfl, hz', nh4, fun t ht => ?_⟩
    have w1 := qC ht (.tup (xv [V.str "clip", .str n, .ref x, .ref y] none (some 1)))
    refine ⟨sL1, fun t2 ht2 => ?_⟩
    have w2 := qC ht2 (.tup [.str "mix"])
    refine ⟨t, t2, [.str "clip"], _, rfl, rfl, SqT.of (w2 _ _ qB), SqT.of qB, rfl, rfl, false, ?_, qo ?_⟩
    · exact congrArg V.bl (show xO [V.str "clip"] [V.str "mix"] = false by decide +kernel)
    have hz2 := L3.Same.tup (w1.trans w2) hz'
    refine ⟨_, rfl, sL1, fun t3 ht3 => ?_⟩
    have w3 := qC ht3 (.tup [.int 1])
    refine ⟨z, t3, _, _, rfl, rfl, L3.Same.tup w3 hz2, SqT.of qB, (List.cons_ne_nil _ _), (by show 4 + 1 ≤ sizeLine; decide), fun z => absurd z (by simp), fun _ t4 ht4 => ?_⟩
    have w4 := qC ht4 (.tup ([V.str "clip", .str n, .ref x, .ref y] ++ [.int 1]))
    have w14 := ((w1.trans w2).trans w3).trans w4
    obtain ⟨g2, g1, g3, g4, g5, g6⟩ := hg
    have d1 : (decide (1 ≤ q) && decide (Int.gcd p q = 1)) = true := by rw [g4]; simp; omega
    have d2 : (decide (1 ≤ s') && decide (Int.gcd r s' = 1)) = true := by rw [g6]; simp; omega
    have f0 := NmB.str (K := K) (H := upd (upd (upd (upd H t (.tup (xv [V.str "clip", .str n, .ref x, .ref y] none (some 1)))) t2 (.tup [.str "mix"])) t3 (.tup [.int 1])) t4 (.tup ([V.str "clip", .str n, .ref x, .ref y] ++ [.int 1]))) n g2
    have f1 := FrB.nums (K := K) (w14 _ _ hx)
    have f2 := FrB.nums (K := K) (w14 _ _ hy)
    rw [d1] at f1
    rw [d2] at f2
    replace kk : ∀ H', Same H H' → Q (.bl (xC n)) H' := kk
    by_cases hn : xC n = true
    · rw [hn] at f0 kk
      exact ⟨_, true, rfl, .ln (b := true) qB f0 f1 f2 (.int 1), fun H5 s5 => ⟨true, rfl, jI (kk _ (w14.trans s5))⟩⟩
    · have hn := Bool.eq_false_iff.mpr hn
      rw [hn] at f0 kk
      refine ⟨_, false, rfl, .nm qB f0, fun H5 s5 => ⟨false, rfl, qo ?_⟩⟩
      have w15 := w14.trans s5
      refine ⟨_, rfl, sL1, fun t6 ht6 => ?_⟩
      have w6 := qC ht6 (.tup [.int 1])
      refine ⟨z, t6, _, _, rfl, rfl, L3.Same.tup (w15.trans w6) hz', SqT.of qB, (List.cons_ne_nil _ _), (by show 4 + 1 ≤ sizeLine; decide), fun z => absurd z (by simp), fun _ t7 ht7 => ?_⟩
      have w7 := qC ht7 (.tup ([V.str "clip", .str n, .ref x, .ref y] ++ [.int 1]))
      exact ⟨_, false, rfl, .len qB (by show 5 ≠ 4; decide), fun H8 s8 => kk _ (((w15.trans w6).trans w7).trans s8)⟩
structure R4 where
  w : Int
  p : Int
  q : Int
  m : Option Im
def vdR (w p q : Int) (o : Option (Option Im)) : Option R4 := match o with
  | none => none
  | some m => if Int.gcd p q = 1 ∧ 0 ≤ p ∧ p < q then some ⟨w, p, q, m⟩ else none
inductive RowC (K : W.Frag) (H : Hp) : V → Option R4 → Prop where
  | non : RowC K H .non none
  | lst {z : Addr} {xs : List V} (e : H z = some (.lst xs)) : RowC K H (.ref z) none
  | len {z : Addr} {xs : List V} (e : H z = some (.tup xs)) (h : xs.length ≠ 3) : RowC K H (.ref z) none
  | bool {z : Addr} {b : Bool} {x u : V} (e : H z = some (.tup [.bl b, x, u])) : RowC K H (.ref z) none
  | nums {z x : Addr} {w p q : Int} {u : V} {o : Option (Option Im)} {r : Option R4} (e : H z = some (.tup [.int w, .ref x, u])) (hx : H x = some (.tup [.int p, .int q])) (hq : 1 ≤ q) (bw : w.natAbs < 2 ^ 500) (bp : p.natAbs < 2 ^ 500) (bq : q.natAbs < 2 ^ 500) (hu : WhC K H u o) (er : r = vdR w p q o) : RowC K H (.ref z) r
structure LS (H H' : Hp) : Prop where
  ts : TS H H'
  ls : ∀ z xs, H z = some (.lst xs) → ∃ ys, H' z = some (.lst ys)
theorem LS.same {H H' : Hp} (s : Same H H') : LS H H' := ⟨qj s, fun _ xs e => ⟨xs, s _ _ e⟩⟩
theorem LS.put {H : Hp} {z : Addr} {xs ys : List V} (h : H z = some (.lst xs)) : LS H (upd H z (.lst ys)) := ⟨zA h, fun a as e => by
  by_cases c : a = z
  · subst c; exact ⟨ys, qB⟩
  · exact ⟨as, by rw [qV c]; exact e⟩⟩
theorem LS.trans {H H' H'' : Hp} (h : LS H H') (h' : LS H' H'') : LS H H'' := ⟨h.ts.trans h'.ts, fun z xs e => let ⟨ys, e'⟩ := h.ls z xs e; h'.ls z ys e'⟩
theorem RowC.lss {H H' : Hp} (s : LS H H') {v : V} {r : Option R4} (h : RowC K H v r) : RowC K H' v r := by
  cases h with
  | non => exact .non
  | lst e => obtain ⟨ys, e'⟩ := s.ls _ _ e; exact .lst e'
  | len e h => exact .len (s.ts _ _ e) h
  | bool e => exact .bool (s.ts _ _ e)
  | nums e hx hq bw bp bq hu er => exact .nums (s.ts _ _ e) (s.ts _ _ hx) hq bw bp bq (hu.ts s.ts s.ls) er
theorem RowC.same {H H' : Hp} (s : Same H H') {v : V} {r : Option R4} (h : RowC K H v r) : RowC K H' v r := h.lss (.same s)
structure qIf (K : W.Frag) (H : Hp) (r : R4) (v : V) : Prop where
  ex : ∃ z x u, v = .ref z ∧ H z = some (.tup [.int r.w, .ref x, u]) ∧ H x = some (.tup [.int r.p, .int r.q]) ∧ WhV K H r.m u
  p0 : 0 ≤ r.p
  pq : r.p < r.q
  g : Int.gcd r.p r.q = 1
  bw : r.w.natAbs < 2 ^ 500
  bq : r.q.natAbs < 2 ^ 500
theorem qDq {m m' : Option Im} (h : qD2 m = some m') : m' = m ∧ gB m = true := by
  unfold qD2 at h
  split at h
  · rename_i c; cases h; exact ⟨rfl, c⟩
  · cases h
theorem RowC.good {H : Hp} {v : V} {r : R4} (h : RowC K H v (some r)) : qIf K H r v := by
  generalize hr : some r = o at h
  cases h with
  | non => cases hr
  | lst e => cases hr
  | len e h => cases hr
  | bool e => cases hr
  | @nums z x w p q u o r' e hx hq bw bp bq hu er =>
    rw [← hr] at er
    unfold vdR at er
    cases o with
    | none => cases er
    | some m =>
      dsimp only at er
      split at er
      · rename_i c
        cases er
        cases hu with
        | say h g e' =>
          obtain ⟨rfl, _⟩ := qDq e'.symm
          exact ⟨⟨z, x, u, rfl, e, hx, h⟩, c.2.1, c.2.2, c.1, bw, bq⟩
      · cases er
def RowsC (K : W.Frag) (H : Hp) : List (Option R4) → List V → Prop
  | [], [] => True
  | r :: rs, v :: vs => RowC K H v r ∧ RowsC K H rs vs
  | _, _ => False
theorem RowsC.len {H : Hp} : ∀ {rs : List (Option R4)} {vs : List V}, RowsC K H rs vs → vs.length = rs.length
  | [], [], _ => rfl
  | _ :: _, _ :: _, h => by rw [List.length_cons, List.length_cons, RowsC.len h.2]
  | [], _ :: _, h => h.elim
  | _ :: _, [], h => h.elim
theorem RowsC.same {H H' : Hp} (e : Same H H') : ∀ {rs : List (Option R4)} {vs : List V}, RowsC K H rs vs → RowsC K H' rs vs
  | [], [], _ => trivial
  | _ :: _, _ :: _, h => ⟨h.1.same e, RowsC.same e h.2⟩
  | [], _ :: _, h => h.elim
  | _ :: _, [], h => h.elim
theorem RowsC.get {H : Hp} : ∀ {rs : List (Option R4)} {vs : List V} {i : Nat} {v : V}, RowsC K H rs vs → vs[i]? = some v → ∃ r, rs[i]? = some r ∧ RowC K H v r
  | [], [], _, _, _, h => by simp at h
  | m :: _, x :: _, 0, v, h, e => by
    have e' : x = v := by simpa using e
    subst e'
    exact ⟨m, rfl, h.1⟩
  | _ :: ms, _ :: vs, i + 1, v, h, e => by
    obtain ⟨m, h1, h2⟩ := RowsC.get (i := i) h.2 (by simpa using e)
    exact ⟨m, by simpa using h1, h2⟩
  | [], _ :: _, _, _, h, _ => h.elim
  | _ :: _, [], _, _, h, _ => h.elim
def kJ (K : W.Frag) : Sp := fun vs H Q _ => ∃ (v : V) (r : Option R4), vs = [v] ∧ RowC K H v r ∧ ∀ H', Same H H' → Q (.bl r.isSome) H'
theorem kU (T : Tx K mg a) : FnOk P w K mg base CX0 5 a.a_has_row_form a.f_has_row_form ["row"] (kJ K) := by
  refine T.d_has_row_form.F.ok kN (fun vs H Q E h => ?_) (fun cdv A outer s H vs Q E hr h => ?_)
  · obtain ⟨v, r, rfl, _⟩ := h
    rfl
  obtain ⟨v, r, rfl, hv, kk⟩ := h
  refine ⟨_, (qF (q8 (PW.pt (jk (jA (q9 (qU qm rfl T.b_isinstance rfl (qA (pv 0) (qA (zD rfl T.b_tuple rfl) qE))))) (jT (qM xH (qU qf rfl T.b_len rfl (qA (pv 0) qE)) qD (qL _))))) (qH (qK jS)) qQ)
      (qF (q8 (PW.pt (jk (jA (q9 (qP T.d_is_whole (j5 T) hr rfl (qA (qJ qI (pv 0) qD (fun _ _ => rfl)) qE)))) (jk (jA (q9 (qP T.d_is_fraction (j1 T) hr rfl (qA (qJ qI (pv 0) qD (fun _ _ => rfl)) qE)))) (jT (jA (q9 (qP T.d_is_what (qA3 T) hr rfl (qA (qJ qI (pv 0) qD (fun _ _ => rfl)) qE)))))))) (qH (qK jS)) qQ)
      (qH (qK (xa (qBs (qP T.d_is_before (xm T) hr rfl (qA (qJ qI (pv 0) qD (fun _ _ => rfl)) (qA (ju (v := .ref a.n_NOUGHT) rfl T.g_NOUGHT rfl) qE)))) (xF (qP T.d_is_before (xm T) hr rfl (qA (qJ qI (pv 0) qD (fun _ _ => rfl)) (qA (ju (v := .ref a.n_ONE) rfl T.g_ONE rfl) qE))))))))), ?_⟩
  try dsimp only [xG, jG]
  cases hv with
  | non => exact ⟨_, rfl, _, _, _, false, rfl, .non, ⟨_, .inl ⟨rfl, by kernel_rfl⟩⟩, false, rfl, jI (jI (kk H (Same.refl _)))⟩
  | lst e => exact ⟨_, rfl, _, _, _, false, rfl, .lst e, ⟨_, .inl ⟨rfl, by kernel_rfl⟩⟩, false, rfl, jI (jI (kk H (Same.refl _)))⟩
  | @len z xs e h =>
    refine ⟨_, rfl, _, _, _, true, rfl, .tup e, ⟨_, .inl ⟨rfl, by kernel_rfl⟩⟩, true, rfl, qo ?_⟩
    refine ⟨_, rfl, _, _, rfl, .inr (SqT.of e), rfl, _, rfl, ?_⟩
    have d : (!decide (V.int (xs.length : Int) = V.int 3)) = true := by
      have : ¬ (V.int (xs.length : Int) = V.int 3) := fun z => h (by injection z with z; omega)
      simp [this]
    rw [d]
    exact jI (kk H (Same.refl _))
  | @bool z b x u e =>
    refine ⟨_, rfl, _, _, _, true, rfl, .tup e, ⟨_, .inl ⟨rfl, by kernel_rfl⟩⟩, true, rfl, qo ?_⟩
    refine ⟨_, rfl, _, _, rfl, .inr (SqT.of e), rfl, _, rfl, qo ?_⟩
    exact ⟨_, rfl, _, _, _, _, rfl, rfl, SqT.of e, rfl, _, false, rfl, .no (.bl b), false, rfl, jI (jI (kk H (Same.refl _)))⟩
  | @nums z x w p q u o r hz hx hq bw bp bq hu er =>
    have f1 := FrB.nums (K := K) hx
    have sq : Sm q := jo bq
    have sp : Sm p := jo bp
    have s0 : Sm 0 := xz (by decide) (by decide)
    have s1' : Sm 1 := xz (by decide) (by decide)
    refine ⟨_, rfl, _, _, _, true, rfl, .tup hz, ⟨_, .inl ⟨rfl, by kernel_rfl⟩⟩, true, rfl, qo ?_⟩
    refine ⟨_, rfl, _, _, rfl, .inr (SqT.of hz), rfl, _, rfl, qo ?_⟩
    refine ⟨_, rfl, _, _, _, _, rfl, rfl, SqT.of hz, rfl, _, true, rfl, .int w, true, rfl, qo ?_⟩
    by_cases g : Int.gcd p q = 1
    case neg =>
      have er' : r = none := by
        rw [er]; unfold vdR
        cases o with
        | none => rfl
        | some m => dsimp only; rw [if_neg (fun c => g c.1)]
      rw [er'] at kk
      have d1 : (decide (1 ≤ q) && decide (Int.gcd p q = 1)) = false := by rw [decide_eq_false g, Bool.and_false]
      rw [d1] at f1
      exact ⟨_, rfl, _, _, _, _, rfl, rfl, SqT.of hz, rfl, _, false, rfl, f1, false, rfl, jI (jI (kk H (Same.refl _)))⟩
    have d1 : (decide (1 ≤ q) && decide (Int.gcd p q = 1)) = true := by rw [decide_eq_true g, decide_eq_true hq]; rfl
    rw [d1] at f1
    refine ⟨_, rfl, _, _, _, _, rfl, rfl, SqT.of hz, rfl, _, true, rfl, f1, true, rfl, qo ?_⟩
    refine ⟨_, rfl, _, _, _, _, rfl, rfl, SqT.of hz, rfl, u, o, rfl, hu, fun H1 s1 => ⟨_, rfl, ?_⟩⟩
    cases o with
    | none =>
      have er' : r = none := er
      rw [er'] at kk
      exact jI (kk H1 s1)
    | some m =>
    refine qo ?_
    have hz1 : SqT K H1 z [.int w, .ref x, u] := SqT.of (s1 _ _ hz)
    have hx1 : Pr K H1 (.ref x) p q := ⟨x, rfl, SqT.of (s1 _ _ hx)⟩
    have k1 := kk H1 s1
    rw [er] at k1
    unfold vdR at k1
    dsimp only at k1
    refine ⟨_, rfl, _, _, _, _, rfl, rfl, hz1, rfl, _, _, p, q, 0, 1, rfl, hx1, ⟨_, rfl, T.sq_NOUGHT H1⟩, sp, sq, s0, s1', _, rfl, _, rfl, ?_⟩
    by_cases h0 : p < 0
    · rw [decide_eq_true (by omega)]
      rw [if_neg (fun c => by omega)] at k1
      exact qo k1
    rw [decide_eq_false (by omega)]
    refine jI ⟨_, rfl, _, _, _, _, rfl, rfl, hz1, rfl, _, _, p, q, 1, 1, rfl, hx1, ⟨_, rfl, T.sq_ONE H1⟩, sp, sq, s1', s1', ?_⟩
    by_cases h1 : p < q
    · rw [decide_eq_true (by omega)]
      rw [if_pos ⟨g, by omega, h1⟩] at k1
      exact k1
    · rw [decide_eq_false (by omega)]
      rw [if_neg (fun c => h1 c.2.2)] at k1
      exact k1
def flB (c k : Str) : Bool := if c = "end" then false else qAj c k
def vF : Sp := fun vs H Q _ => ∃ k c : Str, vs = [.str k, .str c] ∧ ∀ H', Same H H' → Q (.bl (flB c k)) H'
theorem vc (T : Tx K mg a) : FnOk P w K mg base CX0 1 a.a_may_follow a.f_may_follow ["kind", "ahead"] vF := by
  refine T.d_may_follow.F.ok vV (fun vs H Q E h => ?_) (fun cdv A outer s H vs Q E hr h => ?_)
  · obtain ⟨k, c, rfl, _⟩ := h
    rfl
  obtain ⟨k, c, rfl, kk⟩ := h
  refine ⟨_, (qF (q8 (qM jc (pv 1) qR (qL _)) (qH (qK jS)) qQ)
      (qF (q8 (qM jc (pv 1) qR (qL _)) (qH (qK (qv jc (pv 0) qR (qL _)))) qQ)
      (qF (q8 (qM jc (pv 0) qR (qL _)) (qH (qK (qv jc (pv 1) qR (qL _)))) qQ)
      (qH (qK (qFe (qv xH (pv 1) qR (qL _)) (xF (qv ve (pv 0) (qO (qA qR (qA qR qE))) rfl)))))))), ?_⟩
  try dsimp only [xG, jG]
  unfold flB qAj at kk
  refine ⟨_, rfl, rfl, _, rfl, zH (fun c1 => ?_) (fun c1 => ?_)⟩
  · rw [if_pos (by simpa using c1)] at kk
    exact kk _ (Same.refl _)
  rw [if_neg (by simpa using c1)] at kk
  refine ⟨_, rfl, rfl, _, rfl, zH (fun c1 => ?_) (fun c1 => ?_)⟩
  · rw [if_pos (by simpa using c1)] at kk
    refine ⟨_, rfl, rfl, ?_⟩
    rw [qHn]
    exact kk _ (Same.refl _)
  rw [if_neg (by simpa using c1)] at kk
  refine ⟨_, rfl, rfl, _, rfl, zH (fun c1 => ?_) (fun c1 => ?_)⟩
  · rw [if_pos (by simpa using c1)] at kk
    refine ⟨_, rfl, rfl, ?_⟩
    rw [qHn]
    exact kk _ (Same.refl _)
  rw [if_neg (by simpa using c1)] at kk
  refine ⟨_, rfl, rfl, _, rfl, zH (fun c2 => ?_) (fun c2 => ?_)⟩
  · have hcg : c ≠ "gap" := by simpa using c2
    have := kk _ (Same.refl _)
    rw [decide_eq_false hcg] at this
    exact this
  · have hcg : c = "gap" := by simpa using c2
    rw [decide_eq_true hcg] at kk
    refine ⟨_, rfl, sL2, fun t ht => ?_⟩
    refine ⟨t, _, rfl, .inr (SqT.of qB), rfl, rfl, ?_⟩
    have e : inV (.str k) [.str "gap", .str "end"] = (decide (k = "gap") || decide (k = "end")) := by
      by_cases h1 : k = "gap"
      · subst h1; decide +kernel
      by_cases h2 : k = "end"
      · subst h2; decide +kernel
      simp [inV, eqV, h1, h2, Ne.symm h1, Ne.symm h2]
    rw [e]
    exact kk _ (qC ht _)
def lsB (o : Option Int) (c : Str) (b : Int) : Bool := match o with | none => decide (b = 0) | some x => if c = "mix" then decide (b = x) else decide (x < b)
theorem qF0 {x y : Int} : decide (V.int x = V.int y) = decide (x = y) := by
  rw [Bool.eq_iff_iff]; simp
def vL (K : W.Frag) : Sp := fun vs H Q _ => ∃ (b : Int) (z : Addr) (bs : List Int) (c : Str), vs = [.int b, .ref z, .str c] ∧ SqL K H z (bs.map V.int) ∧ Q (.bl (lsB bs.getLast? c b)) H
theorem vZ (T : Tx K mg a) : FnOk P w K mg base CX0 1 a.a_lies_right a.f_lies_right ["border", "borders", "ahead"] (vL K) := by
  refine T.d_lies_right.F.ok vC (fun vs H Q E h => ?_) (fun cdv A outer s H vs Q E hr h => ?_)
  · obtain ⟨b, z, bs, c, rfl, _⟩ := h
    rfl
  obtain ⟨b, z, bs, c, rfl, hz, kk⟩ := h
  refine ⟨_, (qF (q8 (qM jc (qU qf rfl T.b_len rfl (qA (pv 1) qE)) qD (qL _)) (qH (qK (qv jc (pv 0) qD (qL _)))) qQ)
      (qF (q8 (qM jc (pv 2) qR (qL _)) (qH (qK (qv jc (pv 0) (qJ qg (pv 1) (zW xP qD) (fun _ _ => rfl)) (qL _)))) qQ)
      (qH (qK (qv qDf (pv 0) (qJ qg (pv 1) (zW xP qD) (fun _ _ => rfl)) (qL _)))))), ?_⟩
  try dsimp only [xG, jG]
  refine ⟨_, rfl, z, _, rfl, .inl hz, rfl, _, rfl, ?_⟩
  rw [List.length_map]
  cases hbs : bs with
  | nil =>
    rw [hbs] at kk
    refine jI ⟨_, rfl, rfl, ?_⟩
    rw [qF0]
    exact kk
  | cons x xs =>
    have hne : bs ≠ [] := by rw [hbs]; simp
    refine xU (by simp; omega) ?_
    obtain ⟨y, hy⟩ : ∃ y, bs.getLast? = some y := ⟨_, List.getLast?_eq_some_getLast hne⟩
    rw [hy] at kk
    unfold lsB at kk
    dsimp only at kk
    have hat : atI (bs.map V.int) (-1) = some (.int y) := z6 (by
      rw [List.length_map, List.getElem?_map, ← List.getLast?_eq_getElem?, hy]; rfl)
    refine ⟨_, rfl, rfl, _, rfl, zH (fun c1 => ?_) (fun c1 => ?_)⟩
    · rw [if_pos (by simpa using c1)] at kk
      refine ⟨_, rfl, _, rfl, 1, rfl, z, _, _, _, rfl, rfl, hz, hat, rfl, ?_⟩
      rw [qF0]
      exact kk
    · rw [if_neg (by simpa using c1)] at kk
      exact ⟨_, rfl, _, rfl, 1, rfl, z, _, _, _, rfl, rfl, hz, hat, _, _, rfl, rfl, kk⟩
def bdr (r0 r1 o0 o1 : Int) (r : R4) : Option Int := if ((r.w * r.q + r.p) * r0 * o1).fmod (r.q * r1 * o0) = 0 then some (((r.w * r.q + r.p) * r0 * o1).fdiv (r.q * r1 * o0)) else none
def stp (r0 r1 o0 o1 : Int) (o : Option Int) (c : Str) : Option R4 → Option (Int × Str)
  | none => none
  | some r => match bdr r0 r1 o0 o1 r with
    | none => none
    | some b => if (flB c (wdO r.m) && lsB o c b) = true then some (b, wdO r.m) else none
def fw (r0 r1 o0 o1 : Int) : Option Int → Str → Nat → List (Option R4) → Option Nat
  | _, c, i, [] => if c = "end" then none else some i
  | o, c, i, r :: rs => match stp r0 r1 o0 o1 o c r with
    | none => some i
    | some bc => fw r0 r1 o0 o1 (some bc.1) bc.2 (i + 1) rs
theorem qFm {r0 r1 o0 o1 : Int} {o : Option Int} {c : Str} {i : Nat} {rs : List (Option R4)} {r : Option R4} {F : Option Nat} (hd : rs.drop i = r :: rs.drop (i + 1)) (hF : fw r0 r1 o0 o1 o c i (rs.drop i) = F) (hs : stp r0 r1 o0 o1 o c r = none) : F = some i := by
  rw [hd, fw, hs] at hF
  exact hF.symm
theorem qFs {r0 r1 o0 o1 : Int} {o : Option Int} {c : Str} {i : Nat} {rs : List (Option R4)} {r : Option R4} {F : Option Nat} {b : Int} {k : Str} (hd : rs.drop i = r :: rs.drop (i + 1)) (hF : fw r0 r1 o0 o1 o c i (rs.drop i) = F) (hs : stp r0 r1 o0 o1 o c r = some (b, k)) : fw r0 r1 o0 o1 (some b) k (i + 1) (rs.drop (i + 1)) = F := by
  rw [hd, fw, hs] at hF
  exact hF
theorem qDv {r0 r1 o0 o1 : Int} : ∀ {rs : List (Option R4)} {o : Option Int} {c : Str} {i : Nat}, fw r0 r1 o0 o1 o c i rs = none → ∀ r ∈ rs, ∃ r', r = some r'
  | [], _, _, _, _, r, h => by simp at h
  | x :: rs, o, c, i, h, r, hr => by
    rw [fw] at h
    cases hs : stp r0 r1 o0 o1 o c x with
    | none => rw [hs] at h; cases h
    | some bc =>
      rw [hs] at h
      rcases List.mem_cons.mp hr with rfl | hr
      · cases r with
        | none => cases hs
        | some r' => exact ⟨r', rfl⟩
      · exact qDv h r hr
theorem wc {w p q r0 r1 o0 o1 : Int} (hq : 0 < q) (h1 : 0 < r1) (h2 : 0 < o0) :
    qp (qp (qp w 1 * q + p * qY w 1) (qY w 1 * q) * qp (r0 * o1) (r1 * o0)) (qY (qp w 1 * q + p * qY w 1) (qY w 1 * q) * qY (r0 * o1) (r1 * o0)) * (q * r1 * o0) =
    (w * q + p) * r0 * o1 * qY (qp (qp w 1 * q + p * qY w 1) (qY w 1 * q) * qp (r0 * o1) (r1 * o0)) (qY (qp w 1 * q + p * qY w 1) (qY w 1 * q) * qY (r0 * o1) (r1 * o0)) := by
  have e1 : qp w 1 * 1 = w * qY w 1 := jV _ _
  have q1 : 0 < qY w 1 := jL (by decide)
  generalize qp w 1 = U at *
  generalize qY w 1 = W at *
  have hWq : W * q ≠ 0 := Int.mul_ne_zero (by omega) (by omega)
  have e2 : qp (U * q + p * W) (W * q) * (W * q) = (U * q + p * W) * qY (U * q + p * W) (W * q) := jV _ _
  have q2 : 0 < qY (U * q + p * W) (W * q) := jL hWq
  generalize qp (U * q + p * W) (W * q) = S at *
  generalize qY (U * q + p * W) (W * q) = Tq at *
  have hro : r1 * o0 ≠ 0 := Int.mul_ne_zero (by omega) (by omega)
  have e3 : qp (r0 * o1) (r1 * o0) * (r1 * o0) = r0 * o1 * qY (r0 * o1) (r1 * o0) := jV _ _
  have q3 : 0 < qY (r0 * o1) (r1 * o0) := jL hro
  generalize qp (r0 * o1) (r1 * o0) = BP at *
  generalize qY (r0 * o1) (r1 * o0) = BQ at *
  have hU : U = w * W := by rw [← e1]; omega
  subst hU
  have hS : S * q = (w * q + p) * Tq := by
    have hW : W ≠ 0 := by omega
    refine Int.eq_of_mul_eq_mul_right hW ?_
    have a1 : S * q * W = S * (W * q) := by grind
    have a2 : (w * q + p) * Tq * W = (w * W * q + p * W) * Tq := by grind
    rw [a1, a2, e2]
  have e4 : qp (S * BP) (Tq * BQ) * (Tq * BQ) = S * BP * qY (S * BP) (Tq * BQ) := jV _ _
  generalize qp (S * BP) (Tq * BQ) = PP at *
  generalize qY (S * BP) (Tq * BQ) = QQ at *
  have hz : Tq * BQ ≠ 0 := Int.mul_ne_zero (by omega) (by omega)
  refine Int.eq_of_mul_eq_mul_right hz ?_
  have b1 : PP * (q * r1 * o0) * (Tq * BQ) = PP * (Tq * BQ) * (q * (r1 * o0)) := by grind
  have b2 : S * BP * QQ * (q * (r1 * o0)) = S * q * (BP * (r1 * o0)) * QQ := by grind
  rw [b1, e4, b2, hS, e3]
  grind
theorem qGt : xO [V.int 0, .int 1] [.int 0, .int 1] = true := by decide +kernel
theorem qGn {x y : Int} (h : y ≠ 1) : xO [V.int x, .int y] [.int 0, .int 1] = false := by
  rw [Bool.eq_false_iff]
  intro z
  unfold xO at z
  simp at z
  have := z 1 (by decide)
  simp [eqV] at this
  exact h this
theorem xI (T : Tx K mg a) : FnOk P w K mg base CX0 1 a.fi_NoList a.gi_NoList ["self", "at"] (wX a.k_NoList "at") := by
  refine T.i_NoList.ok qA1 (fun vs H Q E h => ?_) (fun cdv A outer s H vs Q E hr h => ?_)
  · obtain ⟨e, v, rfl, _⟩ := h
    rfl
  obtain ⟨e, v, rfl, he, kk⟩ := h
  refine ⟨_, qH (qEk (pv 0) (pv 1)), ?_⟩
  exact ⟨_, rfl, _, rfl, e, _, _, rfl, he, T.m_NoList.ov, T.m_NoList.hd, T.m_NoList.sa, T.tk_NoList, kk⟩
def zo (K : W.Frag) (N : Addr) : Sp := fun vs H Q E => ∃ (l : Addr) (us : List V) (rs : List (Option R4)) (x y : V) (r0 r1 o0 o1 : Int), vs = [.ref l, x, y] ∧ H l = some (.lst us) ∧ RowsC K H rs us ∧ rs.length ≤ 300 ∧ Rate H x r0 r1 ∧ Rate H y o0 o1 ∧
  (∀ (z : Addr) (bs : List Int) (H' : Hp), fw r0 r1 o0 o1 none "" 0 rs = none → bs.length = rs.length → Same H H' → H z = none → H' z = some (.lst (bs.map V.int)) → Q (.ref z) H') ∧
  ∀ (i : Nat) (dx : Addr) (H' : Hp), fw r0 r1 o0 o1 none "" 0 rs = some i → Same H H' → H' dx = some (.xd [("at", .int i)]) → E (.ref N) (some dx) H'
theorem zj (T : Tx K mg a) : FnOk P w K mg base (CXR P w) 6 a.a_borders_read a.f_borders_read ["rows", "rate", "other"] (zo K a.k_NoList) := by
  refine okX T.d_borders_read.F sc_borders_read (fun vs H Q E h => ?_) (fun cdv A outer s H vs Q E hr h => ?_)
  · obtain ⟨l, us, rs, x, y, r0, r1, o0, o1, rfl, _⟩ := h
    rfl
  obtain ⟨l, us, rs, x, y, r0, r1, o0, o1, rfl, hl, hrs, hlen, rx, ry, kk, kx⟩ := h
  have hu0 := hr.units0
  refine ⟨_, (qF (qc (i := 3) sc_borders_read.nd rfl (Or.inl rfl) (qP T.d_quotient (kE T) hr rfl (qA (pv 1) (qA (pv 2) qE))))
      (qF (qc (i := 4) sc_borders_read.nd rfl (Or.inl rfl) (jF qE))
      (qF (qc (i := 5) sc_borders_read.nd rfl (Or.inl rfl) qR)
      (qF (kY (qGl rfl rfl rfl rfl) rfl (qCf rfl T.b_enumerate (qA (pv 0) qE)) (vh rfl (jd (jU (i := 6) sc_borders_read.nd rfl (Or.inl rfl)) (jd (jU (i := 7) sc_borders_read.nd rfl (Or.inl rfl)) kH))) (qF (q8 (PW.pt (jk (jA (q9 (qP T.d_has_row_form (kU T) hr rfl (qA (pv 7) qE)))) (jT (jA (q9 (qP T.d_may_follow (vc T) hr rfl (qA (qJ qI (qJ qI (pv 7) qD (fun _ _ => rfl)) qD (fun _ _ => rfl)) (qA (pv 5) qE)))))))) (qH (kA T.m_NoList (xI T) T.ib_NoList (hr.mono (by decide)) rfl rfl T.c_NoList (qA (pv 6) qE))) qQ)
      (qF (qc (i := 8) sc_borders_read.nd rfl (Or.inl rfl) (qP T.d_times_of (kP T) hr rfl (qA (qP T.d_sum_of (qBc T) hr rfl (qA (qP T.d_fraction (xD T) hr rfl (qA (qJ qI (pv 7) qD (fun _ _ => rfl)) (qA qD qE))) (qA (qJ qI (pv 7) qD (fun _ _ => rfl)) qE))) (qA (pv 3) qE))))
      (qF (q8 (PW.pt (jk (qM (qBh hu0) (qP T.d_rest_of (vA T) hr rfl (qA (pv 8) qE)) (ju (v := .ref a.n_NOUGHT) rfl T.g_NOUGHT rfl) (qL _)) (jT (jA (q9 (qP T.d_lies_right (vZ T) hr rfl (qA (qP T.d_floor_of (zC T) hr rfl (qA (pv 8) qE)) (qA (pv 4) (qA (pv 5) qE))))))))) (qH (kA T.m_NoList (xI T) T.ib_NoList (hr.mono (by decide)) rfl rfl T.c_NoList (qA (pv 6) qE))) qQ)
      (qF (jp (vU F.plainAttrs_list F.slot_list_append F.type_list_append jm (pv 4) (qA (qP T.d_floor_of (zC T) hr rfl (qA (pv 8) qE)) qE)))
      (qH (qc (i := 5) sc_borders_read.nd rfl (Or.inl rfl) (qJ qI (qJ qI (pv 7) qD (fun _ _ => rfl)) qD (fun _ _ => rfl)))))))))
      (qF (q8 (qM xH (pv 5) qR (qL _)) (qH (kA T.m_NoList (xI T) T.ib_NoList (hr.mono (by decide)) rfl rfl T.c_NoList (qA (qU qf rfl T.b_len rfl (qA (pv 0) qE)) qE))) qQ)
      (qH (qK (pv 4)))))))), ?_⟩
  try dsimp only [xG, jG]
  have px := rx.p0
  have py := ry.p0
  have qx := rx.q0
  have qy := ry.q0
  have c1 := rx.bp
  have c2 := rx.bq
  have c3 := ry.bp
  have c4 := ry.bq
  refine ⟨_, rfl, _, rfl, x, y, r0, r1, o0, o1, rfl, rx.pr, ry.pr, by omega, by omega, xz (by omega) (by omega), xz (by omega) (by omega), xz (by omega) (by omega), xz (by omega) (by omega), fun zb hb => ?_⟩
  have hne : r1 * o0 ≠ 0 := Int.mul_ne_zero (by omega) (by omega)
  have bP : (qp (r0 * o1) (r1 * o0)).natAbs < 2 ^ 200 := Nat.lt_of_le_of_lt (j4 hne) (xJ px c1 qy c4)
  have bQ : (qY (r0 * o1) (r1 * o0)).natAbs < 2 ^ 200 := Nat.lt_of_le_of_lt (jn hne) (xJ qx c2 py c3)
  have q0 : 0 < qY (r0 * o1) (r1 * o0) := jL hne
  have plE : ∀ (r : R4) (b : Int), 0 < r.q → (r.w * r.q + r.p) * r0 * o1 = b * (r.q * r1 * o0) → _ := fun r b hq h => qDn (w := r.w) (p := r.p) (q := r.q) (b := b) (r0 := r0) (r1 := r1) (o0 := o0) (o1 := o1) hq qx py h
  have plC : ∀ (r : R4), 0 < r.q → _ := fun r hq => wc (w := r.w) (p := r.p) (q := r.q) (r0 := r0) (r1 := r1) (o0 := o0) (o1 := o1) hq qx py
  generalize qp (r0 * o1) (r1 * o0) = BP at plE plC bP ⊢
  generalize qY (r0 * o1) (r1 * o0) = BQ at plE plC bQ q0 ⊢
  have w1 := qC hb (.tup [.int BP, .int BQ])
  refine ⟨sL0, fun z hz => ?_⟩
  have w2 := qC hz (.lst [])
  have w12 := w1.trans w2
  have pB : (upd (upd H zb (.tup [.int BP, .int BQ])) z (.lst [])) zb = some (.tup [.int BP, .int BQ]) := w2 _ _ qB
  have ez : (upd (upd H zb (.tup [.int BP, .int BQ])) z (.lst [])) z = some (.lst []) := qB
  have hz0 : H z = none := w1.free hz
  generalize upd (upd H zb (.tup [.int BP, .int BQ])) z (.lst []) = H2 at w12 pB ez ⊢
  have pB' : ∀ {H' : Hp}, TS H2 H' → Pr K H' (.ref zb) BP BQ := fun ts => ⟨zb, rfl, SqT.of (ts _ _ pB)⟩
  generalize hF : fw r0 r1 o0 o1 none "" 0 rs = F at kk kx
  refine ⟨_, rfl, l, rfl, ⟨_, SqL.of (w12 _ _ hl)⟩, wr (K := K) (a := l) (xs := us) (fun i σ H' => ∃ (o1' o2' o3' : Option V) (bs : List Int) (ca : Str), σ = [some (.ref l), some x, some y, some (.ref zb), some (.ref z), some (.str ca), o1', o2', o3'] ∧ H' z = some (.lst (bs.map V.int)) ∧ bs.length = i ∧ fw r0 r1 o0 o1 bs.getLast? ca i (rs.drop i) = F ∧ TS H2 H' ∧ Same H H')
    ⟨none, none, none, [], "", rfl, ez, rfl, hF, TS.refl _, w12⟩ ?_ ?_ ?_⟩
  · rintro i σ H' hi ⟨_, _, _, _, _, _, _, _, _, _, e⟩
    exact SqL.of (e _ _ hl)
  · rintro i v σ H' pe hv ⟨o1', o2', o3', bs, ca, rfl, hzl, hbl, hFi, ts, e⟩ hpe
    have w3 := qC hpe (.tup [.int i, v])
    obtain ⟨r, hr', hRow⟩ := hrs.get hv
    have hdr := wx hr'
    refine ⟨pe, _, rfl, SqT.of qB, rfl, _, _, rfl, _, _, rfl, rfl, ?_⟩
    have e3 := e.trans w3
    have ts3 := ts.trans (qj w3)
    have hzl := w3 _ _ hzl
    have hRow := hRow.same e3
    generalize upd H' pe (.tup [.int i, v]) = H3 at e3 ts3 hzl hRow ⊢
    have hno : stp r0 r1 o0 o1 bs.getLast? ca r = none → ∀ (H5 : Hp) (dx : Addr), Same H H5 → H5 dx = none → E (.ref a.k_NoList) (some dx) (upd H5 dx (.xd [("at", .int i)])) := fun hs H5 dx s5 hdx => kx i dx _ (qFm hdr hFi hs) (s5.trans (qC hdx _)) qB
    refine ⟨_, rfl, v, r, rfl, hRow, fun H4 s4 => ⟨_, rfl, ?_⟩⟩
    cases r with
    | none => exact jI (jI ⟨_, rfl, _, rfl, fun dx hdx => hno rfl H4 dx (e3.trans s4) hdx⟩)
    | some r =>
    refine qo ?_
    have hN := (hRow.same s4).good
    have hN3 := hRow.good
    obtain ⟨zr, xr, ur, rfl, hzr, hxr, hwr⟩ := hN.ex
    have rp0 := hN.p0
    have rpq := hN.pq
    have rbw := hN.bw
    have rbq := hN.bq
    obtain ⟨zw, xw, rfl, sqw, at0w⟩ := hwr.w0
    refine ⟨_, rfl, _, _, _, _, rfl, rfl, SqT.of hzr, rfl, zw, _, _, _, rfl, rfl, sqw, at0w, _, rfl, wdO r.m, ca, rfl, fun H5 s5 => ⟨_, rfl, ?_⟩⟩
    have s45 := s4.trans s5
    cases hfl : flB ca (wdO r.m) with
    | false =>
      refine jI ⟨_, rfl, _, rfl, fun dx hdx => hno ?_ H5 dx (e3.trans s45) hdx⟩
      unfold stp
      dsimp only
      rw [hfl]
      cases bdr r0 r1 o0 o1 r <;> rfl
    | true =>
    refine qo ?_
    have hzr5 := s5 _ _ hzr
    have hxr5 := s5 _ _ hxr
    have sw : Sm r.w := jo rbw
    have sq : Sm r.q := jo rbq
    have sp : Sm r.p := Nat.lt_of_le_of_lt (show r.p.natAbs ≤ r.q.natAbs by omega) sq
    have l1 : (qp r.w 1).natAbs < 2 ^ 500 := Nat.lt_of_le_of_lt (j4 (by decide)) rbw
    have l2 : (qY r.w 1).natAbs < 2 ^ 1 := Nat.lt_of_le_of_lt (jn (by decide)) (by decide)
    have l3 := jL (t := r.w) (b := 1) (by decide)
    have sL1 : Sm (qp r.w 1) := jo l1
    have sL2 : Sm (qY r.w 1) := jo l2
    refine ⟨_, rfl, _, _, _, _, rfl, rfl, SqT.of hzr5, rfl, r.w, 1, rfl, by decide, qDm (n := 1) (by decide), fun z1 h1 => ?_⟩
    have v1 := qC h1 (.tup [.int (qp r.w 1), .int (qY r.w 1)])
    have bp2 : r.p.natAbs < 2 ^ 500 := Nat.lt_of_le_of_lt (show r.p.natAbs ≤ r.q.natAbs by omega) rbq
    have hWq : qY r.w 1 * r.q ≠ 0 := Int.mul_ne_zero (by omega) (by omega)
    refine ⟨_, rfl, _, _, _, _, rfl, rfl, SqT.of (v1 _ _ hzr5), rfl, _, _, qp r.w 1, qY r.w 1, r.p, r.q, rfl, ⟨z1, rfl, SqT.of qB⟩, ⟨xr, rfl, SqT.of (v1 _ _ hxr5)⟩, by omega, by omega, sL1, sL2, sp, sq, fun z2 h2 => ?_⟩
    have v2 := qC h2 (.tup [.int (qp (qp r.w 1 * r.q + r.p * qY r.w 1) (qY r.w 1 * r.q)), .int (qY (qp r.w 1 * r.q + r.p * qY r.w 1) (qY r.w 1 * r.q))])
    have bS : (qp (qp r.w 1 * r.q + r.p * qY r.w 1) (qY r.w 1 * r.q)).natAbs < 2 ^ 2000 := by
      refine Nat.lt_of_le_of_lt (j4 hWq) ?_
      have h1 := jC l1 rbq
      have h2 := jC bp2 l2
      have e : (2 : Nat) ^ (500 + 500) + 2 ^ (500 + 1) ≤ 2 ^ 2000 := by decide
      omega
    have bT : (qY (qp r.w 1 * r.q + r.p * qY r.w 1) (qY r.w 1 * r.q)).natAbs < 2 ^ 2000 := by
      refine Nat.lt_of_le_of_lt (jn hWq) ?_
      exact jo (jC l2 rbq)
    have sS : Sm (qp (qp r.w 1 * r.q + r.p * qY r.w 1) (qY r.w 1 * r.q)) := jo bS
    have sT : Sm (qY (qp r.w 1 * r.q + r.p * qY r.w 1) (qY r.w 1 * r.q)) := jo bT
    have nT := jL (t := qp r.w 1 * r.q + r.p * qY r.w 1) hWq
    have ts5 := ((ts3.trans (qj s45)).trans (qj v1)).trans (qj v2)
    refine ⟨_, rfl, _, _, _, _, BP, BQ, rfl, ⟨z2, rfl, SqT.of qB⟩, pB' ts5, by omega, by omega, sS, sT, .of200 bP, .of200 bQ, fun z3 h3 => ?_⟩
    have nTB : qY (qp r.w 1 * r.q + r.p * qY r.w 1) (qY r.w 1 * r.q) * BQ ≠ 0 := Int.mul_ne_zero (by omega) (by omega)
    have pQ := jL (t := qp (qp r.w 1 * r.q + r.p * qY r.w 1) (qY r.w 1 * r.q) * BP) nTB
    have aQ : (qY (qp (qp r.w 1 * r.q + r.p * qY r.w 1) (qY r.w 1 * r.q) * BP) (qY (qp r.w 1 * r.q + r.p * qY r.w 1) (qY r.w 1 * r.q) * BQ)).natAbs < 2 ^ 8000 := Nat.lt_of_le_of_lt (jn nTB) (jo (jC bT bQ))
    have pC := plC r (by omega)
    have pE := plE r (((r.w * r.q + r.p) * r0 * o1).fdiv (r.q * r1 * o0)) (by omega)
    have v3 := qC h3 (.tup [.int (qp (qp (qp r.w 1 * r.q + r.p * qY r.w 1) (qY r.w 1 * r.q) * BP) (qY (qp r.w 1 * r.q + r.p * qY r.w 1) (qY r.w 1 * r.q) * BQ)), .int (qY (qp (qp r.w 1 * r.q + r.p * qY r.w 1) (qY r.w 1 * r.q) * BP) (qY (qp r.w 1 * r.q + r.p * qY r.w 1) (qY r.w 1 * r.q) * BQ))])
    have v13 := (v1.trans v2).trans v3
    have s6 := s45.trans v13
    have e6 := e3.trans s6
    have ts6 := ts5.trans (qj v3)
    have hzl6 := s6 _ _ hzl
    have hRow6 := hRow.same s6
    have hpl : Pr K _ (.ref z3) (qp (qp (qp r.w 1 * r.q + r.p * qY r.w 1) (qY r.w 1 * r.q) * BP) (qY (qp r.w 1 * r.q + r.p * qY r.w 1) (qY r.w 1 * r.q) * BQ)) (qY (qp (qp r.w 1 * r.q + r.p * qY r.w 1) (qY r.w 1 * r.q) * BP) (qY (qp r.w 1 * r.q + r.p * qY r.w 1) (qY r.w 1 * r.q) * BQ)) := ⟨z3, rfl, SqT.of (H := upd (upd (upd H5 z1 (.tup [.int (qp r.w 1), .int (qY r.w 1)])) z2 (.tup [.int (qp (qp r.w 1 * r.q + r.p * qY r.w 1) (qY r.w 1 * r.q)), .int (qY (qp r.w 1 * r.q + r.p * qY r.w 1) (qY r.w 1 * r.q))])) z3 (.tup [.int (qp (qp (qp r.w 1 * r.q + r.p * qY r.w 1) (qY r.w 1 * r.q) * BP) (qY (qp r.w 1 * r.q + r.p * qY r.w 1) (qY r.w 1 * r.q) * BQ)), .int (qY (qp (qp r.w 1 * r.q + r.p * qY r.w 1) (qY r.w 1 * r.q) * BP) (qY (qp r.w 1 * r.q + r.p * qY r.w 1) (qY r.w 1 * r.q) * BQ))])) qB⟩
    clear v1 v2 v3 v13 h2 h3 sS sT nT hWq l1 l2 l3 sL1 sL2 bS bT
    generalize upd (upd (upd H5 z1 _) z2 _) z3 _ = H6 at s6 e6 ts6 hzl6 hRow6 hpl ⊢
    generalize qY (qp (qp r.w 1 * r.q + r.p * qY r.w 1) (qY r.w 1 * r.q) * BP) (qY (qp r.w 1 * r.q + r.p * qY r.w 1) (qY r.w 1 * r.q) * BQ) = QQ at *
    generalize qp (qp (qp r.w 1 * r.q + r.p * qY r.w 1) (qY r.w 1 * r.q) * BP) (qY (qp r.w 1 * r.q + r.p * qY r.w 1) (qY r.w 1 * r.q) * BQ) = PP at *
    have hbot : 0 < r.q * r1 * o0 := Int.mul_pos (Int.mul_pos (by omega) qx) py
    refine ⟨_, rfl, _, PP, QQ, rfl, hpl, by omega, fun z4 h4 => ?_⟩
    have v4 := qC h4 (.tup [.int (PP.fmod QQ), .int QQ])
    refine ⟨_, _, _, _, rfl, rfl, SqT.of qB, T.sq_NOUGHT _, rfl, rfl, _, rfl, ?_⟩
    have e7 := e6.trans v4
    have ts7 := ts6.trans (qj v4)
    have hzl7 := v4 _ _ hzl6
    have hRow7 := hRow6.same v4
    have hpl7 := hpl.same v4
    generalize upd H6 z4 _ = H7 at e7 ts7 hzl7 hRow7 hpl7 ⊢
    by_cases hm : ((r.w * r.q + r.p) * r0 * o1).fmod (r.q * r1 * o0) = 0
    case neg =>
      have hQ1 : QQ ≠ 1 := fun h => hm (by
        rw [h, Int.mul_one] at pC
        rw [← pC, Int.fmod_eq_emod_of_nonneg _ (by omega)]
        exact Int.mul_emod_left _ _)
      rw [qGn hQ1]
      refine jI (jI ⟨_, rfl, _, rfl, fun dx hdx => hno ?_ H7 dx e7 hdx⟩)
      unfold stp bdr
      dsimp only
      rw [if_neg hm]
    have hpe' := pE (by
      have := Int.mul_fdiv_add_fmod ((r.w * r.q + r.p) * r0 * o1) (r.q * r1 * o0)
      rw [hm, Int.add_zero, Int.mul_comm] at this
      exact this.symm)
    have hbd : bdr r0 r1 o0 o1 r = some (((r.w * r.q + r.p) * r0 * o1).fdiv (r.q * r1 * o0)) := by unfold bdr; rw [if_pos hm]
    generalize ((r.w * r.q + r.p) * r0 * o1).fdiv (r.q * r1 * o0) = b at hbd hpe'
    obtain ⟨rfl, rfl⟩ := hpe'
    rw [Int.fmod_one, qGt]
    have hfl1 : PP.fdiv 1 = PP := Int.fdiv_one _
    refine qo ⟨_, rfl, _, PP, 1, rfl, hpl7, by decide, qDm (n := 1) (by decide), _, rfl, _, rfl, _, z, bs, ca, rfl, SqL.of hzl7, _, rfl, ?_⟩
    rw [hfl1]
    cases hls : lsB bs.getLast? ca PP with
    | false =>
      refine jI ⟨_, rfl, _, rfl, fun dx hdx => hno ?_ H7 dx e7 hdx⟩
      unfold stp
      dsimp only
      rw [hbd]
      dsimp only
      rw [hls, Bool.and_false]
      rfl
    | true =>
    have hst : stp r0 r1 o0 o1 bs.getLast? ca (some r) = some (PP, wdO r.m) := by
      unfold stp
      dsimp only
      rw [hbd]
      dsimp only
      rw [hls, hfl]
      rfl
    have hbl' : bs.length ≤ 300 := by
      have := glt hr'
      omega
    refine qo ⟨_, rfl, .inl ⟨rfl, _, SqL.of hzl7⟩, _, rfl, _, PP, 1, rfl, hpl7, by decide, qDm (n := 1) (by decide), z, _, _, rfl, rfl, hzl7, qd (by rw [List.length_map]; omega), ?_⟩
    have t8 : TS H7 (upd H7 z (.lst (bs.map V.int ++ [.int (PP.fdiv 1)]))) := zA hzl7
    obtain ⟨zr', xr', ur', e', hzr, hxr, hwr⟩ := hRow7.good.ex
    cases e'
    have hzr := t8 _ _ hzr
    have hwr := hwr.ts t8
    obtain ⟨zw, xw, rfl, sqw, at0w⟩ := hwr.w0
    refine ⟨_, rfl, _, _, _, _, rfl, rfl, SqT.of hzr, rfl, zw, _, _, _, rfl, rfl, sqw, at0w, some (.int i), some (.ref zr), some (.ref z3), bs ++ [PP], wdO r.m, rfl, ?_, by rw [List.length_append, hbl]; rfl, ?_, ts7.trans t8, jq e7 hz0⟩
    · rw [qB, List.map_append, hfl1]
      rfl
    · rw [List.getLast?_append]
      exact qFs hdr hFi hst
  · rintro σ H' ⟨o1', o2', o3', bs, ca, rfl, hzl, hbl, hFi, ts, e⟩
    rw [hrs.len, List.drop_length, fw] at hFi
    refine ⟨_, rfl, rfl, _, rfl, zH (fun c => ?_) (fun c => ?_)⟩
    · have hc : ca ≠ "end" := by simpa using c
      rw [if_neg hc] at hFi
      refine ⟨_, rfl, l, _, rfl, .inl (SqL.of (e _ _ hl)), _, rfl, fun dx hdx => ?_⟩
      have := kx rs.length dx (upd H' dx (.xd [("at", .int us.length)])) hFi.symm (e.trans (qC hdx _)) (by rw [qB, hrs.len])
      exact this
    · have hc : ca = "end" := by simpa using c
      rw [if_pos hc] at hFi
      exact ⟨_, rfl, kk z bs H' hFi.symm (by rw [hbl, hrs.len]) e hz0 hzl⟩
def zQ (K : W.Frag) (N : Addr) : Sp := fun vs H Q E => ∃ (x y : V) (b c : Bool), vs = [x, y] ∧ RtB K H x b ∧ RtB K H y c ∧ ((b && c) = false → E (.ref N) none H) ∧ ((b && c) = true → Q .non H)
theorem zY (T : Tx K mg a) : FnOk P w K mg base (CXR P w) 4 a.a_check_rates a.f_check_rates ["rate", "other"] (zQ K a.k_NoNumber) := by
  refine okX T.d_check_rates.F x9 (fun vs H Q E h => ?_) (fun cdv A outer s H vs Q E hr h => ?_)
  · obtain ⟨x, y, b, c, rfl, _⟩ := h
    rfl
  obtain ⟨x, y, b, c, rfl, hx, hy, k, k'⟩ := h
  refine ⟨_, (qH (q8 (PW.pt (jk (jA (q9 (qP T.d_is_rate (xx T) hr rfl (qA (pv 0) qE)))) (jT (jA (q9 (qP T.d_is_rate (xx T) hr rfl (qA (pv 1) qE))))))) (qH (qCs rfl rfl T.c_NoNumber T.x_NoNumber (qA qR qE))) qQ)), ?_⟩
  try dsimp only [xG, jG]
  have one : (1 : Nat) ≤ sizeLine := by decide
  cases b with
  | false => exact ⟨_, rfl, x, false, rfl, hx, false, rfl, jI (jI ⟨one, k rfl⟩)⟩
  | true =>
    cases c with
    | true => exact ⟨_, rfl, x, true, rfl, hx, true, rfl, qo ⟨_, rfl, y, true, rfl, hy, true, rfl, qo (k' rfl)⟩⟩
    | false => exact ⟨_, rfl, x, true, rfl, hx, true, rfl, qo ⟨_, rfl, y, false, rfl, hy, false, rfl, jI ⟨one, k rfl⟩⟩⟩
theorem WhV.w4 {H : Hp} : ∀ {m : Option Im} {v : V}, WhV K H m v → ∃ z xs, v = .ref z ∧ SqT K H z xs ∧ atI xs 0 = some (.str (wdO m)) ∧ xs ≠ [] ∧ xs.length ≤ 4
  | none, _, ⟨z, h, hz⟩ => ⟨z, _, h, qGy hz, rfl, by simp, by simp⟩
  | some (.clip ..), _, ⟨z, _, _, h, hz, _⟩ => ⟨z, _, h, SqT.of hz, rfl, by simp, by simp⟩
  | some (.nest ..), _, ⟨z, h, hz⟩ => ⟨z, _, h, SqT.of hz, rfl, by simp, by simp⟩
  | some (.gap _), _, ⟨z, h, hz⟩ => ⟨z, _, h, SqT.of hz, rfl, by simp, by simp⟩
  | some (.mix _), _, ⟨z, h, hz⟩ => ⟨z, _, h, SqT.of hz, rfl, by simp, by simp⟩
theorem wU (us : List V) (h : us ≠ []) : xv us none (some (-1)) = us.dropLast := by
  have hl : 0 < us.length := List.length_pos_iff.mpr h
  have e1 : HT.sIx us.length 0 none = 0 := rfl
  have e2 : HT.sIx us.length us.length (some (-1)) = us.length - 1 := by
    unfold HT.sIx
    simp
    omega
  unfold xv
  rw [e1, e2, List.drop_zero, Nat.sub_zero, List.dropLast_eq_take]
def vY (K : W.Frag) (N M : Addr) : Sp := fun vs H Q E => ∃ (l : Addr) (us : List V) (rs : List (Option R4)) (x y : V), vs = [.ref l, x, y] ∧ H l = some (.lst us) ∧ RowsC K H rs us ∧ rs.length ≤ 300 ∧
  ((∃ b c, RtB K H x b ∧ RtB K H y c ∧ (b && c) = false ∧ E (.ref N) none H) ∨ ∃ r0 r1 o0 o1, Rate H x r0 r1 ∧ Rate H y o0 o1 ∧
    (∀ (z : Addr) (H' : Hp), fw r0 r1 o0 o1 none "" 0 rs = none → Same H H' → Q (.ref z) H') ∧
    ∀ (i : Nat) (dx : Addr) (H' : Hp), fw r0 r1 o0 o1 none "" 0 rs = some i → Same H H' → H' dx = some (.xd [("at", .int i)]) → E (.ref M) (some dx) H')
theorem zM (T : Tx K mg a) : FnOk P w K mg base (CXR P w) 7 a.a_read_back a.f_read_back ["rows", "rate", "other"] (vY K a.k_NoNumber a.k_NoList) := by
  refine okX T.d_read_back.F sc_read_back (fun vs H Q E h => ?_) (fun cdv A outer s H vs Q E hr h => ?_)
  · obtain ⟨l, us, rs, x, y, rfl, _⟩ := h
    rfl
  obtain ⟨l, us, rs, x, y, rfl, hl, hrs, hlen, h⟩ := h
  refine ⟨_, (qF (jp (vH T.d_check_rates (zY T) hr rfl (qA (pv 1) (qA (pv 2) qE))))
      (qF (qc (i := 3) sc_read_back.nd rfl (Or.inl rfl) (vH T.d_borders_read (zj T) hr rfl (qA (pv 0) (qA (pv 1) (qA (pv 2) qE)))))
      (qF (qc (i := 4) sc_read_back.nd rfl (Or.inl rfl) (jF qE))
      (qF (kY (qGl rfl rfl rfl rfl) rfl (qCf rfl T.b_enumerate (qA (j2 xj (pv 0) xW (xB (zW xP qD))) qE)) (vh rfl (jd (jU (i := 5) sc_read_back.nd rfl (Or.inl rfl)) (jd (jU (i := 6) sc_read_back.nd rfl (Or.inl rfl)) kH))) (qF (qc (i := 7) sc_read_back.nd rfl (Or.inl rfl) (qJ qI (pv 6) qD (fun _ _ => rfl)))
      (qH (q8 (qM jc (qJ qI (pv 7) qD (fun _ _ => rfl)) qR (qL _)) (qH (jp (vU F.plainAttrs_list F.slot_list_append F.type_list_append jm (pv 4) (qA (pv 7) qE)))) (qH (jp (vU F.plainAttrs_list F.slot_list_append F.type_list_append jm (pv 4) (qA (qN wW (pv 7) (qO (qA (qN wn (qJ qg (pv 3) (qN jW (pv 5) qD) (fun _ _ => rfl)) (qJ qg (pv 3) (pv 5) (fun _ _ => rfl))) qE))) qE))))))))
      (qH (qK (pv 4))))))), ?_⟩
  try dsimp only [xG, jG]
  rcases h with ⟨b, c, hx, hy, hbc, k⟩ | ⟨r0, r1, o0, o1, rx, ry, kk, kx⟩
  · exact ⟨_, rfl, _, rfl, x, y, b, c, rfl, hx, hy, fun _ => k, fun h => by rw [hbc] at h; cases h⟩
  refine ⟨_, rfl, _, rfl, x, y, true, true, rfl, rx.rt, ry.rt, (fun h => by cases h), fun _ => ?_⟩
  refine ⟨_, rfl, _, rfl, _, rfl, l, us, rs, x, y, r0, r1, o0, o1, rfl, hl, hrs, hlen, rx, ry, fun zb bs H1 hF hbl w1 zb0 hzb => ?_, kx⟩
  refine ⟨sL0, fun z hz => ?_⟩
  have w2 := qC hz (.lst [])
  have w12 := w1.trans w2
  have hz0 : H z = none := w1.free hz
  have ez : (upd H1 z (.lst [])) z = some (.lst []) := qB
  have nzb : zb ≠ z := qZ hzb hz
  have hzb := w2 _ _ hzb
  have hne : us ≠ [] := by
    intro e
    have := hrs.len
    rw [e] at this
    have hr0 : rs = [] := List.length_eq_zero_iff.mp this.symm
    rw [hr0, fw, if_neg (by decide +kernel)] at hF
    cases hF
  generalize upd H1 z (.lst []) = H2 at w12 ez hzb ⊢
  refine ⟨_, rfl, 1, rfl, _, rfl, l, us, rfl, SqL.of (w12 _ _ hl), fun lc hlc => ?_⟩
  rw [wU us hne]
  have w3 := qC hlc (.lst us.dropLast)
  have nlc : lc ≠ z := (qZ ez hlc).symm
  have elc : (upd H2 lc (.lst us.dropLast)) lc = some (.lst us.dropLast) := qB
  have ez := w3 _ _ ez
  have hzb := w3 _ _ hzb
  have w13 := w12.trans w3
  generalize upd H2 lc (.lst us.dropLast) = H3 at w13 ez hzb elc ⊢
  have hul := hrs.len
  refine ⟨lc, rfl, ⟨_, SqL.of elc⟩, wr (K := K) (a := lc) (xs := us.dropLast) (fun i σ H' => ∃ (o1' o2' o3' : Option V) (vs : List V), σ = [some (.ref l), some x, some y, some (.ref zb), some (.ref z), o1', o2', o3'] ∧ H' z = some (.lst vs) ∧ vs.length = i ∧ H' zb = some (.lst (bs.map V.int)) ∧ H' lc = some (.lst us.dropLast) ∧ Same H H')
    ⟨none, none, none, [], rfl, ez, rfl, hzb, elc, w13⟩ ?_ ?_ ?_⟩
  · rintro i σ H' hi ⟨_, _, _, _, _, _, _, _, h, _⟩
    exact SqL.of h
  · rintro i v σ H' pe hv ⟨o1', o2', o3', vs, rfl, hzl, his, hzb, hlc', e⟩ hpe
    have hiu : i < us.length - 1 := by have := glt hv; rwa [List.length_dropLast] at this
    have hv' : us[i]? = some v := by
      rw [List.dropLast_eq_take, List.getElem?_take_of_lt hiu] at hv
      exact hv
    obtain ⟨r, hr', hRow⟩ := hrs.get hv'
    obtain ⟨r, rfl⟩ := qDv hF r (List.mem_of_getElem? hr')
    have w4 := qC hpe (.tup [.int i, v])
    refine ⟨pe, _, rfl, SqT.of qB, rfl, _, _, rfl, _, _, rfl, rfl, ?_⟩
    have e4 := e.trans w4
    have hzl := w4 _ _ hzl
    have hzb := w4 _ _ hzb
    have hlc' := w4 _ _ hlc'
    have hRow := hRow.same e4
    generalize upd H' pe (.tup [.int i, v]) = H4 at e4 hzl hzb hlc' hRow ⊢
    obtain ⟨zr, xr, ur, rfl, hzr, hxr, hwr⟩ := hRow.good.ex
    obtain ⟨zw, xw, rfl, sqw, at0w, hx0, hx4⟩ := hwr.w4
    refine ⟨_, rfl, zr, _, _, _, rfl, rfl, SqT.of hzr, rfl, ?_⟩
    refine ⟨_, rfl, zw, _, _, _, rfl, rfl, sqw, at0w, rfl, _, rfl, zH (fun c => ?_) (fun c => ?_)⟩
    · refine ⟨_, rfl, .inl ⟨rfl, _, SqL.of hzl⟩, _, rfl, z, _, _, rfl, rfl, hzl, qd (by omega), ?_⟩
      exact ⟨_, _, _, _, rfl, qB, by rw [List.length_append, his]; rfl, by rw [qV nzb]; exact hzb, by rw [qV nlc]; exact hlc', jq e4 hz0⟩
    · obtain ⟨b1, hb1⟩ : ∃ b, bs[i]? = some b := ⟨_, List.getElem?_eq_getElem (by omega)⟩
      obtain ⟨b2, hb2⟩ : ∃ b, bs[i + 1]? = some b := ⟨_, List.getElem?_eq_getElem (by omega)⟩
      have bi : (bs.map V.int)[i]? = some (.int b1) := by rw [List.getElem?_map, hb1]; rfl
      have bi2 : (bs.map V.int)[i + 1]? = some (.int b2) := by rw [List.getElem?_map, hb2]; rfl
      have ai : atI (bs.map V.int) (i : Int) = some (.int b1) := zV bi
      have ai2 : atI (bs.map V.int) ((i : Int) + 1) = some (.int b2) := zV (j := i + 1) bi2
      refine ⟨_, rfl, .inl ⟨rfl, _, SqL.of hzl⟩, _, rfl, _, rfl, _, rfl, _, _, rfl, rfl, zb, _, _, _, rfl, rfl, SqL.of hzb, ai2, _, rfl, _, rfl, zb, _, _, _, rfl, rfl, SqL.of hzb, ai, _, _, rfl, rfl, sL1, fun t2 ht2 => ?_⟩
      have w5 := qC ht2 (.tup [.int (b2 - b1)])
      refine ⟨zw, t2, xw, _, rfl, rfl, L3.Same.tup w5 sqw, SqT.of qB, hx0, Nat.le_of_lt (qd (by rw [List.length_singleton]; omega)), fun z => absurd z (by simp), fun _ t3 ht3 => ?_⟩
      have w6 := qC ht3 (.tup (xw ++ [.int (b2 - b1)]))
      have w56 := w5.trans w6
      have hzl6 := w56 _ _ hzl
      refine ⟨z, _, _, rfl, rfl, hzl6, qd (by omega), ?_⟩
      exact ⟨_, _, _, _, rfl, qB, by rw [List.length_append, his]; rfl, by rw [qV nzb]; exact w56 _ _ hzb, by rw [qV nlc]; exact w56 _ _ hlc', jq (e4.trans w56) hz0⟩
  · rintro σ H' ⟨o1', o2', o3', vs, rfl, hzl, his, _, _, e⟩
    exact ⟨_, rfl, kk z H' hF e⟩
structure OkR (r0 r1 o0 o1 : Int) (r : Rw) : Prop where
  p0 : 0 ≤ r.p
  pq : r.p < r.q
  g : Int.gcd r.p r.q = 1
  bw : r.w.natAbs < 2 ^ 400
  bq : r.q.natAbs < 2 ^ 400
  gw : GW r.m
  pl : (r.w * r.q + r.p) * r0 * o1 = r.b * (r.q * r1 * o0)
def OkL : Option Int → Str → List Rw → Prop
  | _, c, [] => c = "end"
  | o, c, r :: rs => c ≠ "end" ∧ qAj c (wdO r.m) = true ∧ (match o with | none => r.b = 0 | some x => if c = "mix" then r.b = x else x < r.b) ∧ OkL (some r.b) (wdO r.m) rs
def qCk (P Q : Int) (r : Int × Option Im) : Rw := ⟨(wpP P Q r.1).fdiv (wpQ P Q r.1), (wpP P Q r.1).fmod (wpQ P Q r.1), wpQ P Q r.1, r.1, r.2⟩
theorem qHi {m : Im} (h : GI m) : GW (some m) := by
  cases m with
  | clip n p q r s l => obtain ⟨h1, h2, h3, h4, _⟩ := h; exact ⟨h1, by omega, h3.1, h3.2.1, h4.1, h4.2.1⟩
  | nest n b l => obtain ⟨h1, h2, h3, _⟩ := h; exact ⟨h1, by omega, h3⟩
  | gap l => trivial
  | mix l => exact h
theorem qGo {m : Im} (h : GI m) (hm : m.wd ≠ "mix") : 1 ≤ m.mo := by
  cases m with
  | clip n p q r s l => obtain ⟨_, _, _, _, h1, _⟩ := h; exact h1
  | nest n b l => obtain ⟨_, _, _, h1, _⟩ := h; exact h1
  | gap l => exact h.1
  | mix l => exact absurd rfl hm
theorem qC6 {ms : List Im} {r : Int × Option Im} (h : r ∈ zg ms) : (∃ i, r.1 = ((ms.take i).map Im.mo).sum) ∧ (r.2 = none ∨ ∃ m ∈ ms, r.2 = some m) := by
  obtain ⟨i, hi, e⟩ := List.mem_iff_getElem.mp h
  have hr : (zg ms)[i]? = some r := by rw [List.getElem?_eq_getElem hi, e]
  rw [wv] at hi
  rcases Nat.lt_or_ge i ms.length with h1 | h1
  · have := qDb (List.getElem?_eq_getElem h1)
    rw [this] at hr
    cases hr
    exact ⟨⟨i, rfl⟩, .inr ⟨_, List.getElem_mem h1, rfl⟩⟩
  · have e2 : i = ms.length := by omega
    rw [e2, qDs] at hr
    cases hr
    exact ⟨⟨ms.length, by rw [List.take_length]⟩, .inl rfl⟩
theorem qGe {m : Im} (h : m.wd = "mix") : m.mo = 0 := by obtain ⟨l, rfl⟩ := qEn h; rfl
theorem qCx {P Q b : Int} (hQ : 0 < Q) (bb : b.natAbs < 2 ^ 200) (bP : P.natAbs < 2 ^ 200) (bQ : Q.natAbs < 2 ^ 200) : ((wpP P Q b).fdiv (wpQ P Q b)).natAbs < 2 ^ 400 ∧ (wpQ P Q b).natAbs < 2 ^ 400 := by
  have l1 : (qp b 1).natAbs < 2 ^ 200 := Nat.lt_of_le_of_lt (j4 (by decide)) bb
  have l2 : (qY b 1).natAbs < 2 ^ 200 := Nat.lt_of_le_of_lt (jn (by decide)) (by decide)
  have bX : (wpP P Q b).natAbs < 2 ^ 400 := Nat.lt_of_le_of_lt (j4 (qBz b hQ)) (by have := jC l1 bP; exact this)
  have bY : (wpQ P Q b).natAbs < 2 ^ 400 := Nat.lt_of_le_of_lt (jn (qBz b hQ)) (by have := jC l2 bQ; exact this)
  have q0 := we (P := P) (b := b) hQ
  refine ⟨Nat.lt_of_le_of_lt ?_ bX, bY⟩
  rw [Int.fdiv_eq_ediv_of_nonneg _ (by omega)]
  exact Int.natAbs_ediv_le_natAbs _ _
theorem qE3 {H : Hp} {x y : V} {ms : List Im} {r0 r1 o0 o1 : Int} (hB : Bd ms) (hG : ∀ m ∈ ms, GI m) (rx : Rate H x r0 r1) (ry : Rate H y o0 o1) : ∀ r ∈ (zg ms).map (qCk (byP r0 r1 o0 o1) (byQ r0 r1 o0 o1)), OkR r0 r1 o0 o1 r := by
  intro r hr
  obtain ⟨⟨b, m⟩, hbm, rfl⟩ := List.mem_map.mp hr
  obtain ⟨⟨i, hb⟩, hm⟩ := qC6 hbm
  dsimp only at hb hm
  have px := rx.p0
  have py := ry.p0
  have qx := rx.q0
  have qy := ry.q0
  have hne := qEg px qy
  have bP : (byP r0 r1 o0 o1).natAbs < 2 ^ 200 := Nat.lt_of_le_of_lt (j4 hne) (xJ py ry.bp qx rx.bq)
  have bQ : (byQ r0 r1 o0 o1).natAbs < 2 ^ 200 := Nat.lt_of_le_of_lt (jn hne) (xJ qy ry.bq px rx.bp)
  have q0 : 0 < byQ r0 r1 o0 o1 := jL hne
  have ba : b.natAbs < 2 ^ 200 := by rw [hb]; exact hB.abs i
  obtain ⟨s1, s2⟩ := qCx (P := byP r0 r1 o0 o1) q0 ba bP bQ
  have f := qEh (P := byP r0 r1 o0 o1) (b := b) q0
  have told := qEr (b := b) (r1 := r1) (o0 := o0) px qy
  refine ⟨f.1, f.2, by show Int.gcd _ _ = 1; rw [Int.gcd_comm]; show Int.gcd (wpQ _ _ b) ((wpP _ _ b).fmod (wpQ _ _ b)) = 1; rw [zz]; exact qF2 q0, s1, s2, ?_, ?_⟩
  · show GW m
    rcases hm with rfl | ⟨m', hm', rfl⟩
    · trivial
    · exact qHi (hG m' hm')
  · show ((wpP (byP r0 r1 o0 o1) (byQ r0 r1 o0 o1) b).fdiv (wpQ (byP r0 r1 o0 o1) (byQ r0 r1 o0 o1) b) * wpQ (byP r0 r1 o0 o1) (byQ r0 r1 o0 o1) b + (wpP (byP r0 r1 o0 o1) (byQ r0 r1 o0 o1) b).fmod (wpQ (byP r0 r1 o0 o1) (byQ r0 r1 o0 o1) b)) * r0 * o1 = b * (wpQ (byP r0 r1 o0 o1) (byQ r0 r1 o0 o1) b * r1 * o0)
    rw [told]
    grind
theorem qB1 (P Q : Int) : ∀ (ms : List Im) (o : Option Int) (c : Str) (b : Int), c ≠ "end" → Chn c ms → jy c ms ≠ "mix" → jy c ms ≠ "gap" → (match o with | none => b = 0 | some x => if c = "mix" then b = x else x < b) → (∀ m ∈ ms, GI m) → OkL o c ((pre b ms ++ [(b + (ms.map Im.mo).sum, none)]).map (qCk P Q))
  | [], o, c, b, hc, _, h1, h2, ho, _ => by
    have e1 : c ≠ "mix" := h1
    have e2 : c ≠ "gap" := h2
    refine ⟨hc, ?_, ?_, rfl⟩
    · show qAj c "end" = true
      unfold qAj
      rw [if_neg e1, if_neg (by decide +kernel)]
      simp [e2]
    · cases o with
      | none => show b + 0 = 0; rw [Int.add_zero]; exact ho
      | some x => show if c = "mix" then b + 0 = x else x < b + 0; rw [Int.add_zero]; exact ho
  | m :: ms, o, c, b, hc, hC, h1, h2, ho, hG => by
    rw [zZ] at h1 h2
    have hm := hG m (by simp)
    refine ⟨hc, hC.1, ho, ?_⟩
    have := qB1 P Q ms (some b) m.wd (b + m.mo) (wQ m) hC.2 h1 h2 (by
      show if m.wd = "mix" then b + m.mo = b else b < b + m.mo
      split
      · rename_i h; rw [qGe h]; omega
      · rename_i h; have := qGo hm h; omega) (fun x hx => hG x (by simp [hx]))
    rw [List.map_cons, List.sum_cons, ← Int.add_assoc]
    exact this
theorem qCr {P Q : Int} {ms : List Im} (hC : Chn "" ms) (h1 : jy "" ms ≠ "mix") (h2 : jy "" ms ≠ "gap") (hG : ∀ m ∈ ms, GI m) : OkL none "" ((zg ms).map (qCk P Q)) := by
  have := qB1 P Q ms none "" 0 (by decide +kernel) hC h1 h2 rfl hG
  rw [Int.zero_add] at this
  exact this
theorem qCe {r0 r1 o0 o1 : Int} (h1 : 0 < r1) (h2 : 0 < o0) : ∀ (rs : List Rw) (o : Option Int) (c : Str) (i : Nat), OkL o c rs → (∀ r ∈ rs, OkR r0 r1 o0 o1 r) → fw r0 r1 o0 o1 o c i (rs.map fun r => some ⟨r.w, r.p, r.q, r.m⟩) = none
  | [], o, c, i, h, _ => by
    have h : c = "end" := h
    rw [List.map_nil, fw, if_pos h]
  | r :: rs, o, c, i, h, hr => by
    have hk := hr r (by simp)
    obtain ⟨hc, hm, ho, hL⟩ := h
    have p0 := hk.p0
    have pq := hk.pq
    have hb : 0 < r.q * r1 * o0 := Int.mul_pos (Int.mul_pos (by omega) h1) h2
    have e1 : bdr r0 r1 o0 o1 ⟨r.w, r.p, r.q, r.m⟩ = some r.b := by
      unfold bdr
      dsimp only
      rw [hk.pl, if_pos (by rw [Int.fmod_eq_emod_of_nonneg _ (by omega)]; exact Int.mul_emod_left _ _), Int.mul_fdiv_cancel _ (by omega)]
    have e2 : flB c (wdO r.m) = true := by unfold flB; rw [if_neg hc, hm]
    have e3 : lsB o c r.b = true := by
      unfold lsB
      cases o with
      | none => exact decide_eq_true ho
      | some x =>
        dsimp only at ho ⊢
        split
        · rename_i hm; rw [if_pos hm] at ho; exact decide_eq_true ho
        · rename_i hm; rw [if_neg hm] at ho; exact decide_eq_true ho
    have e4 : stp r0 r1 o0 o1 o c (some ⟨r.w, r.p, r.q, r.m⟩) = some (r.b, wdO r.m) := by
      unfold stp
      dsimp only
      rw [e1]
      dsimp only
      rw [e2, e3]
      rfl
    rw [List.map_cons, fw, e4]
    exact qCe h1 h2 rs _ _ _ hL fun x hx => hr x (by simp [hx])
structure RowI (K : W.Frag) (H : Hp) (r : R4) (v : V) : Prop where
  ex : ∃ z x u, v = .ref z ∧ H z = some (.tup [.int r.w, .ref x, u]) ∧ H x = some (.tup [.int r.p, .int r.q]) ∧ WhV K H r.m u
  p0 : 0 ≤ r.p
  pq : r.p < r.q
  g : Int.gcd r.p r.q = 1
  bw : r.w.natAbs < 2 ^ 400
  bq : r.q.natAbs < 2 ^ 400
  gw : GW r.m
theorem RowI.same {H H' : Hp} (s : Same H H') {r : R4} {v : V} (h : RowI K H r v) : RowI K H' r v := ⟨let ⟨z, x, u, h1, h2, h3, h4⟩ := h.ex; ⟨z, x, u, h1, s _ _ h2, s _ _ h3, h4.ts (qj s)⟩, h.p0, h.pq, h.g, h.bw, h.bq, h.gw⟩
theorem qDu {m : Option Im} (h : GW m) : WG m ∧ qD2 m = some m := by
  obtain ⟨h1, h2⟩ := WG.of h
  exact ⟨h1, by unfold qD2; rw [if_pos h2]⟩
theorem qBm {H : Hp} {m : Option Im} {u : V} (h : WhV K H m u) (g : GW m) : WhC K H u (some m) := .say h (qDu g).1 (qDu g).2.symm
theorem RowI.c {H : Hp} {r : R4} {v : V} (h : RowI K H r v) : RowC K H v (some r) := by
  obtain ⟨z, x, u, rfl, h1, h2, h3⟩ := h.ex
  have p0 := h.p0
  have pq := h.pq
  refine .nums h1 h2 (by omega) (jo h.bw) (Nat.lt_of_le_of_lt (show r.p.natAbs ≤ r.q.natAbs by omega) (jo h.bq)) (jo h.bq) (qBm h3 h.gw) ?_
  unfold vdR
  dsimp only
  rw [if_pos ⟨h.g, h.p0, h.pq⟩]
def AllC (K : W.Frag) (H : Hp) (vs : List V) : Prop := ∀ v ∈ vs, ∃ o, RowC K H v o
theorem AllC.nil {H : Hp} : AllC K H [] := fun v h => by simp at h
theorem AllC.cons {H : Hp} {v : V} {o : Option R4} {vs : List V} (h : RowC K H v o) (hs : AllC K H vs) : AllC K H (v :: vs) := fun x hx => by
  rcases List.mem_cons.mp hx with rfl | hx
  · exact ⟨o, h⟩
  · exact hs x hx
theorem AllC.app {H : Hp} {vs us : List V} (h : AllC K H vs) (h' : AllC K H us) : AllC K H (vs ++ us) := fun x hx => (List.mem_append.mp hx).elim (h x) (h' x)
theorem AllC.lss {H H' : Hp} (s : LS H H') {vs : List V} (h : AllC K H vs) : AllC K H' vs := fun x hx => let ⟨o, z⟩ := h x hx; ⟨o, z.lss s⟩
theorem AllC.same {H H' : Hp} (s : Same H H') {vs : List V} (h : AllC K H vs) : AllC K H' vs := h.lss (.same s)
theorem AllC.rows {H : Hp} : ∀ {us : List V}, AllC K H us → ∃ rs, RowsC K H rs us
  | [], _ => ⟨[], trivial⟩
  | v :: us, h => by
    obtain ⟨o, ho⟩ := h v (by simp)
    obtain ⟨rs, hr⟩ := AllC.rows (us := us) fun x hx => h x (by simp [hx])
    exact ⟨o :: rs, ho, hr⟩
theorem cut_mem {us : List V} {lo hi : Option Int} : (∀ v ∈ xv us lo hi, v ∈ us) ∧ (xv us lo hi).length ≤ us.length := by
  unfold xv
  refine ⟨fun v hv => List.mem_of_mem_drop (List.mem_of_mem_take hv), ?_⟩
  rw [List.length_take, List.length_drop]
  omega
theorem AllC.cut {H : Hp} {us : List V} (h : AllC K H us) {lo hi : Option Int} : AllC K H (xv us lo hi) := fun v hv => h v (cut_mem.1 v hv)
theorem je : (3 : Nat) ≤ sizeLine := by decide
theorem qHx : (4 : Nat) ≤ sizeLine := by decide
theorem qFj : (1 : Nat) ≤ sizeLine := by decide
def z9 (K : W.Frag) : Sp := fun vs H Q _ => ∃ (v : V) (r : R4) (x : Int), vs = [v, .int x] ∧ RowI K H r v ∧ ∀ (v' : V) (o : Option R4) (H' : Hp), Same H H' → RowC K H' v' o → Q v' H'
theorem kW (T : Tx K mg a) : FnOk P w K mg base CX0 1 a.a__law_spoiled a.f__law_spoiled ["_law_row", "_law_x"] (z9 K) := by
  refine T.d__law_spoiled.F.ok sc__law_spoiled (fun vs H Q E h => ?_) (fun cdv A outer s H vs Q E hr h => ?_)
  · obtain ⟨v, r, x, rfl, _⟩ := h
    rfl
  obtain ⟨v, r, x, rfl, hI, kk⟩ := h
  refine ⟨_, (qF (qBd (pv 0) (vh rfl (jd (jU (i := 2) sc__law_spoiled.nd rfl (Or.inl rfl)) (jd (jU (i := 3) sc__law_spoiled.nd rfl (Or.inl rfl)) (jd (jU (i := 4) sc__law_spoiled.nd rfl (Or.inl rfl)) kH)))))
      (qF (qc (i := 5) sc__law_spoiled.nd rfl (Or.inl rfl) (jF (qA zK (qA (jF (qA (pv 2) (qA (pv 3) (qA (pv 4) qE)))) (qA (qO (qA (pv 2) (qA (pv 3) qE))) (qA (qO (qA (pv 2) (qA (pv 3) (qA (pv 4) (qA qD qE))))) (qA (qO (qA jS (qA (pv 3) (qA (pv 4) qE)))) qE)))))))
      (qF (jp (vU F.plainAttrs_list F.slot_list_append F.type_list_append jm (pv 5) (qA (qO (qA (pv 2) (qA (qO (qA qD (qA qD qE))) (qA (pv 4) qE)))) qE)))
      (qF (qc (i := 6) sc__law_spoiled.nd rfl (Or.inl rfl) (qN jW qD (qN qh (qN qr (pv 1) qD) qD)))
      (qF (qc (i := 5) sc__law_spoiled.nd rfl (Or.inl rfl) (qN xg (pv 5) (jF (qA (qO (qA (pv 2) (qA (qO (qA qD (qA qD qE))) (qA (pv 4) qE)))) (qA (qO (qA (qN jW (pv 2) (pv 6)) (qA (pv 3) (qA (pv 4) qE)))) (qA (qO (qA (qN wn (pv 2) (pv 6)) (qA (pv 3) (qA (pv 4) qE)))) qE))))))
      (qF (qc (i := 5) sc__law_spoiled.nd rfl (Or.inl rfl) (qN xg (pv 5) (jF (qA (qO (qA (pv 2) (qA (pv 3) (qA (qO (qA qR qE)) qE)))) (qA (qO (qA (pv 2) (qA (pv 3) (qA (qO (qA qR qE)) qE)))) (qA (qO (qA (pv 2) (qA (pv 3) (qA (qO (qA qR (qA qD qE))) qE)))) qE))))))
      (qF (jp (vU F.plainAttrs_list F.slot_list_append F.type_list_append jm (pv 5) (qA (qO (qA (pv 2) (qA (pv 3) (qA (qO (qA qR (qA qD qE))) qE)))) qE)))
      (qF (qc (i := 5) sc__law_spoiled.nd rfl (Or.inl rfl) (qN xg (pv 5) (jF (qA (qO (qA (pv 2) (qA (pv 3) (qA (qO (qA qR (qA qR (qA (qO (qA qD (qA qD qE))) qE)))) qE)))) (qA (qO (qA (pv 2) (qA (pv 3) (qA (qO (qA qR (qA qR (qA (zW xP qD) qE)))) qE)))) (qA (qO (qA (pv 2) (qA (pv 3) (qA (jF (qA qR qE)) qE)))) qE))))))
      (qF (qc (i := 5) sc__law_spoiled.nd rfl (Or.inl rfl) (qN xg (pv 5) (jF (qA (qO (qA (qN wn (pv 2) qD) (qA (qO (qA (qN jW (qJ qI (pv 3) qD (fun _ _ => rfl)) (qJ qI (pv 3) qD (fun _ _ => rfl))) (qA (qJ qI (pv 3) qD (fun _ _ => rfl)) qE))) (qA (pv 4) qE)))) (qA (qO (qA (qN jW (pv 2) qD) (qA (qO (qA (qN wn (qJ qI (pv 3) qD (fun _ _ => rfl)) (qJ qI (pv 3) qD (fun _ _ => rfl))) (qA (qJ qI (pv 3) qD (fun _ _ => rfl)) qE))) (qA (pv 4) qE)))) qE)))))
      (qH (qK (qJ qg (qN xg (pv 5) (jF (qA (qO (qA (pv 2) (qA (pv 3) (qA (qO (qA qR (qA qR (qA (qO (qA qD (qA qD qE))) (qA (qO (qA qD (qA qD qE))) qE))))) qE)))) qE))) (qN qh (pv 1) qD) (fun _ _ => rfl))))))))))))), ?_⟩
  try dsimp only [xG, jG]
  obtain ⟨z, y, u, rfl, hz, hy, hw⟩ := hI.ex
  have p0 := hI.p0
  have pq := hI.pq
  have gq := hI.g
  have bw := hI.bw
  have bq := hI.bq
  have gw := hI.gw
  have hC := qBm hw gw
  clear hI
  obtain ⟨W, pp, qq, m⟩ := r
  dsimp only at p0 pq gq bw bq gw hz hy hw hC
  have bp : pp.natAbs < 2 ^ 400 := Nat.lt_of_le_of_lt (show pp.natAbs ≤ qq.natAbs by omega) bq
  have e45 : (2 : Nat) ^ 400 + 2 ^ 400 ≤ 2 ^ 500 := by decide
  have e3 : 3 ≤ (2 : Nat) ^ 400 := by decide
  have bwF : W.natAbs < 2 ^ 500 := jo bw
  have bpF : pp.natAbs < 2 ^ 500 := jo bp
  have bqF : qq.natAbs < 2 ^ 500 := jo bq
  refine ⟨_, rfl, z, _, rfl, SqT.of hz, rfl, _, _, rfl, _, _, rfl, _, _, rfl, rfl, ?_⟩
  refine ⟨_, rfl, _, rfl, _, rfl, je, fun l1 hl1 => ⟨_, rfl, _, rfl, two, fun t2 h2 => ⟨_, rfl, _, rfl, _, rfl, qHx, fun t3 h3 => ⟨_, rfl, _, rfl, je, fun t4 h4 => ⟨sL5, fun l hl => ?_⟩⟩⟩⟩⟩
  have n1 := qC hl1 (.lst [.int W, .ref y, u])
  have n2 := qC h2 (.tup [.int W, .ref y])
  have n3 := qC h3 (.tup [.int W, .ref y, u, .int 0])
  have n4 := qC h4 (.tup [.bl true, .ref y, u])
  have n5 := qC hl (.lst [.non, .ref l1, .ref t2, .ref t3, .ref t4])
  have f4 := n5 _ _ qB
  have f3 := (n4.trans n5) _ _ qB
  have f2 := (n3.trans (n4.trans n5)) _ _ qB
  have f1 := (n2.trans (n3.trans (n4.trans n5))) _ _ qB
  have s1 := n1.trans (n2.trans (n3.trans (n4.trans n5)))
  have l0 : H l = none := (n1.trans (n2.trans (n3.trans n4))).free hl
  have hl1' : ∀ {Hh : Hp} {o : HO}, (upd Hh l o) l = some o := qB
  have eL := hl1' (Hh := upd (upd (upd (upd H l1 (.lst [.int W, .ref y, u])) t2 (.tup [.int W, .ref y])) t3 (.tup [.int W, .ref y, u, .int 0])) t4 (.tup [.bl true, .ref y, u])) (o := .lst [.non, .ref l1, .ref t2, .ref t3, .ref t4])
  clear n1 n2 n3 n4 n5 hl1 h2 h3 h4 hl
  generalize upd (upd (upd (upd (upd H l1 _) t2 _) t3 _) t4 _) l _ = H1 at f1 f2 f3 f4 s1 eL ⊢
  have A1 : AllC K H1 [.non, .ref l1, .ref t2, .ref t3, .ref t4] := .cons .non (.cons (.lst f1) (.cons (.len f2 (by show 2 ≠ 3; decide)) (.cons (.len f3 (by show 4 ≠ 3; decide)) (.cons (.bool f4) .nil))))
  clear f1 f2 f3 f4
  generalize hv1 : [V.non, .ref l1, .ref t2, .ref t3, .ref t4] = v1 at eL A1
  have c1 : v1.length = 5 := by rw [← hv1]; rfl
  clear hv1
  refine ⟨_, rfl, .inl ⟨rfl, _, SqL.of eL⟩, _, rfl, two, fun t2 h2 => ⟨_, rfl, je, fun t3 h3 => ?_⟩⟩
  have n2 := qC h2 (.tup [.int 2, .int 2])
  have n3 := qC h3 (.tup [.int W, .ref t2, u])
  have s2 := n2.trans n3
  have g3 := qB (H := upd H1 t2 (.tup [.int 2, .int 2])) (a := t3) (o := .tup [.int W, .ref t2, u])
  have g2 := n3 _ _ qB
  have eL2 := s2 _ _ eL
  have sH := s1.trans s2
  have A2 := A1.same s2
  generalize upd (upd H1 t2 _) t3 _ = H2 at s2 g3 g2 eL2 sH A2 ⊢
  have R2 : RowC K H2 (.ref t3) _ := .nums g3 g2 (by decide) bwF (by decide) (by decide) (hC.same sH) rfl
  have A2 := A2.app (.cons R2 .nil)
  clear R2 g3 g2 n2 n3 h2 h3 s2 A1 eL s1
  refine ⟨l, _, _, rfl, rfl, eL2, qd (by omega), ?_⟩
  have A3 := A2.lss (.put (ys := v1 ++ [.ref t3]) eL2)
  have sH := jq (o := .lst (v1 ++ [.ref t3])) sH l0
  have eL := qB (H := H2) (a := l) (o := .lst (v1 ++ [.ref t3]))
  clear A2 eL2
  generalize upd H2 l _ = H3 at A3 sH eL ⊢
  generalize hv2 : v1 ++ [V.ref t3] = v2 at A3 eL
  have c2 : v2.length = 6 := by rw [← hv2, List.length_append, c1]; rfl
  clear hv2 c1
  have ff := fm (x.fdiv 17) (show (0 : Int) < 3 by decide)
  refine ⟨_, rfl, _, _, rfl, rfl, cdB (by decide) (by decide), _, _, rfl, rfl, nz, _, _, rfl, rfl, ?_⟩
  dsimp only
  generalize hfar : 1 + (x.fdiv 17).fmod 3 = far
  have fa : 1 ≤ far ∧ far ≤ 3 := by omega
  clear hfar ff
  refine ⟨_, rfl, _, rfl, two, fun t1 h1 => ⟨_, rfl, je, fun t2 h2 => ⟨_, rfl, _, rfl, _, _, rfl, rfl, _, rfl, _, rfl, je, fun t3' h3 => ⟨_, rfl, _, rfl, _, _, rfl, rfl, _, rfl, _, rfl, je, fun t4 h4 => ⟨je, fun d hd => ?_⟩⟩⟩⟩⟩
  have n1 := qC h1 (.tup [.int 1, .int 2])
  have n2 := qC h2 (.tup [.int W, .ref t1, u])
  have n3 := qC h3 (.tup [.int (W + far), .ref y, u])
  have n4 := qC h4 (.tup [.int (W - far), .ref y, u])
  have n5 := qC hd (.lst [.ref t2, .ref t3', .ref t4])
  have f4 := n5 _ _ qB
  have f3 := (n4.trans n5) _ _ qB
  have f2 := (n3.trans (n4.trans n5)) _ _ qB
  have f1 := (n2.trans (n3.trans (n4.trans n5))) _ _ qB
  have s1 := n1.trans (n2.trans (n3.trans (n4.trans n5)))
  have eD := qB (H := upd (upd (upd (upd H3 t1 (.tup [.int 1, .int 2])) t2 (.tup [.int W, .ref t1, u])) t3' (.tup [.int (W + far), .ref y, u])) t4 (.tup [.int (W - far), .ref y, u])) (a := d) (o := .lst [.ref t2, .ref t3', .ref t4])
  clear n1 n2 n3 n4 n5 h1 h2 h3 h4 hd
  have sH := sH.trans s1
  have A4 := A3.same s1
  have eL := s1 _ _ eL
  generalize upd (upd (upd (upd (upd H3 t1 _) t2 _) t3' _) t4 _) d _ = H4 at f1 f2 f3 f4 s1 eD sH A4 eL ⊢
  have hy4 := sH _ _ hy
  have hC4 := hC.same sH
  have B4 : AllC K H4 [.ref t2, .ref t3', .ref t4] := .cons (.nums f2 f1 (by decide) bwF (by decide) (by decide) hC4 rfl) (.cons (.nums f3 hy4 (by omega) (by omega) bpF bqF hC4 rfl) (.cons (.nums f4 hy4 (by omega) (by omega) bpF bqF hC4 rfl) .nil))
  have A4 := A4.app B4
  clear B4 f1 f2 f3 f4 s1 hy4 hC4 A3
  refine ⟨l, d, _, _, rfl, rfl, eL, eD, Nat.le_of_lt (qd (by rw [c2]; show 6 + 3 ≤ 1000; decide)), fun l hl => ?_⟩
  have n1 := qC hl (.lst (v2 ++ [.ref t2, .ref t3', .ref t4]))
  have A5 := A4.same n1
  have sH := sH.trans n1
  have eL := qB (H := H4) (a := l) (o := .lst (v2 ++ [.ref t2, .ref t3', .ref t4]))
  clear A4 n1
  generalize upd H4 l _ = H5 at A5 sH eL ⊢
  generalize hv3 : v2 ++ [V.ref t2, .ref t3', .ref t4] = v3 at A5 eL
  have c3 : v3.length = 9 := by rw [← hv3, List.length_append, c2]; rfl
  clear hv3 c2 eD hl l0
  refine ⟨_, rfl, _, rfl, _, rfl, qFj, fun t1 h1 => ⟨je, fun t2 h2 => ⟨_, rfl, _, rfl, qFj, fun t3 h3 => ⟨je, fun t4 h4 => ⟨_, rfl, _, rfl, two, fun t5 h5 => ⟨je, fun t6 h6 => ⟨je, fun d hd => ?_⟩⟩⟩⟩⟩⟩⟩
  have n1 := qC h1 (.tup [.str "end"])
  have n2 := qC h2 (.tup [.int W, .ref y, .ref t1])
  have n3 := qC h3 (.tup [.str "gap"])
  have n4 := qC h4 (.tup [.int W, .ref y, .ref t3])
  have n5 := qC h5 (.tup [.str "mix", .int 2])
  have n6 := qC h6 (.tup [.int W, .ref y, .ref t5])
  have n7 := qC hd (.lst [.ref t2, .ref t4, .ref t6])
  have f6 := n7 _ _ qB
  have f5 := (n6.trans n7) _ _ qB
  have f4 := (n5.trans (n6.trans n7)) _ _ qB
  have f3 := (n4.trans (n5.trans (n6.trans n7))) _ _ qB
  have f2 := (n3.trans (n4.trans (n5.trans (n6.trans n7)))) _ _ qB
  have f1 := (n2.trans (n3.trans (n4.trans (n5.trans (n6.trans n7))))) _ _ qB
  have s1 := n1.trans (n2.trans (n3.trans (n4.trans (n5.trans (n6.trans n7)))))
  have eD := qB (H := upd (upd (upd (upd (upd (upd H5 t1 (.tup [.str "end"])) t2 (.tup [.int W, .ref y, .ref t1])) t3 (.tup [.str "gap"])) t4 (.tup [.int W, .ref y, .ref t3])) t5 (.tup [.str "mix", .int 2])) t6 (.tup [.int W, .ref y, .ref t5])) (a := d) (o := .lst [.ref t2, .ref t4, .ref t6])
  have l0 : H l = none ∨ True := .inr trivial
  clear n1 n2 n3 n4 n5 n6 n7 h1 h2 h3 h4 h5 h6 hd l0
  have sH := sH.trans s1
  have A6 := A5.same s1
  have eL := s1 _ _ eL
  generalize upd (upd (upd (upd (upd (upd (upd H5 t1 _) t2 _) t3 _) t4 _) t5 _) t6 _) d _ = H6 at f1 f2 f3 f4 f5 f6 s1 eD sH A6 eL ⊢
  have hy6 := sH _ _ hy
  have W1 : WhC K H6 (.ref t1) (some none) := qBm (m := none) ⟨t1, rfl, .inl f1⟩ trivial
  have W2 : WhC K H6 (.ref t3) (some (some (.gap 0))) := qBm (m := some (.gap 0)) ⟨t3, rfl, f3⟩ trivial
  have W3 : WhC K H6 (.ref t5) (some (some (.mix 2))) := qBm (m := some (.mix 2)) ⟨t5, rfl, f5⟩ (by show (1 : Int) ≤ 2; decide)
  have B6 : AllC K H6 [.ref t2, .ref t4, .ref t6] := .cons (.nums f2 hy6 (by omega) bwF bpF bqF W1 rfl) (.cons (.nums f4 hy6 (by omega) bwF bpF bqF W2 rfl) (.cons (.nums f6 hy6 (by omega) bwF bpF bqF W3 rfl) .nil))
  have A6 := A6.app B6
  clear B6 f1 f2 f3 f4 f5 f6 s1 hy6 W1 W2 W3 A5
  refine ⟨l, d, _, _, rfl, rfl, eL, eD, Nat.le_of_lt (qd (by rw [c3]; show 9 + 3 ≤ 1000; decide)), fun l hl => ?_⟩
  have n1 := qC hl (.lst (v3 ++ [.ref t2, .ref t4, .ref t6]))
  have A7 := A6.same n1
  have l0 : H l = none := sH.free hl
  have sH := sH.trans n1
  have eL := qB (H := H6) (a := l) (o := .lst (v3 ++ [.ref t2, .ref t4, .ref t6]))
  clear A6 n1
  generalize upd H6 l _ = H7 at A7 sH eL ⊢
  generalize hv4 : v3 ++ [V.ref t2, .ref t4, .ref t6] = v4 at A7 eL
  have c4 : v4.length = 12 := by rw [← hv4, List.length_append, c3]; rfl
  clear hv4 c3 eD hl
  refine ⟨_, rfl, .inl ⟨rfl, _, SqL.of eL⟩, _, rfl, _, rfl, two, fun t2 h2 => ⟨je, fun t3 h3 => ?_⟩⟩
  have n2 := qC h2 (.tup [.str "mix", .int 0])
  have n3 := qC h3 (.tup [.int W, .ref y, .ref t2])
  have s2 := n2.trans n3
  have g3 := qB (H := upd H7 t2 (.tup [.str "mix", .int 0])) (a := t3) (o := .tup [.int W, .ref y, .ref t2])
  have g2 := n3 _ _ qB
  have eL2 := s2 _ _ eL
  have sH := sH.trans s2
  have A8 := A7.same s2
  generalize upd (upd H7 t2 _) t3 _ = H8 at s2 g3 g2 eL2 sH A8 ⊢
  have R2 : RowC K H8 (.ref t3) _ := .nums g3 (sH _ _ hy) (by omega) bwF bpF bqF (.say (m := some (.mix 0)) ⟨t2, rfl, g2⟩ trivial rfl) rfl
  have A8 := A8.app (.cons R2 .nil)
  clear R2 g3 g2 n2 n3 h2 h3 s2 A7 eL
  refine ⟨l, _, _, rfl, rfl, eL2, qd (by omega), ?_⟩
  have A9 := A8.lss (.put (ys := v4 ++ [.ref t3]) eL2)
  have sH := jq (o := .lst (v4 ++ [.ref t3])) sH l0
  have eL := qB (H := H8) (a := l) (o := .lst (v4 ++ [.ref t3]))
  clear A8 eL2
  generalize upd H8 l _ = H9 at A9 sH eL ⊢
  generalize hv5 : v4 ++ [V.ref t3] = v5 at A9 eL
  have c5 : v5.length = 13 := by rw [← hv5, List.length_append, c4]; rfl
  clear hv5 c4
  refine ⟨_, rfl, _, rfl, _, rfl, two, fun t1 h1 => ⟨je, fun t2 h2 => ⟨je, fun t3 h3 => ⟨_, rfl, _, rfl, _, rfl, je, fun t4 h4 => ⟨je, fun t5 h5 => ⟨_, rfl, _, rfl, qFj, fun t6 h6 => ⟨je, fun t7 h7 => ⟨je, fun d hd => ?_⟩⟩⟩⟩⟩⟩⟩⟩
  have n1 := qC h1 (.tup [.int 1, .int 1])
  have n2 := qC h2 (.tup [.str "clip", .str "a", .ref t1])
  have n3 := qC h3 (.tup [.int W, .ref y, .ref t2])
  have n4 := qC h4 (.tup [.str "nest", .str "t", .int (-1)])
  have n5 := qC h5 (.tup [.int W, .ref y, .ref t4])
  have n6 := qC h6 (.lst [.str "end"])
  have n7 := qC h7 (.tup [.int W, .ref y, .ref t6])
  have n8 := qC hd (.lst [.ref t3, .ref t5, .ref t7])
  have f7 := n8 _ _ qB
  have f6 := (n7.trans n8) _ _ qB
  have f5 := (n6.trans (n7.trans n8)) _ _ qB
  have f4 := (n5.trans (n6.trans (n7.trans n8))) _ _ qB
  have f3 := (n4.trans (n5.trans (n6.trans (n7.trans n8)))) _ _ qB
  have f2 := (n3.trans (n4.trans (n5.trans (n6.trans (n7.trans n8))))) _ _ qB
  have f1 := (n2.trans (n3.trans (n4.trans (n5.trans (n6.trans (n7.trans n8)))))) _ _ qB
  have s1 := n1.trans (n2.trans (n3.trans (n4.trans (n5.trans (n6.trans (n7.trans n8))))))
  have eD := qB (H := upd (upd (upd (upd (upd (upd (upd H9 t1 (.tup [.int 1, .int 1])) t2 (.tup [.str "clip", .str "a", .ref t1])) t3 (.tup [.int W, .ref y, .ref t2])) t4 (.tup [.str "nest", .str "t", .int (-1)])) t5 (.tup [.int W, .ref y, .ref t4])) t6 (.lst [.str "end"])) t7 (.tup [.int W, .ref y, .ref t6])) (a := d) (o := .lst [.ref t3, .ref t5, .ref t7])
  clear n1 n2 n3 n4 n5 n6 n7 n8 h1 h2 h3 h4 h5 h6 h7 hd
  have sH := sH.trans s1
  have A10 := A9.same s1
  have eL := s1 _ _ eL
  generalize upd (upd (upd (upd (upd (upd (upd (upd H9 t1 _) t2 _) t3 _) t4 _) t5 _) t6 _) t7 _) d _ = H10 at f1 f2 f3 f4 f5 f6 f7 s1 eD sH A10 eL ⊢
  have hy6 := sH _ _ hy
  have W1 : WhC K H10 (.ref t2) none := .clip3 f2 f1
  have W2 : WhC K H10 (.ref t4) none := .say (m := some (.nest "t" (-1) 0)) ⟨t4, rfl, f4⟩ ⟨by decide +kernel, by decide +kernel⟩ rfl
  have W3 : WhC K H10 (.ref t6) none := .lst f6
  have B6 : AllC K H10 [.ref t3, .ref t5, .ref t7] := .cons (.nums f3 hy6 (by omega) bwF bpF bqF W1 rfl) (.cons (.nums f5 hy6 (by omega) bwF bpF bqF W2 rfl) (.cons (.nums f7 hy6 (by omega) bwF bpF bqF W3 rfl) .nil))
  have A10 := A10.app B6
  clear B6 f1 f2 f3 f4 f5 f6 f7 s1 hy6 W1 W2 W3 A9
  refine ⟨l, d, _, _, rfl, rfl, eL, eD, Nat.le_of_lt (qd (by rw [c5]; show 13 + 3 ≤ 1000; decide)), fun l hl => ?_⟩
  have n1 := qC hl (.lst (v5 ++ [.ref t3, .ref t5, .ref t7]))
  have A11 := A10.same n1
  have sH := sH.trans n1
  have eL := qB (H := H10) (a := l) (o := .lst (v5 ++ [.ref t3, .ref t5, .ref t7]))
  clear A10 n1
  generalize upd H10 l _ = H11 at A11 sH eL ⊢
  generalize hv6 : v5 ++ [V.ref t3, .ref t5, .ref t7] = v6 at A11 eL
  have c6 : v6.length = 16 := by rw [← hv6, List.length_append, c5]; rfl
  clear hv6 c5 eD hl l0
  have sy : SqT K H11 y [.int pp, .int qq] := SqT.of (sH _ _ hy)
  refine ⟨_, rfl, _, rfl, _, _, rfl, rfl, _, rfl, _, _, _, _, rfl, rfl, sy, at0, _, rfl, _, _, _, _, rfl, rfl, sy, at1, _, _, rfl, rfl, _, rfl, _, _, _, _, rfl, rfl, sy, at1, two, fun t1 h1 => ⟨_, rfl, je, fun t2 h2 => ?_⟩⟩
  have n1 := qC h1 (.tup [.int (pp + qq), .int qq])
  have n2 := qC h2 (.tup [.int (W - 1), .ref t1, u])
  have n12 := n1.trans n2
  have sy2 := L3.Same.tup n12 sy
  refine ⟨_, rfl, _, _, rfl, rfl, _, rfl, _, _, _, _, rfl, rfl, sy2, at0, _, rfl, _, _, _, _, rfl, rfl, sy2, at1, _, _, rfl, rfl, _, rfl, _, _, _, _, rfl, rfl, sy2, at1, two, fun t3 h3 => ⟨_, rfl, je, fun t4 h4 => ⟨two, fun d hd => ?_⟩⟩⟩
  have n3 := qC h3 (.tup [.int (pp - qq), .int qq])
  have n4 := qC h4 (.tup [.int (W + 1), .ref t3, u])
  have n5 := qC hd (.lst [.ref t2, .ref t4])
  have f4 := n5 _ _ qB
  have f3 := (n4.trans n5) _ _ qB
  have f2 := (n3.trans (n4.trans n5)) _ _ qB
  have f1 := (n2.trans (n3.trans (n4.trans n5))) _ _ qB
  have s1 := n1.trans (n2.trans (n3.trans (n4.trans n5)))
  have eD := qB (H := upd (upd (upd (upd H11 t1 (.tup [.int (pp + qq), .int qq])) t2 (.tup [.int (W - 1), .ref t1, u])) t3 (.tup [.int (pp - qq), .int qq])) t4 (.tup [.int (W + 1), .ref t3, u])) (a := d) (o := .lst [.ref t2, .ref t4])
  clear n1 n2 n3 n4 n5 n12 h1 h2 h3 h4 hd sy sy2
  have sH := sH.trans s1
  have A12 := A11.same s1
  have eL := s1 _ _ eL
  generalize upd (upd (upd (upd (upd H11 t1 _) t2 _) t3 _) t4 _) d _ = H12 at f1 f2 f3 f4 s1 eD sH A12 eL ⊢
  have hC4 := hC.same sH
  have B4 : AllC K H12 [.ref t2, .ref t4] := .cons (.nums f2 f1 (by omega) (by omega) (by omega) bqF hC4 rfl) (.cons (.nums f4 f3 (by omega) (by omega) (by omega) bqF hC4 rfl) .nil)
  have A12 := A12.app B4
  clear B4 f1 f2 f3 f4 s1 hC4 A11
  refine ⟨l, d, _, _, rfl, rfl, eL, eD, Nat.le_of_lt (qd (by rw [c6]; show 16 + 2 ≤ 1000; decide)), fun l hl => ?_⟩
  have n1 := qC hl (.lst (v6 ++ [.ref t2, .ref t4]))
  have A13 := A12.same n1
  have sH := sH.trans n1
  have eL := qB (H := H12) (a := l) (o := .lst (v6 ++ [.ref t2, .ref t4]))
  clear A12 n1
  generalize upd H12 l _ = H13 at A13 sH eL ⊢
  generalize hv7 : v6 ++ [V.ref t2, .ref t4] = v7 at A13 eL
  have c7 : v7.length = 18 := by rw [← hv7, List.length_append, c6]; rfl
  clear hv7 c6 eD hl
  refine ⟨_, rfl, _, rfl, _, rfl, two, fun t1 h1 => ⟨two, fun t2 h2 => ⟨qHx, fun t3 h3 => ⟨je, fun t4 h4 => ⟨qFj, fun d hd => ?_⟩⟩⟩⟩⟩
  have n1 := qC h1 (.tup [.int 1, .int 1])
  have n2 := qC h2 (.tup [.int 1, .int 1])
  have n3 := qC h3 (.tup [.str "clip", .str "A", .ref t1, .ref t2])
  have n4 := qC h4 (.tup [.int W, .ref y, .ref t3])
  have n5 := qC hd (.lst [.ref t4])
  have f4 := n5 _ _ qB
  have f3 := (n4.trans n5) _ _ qB
  have f2 := (n3.trans (n4.trans n5)) _ _ qB
  have f1 := (n2.trans (n3.trans (n4.trans n5))) _ _ qB
  have s1 := n1.trans (n2.trans (n3.trans (n4.trans n5)))
  have eD := qB (H := upd (upd (upd (upd H13 t1 (.tup [.int 1, .int 1])) t2 (.tup [.int 1, .int 1])) t3 (.tup [.str "clip", .str "A", .ref t1, .ref t2])) t4 (.tup [.int W, .ref y, .ref t3])) (a := d) (o := .lst [.ref t4])
  clear n1 n2 n3 n4 n5 h1 h2 h3 h4 hd
  have sH := sH.trans s1
  have A14 := A13.same s1
  have eL := s1 _ _ eL
  generalize upd (upd (upd (upd (upd H13 t1 _) t2 _) t3 _) t4 _) d _ = H14 at f1 f2 f3 f4 s1 eD sH A14 eL ⊢
  have W1 : WhC K H14 (.ref t3) none := .say (m := some (.clip "A" 1 1 1 1 0)) ⟨t3, t1, t2, rfl, f3, f1, f2⟩ ⟨by decide +kernel, .inr rfl, by decide, by decide, by decide, by decide⟩ (by unfold qD2; rw [if_neg (show ¬ (gB (some (.clip "A" 1 1 1 1 0)) = true) from fun z => by rw [show gB (some (.clip "A" 1 1 1 1 0)) = xC "A" from rfl, qEq] at z; cases z)])
  have B4 : AllC K H14 [.ref t4] := .cons (.nums f4 (sH _ _ hy) (by omega) bwF bpF bqF W1 rfl) .nil
  have A14 := A14.app B4
  clear B4 f1 f2 f3 f4 s1 W1 A13
  refine ⟨l, d, _, _, rfl, rfl, eL, eD, Nat.le_of_lt (qd (by rw [c7]; show 18 + 1 ≤ 1000; decide)), fun l hl => ?_⟩
  have n1 := qC hl (.lst (v7 ++ [.ref t4]))
  have A15 := A14.same n1
  have sH := sH.trans n1
  have eL := qB (H := H14) (a := l) (o := .lst (v7 ++ [.ref t4]))
  clear A14 n1
  generalize upd H14 l _ = H15 at A15 sH eL ⊢
  have f19 := fm x (show (0 : Int) < 19 by decide)
  obtain ⟨v, hv, hvm⟩ := atN (xs := v7 ++ [.ref t4]) (n := 19) (by rw [List.length_append, c7]; rfl) f19.1 f19.2
  refine ⟨_, rfl, _, _, rfl, rfl, nz, l, _, _, v, rfl, rfl, SqL.of eL, hv, ?_⟩
  obtain ⟨o, ho⟩ := A15 v hvm
  exact kk v o H15 sH ho
def z8 (K : W.Frag) : Sp := fun vs H Q _ => ∃ (l : Addr) (us : List V) (x y : Int), vs = [.ref l, .int x, .int y] ∧ H l = some (.lst us) ∧ (∀ v ∈ us, ∃ r, RowI K H r v) ∧ 1 ≤ us.length ∧ us.length ≤ 130 ∧ ∀ (l' : Addr) (us' : List V) (H' : Hp), Same H H' → H' l' = some (.lst us') → AllC K H' us' → us'.length ≤ 300 → Q (.ref l') H'
theorem kG (T : Tx K mg a) : FnOk P w K mg base CX0 2 a.a__law_changed a.f__law_changed ["_law_rows", "_law_x", "_law_y"] (z8 K) := by
  refine T.d__law_changed.F.ok sc__law_changed (fun vs H Q E h => ?_) (fun cdv A outer s H vs Q E hr h => ?_)
  · obtain ⟨l, us, x, y, rfl, _⟩ := h
    rfl
  obtain ⟨l, us, x, y, rfl, hl, hI, hn1, hn2, kk⟩ := h
  refine ⟨_, (qF (qc (i := 3) sc__law_changed.nd rfl (Or.inl rfl) (qN qh (pv 2) (qU qf rfl T.b_len rfl (qA (pv 0) qE))))
      (qF (q8 (qM jc (qN qh (pv 1) qD) qD (qL _)) (qH (qK (qN xg (j2 xj (pv 0) xW (xB (pv 3))) (j2 xj (pv 0) (xB (qN jW (pv 3) qD)) xW)))) qQ)
      (qF (q8 (qM jc (qN qh (pv 1) qD) qD (qL _)) (qH (qK (qN xg (qN xg (j2 xj (pv 0) xW (xB (pv 3))) (jF (qA (qJ qg (pv 0) (qN qh (qN qr (pv 2) qD) (qU qf rfl T.b_len rfl (qA (pv 0) qE))) (fun _ _ => rfl)) qE))) (j2 xj (pv 0) (xB (pv 3)) xW)))) qQ)
      (qH (qK (qN xg (qN xg (j2 xj (pv 0) xW (xB (pv 3))) (jF (qA (qP T.d__law_spoiled (kW T) hr rfl (qA (qJ qg (pv 0) (pv 3) (fun _ _ => rfl)) (qA (qN qr (pv 1) qD) qE))) qE))) (j2 xj (pv 0) (xB (qN jW (pv 3) qD)) xW))))))), ?_⟩
  try dsimp only [xG, jG]
  have hA : AllC K H us := fun v hv => let ⟨r, h⟩ := hI v hv; ⟨_, h.c⟩
  have sq := SqL.of (K := K) hl
  have hpos : (0 : Int) < (us.length : Int) := by omega
  have fa := fm y hpos
  have fb := fm (y.fdiv 61) hpos
  have c1 := fun (lo hi : Option Int) => (cut_mem (us := us) (lo := lo) (hi := hi)).2
  refine ⟨_, rfl, _, rfl, l, us, rfl, .inl sq, _, _, rfl, rfl, by omega, ?_⟩
  dsimp only
  obtain ⟨va, hva, hvam⟩ := atN (xs := us) (i := y.fmod us.length) rfl fa.1 fa.2
  obtain ⟨vb, hvb, hvbm⟩ := atN (xs := us) (i := (y.fdiv 61).fmod us.length) rfl fb.1 fb.2
  generalize y.fmod us.length = at' at hva ⊢
  refine ⟨_, rfl, _, _, rfl, rfl, nz, rfl, _, rfl, zH (fun _ => ?_) (fun _ => ?_)⟩
  · refine ⟨_, rfl, _, rfl, _, rfl, l, us, rfl, sq, fun a1 h1 => ?_⟩
    have n1 := qC h1 (.lst (xv us none (some at')))
    refine ⟨_, rfl, _, rfl, _, _, rfl, rfl, _, rfl, l, us, rfl, SqL.of (n1 _ _ hl), fun a2 h2 => ?_⟩
    have n2 := qC h2 (.lst (xv us (some (at' + 1)) none))
    have l1 := c1 none (some at')
    have l2 := c1 (some (at' + 1)) none
    refine ⟨a1, a2, _, _, rfl, rfl, n2 _ _ qB, qB, Nat.le_of_lt (qd (by omega)), fun a3 h3 => ?_⟩
    have n3 := qC h3 (.lst (xv us none (some at') ++ xv us (some (at' + 1)) none))
    have n := (n1.trans n2).trans n3
    exact kk a3 _ _ n qB ((hA.cut.app hA.cut).same n) (by rw [List.length_append]; omega)
  refine ⟨_, rfl, _, _, rfl, rfl, nz, rfl, _, rfl, zH (fun _ => ?_) (fun _ => ?_)⟩
  · refine ⟨_, rfl, _, rfl, _, rfl, l, us, rfl, sq, fun a1 h1 => ?_⟩
    have n1 := qC h1 (.lst (xv us none (some at')))
    have sq1 := SqL.of (K := K) (n1 _ _ hl)
    refine ⟨_, rfl, _, rfl, _, _, rfl, rfl, cdB (by decide) (by decide), _, rfl, l, us, rfl, .inl sq1, _, _, rfl, rfl, by omega, l, us, _, vb, rfl, rfl, sq1, hvb, qFj, fun a2 h2 => ?_⟩
    have n2 := qC h2 (.lst [vb])
    have l1 := c1 none (some at')
    have l2 := c1 (some at') none
    refine ⟨a1, a2, _, _, rfl, rfl, n2 _ _ qB, qB, Nat.le_of_lt (qd (by show _ + 1 ≤ 1000; omega)), fun a3 h3 => ?_⟩
    have n3 := qC h3 (.lst (xv us none (some at') ++ [vb]))
    have n := (n1.trans n2).trans n3
    refine ⟨_, rfl, _, rfl, _, rfl, l, us, rfl, SqL.of (n _ _ hl), fun a4 h4 => ?_⟩
    have n4 := qC h4 (.lst (xv us (some at') none))
    refine ⟨a3, a4, _, _, rfl, rfl, n4 _ _ qB, qB, Nat.le_of_lt (qd (by rw [List.length_append]; show _ + 1 + _ ≤ 1000; omega)), fun a5 h5 => ?_⟩
    have n5 := qC h5 (.lst (xv us none (some at') ++ [vb] ++ xv us (some at') none))
    have n := (n.trans n4).trans n5
    obtain ⟨r, hr⟩ := hI vb hvbm
    exact kk a5 _ _ n qB (((hA.cut.app (.cons hr.c .nil)).app hA.cut).same n) (by rw [List.length_append, List.length_append]; show _ + 1 + _ ≤ 300; omega)
  · refine ⟨_, rfl, _, rfl, _, rfl, l, us, rfl, sq, fun a1 h1 => ?_⟩
    have n1 := qC h1 (.lst (xv us none (some at')))
    have sq1 := SqL.of (K := K) (n1 _ _ hl)
    obtain ⟨r, hr⟩ := hI va hvam
    refine ⟨_, rfl, _, rfl, l, us, _, va, rfl, rfl, sq1, hva, _, rfl, _, _, rfl, rfl, cdB (by decide) (by decide), va, r, _, rfl, hr.same n1, fun v' o H2 n2 hC => ⟨qFj, fun a2 h2 => ?_⟩⟩
    have n3 := qC h2 (.lst [v'])
    have l1 := c1 none (some at')
    have l2 := c1 (some (at' + 1)) none
    have n13 := (n1.trans n2).trans n3
    refine ⟨a1, a2, _, _, rfl, rfl, (n2.trans n3) _ _ qB, qB, Nat.le_of_lt (qd (by show _ + 1 ≤ 1000; omega)), fun a3 h3 => ?_⟩
    have n4 := qC h3 (.lst (xv us none (some at') ++ [v']))
    have n := n13.trans n4
    refine ⟨_, rfl, _, rfl, _, _, rfl, rfl, _, rfl, l, us, rfl, SqL.of (n _ _ hl), fun a4 h4 => ?_⟩
    have n5 := qC h4 (.lst (xv us (some (at' + 1)) none))
    refine ⟨a3, a4, _, _, rfl, rfl, n5 _ _ qB, qB, Nat.le_of_lt (qd (by rw [List.length_append]; show _ + 1 + _ ≤ 1000; omega)), fun a5 h5 => ?_⟩
    have n6 := qC h5 (.lst (xv us none (some at') ++ [v'] ++ xv us (some (at' + 1)) none))
    have n := (n.trans n5).trans n6
    have hC := hC.same (((n3.trans n4).trans n5).trans n6)
    exact kk a5 _ _ n qB (((hA.cut.same n).app (.cons hC .nil)).app (hA.cut.same n)) (by rw [List.length_append, List.length_append]; show _ + 1 + _ ≤ 300; omega)
def v8 (K : W.Frag) : Sp := fun vs H Q _ => ∃ (u : V) (o : Option (Option Im)), vs = [u] ∧ WhC K H u o ∧ Q (.bl o.isSome) H
theorem vw (T : Tx K mg a) : FnOk P w K mg base CX0 1 a.a__law_said a.f__law_said ["_law_what"] (v8 K) := by
  refine T.d__law_said.F.ok wO (fun vs H Q E h => ?_) (fun cdv A outer s H vs Q E hr h => ?_)
  · obtain ⟨u, o, rfl, _⟩ := h
    rfl
  obtain ⟨u, o, rfl, hw, kk⟩ := h
  refine ⟨_, (qF (q8 (PW.pt (jk (jA (q9 (qU zc rfl T.b_isinstance rfl (qA (pv 0) (qA (zD rfl T.b_tuple rfl) qE))))) (jk (PW.pt (zL (qM jc (qJ qI (pv 0) qD (fun _ _ => rfl)) qR (qL _)) (zF (qM wD (qJ qI (pv 0) qD (fun _ _ => rfl)) qD (qL _))))) (jT (PW.pt (zL (qM jc (qJ qI (pv 0) qD (fun _ _ => rfl)) qR (qL _)) (zF (qM wD (qJ qI (pv 0) qD (fun _ _ => rfl)) qD (qL _))))))))) (qH (qK jS)) qQ)
      (qH (qK (qFe (qv xH (qJ qI (pv 0) qD (fun _ _ => rfl)) qR (qL _)) (xF (xa (qv jc (qU qf rfl T.b_len rfl (qA (pv 0) qE)) qD (qL _)) (xF (qv xH (qJ qI (pv 0) qD (fun _ _ => rfl)) qR (qL _))))))))), ?_⟩
  try dsimp only [xG, jG]
  cases hw with
  | lst e => exact ⟨_, rfl, _, _, false, rfl, .inr ⟨_, e, by kernel_rfl⟩, false, rfl, jI (jI kk)⟩
  | @clip3 z x n p q hz hx =>
    have hz := SqT.of (K := K) hz
    refine ⟨_, rfl, z, _, true, rfl, .inl ⟨_, hz, by kernel_rfl⟩, true, rfl, qo ?_⟩
    refine ⟨_, rfl, _, _, _, _, rfl, rfl, hz, rfl, rfl, _, rfl, xU (by decide +kernel) (qo ?_)⟩
    refine ⟨_, rfl, _, _, _, _, rfl, rfl, hz, rfl, rfl, _, rfl, xU (by decide +kernel) (qo ?_)⟩
    refine ⟨_, rfl, _, _, _, _, rfl, rfl, hz, rfl, rfl, _, rfl, xU (by decide +kernel) ?_⟩
    exact ⟨_, rfl, z, _, rfl, .inr hz, rfl, _, rfl, xU (by show decide (V.int 3 = V.int 4) = false; decide) kk⟩
  | @say u m o hw hg eo =>
  subst eo
  rw [qD8] at kk
  obtain ⟨z, xs, rfl, hz, h0, _, _⟩ := hw.w4
  refine ⟨_, rfl, z, _, true, rfl, .inl ⟨_, hz, by kernel_rfl⟩, true, rfl, qo ?_⟩
  match m, hw, hg with
  | none, hw, hg =>
    refine ⟨_, rfl, _, _, _, _, rfl, rfl, hz, h0, rfl, _, rfl, xU (by decide +kernel) (qo ?_)⟩
    refine ⟨_, rfl, _, _, _, _, rfl, rfl, hz, h0, rfl, _, rfl, xU (by decide +kernel) (qo ?_)⟩
    exact ⟨_, rfl, _, _, _, _, rfl, rfl, hz, h0, rfl, _, rfl, zv (by decide +kernel) kk⟩
  | some (.gap l), hw, hg =>
    refine ⟨_, rfl, _, _, _, _, rfl, rfl, hz, h0, rfl, _, rfl, xU (by show decide (V.str "gap" = V.str "mix") = false; decide +kernel) (qo ?_)⟩
    refine ⟨_, rfl, _, _, _, _, rfl, rfl, hz, h0, rfl, _, rfl, xU (by show decide (V.str "gap" = V.str "nest") = false; decide +kernel) (qo ?_)⟩
    exact ⟨_, rfl, _, _, _, _, rfl, rfl, hz, h0, rfl, _, rfl, zv (by show (!decide (V.str "gap" = V.str "clip")) = true; decide +kernel) kk⟩
  | some (.mix l), hw, hg =>
    obtain ⟨z', e, hz'⟩ := id hw
    cases e
    have hz := SqT.of (K := K) hz'
    refine ⟨_, rfl, _, _, _, _, rfl, rfl, hz, rfl, rfl, _, rfl, zv (by decide +kernel) ?_⟩
    refine ⟨_, rfl, _, _, _, _, rfl, rfl, hz, rfl, _, _, rfl, rfl, _, rfl, ?_⟩
    replace kk : Q (.bl (decide (1 ≤ l))) H := kk
    by_cases hl : l < 1
    · rw [decide_eq_false (by omega)] at kk
      rw [decide_eq_true hl]
      exact jI (jI kk)
    rw [decide_eq_true (by omega)] at kk
    rw [decide_eq_false hl]
    refine qo ?_
    refine ⟨_, rfl, _, _, _, _, rfl, rfl, hz, rfl, rfl, _, rfl, xU (by decide +kernel) (qo ?_)⟩
    exact ⟨_, rfl, _, _, _, _, rfl, rfl, hz, rfl, rfl, _, rfl, zv (by decide +kernel) kk⟩
  | some (.nest n b l), hw, hg =>
    obtain ⟨z', e, hz'⟩ := id hw
    cases e
    have hz := SqT.of (K := K) hz'
    refine ⟨_, rfl, _, _, _, _, rfl, rfl, hz, rfl, rfl, _, rfl, xU (by decide +kernel) (qo ?_)⟩
    refine ⟨_, rfl, _, _, _, _, rfl, rfl, hz, rfl, rfl, _, rfl, zv (by decide +kernel) ?_⟩
    refine ⟨_, rfl, _, _, _, _, rfl, rfl, hz, rfl, _, _, rfl, rfl, _, rfl, ?_⟩
    replace kk : Q (.bl (decide (0 ≤ b))) H := kk
    by_cases hl : b < 0
    · rw [decide_eq_false (by omega)] at kk
      rw [decide_eq_true hl]
      exact jI kk
    rw [decide_eq_true (by omega)] at kk
    rw [decide_eq_false hl]
    refine qo ?_
    exact ⟨_, rfl, _, _, _, _, rfl, rfl, hz, rfl, rfl, _, rfl, zv (by decide +kernel) kk⟩
  | some (.clip n p q r s' l), hw, hg =>
    obtain ⟨z', x, y, e, hz', hx, hy⟩ := id hw
    cases e
    have hz := SqT.of (K := K) hz'
    refine ⟨_, rfl, _, _, _, _, rfl, rfl, hz, rfl, rfl, _, rfl, xU (by decide +kernel) (qo ?_)⟩
    refine ⟨_, rfl, _, _, _, _, rfl, rfl, hz, rfl, rfl, _, rfl, xU (by decide +kernel) (qo ?_)⟩
    refine ⟨_, rfl, _, _, _, _, rfl, rfl, hz, rfl, rfl, _, rfl, xU (by decide +kernel) ?_⟩
    refine ⟨_, rfl, z, _, rfl, .inr hz, rfl, _, rfl, zv (by show decide (V.int 4 = V.int 4) = true; decide) ?_⟩
    refine ⟨_, rfl, _, _, _, _, rfl, rfl, hz, rfl, rfl, ?_⟩
    replace kk : Q (.bl (xC n)) H := kk
    have en : (!decide (V.str n = V.str "A")) = xC n := by
      rcases hg.2.1 with h | h
      · rw [h]
        have : n ≠ "A" := fun z => by rw [z, qEq] at h; cases h
        simp [this]
      · subst h
        rw [qEq]; simp
    rw [en]
    exact kk
def kn : Sp := fun vs H Q _ => ∃ (z : Addr) (p q : Int), vs = [.ref z] ∧ H z = some (.tup [.int p, .int q]) ∧ 1 ≤ q ∧ Q (.bl (decide (Int.gcd p q = 1))) H
theorem kf (T : Tx K mg a) : FnOk P w K mg base CX0 1 a.a__law_lowest a.f__law_lowest ["_law_one"] kn := by
  refine T.d__law_lowest.F.ok sc__law_lowest (fun vs H Q E h => ?_) (fun cdv A outer s H vs Q E hr h => ?_)
  · obtain ⟨z, p, q, rfl, _⟩ := h
    rfl
  obtain ⟨z, p, q, rfl, hz, hq, kk⟩ := h
  refine ⟨_, (qF (qBd (pv 0) (vh rfl (jd (jU (i := 1) sc__law_lowest.nd rfl (Or.inl rfl)) (jd (jU (i := 2) sc__law_lowest.nd rfl (Or.inl rfl)) kH))))
      (qF (wz PassesOwn.never (qM xH (pv 2) qD (qL _)) (qH (qGh (i := 1) (j := 2) rfl sc__law_lowest.nd rfl rfl (by decide) rfl rfl (qA (pv 2) (qA (qN qh (pv 1) (pv 2)) qE)) rfl)))
      (qH (qK (qv jc (qU qAc rfl T.b_abs rfl (qA (pv 1) qE)) qD (qL _)))))), ?_⟩
  try dsimp only [xG, jG]
  refine ⟨_, rfl, z, _, rfl, SqT.of hz, rfl, _, _, rfl, _, _, rfl, rfl, ?_⟩
  refine qAb (fun σ H' => H' = H ∧ ∃ x y : Int, σ = [some (.ref z), some (.int x), some (.int y)] ∧ 0 ≤ y ∧ Int.gcd x y = Int.gcd p q)
    (fun σ _ => match σ with | [_, _, some (.int y)] => y.natAbs | _ => 0) ⟨rfl, _, _, rfl, by omega, rfl⟩ ?_ ?_
  · rintro σ H1 ⟨rfl, x, y, rfl, h1, e⟩
    refine ⟨_, rfl, rfl, _, rfl, ?_⟩
    refine zH (fun c => ?_) (fun c => ?_)
    · have hy : y ≠ 0 := by simpa using c
      refine ⟨_, rfl, _, rfl, _, rfl, _, _, rfl, rfl, hy, _, _, rfl, ⟨rfl, y, x.fmod y, rfl, Int.fmod_nonneg_of_pos x (by omega), ?_⟩, ?_⟩
      · rw [zz]; exact e
      · exact qCd x y hy
    · have hy : y = 0 := by simpa using c
      subst hy
      rw [Int.gcd_zero_right] at e
      refine ⟨_, rfl, _, rfl, rfl, ?_⟩
      have ed : decide (V.int (if x < 0 then -x else x) = V.int 1) = decide (Int.gcd p q = 1) := by
        rw [qF0, ← e]
        by_cases hx : x < 0
        · rw [if_pos hx, Bool.eq_iff_iff, decide_eq_true_iff, decide_eq_true_iff]; omega
        · rw [if_neg hx, Bool.eq_iff_iff, decide_eq_true_iff, decide_eq_true_iff]; omega
      rw [ed]
      exact kk
  · rintro σ H1 Q1 Q2 hq h
    obtain ⟨v, e, s, k, hk, z⟩ := h
    exact ⟨v, e, s, k, hk, hq _ _ z⟩
theorem qIr {i j : Int} (h1 : i.natAbs < 2 ^ 500) (h2 : j.natAbs < 2 ^ 500) : CMulB i j := .inr ⟨jo h1, jo h2⟩
def qG3 : Option Int → V
  | none => .non
  | some i => .int i
def kg (K : W.Frag) : Sp := fun vs H Q _ => ∃ (v x y : V) (r : Option R4) (r0 r1 o0 o1 : Int), vs = [v, x, y] ∧ RowC K H v r ∧ Rate H x r0 r1 ∧ Rate H y o0 o1 ∧ Q (qG3 (r.bind (bdr r0 r1 o0 o1))) H
theorem kh (T : Tx K mg a) : FnOk P w K mg base CX0 2 a.a__law_border a.f__law_border ["_law_row", "_law_rate_here", "_law_other"] (kg K) := by
  refine T.d__law_border.F.ok sc__law_border (fun vs H Q E h => ?_) (fun cdv A outer s H vs Q E hr h => ?_)
  · obtain ⟨v, x, y, r, r0, r1, o0, o1, rfl, _⟩ := h
    rfl
  obtain ⟨v, x, y, r, r0, r1, o0, o1, rfl, hv, rx, ry, kk⟩ := h
  refine ⟨_, (qF (q8 (PW.pt (jk (jA (q9 (qU qm rfl T.b_isinstance rfl (qA (pv 0) (qA (zD rfl T.b_tuple rfl) qE))))) (jk (qM xH (qU qf rfl T.b_len rfl (qA (pv 0) qE)) qD (qL _)) (jT (q9 (qU qm rfl T.b_isinstance rfl (qA (qJ qI (pv 0) qD (fun _ _ => rfl)) (qA (zD rfl T.b_bool rfl) qE)))))))) (qH (qK zK)) qQ)
      (qF (qBd (pv 0) (vh rfl (jd (jU (i := 3) sc__law_border.nd rfl (Or.inl rfl)) (jd (jU (i := 4) sc__law_border.nd rfl (Or.inl rfl)) (jd (jU (i := 5) sc__law_border.nd rfl (Or.inl rfl)) kH)))))
      (qF (q8 (PW.pt (jk (jA (q9 (qP T.d__law_said (vw T) hr rfl (qA (pv 5) qE)))) (jk (jA (q9 (qP T.d__law_lowest (kf T) hr rfl (qA (pv 4) qE)))) (jT (jA (qDo qG1 wD qD (qJ qI (pv 4) qD (fun _ _ => rfl)) (qJ qI (pv 4) qD (fun _ _ => rfl)))))))) (qH (qK zK)) qQ)
      (qF (qc (i := 6) sc__law_border.nd rfl (Or.inl rfl) (qN jH (qN jH (qN jW (qN jH (pv 3) (qJ qI (pv 4) qD (fun _ _ => rfl))) (qJ qI (pv 4) qD (fun _ _ => rfl))) (qJ qI (pv 1) qD (fun _ _ => rfl))) (qJ qI (pv 2) qD (fun _ _ => rfl))))
      (qF (qc (i := 7) sc__law_border.nd rfl (Or.inl rfl) (qN jH (qN jH (qJ qI (pv 4) qD (fun _ _ => rfl)) (qJ qI (pv 1) qD (fun _ _ => rfl))) (qJ qI (pv 2) qD (fun _ _ => rfl))))
      (qF (q8 (qM xH (qN qh (pv 6) (pv 7)) qD (qL _)) (qH (qK zK)) qQ)
      (qH (qK (qN qr (pv 6) (pv 7)))))))))), ?_⟩
  try dsimp only [xG, jG]
  cases hv with
  | non => exact ⟨_, rfl, _, _, _, false, rfl, .non, ⟨_, .inl ⟨rfl, by kernel_rfl⟩⟩, false, rfl, jI (jI kk)⟩
  | lst e => exact ⟨_, rfl, _, _, _, false, rfl, .lst e, ⟨_, .inl ⟨rfl, by kernel_rfl⟩⟩, false, rfl, jI (jI kk)⟩
  | @len z xs e h =>
    refine ⟨_, rfl, _, _, _, true, rfl, .tup e, ⟨_, .inl ⟨rfl, by kernel_rfl⟩⟩, true, rfl, qo ?_⟩
    refine ⟨_, rfl, _, _, rfl, .inr (SqT.of e), rfl, _, rfl, ?_⟩
    have d : (!decide (V.int (xs.length : Int) = V.int 3)) = true := by
      have : ¬ (V.int (xs.length : Int) = V.int 3) := fun z => h (by injection z with z; omega)
      simp [this]
    rw [d]
    exact jI (jI kk)
  | @bool z b x u e =>
    refine ⟨_, rfl, _, _, _, true, rfl, .tup e, ⟨_, .inl ⟨rfl, by kernel_rfl⟩⟩, true, rfl, qo ?_⟩
    refine ⟨_, rfl, _, _, rfl, .inr (SqT.of e), rfl, _, rfl, qo ?_⟩
    exact ⟨_, rfl, _, _, _, _, rfl, rfl, SqT.of e, rfl, _, _, _, true, rfl, .bl b, ⟨_, .inl ⟨rfl, by kernel_rfl⟩⟩, _, rfl, jI kk⟩
  | @nums z x' w p q u o r hz hx hq bw bp bq hu er =>
    have hz := SqT.of (K := K) hz
    refine ⟨_, rfl, _, _, _, true, rfl, .tup ‹_›, ⟨_, .inl ⟨rfl, by kernel_rfl⟩⟩, true, rfl, qo ?_⟩
    refine ⟨_, rfl, _, _, rfl, .inr hz, rfl, _, rfl, qo ?_⟩
    refine ⟨_, rfl, _, _, _, _, rfl, rfl, hz, rfl, _, _, _, false, rfl, .int w, ⟨_, .inl ⟨rfl, by kernel_rfl⟩⟩, _, rfl, qo ?_⟩
    refine ⟨_, rfl, z, _, rfl, hz, rfl, _, _, rfl, _, _, rfl, _, _, rfl, rfl, ?_⟩
    refine ⟨_, rfl, u, o, rfl, hu, _, rfl, ?_⟩
    cases o with
    | none =>
      have er' : r = none := er
      rw [er'] at kk
      exact jI (jI kk)
    | some m =>
    refine qo ⟨_, rfl, x', p, q, rfl, hx, hq, _, rfl, ?_⟩
    unfold vdR at er
    dsimp only at er
    by_cases g : Int.gcd p q = 1
    case neg =>
      rw [if_neg (fun c => g c.1)] at er
      rw [er] at kk
      rw [decide_eq_false g]
      exact jI (jI kk)
    rw [decide_eq_true g]
    have sx := SqT.of (K := K) hx
    have p0 : Sm p := jo bp
    have q0 : Sm q := jo bq
    refine qo ⟨_, rfl, _, _, _, _, rfl, rfl, sx, at0, _, _, rfl, rfl, _, rfl, ?_⟩
    by_cases h0 : 0 ≤ p
    case neg =>
      rw [if_neg (fun c => h0 c.2.1)] at er
      rw [er] at kk
      rw [decide_eq_false h0]
      exact qo ⟨_, rfl, jI kk⟩
    rw [decide_eq_true h0]
    refine jI ⟨_, rfl, _, _, _, _, rfl, rfl, sx, at1, _, _, rfl, rfl, _, rfl, ?_⟩
    by_cases h1 : p < q
    case neg =>
      rw [if_neg (fun c => h1 c.2.2)] at er
      rw [er] at kk
      rw [decide_eq_false h1]
      exact jI kk
    rw [decide_eq_true h1]
    rw [if_pos ⟨g, h0, h1⟩] at er
    rw [er] at kk
    replace kk : Q (qG3 (bdr r0 r1 o0 o1 ⟨w, p, q, m⟩)) H := kk
    unfold bdr at kk
    dsimp only at kk
    obtain ⟨zx, rfl, ex⟩ := rx.ex
    obtain ⟨zy, rfl, ey⟩ := ry.ex
    have sX := SqT.of (K := K) ex
    have sY := SqT.of (K := K) ey
    have px := rx.p0
    have py := ry.p0
    have qx := rx.q0
    have qy := ry.q0
    have b1 := rx.bp
    have b2 := rx.bq
    have b3 := ry.bp
    have b4 := ry.bq
    refine qo ⟨_, rfl, _, rfl, _, _, _, _, rfl, rfl, sx, at1, _, _, rfl, rfl, qIr bw bq, _, rfl, _, _, _, _, rfl, rfl, sx, at0, _, _, rfl, rfl, _, rfl, _, _, _, _, rfl, rfl, sX, at0, _, _, rfl, rfl, cmR (by omega) (by omega), _, rfl, _, _, _, _, rfl, rfl, sY, at1, _, _, rfl, rfl, cmR (by omega) (by omega), ?_⟩
    refine ⟨_, rfl, _, _, _, _, rfl, rfl, sx, at1, _, rfl, _, _, _, _, rfl, rfl, sX, at1, _, _, rfl, rfl, cmR (by omega) (by omega), _, rfl, _, _, _, _, rfl, rfl, sY, at0, _, _, rfl, rfl, cmR (by omega) (by omega), ?_⟩
    dsimp only
    have hbot : 0 < q * r1 * o0 := Int.mul_pos (Int.mul_pos (by omega) qx) py
    have sbot : (q * r1 * o0).natAbs < 2 ^ 8000 := by
      have e1 : r1.natAbs < 2 ^ 20 := by omega
      have e2 : o0.natAbs < 2 ^ 20 := by omega
      exact jo (jC (jC bq e1) e2)
    generalize (w * q + p) * r0 * o1 = tp at kk ⊢
    generalize q * r1 * o0 = bt at kk hbot sbot ⊢
    refine ⟨_, rfl, _, rfl, _, _, rfl, rfl, by omega, rfl, _, rfl, zH (fun c => ?_) (fun c => ?_)⟩
    · rw [if_neg (by simpa using c)] at kk
      exact kk
    · rw [if_pos (by simpa using c)] at kk
      exact ⟨_, rfl, _, rfl, _, _, rfl, rfl, ⟨by omega, sbot⟩, kk⟩
def ke : Sp := fun vs H Q _ => ∃ (n b : Int) (k c : Str) (o : Option Int), vs = [.int n, .str k, .int b, .str c] ∧ (c = "" ↔ o = none) ∧ n = o.getD 0 ∧ ∀ H', Same H H' → Q (.bl (flB c k && lsB o c b)) H'
theorem kc (T : Tx K mg a) : FnOk P w K mg base CX0 1 a.a__law_stands a.f__law_stands ["_law_now", "_law_word", "_law_border_here", "_law_ahead"] ke := by
  refine T.d__law_stands.F.ok ki (fun vs H Q E h => ?_) (fun cdv A outer s H vs Q E hr h => ?_)
  · obtain ⟨n, b, k, c, o, rfl, _⟩ := h
    rfl
  obtain ⟨n, b, k, c, o, rfl, hco, hn, kk⟩ := h
  refine ⟨_, (qF (q8 (qM jc (pv 3) qR (qL _)) (qH (qK (xa (qv jc (pv 2) qD (qL _)) (xF (qv xH (pv 1) qR (qL _)))))) qQ)
      (qF (q8 (wK (PW.pt (jk (qM jc (pv 3) qR (qL _)) (jk (PW.pt (zL (qM jc (pv 3) qR (qL _)) (zF (qM xH (pv 1) qR (qL _))))) (jT (PW.pt (zL (qM jc (pv 1) qR (qL _)) (zF (qM xH (pv 3) qR (qL _)))))))))) (qH (qK jS)) qQ)
      (qF (q8 (wK (PW.pt (zL (qM jc (pv 3) qR (qL _)) (zF (qM v9 (pv 1) (jF (qA qR (qA qR qE))) rfl))))) (qH (qK jS)) qQ)
      (qF (q8 (qM jc (pv 3) qR (qL _)) (qH (qK (qv jc (pv 2) (pv 0) (qL _)))) qQ)
      (qH (qK (qv qDf (pv 2) (pv 0) (qL _)))))))), ?_⟩
  try dsimp only [xG, jG]
  refine ⟨_, rfl, rfl, _, rfl, zH (fun c1 => ?_) (fun c1 => ?_)⟩
  · have hc : c = "" := by simpa using c1
    have ho := hco.mp hc
    subst hc ho
    have k1 := kk _ (Same.refl _)
    refine ⟨_, rfl, rfl, _, rfl, ?_⟩
    rw [qF0]
    have e1 : lsB none "" b = decide (b = 0) := rfl
    rw [e1] at k1
    by_cases hb : b = 0
    · rw [decide_eq_true hb] at k1 ⊢
      refine jI ⟨_, rfl, rfl, ?_⟩
      rw [qHn]
      have e2 : flB "" k = !decide (k = "mix") := by
        unfold flB qAj
        rw [if_neg (by decide +kernel), if_neg (by decide +kernel)]
        by_cases hk : k = "mix"
        · rw [if_pos hk, decide_eq_true hk]; decide +kernel
        · rw [if_neg hk, decide_eq_false hk]
          rw [decide_eq_false (by decide +kernel)]
          rfl
      rw [e2, Bool.and_true] at k1
      exact k1
    · rw [decide_eq_false hb] at k1 ⊢
      rw [Bool.and_false] at k1
      exact qo k1
  have hc : c ≠ "" := by simpa using c1
  obtain ⟨x, rfl⟩ : ∃ x, o = some x := by
    cases o with
    | none => exact absurd (hco.mpr rfl) hc
    | some x => exact ⟨x, rfl⟩
  have hn : n = x := hn
  subst hn
  have fin : ∀ H', Same H H' → (flB c k = false → Q (.bl false) H') ∧ (flB c k = true → (c = "mix" → Q (.bl (decide (b = n))) H') ∧ (c ≠ "mix" → Q (.bl (decide (n < b))) H')) := fun H' s' => by
    have k1 := kk H' s'
    refine ⟨fun hf => ?_, fun hf => ⟨fun hm => ?_, fun hm => ?_⟩⟩
    · rw [hf, Bool.false_and] at k1; exact k1
    · rw [hf, Bool.true_and] at k1
      unfold lsB at k1
      dsimp only at k1
      rw [if_pos hm] at k1
      exact k1
    · rw [hf, Bool.true_and] at k1
      unfold lsB at k1
      dsimp only at k1
      rw [if_neg hm] at k1
      exact k1
  clear kk
  have mb : flB c k = (if c = "end" then false else if c = "mix" then decide (k = "clip") else if k = "mix" then decide (c = "clip") else !(decide (c = "gap") && (decide (k = "gap") || decide (k = "end")))) := rfl
  refine ⟨fun t H3 => H3 = H ∧ (t = true → flB c k = false) ∧ (t = false → c ≠ "end" ∧ (c = "mix" → k = "clip") ∧ (k = "mix" → c = "clip")), ?_, ?_⟩
  · refine ⟨_, rfl, rfl, _, rfl, zH (fun c2 => ?_) (fun c2 => ?_)⟩
    · exact ⟨rfl, fun _ => by rw [mb, if_pos (by simpa using c2)], fun z => by cases z⟩
    have hE : c ≠ "end" := by simpa using c2
    rw [if_neg hE] at mb
    refine ⟨_, rfl, rfl, _, rfl, zH (fun c3 => ?_) (fun c3 => ?_)⟩
    · have hm : c = "mix" := by simpa using c3
      rw [if_pos hm] at mb
      refine ⟨_, rfl, rfl, _, rfl, zH (fun c4 => ?_) (fun c4 => ?_)⟩
      · exact ⟨rfl, fun _ => by rw [mb]; exact decide_eq_false (by simpa using c4), fun z => by cases z⟩
      have hk : k = "clip" := by simpa using c4
      refine ⟨_, rfl, rfl, _, rfl, xU ?_ ⟨rfl, (fun z => by cases z), fun _ => ⟨hE, fun _ => hk, fun z => by rw [hk] at z; exact absurd z (by decide +kernel)⟩⟩⟩
      show decide (V.str k = V.str "mix") = false
      rw [hk]; decide +kernel
    · have hm : c ≠ "mix" := by simpa using c3
      rw [if_neg hm] at mb
      refine qo ⟨_, rfl, rfl, _, rfl, zH (fun c4 => ?_) (fun c4 => ?_)⟩
      · have hk : k = "mix" := by simpa using c4
        rw [if_pos hk] at mb
        refine ⟨_, rfl, rfl, _, rfl, rfl, fun z => ?_, fun z => ⟨hE, fun q => absurd q hm, fun _ => ?_⟩⟩
        · rw [mb]; exact decide_eq_false (by simpa using z)
        · simpa using z
      · have hk : k ≠ "mix" := by simpa using c4
        exact ⟨rfl, (fun z => by cases z), fun _ => ⟨hE, fun q => absurd q hm, fun q => absurd q hk⟩⟩
  rintro t H3 ⟨rfl, h1, h2⟩
  cases t with
  | true => exact jI ((fin _ (Same.refl _)).1 (h1 rfl))
  | false =>
  obtain ⟨hE, hmc, hkm⟩ := h2 rfl
  clear h1 h2
  rw [if_neg hE] at mb
  refine qo ⟨fun t H4 => Same H3 H4 ∧ (t = true → flB c k = false) ∧ (t = false → flB c k = true), ?_, ?_⟩
  · refine ⟨_, rfl, rfl, _, rfl, zH (fun c3 => ?_) (fun c3 => ?_)⟩
    · have hg : c = "gap" := by simpa using c3
      have hm : c ≠ "mix" := by rw [hg]; decide +kernel
      have hk : k ≠ "mix" := fun z => by have := hkm z; rw [hg] at this; exact absurd this (by decide +kernel)
      rw [if_neg hm, if_neg hk, decide_eq_true hg, Bool.true_and] at mb
      refine ⟨_, rfl, sL2, fun t ht => ?_⟩
      have e : inV (.str k) [.str "gap", .str "end"] = (decide (k = "gap") || decide (k = "end")) := by
        by_cases h1 : k = "gap"
        · subst h1; decide +kernel
        by_cases h2 : k = "end"
        · subst h2; decide +kernel
        simp [inV, eqV, h1, h2, Ne.symm h1, Ne.symm h2]
      refine ⟨t, _, rfl, .inl (SqL.of qB), rfl, rfl, _, rfl, qC ht _, fun z => ?_, fun z => ?_⟩
      · have z' : inV (.str k) [.str "gap", .str "end"] = true := z
        rw [e] at z'; rw [mb, z']; rfl
      · have z' : inV (.str k) [.str "gap", .str "end"] = false := z
        rw [e] at z'; rw [mb, z']; rfl
    · have hg : c ≠ "gap" := by simpa using c3
      refine ⟨Same.refl _, (fun z => by cases z), fun _ => ?_⟩
      rw [mb]
      by_cases hm : c = "mix"
      · rw [if_pos hm]; exact decide_eq_true (hmc hm)
      rw [if_neg hm]
      by_cases hk : k = "mix"
      · rw [if_pos hk]; exact decide_eq_true (hkm hk)
      rw [if_neg hk, decide_eq_false hg]
      rfl
  rintro t H4 ⟨w4, h1, h2⟩
  cases t with
  | true => exact jI ((fin _ w4).1 (h1 rfl))
  | false =>
  obtain ⟨f1, f2⟩ := (fin _ w4).2 (h2 rfl)
  refine qo ⟨_, rfl, rfl, _, rfl, zH (fun c5 => ?_) (fun c5 => ?_)⟩
  · have := f1 (by simpa using c5)
    refine ⟨_, rfl, _, rfl, rfl, ?_⟩
    rw [qF0]
    exact this
  · exact ⟨_, rfl, _, rfl, _, _, rfl, rfl, f2 (by simpa using c5)⟩
def qGm : Option Nat → V
  | none => .non
  | some i => .int i
theorem qFu : ∀ m : Option Im, wdO m ≠ ""
  | none => by show ("end" : Str) ≠ ""; decide +kernel
  | some (.clip ..) => by show ("clip" : Str) ≠ ""; decide +kernel
  | some (.nest ..) => by show ("nest" : Str) ≠ ""; decide +kernel
  | some (.gap _) => by show ("gap" : Str) ≠ ""; decide +kernel
  | some (.mix _) => by show ("mix" : Str) ≠ ""; decide +kernel
def zG (K : W.Frag) : Sp := fun vs H Q _ => ∃ (l : Addr) (us : List V) (rs : List (Option R4)) (x y : V) (r0 r1 o0 o1 : Int), vs = [.ref l, x, y] ∧ H l = some (.lst us) ∧ RowsC K H rs us ∧ rs.length ≤ 300 ∧ Rate H x r0 r1 ∧ Rate H y o0 o1 ∧ ∀ H', Same H H' → Q (qGm (fw r0 r1 o0 o1 none "" 0 rs)) H'
theorem zE (T : Tx K mg a) : FnOk P w K mg base CX0 3 a.a__law_first_wrong a.f__law_first_wrong ["_law_rows", "_law_rate_here", "_law_other"] (zG K) := by
  refine T.d__law_first_wrong.F.ok sc__law_first_wrong (fun vs H Q E h => ?_) (fun cdv A outer s H vs Q E hr h => ?_)
  · obtain ⟨l, us, rs, x, y, r0, r1, o0, o1, rfl, _⟩ := h
    rfl
  obtain ⟨l, us, rs, x, y, r0, r1, o0, o1, rfl, hl, hrs, hlen, rx, ry, kk⟩ := h
  refine ⟨_, (qF (qc (i := 3) sc__law_first_wrong.nd rfl (Or.inl rfl) qR)
      (qF (qc (i := 4) sc__law_first_wrong.nd rfl (Or.inl rfl) qD)
      (qF (kY PassesOwn.never rfl (kM rfl T.b_range (qA (qU qf rfl T.b_len rfl (qA (pv 0) qE)) qE)) (jU (i := 5) sc__law_first_wrong.nd rfl (Or.inl rfl)) (qF (qc (i := 6) sc__law_first_wrong.nd rfl (Or.inl rfl) (qP T.d__law_border (kh T) hr rfl (qA (qJ qg (pv 0) (pv 5) (fun _ _ => rfl)) (qA (pv 1) (qA (pv 2) qE)))))
      (qF (q8 (PW.pt (jk (qD6 (qD9 (pv 6))) (jT (jA (q9 (qP T.d__law_stands (kc T) hr rfl (qA (pv 4) (qA (qJ qI (qJ qI (qJ qg (pv 0) (pv 5) (fun _ _ => rfl)) qD (fun _ _ => rfl)) qD (fun _ _ => rfl)) (qA (pv 6) (qA (pv 3) qE)))))))))) (qH (qK (pv 5))) qQ)
      (qF (qc (i := 3) sc__law_first_wrong.nd rfl (Or.inl rfl) (qJ qI (qJ qI (qJ qg (pv 0) (pv 5) (fun _ _ => rfl)) qD (fun _ _ => rfl)) qD (fun _ _ => rfl)))
      (qH (qc (i := 4) sc__law_first_wrong.nd rfl (Or.inl rfl) (pv 6)))))))
      (qF (q8 (qM xH (pv 3) qR (qL _)) (qH (qK (qU qf rfl T.b_len rfl (qA (pv 0) qE)))) qQ)
      (qH (qK zK)))))), ?_⟩
  try dsimp only [xG, jG]
  have hul := hrs.len
  obtain ⟨F, hF⟩ : ∃ F, fw r0 r1 o0 o1 none "" 0 rs = F := ⟨_, rfl⟩
  rw [hF] at kk
  refine ⟨_, rfl, l, us, rfl, .inl (SqL.of hl), _, rfl, by omega, by omega, kO (n := ((us.length : Nat) : Int).toNat) (fun i σ H' => ∃ (o1' o2' : Option V) (ca : Str) (o : Option Int), σ = [some (.ref l), some x, some y, some (.str ca), some (.int (o.getD 0)), o1', o2'] ∧ (ca = "" ↔ o = none) ∧ fw r0 r1 o0 o1 o ca i (rs.drop i) = F ∧ Same H H')
    ⟨none, none, "", none, rfl, ⟨fun _ => rfl, fun _ => rfl⟩, by rw [List.drop_zero]; exact hF, Same.refl _⟩ ?_ ?_⟩
  · rintro i σ H' hi ⟨o1', o2', ca, o, rfl, hco, hFi, e⟩
    have hi' : i < us.length := by omega
    obtain ⟨v, hv⟩ : ∃ v, us[i]? = some v := ⟨_, List.getElem?_eq_getElem hi'⟩
    obtain ⟨r, hr', hRow⟩ := hrs.get hv
    have hdr : rs.drop i = r :: rs.drop (i + 1) := wx hr'
    have ai : atI us (0 + (i : Int)) = some v := by rw [Int.zero_add]; exact zV hv
    have e0 : (0 : Int) + (i : Int) = (i : Int) := Int.zero_add _
    have sl : ∀ {H' : Hp}, Same H H' → SqL K H' l us := fun e => SqL.of (e _ _ hl)
    have hRow1 := hRow.same e
    refine ⟨_, rfl, _, rfl, l, us, _, v, rfl, rfl, sl e, ai, _, rfl, _, rfl, v, x, y, r, r0, r1, o0, o1, rfl, hRow1, rx.same e, ry.same e, ?_⟩
    have none_case : stp r0 r1 o0 o1 o ca r = none → ∀ H', Same H H' → Q (.int (0 + (i : Int))) H' := fun hs H' e' => by
      have := kk H' e'
      rw [qFm hdr hFi hs] at this
      rw [e0]
      exact this
    cases r with
    | none => exact ⟨_, rfl, _, rfl, zv (by show decide (V.non = V.non) = true; decide) ⟨_, rfl, none_case rfl _ e⟩⟩
    | some r =>
    cases hb : bdr r0 r1 o0 o1 r with
    | none =>
      have hs : stp r0 r1 o0 o1 o ca (some r) = none := by unfold stp; dsimp only; rw [hb]
      rw [show (some r).bind (bdr r0 r1 o0 o1) = none from hb]
      exact ⟨_, rfl, _, rfl, zv (by show decide (V.non = V.non) = true; decide) ⟨_, rfl, none_case hs _ e⟩⟩
    | some b =>
    rw [show (some r).bind (bdr r0 r1 o0 o1) = some b from hb]
    obtain ⟨zr, xr, ur, rfl, hzr, hxr, hwr⟩ := hRow1.good.ex
    obtain ⟨zw, xw, rfl, sqw, at0w⟩ := hwr.w0
    have dN : decide (qG3 (some b) = V.non) = false := decide_eq_false (fun z => by cases z)
    refine ⟨_, rfl, _, rfl, xU dN ?_⟩
    refine ⟨_, rfl, _, rfl, _, rfl, l, us, _, _, rfl, rfl, sl e, ai, zr, _, _, _, rfl, rfl, SqT.of hzr, rfl, zw, _, _, _, rfl, rfl, sqw, at0w, _, rfl, _, rfl, _, b, wdO r.m, ca, o, rfl, hco, rfl, fun H2 w2 => ⟨_, rfl, ?_⟩⟩
    have e2 := e.trans w2
    cases hs : (flB ca (wdO r.m) && lsB o ca b) with
    | false =>
      have hst : stp r0 r1 o0 o1 o ca (some r) = none := by unfold stp; dsimp only; rw [hb]; dsimp only; rw [hs]; rfl
      exact jI ⟨_, rfl, none_case hst _ e2⟩
    | true =>
      have hst : stp r0 r1 o0 o1 o ca (some r) = some (b, wdO r.m) := by unfold stp; dsimp only; rw [hb]; dsimp only; rw [hs]; rfl
      have hzr2 := w2 _ _ hzr
      have sqw2 : SqT K H2 zw xw := L3.Same.tup w2 sqw
      refine qo ⟨_, rfl, _, rfl, l, us, _, _, rfl, rfl, sl e2, ai, zr, _, _, _, rfl, rfl, SqT.of hzr2, rfl, zw, _, _, _, rfl, rfl, sqw2, at0w, ?_⟩
      exact ⟨_, rfl, _, _, wdO r.m, some b, rfl, ⟨fun z => absurd z (qFu _), fun z => by cases z⟩, qFs hdr hFi hst, e2⟩
  · rintro σ H' ⟨o1', o2', ca, o, rfl, hco, hFi, e⟩
    rw [Int.toNat_natCast, hul, List.drop_length, fw] at hFi
    refine ⟨_, rfl, rfl, _, rfl, zH (fun c => ?_) (fun c => ?_)⟩
    · have hc : ca ≠ "end" := by simpa using c
      rw [if_neg hc] at hFi
      refine ⟨_, rfl, l, us, rfl, .inl (SqL.of (e _ _ hl)), ?_⟩
      have := kk H' e
      rw [← hFi] at this
      rw [hul]
      exact this
    · have hc : ca = "end" := by simpa using c
      rw [if_pos hc] at hFi
      have := kk H' e
      rw [← hFi] at this
      exact this
def qDr : Option Nat → List V
  | none => [.non, .bl false, .bl false]
  | some i => [.int i, .bl false, .bl true]
def wJ (K : W.Frag) : Sp := fun vs H Q _ => ∃ (l : Addr) (us : List V) (rs : List (Option R4)) (x y : V), vs = [.ref l, x, y] ∧ H l = some (.lst us) ∧ RowsC K H rs us ∧ rs.length ≤ 300 ∧
  ((∃ b c, RtB K H x b ∧ RtB K H y c ∧ (b && c) = false ∧ ∀ (t : Addr) (H' : Hp), Same H H' → H' t = some (.tup [.str "number", .bl false, .bl false]) → Q (.ref t) H') ∨
    ∃ r0 r1 o0 o1, Rate H x r0 r1 ∧ Rate H y o0 o1 ∧ ∀ (t : Addr) (H' : Hp), Same H H' → H' t = some (.tup (qDr (fw r0 r1 o0 o1 none "" 0 rs))) → Q (.ref t) H')
theorem xk (T : Tx K mg a) : FnOk P w K mg base CX0 9 a.a__law_told a.f__law_told ["_law_rows", "_law_rate_here", "_law_other"] (wJ K) := by
  refine T.d__law_told.F.ok sc__law_told (fun vs H Q E h => ?_) (fun cdv A outer s H vs Q E hr h => ?_)
  · obtain ⟨l, us, rs, x, y, rfl, _⟩ := h
    rfl
  obtain ⟨l, us, rs, x, y, rfl, hl, hrs, hlen, h⟩ := h
  rcases h with ⟨b, c, hx, hy, hbc, kk⟩ | ⟨r0, r1, o0, o1, rx, ry, kk⟩
  · obtain ⟨Exn, hEx⟩ : ∃ Exn : Value → Option Addr → Hp → Prop, Exn = fun B od H' => B = .ref a.k_NoNumber ∧ od = none ∧ Same H H' := ⟨_, rfl⟩
    refine ⟨_, (qF (qc (i := 3) sc__law_told.nd rfl (Or.inl rfl) (qO (qA zK (qA jS (qA jS qE)))))
      (qF (qCo (Exn) sc__law_told.nd (fun _ => (qH (jp (vH T.d_read_back (zM T) hr rfl (qA (pv 0) (qA (pv 1) (qA (pv 2) qE))))))) (PHs.cons .none rfl T.c_NoNumber (fun _ _ => (qH (qc (i := 3) sc__law_told.nd rfl (Or.inl rfl) (qO (qA qR (qA jS (qA jS qE))))))) (PHs.cons (.some (i := 4) rfl rfl) rfl T.c_NoList (fun _ _ => (qH (qc (i := 3) sc__law_told.nd rfl (Or.inl rfl) (qO (qA (qAe (K := K) rfl (pv 4)) (qA (qU (j3 (K := K) rfl) rfl T.b_isinstance rfl (qA (pv 4) (qA (ju (v := .ref a.k_NoText) rfl T.c_NoText rfl) qE))) (qA (qU (j3 (K := K) rfl) rfl T.b_isinstance rfl (qA (pv 4) (qA (ju (v := .ref a.k_CutError) rfl T.c_CutError rfl) qE))) qE))))))) PHs.nil)))
      (qH (qK (pv 3))))), ?_⟩
    try dsimp only [xG, jG]
    subst hEx
    refine ⟨je, fun t ht => ?_⟩
    have w1 := qC ht (.tup [.non, .bl false, .bl false])
    refine ⟨⟨_, rfl, _, rfl, _, rfl, l, us, rs, x, y, rfl, w1 _ _ hl, hrs.same w1, hlen, .inl ⟨b, c, hx.same w1, hy.same w1, hbc, rfl, rfl, w1⟩⟩, ?_⟩
    rintro ea ⟨B1, B2⟩ σ' H' ⟨e1, e2, sH⟩ hn hl'
    dsimp only at e1 e2
    subst e1 e2
    obtain ⟨o1, o2, o3, o4, o5, rfl⟩ : ∃ o1 o2 o3 o4 o5, σ' = [o1, o2, o3, o4, o5] := by
      match σ', hl' with
      | [o1, o2, o3, o4, o5], _ => exact ⟨o1, o2, o3, o4, o5, rfl⟩
    refine ⟨true, T.m_NN, jI ⟨je, fun t2 ht2 => ?_⟩⟩
    exact ⟨_, rfl, kk t2 _ (sH.trans ((qC hn _).trans (qC ht2 _))) qB⟩
  · obtain ⟨Exn, hEx⟩ : ∃ Exn : Value → Option Addr → Hp → Prop, Exn = fun B od H' => B = .ref a.k_NoList ∧ ∃ (i : Nat) (dx : Addr), od = some dx ∧ fw r0 r1 o0 o1 none "" 0 rs = some i ∧ Same H H' ∧ H' dx = some (.xd [("at", .int i)]) := ⟨_, rfl⟩
    refine ⟨_, (qF (qc (i := 3) sc__law_told.nd rfl (Or.inl rfl) (qO (qA zK (qA jS (qA jS qE)))))
      (qF (qCo (Exn) sc__law_told.nd (fun _ => (qH (jp (vH T.d_read_back (zM T) hr rfl (qA (pv 0) (qA (pv 1) (qA (pv 2) qE))))))) (PHs.cons .none rfl T.c_NoNumber (fun _ _ => (qH (qc (i := 3) sc__law_told.nd rfl (Or.inl rfl) (qO (qA qR (qA jS (qA jS qE))))))) (PHs.cons (.some (i := 4) rfl rfl) rfl T.c_NoList (fun _ _ => (qH (qc (i := 3) sc__law_told.nd rfl (Or.inl rfl) (qO (qA (qAe (K := K) rfl (pv 4)) (qA (qU (j3 (K := K) rfl) rfl T.b_isinstance rfl (qA (pv 4) (qA (ju (v := .ref a.k_NoText) rfl T.c_NoText rfl) qE))) (qA (qU (j3 (K := K) rfl) rfl T.b_isinstance rfl (qA (pv 4) (qA (ju (v := .ref a.k_CutError) rfl T.c_CutError rfl) qE))) qE))))))) PHs.nil)))
      (qH (qK (pv 3))))), ?_⟩
    try dsimp only [xG, jG]
    subst hEx
    refine ⟨je, fun t ht => ?_⟩
    have w1 := qC ht (.tup [.non, .bl false, .bl false])
    have et : (upd H t (.tup [.non, .bl false, .bl false])) t = some (.tup [.non, .bl false, .bl false]) := qB
    refine ⟨⟨_, rfl, _, rfl, _, rfl, l, us, rs, x, y, rfl, w1 _ _ hl, hrs.same w1, hlen, .inr ⟨r0, r1, o0, o1, rx.same w1, ry.same w1, fun z H' hF w' => ?_, fun i dx H' hF w' hdx => ⟨rfl, i, dx, rfl, hF, w1.trans w', hdx⟩⟩⟩, ?_⟩
    · exact ⟨_, rfl, kk t _ (w1.trans w') (by rw [hF]; exact w' _ _ et)⟩
    rintro ea ⟨B1, B2⟩ σ' H' ⟨e1, i, dx, e2, hF, sH, hdx⟩ hn hl'
    dsimp only at e1 e2
    subst e1 e2
    obtain ⟨o1, o2, o3, o4, o5, rfl⟩ : ∃ o1 o2 o3 o4 o5, σ' = [o1, o2, o3, o4, o5] := by
      match σ', hl' with
      | [o1, o2, o3, o4, o5], _ => exact ⟨o1, o2, o3, o4, o5, rfl⟩
    have w2 := qC hn (kd ea (.ref a.k_NoList, some dx))
    have hdx2 := w2 _ _ hdx
    have hea : (upd H' ea (kd ea (.ref a.k_NoList, some dx))) ea = some (kd ea (.ref a.k_NoList, some dx)) := qB
    refine ⟨false, T.m_LN, qo ⟨true, T.m_LL, jI ?_⟩⟩
    refine ⟨_, rfl, ea, _, dx, _, _, rfl, hea, hdx2, rfl, T.e_NoList, T.m_NoList.hd, T.f_at, ?_⟩
    refine ⟨_, rfl, ea, _, some dx, _, false, rfl, hea, .inr ⟨dx, _, rfl, hdx2⟩, T.e_NoList, .inr ⟨_, rfl, T.i_LT⟩, ?_⟩
    refine ⟨_, rfl, ea, _, some dx, _, true, rfl, hea, .inr ⟨dx, _, rfl, hdx2⟩, T.e_NoList, .inr ⟨_, rfl, T.i_LC⟩, je, fun t2 ht2 => ?_⟩
    exact ⟨_, rfl, kk t2 _ (sH.trans (w2.trans (qC ht2 _))) (by rw [hF]; exact qB)⟩
theorem qH1 : xO [V.non, .bl false, .bl false] [.non, .bl false, .bl false] = true := by decide +kernel
theorem qGc : xO [V.str "number", .bl false, .bl false] [.str "number", .bl false, .bl false] = true := by decide +kernel
theorem qIl {i : Int} : xO [V.int i, .bl false, .bl true] [.int i, .bl false, .bl true] = true := by
  simp [xO]
  intro x hx
  have : x = 0 ∨ x = 1 ∨ x = 2 := by omega
  rcases this with rfl | rfl | rfl <;> simp [eqV]
theorem qGx {H : Hp} {P' Q' r0 r1 o0 o1 : Int} : ∀ {rs : List (Int × Option Im)} {us : List V}, RowsV K H P' Q' rs us → (∀ r ∈ rs.map (qCk P' Q'), OkR r0 r1 o0 o1 r) → (∀ v ∈ us, ∃ r, RowI K H r v) ∧ RowsC K H ((rs.map (qCk P' Q')).map fun r => some ⟨r.w, r.p, r.q, r.m⟩) us
  | [], [], _, _ => ⟨by simp, trivial⟩
  | r :: rs, v :: us, h, g => by
    obtain ⟨h1, h2⟩ := qGx (rs := rs) (us := us) h.2 (fun x hx => g x (List.mem_cons_of_mem _ hx))
    have k := g (qCk P' Q' r) (by simp)
    have i : RowI K H ⟨(qCk P' Q' r).w, (qCk P' Q' r).p, (qCk P' Q' r).q, (qCk P' Q' r).m⟩ v := ⟨h.1, k.p0, k.pq, k.g, k.bw, k.bq, k.gw⟩
    refine ⟨fun x hx => ?_, i.c, h2⟩
    rcases List.mem_cons.mp hx with rfl | hx
    · exact ⟨_, i⟩
    · exact h1 x hx
  | [], _ :: _, h, _ => h.elim
  | _ :: _, [], h, _ => h.elim
theorem qFn (T : Tx K mg a) : FnOk P w K mg base CX0 12 a.a_law a.f_law ["_law_script"] (qDp K) := by
  refine T.d_law.F.ok sc_law (fun vs H Q E h => ?_) (fun cdv A outer s H vs Q E hr h => ?_)
  · obtain ⟨a, ns, rfl, _⟩ := h
    rfl
  obtain ⟨z, ns, rfl, hS, hlen, kk⟩ := h
  have hu0 := hr.units0
  refine ⟨_, (qF (qc (i := 1) sc_law.nd rfl (Or.inl rfl) (qP T.d__law_cell_at (xn T) hr rfl (qA (pv 0) (qA qD qE))))
      (qF (qc (i := 2) sc_law.nd rfl (Or.inl rfl) (qP T.d__law_drawn (xY T) hr rfl (qA (qN jW (qP T.d__law_cell_at (xn T) hr rfl (qA (pv 0) (qA qD qE))) (qN jH qD (pv 1))) (qA qD qE))))
      (qF (qc (i := 3) sc_law.nd rfl (Or.inl rfl) (qP T.d__law_rate (xp T) hr rfl (qA (qJ qg (qP T.d__law_drawn (xY T) hr rfl (qA (pv 1) (qA qD qE))) qD (fun _ _ => rfl)) qE)))
      (qF (qc (i := 4) sc_law.nd rfl (Or.inl rfl) (qJ qg (jF (qA (pv 3) (qA (qP T.d__law_rate (xp T) hr rfl (qA (qJ qg (pv 2) qD (fun _ _ => rfl)) qE)) qE))) (qN qh (qJ qg (pv 2) qD (fun _ _ => rfl)) qD) (fun _ _ => rfl)))
      (qF (qc (i := 5) sc_law.nd rfl (Or.inl rfl) (qP T.d_written (qAv T) hr rfl (qA (qP T.d__law_track (vT T) hr rfl (qA (j2 xj (pv 0) (xB qD) (xB qD)) qE)) (qA (pv 3) (qA (pv 4) qE)))))
      (qF (qc (i := 6) sc_law.nd rfl (Or.inl rfl) (pv 5))
      (qF (qCp (q8 (qM qDf (qN qh (qJ qg (pv 2) qD (fun _ _ => rfl)) qD) qD (qL _)) (qH (qc (i := 6) sc_law.nd rfl (Or.inl rfl) (qP T.d__law_changed (kG T) hr rfl (qA (pv 5) (qA (qJ qg (pv 2) qD (fun _ _ => rfl)) (qA (qJ qg (pv 2) qD (fun _ _ => rfl)) qE)))))) qQ))
      (qF (qc (i := 7) sc_law.nd rfl (Or.inl rfl) (qJ qg (jF (qA (pv 4) (qA (pv 4) (qA (qP T.d__law_rate (xp T) hr rfl (qA (qJ qg (pv 2) qD (fun _ _ => rfl)) qE)) qE)))) (qN qh (qJ qg (pv 2) qD (fun _ _ => rfl)) qD) (fun _ _ => rfl)))
      (qF (qc (i := 8) sc_law.nd rfl (Or.inl rfl) (qP T.d__law_first_wrong (zE T) hr rfl (qA (pv 6) (qA (pv 3) (qA (pv 7) qE)))))
      (qF (qc (i := 9) sc_law.nd rfl (Or.inl rfl) (qP T.d__law_told (xk T) hr rfl (qA (qBo v0 rfl T.b_list rfl (qA (pv 6) qE)) (qA (pv 3) (qA (pv 7) qE)))))
      (qF (q8 (qD6 (qD9 (pv 8))) (qH (qK (qv (qCm hu0) (pv 9) (qO (qA zK (qA jS (qA jS qE)))) (qL _)))) qQ)
      (qF (q8 (PW.pt (jk (qM (qBh hu0) (pv 9) (qO (qA (pv 8) (qA jS (qA jS qE)))) (qL _)) (jT (q9 (qU qm rfl T.b_isinstance rfl (qA (qJ qI (pv 9) qD (fun _ _ => rfl)) (qA (zD rfl T.b_bool rfl) qE))))))) (qH (qK jS)) qQ)
      (qF (kY PassesOwn.never rfl (qCh (jF (qA (qO (qA (qO (qA qD (qA qD qE))) (qA (pv 3) qE))) (qA (qO (qA (pv 3) (qA qD qE))) qE)))) (jU (i := 10) sc_law.nd rfl (Or.inl rfl)) (qH (q8 (qM (qBh hu0) (qP T.d__law_told (xk T) hr rfl (qA (pv 6) (qA (qJ qI (pv 10) qD (fun _ _ => rfl)) (qA (qJ qI (pv 10) qD (fun _ _ => rfl)) qE)))) (qO (qA qR (qA jS (qA jS qE)))) (qL _)) (qH (qK jS)) qQ)))
      (qH (qK (qv (qCm hu0) (qP T.d__law_told (xk T) hr rfl (qA (pv 5) (qA (pv 3) (qA (pv 4) qE)))) (qO (qA zK (qA jS (qA jS qE)))) (qL _))))))))))))))))), ?_⟩
  try dsimp only [xG, jG]
  refine ⟨_, rfl, z, ns, 0, rfl, hS, hlen, by decide, fun c => ?_⟩
  refine ⟨_, rfl, z, ns, 1, rfl, hS, hlen, by decide, fun c1 => ?_⟩
  refine ⟨_, rfl, _, _, rfl, rfl, cmL (by decide) (by decide), _, _, rfl, rfl, _, 9, rfl, by decide, by decide, fun zx xs hzx hxl hx => ?_⟩
  have w1 := qC hzx (.lst (xs.map V.int))
  obtain ⟨x0, x1, x2, x3, x4, x5, x6, x7, x8, rfl⟩ : ∃ x0 x1 x2 x3 x4 x5 x6 x7 x8 : Int, xs = [x0, x1, x2, x3, x4, x5, x6, x7, x8] := by
    match xs, hxl with
    | [x0, x1, x2, x3, x4, x5, x6, x7, x8], _ => exact ⟨x0, x1, x2, x3, x4, x5, x6, x7, x8, rfl⟩
  have ezx : (upd H zx (.lst ([x0, x1, x2, x3, x4, x5, x6, x7, x8].map V.int))) zx = some (.lst [.int x0, .int x1, .int x2, .int x3, .int x4, .int x5, .int x6, .int x7, .int x8]) := qB
  generalize upd H zx (.lst ([x0, x1, x2, x3, x4, x5, x6, x7, x8].map V.int)) = H0 at w1 ezx ⊢
  have sx : ∀ {H' : Hp}, Same H0 H' → SqL K H' zx [.int x0, .int x1, .int x2, .int x3, .int x4, .int x5, .int x6, .int x7, .int x8] := fun e => SqL.of (e _ _ ezx)
  refine ⟨_, rfl, c, 3, rfl, by decide, by decide, fun zy ys hzy hyl hy => ?_⟩
  have w2 := qC hzy (.lst (ys.map V.int))
  obtain ⟨y0, y1, y2, rfl⟩ : ∃ x0 x1 x2 : Int, ys = [x0, x1, x2] := by
    match ys, hyl with
    | [x0, x1, x2], _ => exact ⟨x0, x1, x2, rfl⟩
  refine ⟨zy, _, _, .int y2, rfl, rfl, SqL.of qB, rfl, y2, rfl, fun vr r0 r1 H1 w3 hR hRF => ?_⟩
  have e1 := w2.trans w3
  clear hx hy hxl hyl w2 w3
  refine ⟨_, rfl, _, rfl, zx, _, _, .int x6, rfl, rfl, sx e1, rfl, x6, rfl, fun v6 p6 q6 H2 w2 h6 h6F => ⟨two, fun lo hlo => ?_⟩⟩
  have w3 := qC hlo (.lst [vr, v6])
  have elo : (upd H2 lo (.lst [vr, v6])) lo = some (.lst [vr, v6]) := qB
  have e2 := (e1.trans w2).trans w3
  have hR := hR.same (w2.trans w3)
  have h6 := h6.same w3
  clear e1 w2 w3
  generalize upd H2 lo (.lst [vr, v6]) = H3 at elo e2 hR h6 ⊢
  have f2 := fm x5 (show (0 : Int) < 2 by decide)
  obtain ⟨vo, hvo, hvom⟩ := atN (xs := [vr, v6]) (n := 2) rfl f2.1 f2.2
  refine ⟨_, rfl, zx, _, _, .int x5, rfl, rfl, sx e2, rfl, _, _, rfl, rfl, nz, lo, _, _, vo, rfl, rfl, SqL.of elo, hvo, ?_⟩
  obtain ⟨o0, o1, hO⟩ : ∃ o0 o1, Rate H3 vo o0 o1 := by
    simp only [List.mem_cons, List.not_mem_nil, or_false] at hvom
    rcases hvom with rfl | rfl
    · exact ⟨_, _, hR⟩
    · exact ⟨_, _, h6⟩
  clear hvo hvom h6 elo
  refine ⟨_, rfl, _, rfl, _, rfl, z, _, rfl, (w1.trans e2).seq hS, fun sc hsc => ?_⟩
  obtain ⟨ns', hms, hml⟩ := qDh ns (some 2) (some 12)
  rw [hms]
  have w4 := qC hsc (.lst (ns'.map V.int))
  refine ⟨sc, ns', rfl, SqL.of qB, by omega, fun y ms H4 w5 hy0 hT hml2 hG hC hnm hng => ?_⟩
  have e4 := e2.trans (w4.trans w5)
  have hR := hR.same (w4.trans w5)
  have hO := hO.same (w4.trans w5)
  have hB : Bd ms := ⟨by omega, fun m hm => (hG m hm).mo⟩
  clear w4 w5 hsc hms e2
  refine ⟨_, rfl, _, rfl, y, ms, vr, vo, r0, r1, o0, o1, rfl, hT, hB, hR, hO, fun l us H5 w6 l0 hl rv => ?_⟩
  have e5 := e4.trans w6
  have hok := qE3 hB hG hR hO
  have hR := hR.same w6
  have hO := hO.same w6
  have hul : us.length = ms.length + 1 := by rw [rv.len, wv]
  obtain ⟨hI, hgc⟩ := qGx rv hok
  have hgood := qCe hR.q0 hO.p0 _ none "" 0 (qCr (P := byP r0 r1 o0 o1) (Q := byQ r0 r1 o0 o1) hC hnm hng hG) hok
  generalize ((zg ms).map (qCk (byP r0 r1 o0 o1) (byQ r0 r1 o0 o1))).map (fun r => some (⟨r.w, r.p, r.q, r.m⟩ : R4)) = gs at hgc hgood
  clear hok rv hT hG hC hnm hng e4 w6
  refine ⟨_, rfl, ?_⟩
  refine ⟨fun σ H' => ∃ (l' : Addr) (us' : List V), σ = [some (.ref z), some (.int c), some (.ref zx), some vr, some vo, some (.ref l), some (.ref l'), none, none, none, none] ∧ Same H5 H' ∧ H' l' = some (.lst us') ∧ AllC K H' us' ∧ us'.length ≤ 300, ?_, ?_⟩
  · refine ⟨_, rfl, zx, _, _, .int x4, rfl, rfl, sx e5, rfl, _, _, rfl, rfl, nz, _, _, rfl, rfl, _, rfl, zH (fun _ => ?_) (fun _ => ?_)⟩
    · exact ⟨_, rfl, _, rfl, zx, _, _, .int x2, rfl, rfl, sx e5, rfl, _, rfl, zx, _, _, .int x3, rfl, rfl, sx e5, rfl, l, us, x2, x3, rfl, hl, hI, by omega, by omega, fun l' us' H' w hl' hA hn => ⟨l', us', rfl, w, hl', hA, hn⟩⟩
    · exact ⟨l, us, rfl, Same.refl _, hl, fun v hv => let ⟨r, h⟩ := hI v hv; ⟨_, h.c⟩, by omega⟩
  rintro σ H6 ⟨l', us', rfl, w6, hl', hA, hn⟩
  obtain ⟨rs, hrs⟩ := hA.rows
  have hrl : rs.length ≤ 300 := by rw [← hrs.len]; exact hn
  have e6 := e5.trans w6
  have hR := hR.same w6
  have hO := hO.same w6
  have hl := w6 _ _ hl
  have hgc := hgc.same w6
  have hgl : gs.length ≤ 300 := by rw [← hgc.len]; omega
  clear hI hA w6 e5
  refine ⟨_, rfl, _, rfl, _, rfl, zx, _, _, .int x7, rfl, rfl, sx e6, rfl, x7, rfl, fun v7 p7 q7 H7 w7 h7 h7F => ⟨je, fun lt hlt => ?_⟩⟩
  have w8 := qC hlt (.lst [vo, vo, v7])
  have elt : (upd H7 lt (.lst [vo, vo, v7])) lt = some (.lst [vo, vo, v7]) := qB
  have w78 := w7.trans w8
  have e8 := e6.trans w78
  have hR := hR.same w78
  have hO := hO.same w78
  have h7 := h7.same w8
  have hl := w78 _ _ hl
  have hgc := hgc.same w78
  have hl' := w78 _ _ hl'
  have hrs := hrs.same w78
  clear w7 w8 w78 e6
  generalize upd H7 lt (.lst [vo, vo, v7]) = H8 at elt e8 hR hO h7 hl hgc hl' hrs ⊢
  have f3 := fm x8 (show (0 : Int) < 3 by decide)
  obtain ⟨vt, hvt, hvtm⟩ := atN (xs := [vo, vo, v7]) (n := 3) rfl f3.1 f3.2
  refine ⟨_, rfl, zx, _, _, .int x8, rfl, rfl, sx e8, rfl, _, _, rfl, rfl, nz, lt, _, _, vt, rfl, rfl, SqL.of elt, hvt, ?_⟩
  obtain ⟨t0, t1, hT⟩ : ∃ t0 t1, Rate H8 vt t0 t1 := by
    simp only [List.mem_cons, List.not_mem_nil, or_false] at hvtm
    rcases hvtm with rfl | rfl | rfl
    · exact ⟨_, _, hO⟩
    · exact ⟨_, _, hO⟩
    · exact ⟨_, _, h7⟩
  clear hvt hvtm h7 elt
  refine ⟨_, rfl, _, rfl, _, rfl, l', us', rs, vr, vt, r0, r1, t0, t1, rfl, hl', hrs, hrl, hR, hT, fun H9 w9 => ?_⟩
  refine ⟨_, rfl, l', us', rfl, .inl (SqL.of (w9 _ _ hl')), fun lc hlc => ?_⟩
  have w10 := w9.trans (qC hlc (.lst us'))
  refine ⟨_, rfl, _, rfl, lc, us', rs, vr, vt, rfl, qB, hrs.same w10, hrl, .inr ⟨r0, r1, t0, t1, hR.same w10, hT.same w10, fun t H11 w11 ht => ?_⟩⟩
  have w12 := w10.trans w11
  have e11 := e8.trans w12
  have hR := hR.same w12
  have hO := hO.same w12
  have hl := w12 _ _ hl
  have hgc := hgc.same w12
  have hl' := w12 _ _ hl'
  have hrs := hrs.same w12
  clear w9 w10 w11 w12 hT e8 hlc
  cases hF : fw r0 r1 t0 t1 none "" 0 rs with
  | none =>
    rw [hF] at ht
    refine ⟨_, rfl, _, rfl, zv (by decide) ⟨_, rfl, je, fun t2 ht2 => ?_⟩⟩
    refine ⟨_, _, _, _, rfl, rfl, SqT.of ((qC ht2 _) _ _ ht), SqT.of qB, rfl, rfl, ?_⟩
    have e : xO (qDr none) [V.non, .bl false, .bl false] = true := qH1
    rw [e]
    exact kk _
  | some i =>
  rw [hF] at ht
  have dN : decide (qGm (some i) = V.non) = false := decide_eq_false (fun z => by cases z)
  refine ⟨_, rfl, _, rfl, xU dN ?_⟩
  refine ⟨_, rfl, _, rfl, je, fun t2 ht2 => ⟨_, _, _, _, rfl, rfl, SqT.of ((qC ht2 _) _ _ ht), SqT.of qB, rfl, rfl, _, rfl, ?_⟩⟩
  have e : xO (qDr (some i)) [qGm (some i), .bl false, .bl true] = true := qIl
  rw [e]
  have w1 := qC ht2 (.tup [qGm (some i), .bl false, .bl true])
  refine qo ⟨_, rfl, _, _, _, _, rfl, rfl, SqT.of (w1 _ _ ht), rfl, _, _, _, false, rfl, .int i, ⟨_, .inl ⟨rfl, by kernel_rfl⟩⟩, _, rfl, qo ?_⟩
  have e12 := e11.trans w1
  have hR := hR.same w1
  have hO := hO.same w1
  have hl := w1 _ _ hl
  have hgc := hgc.same w1
  have hl' := w1 _ _ hl'
  have hrs := hrs.same w1
  clear ht e11 w1 e
  generalize upd H11 t2 _ = H12 at e12 hR hO hl hgc hl' hrs ⊢
  refine ⟨two, fun ta ua => ⟨_, rfl, two, fun tb ub => ⟨_, rfl, two, fun tc uc => ⟨two, fun ld ud => ?_⟩⟩⟩⟩
  have n1 := qC ua (.tup [.int 0, .int 1])
  have n2 := qC ub (.tup [.ref ta, vr])
  have n3 := qC uc (.tup [vr, .int 24])
  have n4 := qC ud (.lst [.ref tb, .ref tc])
  have ed := qB (H := upd (upd (upd H12 ta (.tup [.int 0, .int 1])) tb (.tup [.ref ta, vr])) tc (.tup [vr, .int 24])) (a := ld) (o := .lst [.ref tb, .ref tc])
  have ec := n4 _ _ qB
  have eb := (n3.trans n4) _ _ qB
  have ea := (n2.trans (n3.trans n4)) _ _ qB
  have n := n1.trans (n2.trans (n3.trans n4))
  have hR := hR.same n
  have hO := hO.same n
  have hl := n _ _ hl
  have hgc := hgc.same n
  have hl' := n _ _ hl'
  have hrs := hrs.same n
  clear n1 n2 n3 n4 e12 n
  generalize upd (upd (upd (upd H12 ta _) tb _) tc _) ld _ = H13 at ea eb ec ed hR hO hl hgc hl' hrs ⊢
  refine ⟨ld, rfl, ⟨_, SqL.of ed⟩, qAd (K := K) (a := ld) (xs := [.ref tb, .ref tc]) (fun i' σ H' => ∃ (o : Option V), σ = [some (.ref z), some (.int c), some (.ref zx), some vr, some vo, some (.ref l), some (.ref l'), some vt, some (qGm (some i)), some (.ref t), o] ∧ Same H13 H')
    ⟨none, rfl, Same.refl _⟩ ?_ ?_ ?_⟩
  · rintro i' σ H' hi ⟨_, _, e⟩
    exact SqL.of (e _ _ ed)
  · rintro i' v σ H' hv ⟨o, rfl, e⟩
    have hR := hR.same e
    have hl' := e _ _ hl'
    have hrs := hrs.same e
    have hm := List.mem_of_getElem? hv
    simp only [List.mem_cons, List.not_mem_nil, or_false] at hm
    have fin : ∀ (t' : Addr) (H'' : Hp), Same H' H'' → Same H13 H'' := fun _ _ w => e.trans w
    rcases hm with rfl | rfl
    · have hb := SqT.of (K := K) (e _ _ eb)
      have b0 : RtB K H' (.ref ta) (decide ((0 : Int) < 0)) := .nums (e _ _ ea) (by decide) (by decide) (xz (by decide) (by decide)) (xz (by decide) (by decide))
      refine ⟨_, rfl, _, rfl, tb, _, _, _, rfl, rfl, hb, rfl, _, rfl, tb, _, _, _, rfl, rfl, hb, rfl, l', us', rs, _, _, rfl, hl', hrs, hrl, .inl ⟨_, true, b0, hR.rt, by decide, fun t' H'' w ht' => ⟨je, fun t3 ht3 => ?_⟩⟩⟩
      refine ⟨_, _, _, _, rfl, rfl, SqT.of ((qC ht3 _) _ _ ht'), SqT.of qB, rfl, rfl, _, rfl, xU (by rw [qGc]; rfl) ?_⟩
      exact ⟨_, rfl, e.trans (w.trans (qC ht3 _))⟩
    · have hb := SqT.of (K := K) (e _ _ ec)
      have b0 : RtB K H' (.int 24) false := .no (.no (.int _) (by kernel_rfl))
      refine ⟨_, rfl, _, rfl, tc, _, _, _, rfl, rfl, hb, rfl, _, rfl, tc, _, _, _, rfl, rfl, hb, rfl, l', us', rs, _, _, rfl, hl', hrs, hrl, .inl ⟨true, false, hR.rt, b0, by decide, fun t' H'' w ht' => ⟨je, fun t3 ht3 => ?_⟩⟩⟩
      refine ⟨_, _, _, _, rfl, rfl, SqT.of ((qC ht3 _) _ _ ht'), SqT.of qB, rfl, rfl, _, rfl, xU (by rw [qGc]; rfl) ?_⟩
      exact ⟨_, rfl, e.trans (w.trans (qC ht3 _))⟩
  · rintro σ H' ⟨o, rfl, e⟩
    refine ⟨_, rfl, _, rfl, _, rfl, l, us, gs, vr, vo, rfl, e _ _ hl, hgc.same e, hgl, .inr ⟨r0, r1, o0, o1, hR.same e, hO.same e, fun t' H'' w ht' => ⟨je, fun t3 ht3 => ?_⟩⟩⟩
    rw [hgood] at ht'
    refine ⟨_, _, _, _, rfl, rfl, SqT.of ((qC ht3 _) _ _ ht'), SqT.of qB, rfl, rfl, ?_⟩
    have e : xO (qDr none) [V.non, .bl false, .bl false] = true := qH1
    rw [e]
    exact kk _
end
theorem all_mk {l : W.OpenLaw} {w : World} {K : W.Frag} {h : Heap} {mg : Str → Option Value} {fa f0 f1 f2 f3 f4 f5 f6 f7 f8 f9 f10 f11 f12 f13 f14 f15 f16 f17 f18 f19 f20 f21 f22 f23 f24 f25 f26 f27 f28 f29 f30 f31 f32 f33 f34 f35 f36 f37 f38 f39 f40 C0 C1 C2 C3 nNOUGHT nONE nEND nGAP fmNoList : Addr} (X : K.In h) (G : h.Ns mainGlobals mg) (hfa : mg "law" = some (.ref fa))
    {od0 an0 od1 an1 od2 an2 od3 an3 od4 an4 od5 an5 od6 an6 od7 an7 od8 an8 od9 an9 od10 an10 od11 an11 od12 an12 od13 an13 od14 an14 od15 an15 od16 an16 od17 an17 od18 an18 od19 an19 od20 an20 od21 an21 od22 an22 od23 an23 od24 an24 od25 an25 od26 an26 od27 an27 od28 an28 od29 an29 od30 an30 od31 an31 od32 an32 od33 an33 od34 an34 od35 an35 od36 an36 od37 an37 od38 an38 od39 an39 od40 an40 odNOUGHT odONE odEND odGAP odmNoList anmNoList : Option Addr} {sl0 sl1 sl2 sl3 sl4 sl5 sl6 sl7 sl8 sl9 sl10 sl11 sl12 sl13 sl14 sl15 sl16 sl17 sl18 sl19 sl20 sl21 sl22 sl23 sl24 sl25 sl26 sl27 sl28 sl29 sl30 sl31 sl32 sl33 sl34 sl35 sl36 sl37 sl38 sl39 sl40 slNOUGHT slONE slEND slGAP slmNoList : Array (Option Value)} {oc0 kV0 dc0 pm0 cd0 ct0 oc1 kV1 dc1 pm1 cd1 ct1 oc2 kV2 dc2 pm2 cd2 ct2 oc3 kV3 dc3 pm3 cd3 ct3 oc4 kV4 dc4 pm4 cd4 ct4 oc5 kV5 dc5 pm5 cd5 ct5 oc6 kV6 dc6 pm6 cd6 ct6 oc7 kV7 dc7 pm7 cd7 ct7 oc8 kV8 dc8 pm8 cd8 ct8 oc9 kV9 dc9 pm9 cd9 ct9 oc10 kV10 dc10 pm10 cd10 ct10 oc11 kV11 dc11 pm11 cd11 ct11 oc12 kV12 dc12 pm12 cd12 ct12 oc13 kV13 dc13 pm13 cd13 ct13 oc14 kV14 dc14 pm14 cd14 ct14 oc15 kV15 dc15 pm15 cd15 ct15 oc16 kV16 dc16 pm16 cd16 ct16 oc17 kV17 dc17 pm17 cd17 ct17 oc18 kV18 dc18 pm18 cd18 ct18 oc19 kV19 dc19 pm19 cd19 ct19 oc20 kV20 dc20 pm20 cd20 ct20 oc21 kV21 dc21 pm21 cd21 ct21 oc22 kV22 dc22 pm22 cd22 ct22 oc23 kV23 dc23 pm23 cd23 ct23 oc24 kV24 dc24 pm24 cd24 ct24 oc25 kV25 dc25 pm25 cd25 ct25 oc26 kV26 dc26 pm26 cd26 ct26 oc27 kV27 dc27 pm27 cd27 ct27 oc28 kV28 dc28 pm28 cd28 ct28 oc29 kV29 dc29 pm29 cd29 ct29 oc30 kV30 dc30 pm30 cd30 ct30 oc31 kV31 dc31 pm31 cd31 ct31 oc32 kV32 dc32 pm32 cd32 ct32 oc33 kV33 dc33 pm33 cd33 ct33 oc34 kV34 dc34 pm34 cd34 ct34 oc35 kV35 dc35 pm35 cd35 ct35 oc36 kV36 dc36 pm36 cd36 ct36 oc37 kV37 dc37 pm37 cd37 ct37 oc38 kV38 dc38 pm38 cd38 ct38 oc39 kV39 dc39 pm39 cd39 ct39 oc40 kV40 dc40 pm40 cd40 ct40 ocmNoList kVmNoList dcmNoList pmmNoList cdmNoList ctmNoList : Value} {tLETTERS tLONGEST_NAME tNOUGHT_0 tNOUGHT_1 tONE_0 tONE_1 tEND_0 tGAP_0 : Tok} {nnNOUGHT nnONE nnEND nnGAP : Nat}
    (a0 : W.nsIn K mainGlobals "is_whole" = some (some (.ref f0))) (l0 : K.lookup f0 = some ⟨oc0, od0, .func (W.fnOf "is_whole" "is_whole" (qW j8) (qS j8) (qG j8) .none kV0 dc0 pm0 an0 cd0 ct0), sl0⟩) (c0 : W.codeIn K cd0 "is_whole" = true) (k0 : W.keepIn K (.ref f0) = true)
    (a1 : W.nsIn K mainGlobals "common_divisor" = some (some (.ref f1))) (l1 : K.lookup f1 = some ⟨oc1, od1, .func (W.fnOf "common_divisor" "common_divisor" (qW jE) (qS jE) (qG jE) .none kV1 dc1 pm1 an1 cd1 ct1), sl1⟩) (c1 : W.codeIn K cd1 "common_divisor" = true) (k1 : W.keepIn K (.ref f1) = true)
    (a2 : W.nsIn K mainGlobals "is_fraction" = some (some (.ref f2))) (l2 : K.lookup f2 = some ⟨oc2, od2, .func (W.fnOf "is_fraction" "is_fraction" (qW jZ) (qS jZ) (qG jZ) .none kV2 dc2 pm2 an2 cd2 ct2), sl2⟩) (c2 : W.codeIn K cd2 "is_fraction" = true) (k2 : W.keepIn K (.ref f2) = true)
    (a3 : W.nsIn K mainGlobals "fraction" = some (some (.ref f3))) (l3 : K.lookup f3 = some ⟨oc3, od3, .func (W.fnOf "fraction" "fraction" (qW j6) (qS j6) (qG j6) .none kV3 dc3 pm3 an3 cd3 ct3), sl3⟩) (c3 : W.codeIn K cd3 "fraction" = true) (k3 : W.keepIn K (.ref f3) = true)
    (a4 : W.nsIn K mainGlobals "sum_of" = some (some (.ref f4))) (l4 : K.lookup f4 = some ⟨oc4, od4, .func (W.fnOf "sum_of" "sum_of" (qW xq) (qS xq) (qG xq) .none kV4 dc4 pm4 an4 cd4 ct4), sl4⟩) (c4 : W.codeIn K cd4 "sum_of" = true) (k4 : W.keepIn K (.ref f4) = true)
    (a5 : W.nsIn K mainGlobals "times_of" = some (some (.ref f5))) (l5 : K.lookup f5 = some ⟨oc5, od5, .func (W.fnOf "times_of" "times_of" (qW j7) (qS j7) (qG j7) .none kV5 dc5 pm5 an5 cd5 ct5), sl5⟩) (c5 : W.codeIn K cd5 "times_of" = true) (k5 : W.keepIn K (.ref f5) = true)
    (a6 : W.nsIn K mainGlobals "quotient" = some (some (.ref f6))) (l6 : K.lookup f6 = some ⟨oc6, od6, .func (W.fnOf "quotient" "quotient" (qW xA) (qS xA) (qG xA) .none kV6 dc6 pm6 an6 cd6 ct6), sl6⟩) (c6 : W.codeIn K cd6 "quotient" = true) (k6 : W.keepIn K (.ref f6) = true)
    (a7 : W.nsIn K mainGlobals "is_before" = some (some (.ref f7))) (l7 : K.lookup f7 = some ⟨oc7, od7, .func (W.fnOf "is_before" "is_before" (qW jv) (qS jv) (qG jv) .none kV7 dc7 pm7 an7 cd7 ct7), sl7⟩) (c7 : W.codeIn K cd7 "is_before" = true) (k7 : W.keepIn K (.ref f7) = true)
    (a8 : W.nsIn K mainGlobals "floor_of" = some (some (.ref f8))) (l8 : K.lookup f8 = some ⟨oc8, od8, .func (W.fnOf "floor_of" "floor_of" (qW j9) (qS j9) (qG j9) .none kV8 dc8 pm8 an8 cd8 ct8), sl8⟩) (c8 : W.codeIn K cd8 "floor_of" = true) (k8 : W.keepIn K (.ref f8) = true)
    (a9 : W.nsIn K mainGlobals "rest_of" = some (some (.ref f9))) (l9 : K.lookup f9 = some ⟨oc9, od9, .func (W.fnOf "rest_of" "rest_of" (qW xS) (qS xS) (qG xS) .none kV9 dc9 pm9 an9 cd9 ct9), sl9⟩) (c9 : W.codeIn K cd9 "rest_of" = true) (k9 : W.keepIn K (.ref f9) = true)
    (a10 : W.nsIn K mainGlobals "is_name" = some (some (.ref f10))) (l10 : K.lookup f10 = some ⟨oc10, od10, .func (W.fnOf "is_name" "is_name" (qW xR) (qS xR) (qG xR) .none kV10 dc10 pm10 an10 cd10 ct10), sl10⟩) (c10 : W.codeIn K cd10 "is_name" = true) (k10 : W.keepIn K (.ref f10) = true)
    (a11 : W.nsIn K mainGlobals "has_clip_form" = some (some (.ref f11))) (l11 : K.lookup f11 = some ⟨oc11, od11, .func (W.fnOf "has_clip_form" "has_clip_form" (qW jK) (qS jK) (qG jK) .none kV11 dc11 pm11 an11 cd11 ct11), sl11⟩) (c11 : W.codeIn K cd11 "has_clip_form" = true) (k11 : W.keepIn K (.ref f11) = true)
    (a12 : W.nsIn K mainGlobals "is_length" = some (some (.ref f12))) (l12 : K.lookup f12 = some ⟨oc12, od12, .func (W.fnOf "is_length" "is_length" (qW jw) (qS jw) (qG jw) .none kV12 dc12 pm12 an12 cd12 ct12), sl12⟩) (c12 : W.codeIn K cd12 "is_length" = true) (k12 : W.keepIn K (.ref f12) = true)
    (a13 : W.nsIn K mainGlobals "has_nest_form" = some (some (.ref f13))) (l13 : K.lookup f13 = some ⟨oc13, od13, .func (W.fnOf "has_nest_form" "has_nest_form" (qW jJ) (qS jJ) (qG jJ) .none kV13 dc13 pm13 an13 cd13 ct13), sl13⟩) (c13 : W.codeIn K cd13 "has_nest_form" = true) (k13 : W.keepIn K (.ref f13) = true)
    (a14 : W.nsIn K mainGlobals "has_gap_or_mix_form" = some (some (.ref f14))) (l14 : K.lookup f14 = some ⟨oc14, od14, .func (W.fnOf "has_gap_or_mix_form" "has_gap_or_mix_form" (qW qk) (qS qk) (qG qk) .none kV14 dc14 pm14 an14 cd14 ct14), sl14⟩) (c14 : W.codeIn K cd14 "has_gap_or_mix_form" = true) (k14 : W.keepIn K (.ref f14) = true)
    (a15 : W.nsIn K mainGlobals "moments_of" = some (some (.ref f15))) (l15 : K.lookup f15 = some ⟨oc15, od15, .func (W.fnOf "moments_of" "moments_of" (qW jh) (qS jh) (qG jh) .none kV15 dc15 pm15 an15 cd15 ct15), sl15⟩) (c15 : W.codeIn K cd15 "moments_of" = true) (k15 : W.keepIn K (.ref f15) = true)
    (a16 : W.nsIn K mainGlobals "is_rate" = some (some (.ref f16))) (l16 : K.lookup f16 = some ⟨oc16, od16, .func (W.fnOf "is_rate" "is_rate" (qW xQ) (qS xQ) (qG xQ) .none kV16 dc16 pm16 an16 cd16 ct16), sl16⟩) (c16 : W.codeIn K cd16 "is_rate" = true) (k16 : W.keepIn K (.ref f16) = true)
    (a17 : W.nsIn K mainGlobals "check_rates" = some (some (.ref f17))) (l17 : K.lookup f17 = some ⟨oc17, od17, .func (W.fnOf "check_rates" "check_rates" (qW jY) (qS jY) (qG jY) .none kV17 dc17 pm17 an17 cd17 ct17), sl17⟩) (c17 : W.codeIn K cd17 "check_rates" = true) (k17 : W.keepIn K (.ref f17) = true)
    (a18 : W.nsIn K mainGlobals "without_length" = some (some (.ref f18))) (l18 : K.lookup f18 = some ⟨oc18, od18, .func (W.fnOf "without_length" "without_length" (qW jD) (qS jD) (qG jD) .none kV18 dc18 pm18 an18 cd18 ct18), sl18⟩) (c18 : W.codeIn K cd18 "without_length" = true) (k18 : W.keepIn K (.ref f18) = true)
    (a19 : W.nsIn K mainGlobals "row_at" = some (some (.ref f19))) (l19 : K.lookup f19 = some ⟨oc19, od19, .func (W.fnOf "row_at" "row_at" (qW xt) (qS xt) (qG xt) .none kV19 dc19 pm19 an19 cd19 ct19), sl19⟩) (c19 : W.codeIn K cd19 "row_at" = true) (k19 : W.keepIn K (.ref f19) = true)
    (a20 : W.nsIn K mainGlobals "written" = some (some (.ref f20))) (l20 : K.lookup f20 = some ⟨oc20, od20, .func (W.fnOf "written" "written" (qW xK) (qS xK) (qG xK) .none kV20 dc20 pm20 an20 cd20 ct20), sl20⟩) (c20 : W.codeIn K cd20 "written" = true) (k20 : W.keepIn K (.ref f20) = true)
    (a21 : W.nsIn K mainGlobals "is_what" = some (some (.ref f21))) (l21 : K.lookup f21 = some ⟨oc21, od21, .func (W.fnOf "is_what" "is_what" (qW xM) (qS xM) (qG xM) .none kV21 dc21 pm21 an21 cd21 ct21), sl21⟩) (c21 : W.codeIn K cd21 "is_what" = true) (k21 : W.keepIn K (.ref f21) = true)
    (a22 : W.nsIn K mainGlobals "has_row_form" = some (some (.ref f22))) (l22 : K.lookup f22 = some ⟨oc22, od22, .func (W.fnOf "has_row_form" "has_row_form" (qW jN) (qS jN) (qG jN) .none kV22 dc22 pm22 an22 cd22 ct22), sl22⟩) (c22 : W.codeIn K cd22 "has_row_form" = true) (k22 : W.keepIn K (.ref f22) = true)
    (a23 : W.nsIn K mainGlobals "may_follow" = some (some (.ref f23))) (l23 : K.lookup f23 = some ⟨oc23, od23, .func (W.fnOf "may_follow" "may_follow" (qW jj) (qS jj) (qG jj) .none kV23 dc23 pm23 an23 cd23 ct23), sl23⟩) (c23 : W.codeIn K cd23 "may_follow" = true) (k23 : W.keepIn K (.ref f23) = true)
    (a24 : W.nsIn K mainGlobals "lies_right" = some (some (.ref f24))) (l24 : K.lookup f24 = some ⟨oc24, od24, .func (W.fnOf "lies_right" "lies_right" (qW ji) (qS ji) (qG ji) .none kV24 dc24 pm24 an24 cd24 ct24), sl24⟩) (c24 : W.codeIn K cd24 "lies_right" = true) (k24 : W.keepIn K (.ref f24) = true)
    (a25 : W.nsIn K mainGlobals "borders_read" = some (some (.ref f25))) (l25 : K.lookup f25 = some ⟨oc25, od25, .func (W.fnOf "borders_read" "borders_read" (qW jP) (qS jP) (qG jP) .none kV25 dc25 pm25 an25 cd25 ct25), sl25⟩) (c25 : W.codeIn K cd25 "borders_read" = true) (k25 : W.keepIn K (.ref f25) = true)
    (a26 : W.nsIn K mainGlobals "read_back" = some (some (.ref f26))) (l26 : K.lookup f26 = some ⟨oc26, od26, .func (W.fnOf "read_back" "read_back" (qW jt) (qS jt) (qG jt) .none kV26 dc26 pm26 an26 cd26 ct26), sl26⟩) (c26 : W.codeIn K cd26 "read_back" = true) (k26 : W.keepIn K (.ref f26) = true)
    (a27 : W.nsIn K mainGlobals "_law_cell_at" = some (some (.ref f27))) (l27 : K.lookup f27 = some ⟨oc27, od27, .func (W.fnOf "_law_cell_at" "_law_cell_at" (qW jO) (qS jO) (qG jO) .none kV27 dc27 pm27 an27 cd27 ct27), sl27⟩) (c27 : W.codeIn K cd27 "_law_cell_at" = true) (k27 : W.keepIn K (.ref f27) = true)
    (a28 : W.nsIn K mainGlobals "_law_drawn" = some (some (.ref f28))) (l28 : K.lookup f28 = some ⟨oc28, od28, .func (W.fnOf "_law_drawn" "_law_drawn" (qW jg) (qS jg) (qG jg) .none kV28 dc28 pm28 an28 cd28 ct28), sl28⟩) (c28 : W.codeIn K cd28 "_law_drawn" = true) (k28 : W.keepIn K (.ref f28) = true)
    (a29 : W.nsIn K mainGlobals "_law_part" = some (some (.ref f29))) (l29 : K.lookup f29 = some ⟨oc29, od29, .func (W.fnOf "_law_part" "_law_part" (qW jz) (qS jz) (qG jz) .none kV29 dc29 pm29 an29 cd29 ct29), sl29⟩) (c29 : W.codeIn K cd29 "_law_part" = true) (k29 : W.keepIn K (.ref f29) = true)
    (a30 : W.nsIn K mainGlobals "_law_track" = some (some (.ref f30))) (l30 : K.lookup f30 = some ⟨oc30, od30, .func (W.fnOf "_law_track" "_law_track" (qW jf) (qS jf) (qG jf) .none kV30 dc30 pm30 an30 cd30 ct30), sl30⟩) (c30 : W.codeIn K cd30 "_law_track" = true) (k30 : W.keepIn K (.ref f30) = true)
    (a31 : W.nsIn K mainGlobals "_law_rate" = some (some (.ref f31))) (l31 : K.lookup f31 = some ⟨oc31, od31, .func (W.fnOf "_law_rate" "_law_rate" (qW j0) (qS j0) (qG j0) .none kV31 dc31 pm31 an31 cd31 ct31), sl31⟩) (c31 : W.codeIn K cd31 "_law_rate" = true) (k31 : W.keepIn K (.ref f31) = true)
    (a32 : W.nsIn K mainGlobals "_law_spoiled" = some (some (.ref f32))) (l32 : K.lookup f32 = some ⟨oc32, od32, .func (W.fnOf "_law_spoiled" "_law_spoiled" (qW jR) (qS jR) (qG jR) .none kV32 dc32 pm32 an32 cd32 ct32), sl32⟩) (c32 : W.codeIn K cd32 "_law_spoiled" = true) (k32 : W.keepIn K (.ref f32) = true)
    (a33 : W.nsIn K mainGlobals "_law_changed" = some (some (.ref f33))) (l33 : K.lookup f33 = some ⟨oc33, od33, .func (W.fnOf "_law_changed" "_law_changed" (qW jQ) (qS jQ) (qG jQ) .none kV33 dc33 pm33 an33 cd33 ct33), sl33⟩) (c33 : W.codeIn K cd33 "_law_changed" = true) (k33 : W.keepIn K (.ref f33) = true)
    (a34 : W.nsIn K mainGlobals "_law_said" = some (some (.ref f34))) (l34 : K.lookup f34 = some ⟨oc34, od34, .func (W.fnOf "_law_said" "_law_said" (qW jr) (qS jr) (qG jr) .none kV34 dc34 pm34 an34 cd34 ct34), sl34⟩) (c34 : W.codeIn K cd34 "_law_said" = true) (k34 : W.keepIn K (.ref f34) = true)
    (a35 : W.nsIn K mainGlobals "_law_lowest" = some (some (.ref f35))) (l35 : K.lookup f35 = some ⟨oc35, od35, .func (W.fnOf "_law_lowest" "_law_lowest" (qW jb) (qS jb) (qG jb) .none kV35 dc35 pm35 an35 cd35 ct35), sl35⟩) (c35 : W.codeIn K cd35 "_law_lowest" = true) (k35 : W.keepIn K (.ref f35) = true)
    (a36 : W.nsIn K mainGlobals "_law_border" = some (some (.ref f36))) (l36 : K.lookup f36 = some ⟨oc36, od36, .func (W.fnOf "_law_border" "_law_border" (qW jX) (qS jX) (qG jX) .none kV36 dc36 pm36 an36 cd36 ct36), sl36⟩) (c36 : W.codeIn K cd36 "_law_border" = true) (k36 : W.keepIn K (.ref f36) = true)
    (a37 : W.nsIn K mainGlobals "_law_stands" = some (some (.ref f37))) (l37 : K.lookup f37 = some ⟨oc37, od37, .func (W.fnOf "_law_stands" "_law_stands" (qW ja) (qS ja) (qG ja) .none kV37 dc37 pm37 an37 cd37 ct37), sl37⟩) (c37 : W.codeIn K cd37 "_law_stands" = true) (k37 : W.keepIn K (.ref f37) = true)
    (a38 : W.nsIn K mainGlobals "_law_first_wrong" = some (some (.ref f38))) (l38 : K.lookup f38 = some ⟨oc38, od38, .func (W.fnOf "_law_first_wrong" "_law_first_wrong" (qW qt) (qS qt) (qG qt) .none kV38 dc38 pm38 an38 cd38 ct38), sl38⟩) (c38 : W.codeIn K cd38 "_law_first_wrong" = true) (k38 : W.keepIn K (.ref f38) = true)
    (a39 : W.nsIn K mainGlobals "_law_told" = some (some (.ref f39))) (l39 : K.lookup f39 = some ⟨oc39, od39, .func (W.fnOf "_law_told" "_law_told" (qW jx) (qS jx) (qG jx) .none kV39 dc39 pm39 an39 cd39 ct39), sl39⟩) (c39 : W.codeIn K cd39 "_law_told" = true) (k39 : W.keepIn K (.ref f39) = true)
    (a40 : W.nsIn K mainGlobals "law" = some (some (.ref f40))) (l40 : K.lookup f40 = some ⟨oc40, od40, .func (W.fnOf "law" "law" (qW vR) (qS vR) (qG vR) .none kV40 dc40 pm40 an40 cd40 ct40), sl40⟩) (c40 : W.codeIn K cd40 "law" = true) (k40 : W.keepIn K (.ref f40) = true)
    (xg0 : W.nsIn K mainGlobals "CutError" = some (some (.ref C0)))
    (xg1 : W.nsIn K mainGlobals "NoNumber" = some (some (.ref C1)))
    (xg2 : W.nsIn K mainGlobals "NoText" = some (some (.ref C2)))
    (xg3 : W.nsIn K mainGlobals "NoList" = some (some (.ref C3)))
    (x_NoNumber : L3.OwnX K C1)
    (e_NoList : L3.ExcK K C3)
    (m_NN : W.exmOne K (.ref C1) (.ref C1) = some true)
    (m_LN : W.exmOne K (.ref C3) (.ref C1) = some false)
    (m_LL : W.exmOne K (.ref C3) (.ref C3) = some true)
    (i_LT : W.kitOne K (.ref C3) (.ref C2) = some false)
    (i_LC : W.kitOne K (.ref C3) (.ref C0) = some true)
    (f_at : W.findIn K (.ref C3) "at" = some none)
    (xz0 : W.nsIn K mainGlobals "isinstance" = some none)
    (xz1 : W.nsIn K mainGlobals "int" = some none)
    (xz2 : W.nsIn K mainGlobals "bool" = some none)
    (xz3 : W.nsIn K mainGlobals "abs" = some none)
    (xz4 : W.nsIn K mainGlobals "tuple" = some none)
    (xz5 : W.nsIn K mainGlobals "len" = some none)
    (xz6 : W.nsIn K mainGlobals "all" = some none)
    (xz7 : W.nsIn K mainGlobals "str" = some none)
    (xz8 : W.nsIn K mainGlobals "enumerate" = some none)
    (xz9 : W.nsIn K mainGlobals "range" = some none)
    (xz10 : W.nsIn K mainGlobals "list" = some none)
    (xcLETTERS : W.nsIn K mainGlobals "LETTERS" = some (some (.str "abcdefghijklmnopqrstuvwxyz" tLETTERS)))
    (xcLONGEST_NAME : W.nsIn K mainGlobals "LONGEST_NAME" = some (some (.int 8 tLONGEST_NAME)))
    (xcNOUGHT : W.nsIn K mainGlobals "NOUGHT" = some (some (.ref nNOUGHT))) (xlNOUGHT : K.lookup nNOUGHT = some ⟨.type "tuple", odNOUGHT, .seq #[.int 0 tNOUGHT_0, .int 1 tNOUGHT_1] nnNOUGHT, slNOUGHT⟩)
    (xcONE : W.nsIn K mainGlobals "ONE" = some (some (.ref nONE))) (xlONE : K.lookup nONE = some ⟨.type "tuple", odONE, .seq #[.int 1 tONE_0, .int 1 tONE_1] nnONE, slONE⟩)
    (xcEND : W.nsIn K mainGlobals "END" = some (some (.ref nEND))) (xlEND : K.lookup nEND = some ⟨.type "tuple", odEND, .seq #[.str "end" tEND_0] nnEND, slEND⟩)
    (xcGAP : W.nsIn K mainGlobals "GAP" = some (some (.ref nGAP))) (xlGAP : K.lookup nGAP = some ⟨.type "tuple", odGAP, .seq #[.str "gap" tGAP_0] nnGAP, slGAP⟩)
    (iaNoList : W.findIn K (.ref C3) "__init__" = some (some (.ref fmNoList))) (ilNoList : K.lookup fmNoList = some ⟨ocmNoList, odmNoList, .func (W.fnOf "__init__" "NoList.__init__" (qW xN) (qS xN) (qG xN) .none kVmNoList dcmNoList pmmNoList anmNoList cdmNoList ctmNoList), slmNoList⟩) (icNoList : W.codeIn K cdmNoList "NoList.__init__" = true) (ikNoList : W.keepIn K (.ref fmNoList) = true) (ifNoList : W.isFn K (.ref fmNoList) = true)
    (ivNoList : L3.exOver K C3 C0 = true) (ihNoList : W.hasDictIn K C3 = true) (isNoList : W.findIn K (.ref C3) "__setattr__" = some (some (.builtin "object.__setattr__"))) (ixNoList : L3.excInitIn K C3 fmNoList = true) (itNoList : W.takerIn K C3 "at" = some none)
    : ∃ fd : FuncData, (∀ (s : Shared) (v : Value), BindsTo s fd ⟨[v], []⟩ [("_law_script", v)]) ∧ ∀ base : Heap, K.In base → base.Ns mainGlobals mg → FnOk l.prog w K mg base CX0 12 fa fd ["_law_script"] (qDp K) := by
  have e := hfa.symm.trans (W.mg_of X G a40)
  obtain rfl : f40 = fa := by cases e; rfl
  have F0 := qi (st := j8) l0 c0 k0
  have b0 := F0.binds (ps := ["x"]) fun _ _ _ _ _ _ us hl => match us, hl with | [_], _ => rfl
  have F1 := qi (st := jE) l1 c1 k1
  have b1 := F1.binds (ps := ["one", "other"]) fun _ _ _ _ _ _ us hl => match us, hl with | [_, _], _ => rfl
  have F2 := qi (st := jZ) l2 c2 k2
  have b2 := F2.binds (ps := ["x"]) fun _ _ _ _ _ _ us hl => match us, hl with | [_], _ => rfl
  have F3 := qi (st := j6) l3 c3 k3
  have b3 := F3.binds (ps := ["top", "bottom"]) fun _ _ _ _ _ _ us hl => match us, hl with | [_, _], _ => rfl
  have F4 := qi (st := xq) l4 c4 k4
  have b4 := F4.binds (ps := ["one", "other"]) fun _ _ _ _ _ _ us hl => match us, hl with | [_, _], _ => rfl
  have F5 := qi (st := j7) l5 c5 k5
  have b5 := F5.binds (ps := ["one", "other"]) fun _ _ _ _ _ _ us hl => match us, hl with | [_, _], _ => rfl
  have F6 := qi (st := xA) l6 c6 k6
  have b6 := F6.binds (ps := ["one", "other"]) fun _ _ _ _ _ _ us hl => match us, hl with | [_, _], _ => rfl
  have F7 := qi (st := jv) l7 c7 k7
  have b7 := F7.binds (ps := ["one", "other"]) fun _ _ _ _ _ _ us hl => match us, hl with | [_, _], _ => rfl
  have F8 := qi (st := j9) l8 c8 k8
  have b8 := F8.binds (ps := ["one"]) fun _ _ _ _ _ _ us hl => match us, hl with | [_], _ => rfl
  have F9 := qi (st := xS) l9 c9 k9
  have b9 := F9.binds (ps := ["one"]) fun _ _ _ _ _ _ us hl => match us, hl with | [_], _ => rfl
  have F10 := qi (st := xR) l10 c10 k10
  have b10 := F10.binds (ps := ["thing"]) fun _ _ _ _ _ _ us hl => match us, hl with | [_], _ => rfl
  have F11 := qi (st := jK) l11 c11 k11
  have b11 := F11.binds (ps := ["item"]) fun _ _ _ _ _ _ us hl => match us, hl with | [_], _ => rfl
  have F12 := qi (st := jw) l12 c12 k12
  have b12 := F12.binds (ps := ["thing"]) fun _ _ _ _ _ _ us hl => match us, hl with | [_], _ => rfl
  have F13 := qi (st := jJ) l13 c13 k13
  have b13 := F13.binds (ps := ["item"]) fun _ _ _ _ _ _ us hl => match us, hl with | [_], _ => rfl
  have F14 := qi (st := qk) l14 c14 k14
  have b14 := F14.binds (ps := ["item"]) fun _ _ _ _ _ _ us hl => match us, hl with | [_], _ => rfl
  have F15 := qi (st := jh) l15 c15 k15
  have b15 := F15.binds (ps := ["item"]) fun _ _ _ _ _ _ us hl => match us, hl with | [_], _ => rfl
  have F16 := qi (st := xQ) l16 c16 k16
  have b16 := F16.binds (ps := ["thing"]) fun _ _ _ _ _ _ us hl => match us, hl with | [_], _ => rfl
  have F17 := qi (st := jY) l17 c17 k17
  have b17 := F17.binds (ps := ["rate", "other"]) fun _ _ _ _ _ _ us hl => match us, hl with | [_, _], _ => rfl
  have F18 := qi (st := jD) l18 c18 k18
  have b18 := F18.binds (ps := ["item"]) fun _ _ _ _ _ _ us hl => match us, hl with | [_], _ => rfl
  have F19 := qi (st := xt) l19 c19 k19
  have b19 := F19.binds (ps := ["border", "by", "what"]) fun _ _ _ _ _ _ us hl => match us, hl with | [_, _, _], _ => rfl
  have F20 := qi (st := xK) l20 c20 k20
  have b20 := F20.binds (ps := ["track", "rate", "other"]) fun _ _ _ _ _ _ us hl => match us, hl with | [_, _, _], _ => rfl
  have F21 := qi (st := xM) l21 c21 k21
  have b21 := F21.binds (ps := ["what"]) fun _ _ _ _ _ _ us hl => match us, hl with | [_], _ => rfl
  have F22 := qi (st := jN) l22 c22 k22
  have b22 := F22.binds (ps := ["row"]) fun _ _ _ _ _ _ us hl => match us, hl with | [_], _ => rfl
  have F23 := qi (st := jj) l23 c23 k23
  have b23 := F23.binds (ps := ["kind", "ahead"]) fun _ _ _ _ _ _ us hl => match us, hl with | [_, _], _ => rfl
  have F24 := qi (st := ji) l24 c24 k24
  have b24 := F24.binds (ps := ["border", "borders", "ahead"]) fun _ _ _ _ _ _ us hl => match us, hl with | [_, _, _], _ => rfl
  have F25 := qi (st := jP) l25 c25 k25
  have b25 := F25.binds (ps := ["rows", "rate", "other"]) fun _ _ _ _ _ _ us hl => match us, hl with | [_, _, _], _ => rfl
  have F26 := qi (st := jt) l26 c26 k26
  have b26 := F26.binds (ps := ["rows", "rate", "other"]) fun _ _ _ _ _ _ us hl => match us, hl with | [_, _, _], _ => rfl
  have F27 := qi (st := jO) l27 c27 k27
  have b27 := F27.binds (ps := ["_law_script", "_law_k"]) fun _ _ _ _ _ _ us hl => match us, hl with | [_, _], _ => rfl
  have F28 := qi (st := jg) l28 c28 k28
  have b28 := F28.binds (ps := ["_law_number", "_law_many"]) fun _ _ _ _ _ _ us hl => match us, hl with | [_, _], _ => rfl
  have F29 := qi (st := jz) l29 c29 k29
  have b29 := F29.binds (ps := ["_law_x", "_law_cell"]) fun _ _ _ _ _ _ us hl => match us, hl with | [_, _], _ => rfl
  have F30 := qi (st := jf) l30 c30 k30
  have b30 := F30.binds (ps := ["_law_cells"]) fun _ _ _ _ _ _ us hl => match us, hl with | [_], _ => rfl
  have F31 := qi (st := j0) l31 c31 k31
  have b31 := F31.binds (ps := ["_law_x"]) fun _ _ _ _ _ _ us hl => match us, hl with | [_], _ => rfl
  have F32 := qi (st := jR) l32 c32 k32
  have b32 := F32.binds (ps := ["_law_row", "_law_x"]) fun _ _ _ _ _ _ us hl => match us, hl with | [_, _], _ => rfl
  have F33 := qi (st := jQ) l33 c33 k33
  have b33 := F33.binds (ps := ["_law_rows", "_law_x", "_law_y"]) fun _ _ _ _ _ _ us hl => match us, hl with | [_, _, _], _ => rfl
  have F34 := qi (st := jr) l34 c34 k34
  have b34 := F34.binds (ps := ["_law_what"]) fun _ _ _ _ _ _ us hl => match us, hl with | [_], _ => rfl
  have F35 := qi (st := jb) l35 c35 k35
  have b35 := F35.binds (ps := ["_law_one"]) fun _ _ _ _ _ _ us hl => match us, hl with | [_], _ => rfl
  have F36 := qi (st := jX) l36 c36 k36
  have b36 := F36.binds (ps := ["_law_row", "_law_rate_here", "_law_other"]) fun _ _ _ _ _ _ us hl => match us, hl with | [_, _, _], _ => rfl
  have F37 := qi (st := ja) l37 c37 k37
  have b37 := F37.binds (ps := ["_law_now", "_law_word", "_law_border_here", "_law_ahead"]) fun _ _ _ _ _ _ us hl => match us, hl with | [_, _, _, _], _ => rfl
  have F38 := qi (st := qt) l38 c38 k38
  have b38 := F38.binds (ps := ["_law_rows", "_law_rate_here", "_law_other"]) fun _ _ _ _ _ _ us hl => match us, hl with | [_, _, _], _ => rfl
  have F39 := qi (st := jx) l39 c39 k39
  have b39 := F39.binds (ps := ["_law_rows", "_law_rate_here", "_law_other"]) fun _ _ _ _ _ _ us hl => match us, hl with | [_, _, _], _ => rfl
  have F40 := qi (st := vR) l40 c40 k40
  have b40 := F40.binds (ps := ["_law_script"]) fun _ _ _ _ _ _ us hl => match us, hl with | [_], _ => rfl
  have FmNoList := qi (st := xN) ilNoList icNoList ikNoList
  have bmNoList := FmNoList.binds (ps := ["self", "at"]) fun _ _ _ _ _ _ us hl => match us, hl with | [_, _], _ => rfl
  have T : Tx K mg ⟨f0, _, f1, _, f2, _, f3, _, f4, _, f5, _, f6, _, f7, _, f8, _, f9, _, f10, _, f11, _, f12, _, f13, _, f14, _, f15, _, f16, _, f17, _, f18, _, f19, _, f20, _, f21, _, f22, _, f23, _, f24, _, f25, _, f26, _, f27, _, f28, _, f29, _, f30, _, f31, _, f32, _, f33, _, f34, _, f35, _, f36, _, f37, _, f38, _, f39, _, f40, _, C0, C1, C2, C3, tLETTERS, tLONGEST_NAME, nNOUGHT, nONE, nEND, nGAP, fmNoList, _⟩ := ⟨⟨F0, b0, W.mg_of X G a0⟩, ⟨F1, b1, W.mg_of X G a1⟩, ⟨F2, b2, W.mg_of X G a2⟩, ⟨F3, b3, W.mg_of X G a3⟩, ⟨F4, b4, W.mg_of X G a4⟩, ⟨F5, b5, W.mg_of X G a5⟩, ⟨F6, b6, W.mg_of X G a6⟩, ⟨F7, b7, W.mg_of X G a7⟩, ⟨F8, b8, W.mg_of X G a8⟩, ⟨F9, b9, W.mg_of X G a9⟩, ⟨F10, b10, W.mg_of X G a10⟩, ⟨F11, b11, W.mg_of X G a11⟩, ⟨F12, b12, W.mg_of X G a12⟩, ⟨F13, b13, W.mg_of X G a13⟩, ⟨F14, b14, W.mg_of X G a14⟩, ⟨F15, b15, W.mg_of X G a15⟩, ⟨F16, b16, W.mg_of X G a16⟩, ⟨F17, b17, W.mg_of X G a17⟩, ⟨F18, b18, W.mg_of X G a18⟩, ⟨F19, b19, W.mg_of X G a19⟩, ⟨F20, b20, W.mg_of X G a20⟩, ⟨F21, b21, W.mg_of X G a21⟩, ⟨F22, b22, W.mg_of X G a22⟩, ⟨F23, b23, W.mg_of X G a23⟩, ⟨F24, b24, W.mg_of X G a24⟩, ⟨F25, b25, W.mg_of X G a25⟩, ⟨F26, b26, W.mg_of X G a26⟩, ⟨F27, b27, W.mg_of X G a27⟩, ⟨F28, b28, W.mg_of X G a28⟩, ⟨F29, b29, W.mg_of X G a29⟩, ⟨F30, b30, W.mg_of X G a30⟩, ⟨F31, b31, W.mg_of X G a31⟩, ⟨F32, b32, W.mg_of X G a32⟩, ⟨F33, b33, W.mg_of X G a33⟩, ⟨F34, b34, W.mg_of X G a34⟩, ⟨F35, b35, W.mg_of X G a35⟩, ⟨F36, b36, W.mg_of X G a36⟩, ⟨F37, b37, W.mg_of X G a37⟩, ⟨F38, b38, W.mg_of X G a38⟩, ⟨F39, b39, W.mg_of X G a39⟩, ⟨F40, b40, W.mg_of X G a40⟩, W.mg_of X G xg0, W.mg_of X G xg1, W.mg_of X G xg2, W.mg_of X G xg3, W.mg_none_of X G xz0, W.mg_none_of X G xz1, W.mg_none_of X G xz2, W.mg_none_of X G xz3, W.mg_none_of X G xz4, W.mg_none_of X G xz5, W.mg_none_of X G xz6, W.mg_none_of X G xz7, W.mg_none_of X G xz8, W.mg_none_of X G xz9, W.mg_none_of X G xz10, W.mg_of X G xcLETTERS, W.mg_of X G xcLONGEST_NAME, W.mg_of X G xcNOUGHT, fun H => .inr ⟨_, _, _, xlNOUGHT, rfl, rfl, by show 2 ≤ sizeLine; decide, .cons ⟨_, rfl⟩ (.cons ⟨_, rfl⟩ (.nil))⟩, W.mg_of X G xcONE, fun H => .inr ⟨_, _, _, xlONE, rfl, rfl, by show 2 ≤ sizeLine; decide, .cons ⟨_, rfl⟩ (.cons ⟨_, rfl⟩ (.nil))⟩, W.mg_of X G xcEND, fun H => .inr ⟨_, _, _, xlEND, rfl, rfl, by show 1 ≤ sizeLine; decide, .cons ⟨_, rfl⟩ (.nil)⟩, W.mg_of X G xcGAP, fun H => .inr ⟨_, _, _, xlGAP, rfl, rfl, by show 1 ≤ sizeLine; decide, .cons ⟨_, rfl⟩ (.nil)⟩, x_NoNumber, e_NoList, m_NN, m_LN, m_LL, i_LT, i_LC, f_at, FmNoList, bmNoList, ⟨ivNoList, ihNoList, isNoList, ixNoList, ifNoList⟩, itNoList⟩
  exact ⟨W.fnOf "law" "law" (qW vR) (qS vR) (qG vR) .none kV40 dc40 pm40 an40 cd40 ct40, fun s v => .of_eq rfl, fun base _ _ => qFn T⟩
theorem walk {l : W.OpenLaw} {q : Program} {loose : List Str} {XP : (Str → Option Value) → Heap → Prop} {YP : World → Heap → Prop} {d : DefRec} {K : Params → W.Frag} (hn : l.most = some 63) (hdf : d.params.defaults = [])
    (hY : ∀ (w : World) (h : Heap), YP w h → (K w.params).In h)
    (F : ∀ (w : World) (mg : Str → Option Value) (fa : Addr) (h : Heap), (K w.params).In h → h.Ns mainGlobals mg → mg d.name = some (.ref fa) →
      ∃ fd : FuncData, (∀ (s : Shared) (u : Value), BindsTo s fd ⟨[u], []⟩ [("_law_script", u)]) ∧ ∀ base : Heap, (K w.params).In base → base.Ns mainGlobals mg → FnOk l.prog w (K w.params) mg base CX0 12 fa fd ["_law_script"] (qDp (K w.params))) :
    W.WalkO q loose XP YP l.row.toRowW d [] (fun f vs => PySem.call f vs) :=
  L2.walk_of (n := 63) (k := 12) (x := "_law_script") (CX := fun _ => CX0) (sp := fun w => qDp (K w.params)) hn (by decide) hdf ⟨rfl, by decide, by decide⟩ hY F (fun _ _ a ns hl _ hS => ⟨a, ns, rfl, hS, hl, fun _ => rfl⟩) fun _ _ _ _ _ z => z
end Lw
namespace PySem.W.Fast
def tw6404704223198595680 := ()
def tw10709276033988857185 := ()
def tw6015514961291423842 := ()
def tw8604794604521330083 := ()
def tw15793408241661214244 := ()
def tw7052788776493309030 := ()
def tw2088155536323671913 := ()
def tw17921165710432781193 := ()
def tw7404970849112590674 := ()
def tw11481530701780311474 := ()
def tw17407216366831164723 := ()
def tw18197627167048209620 := ()
def tw11824629586731593044 := ()
def tw4363906639717204919 := ()
def tw6077801251468915832 := ()
def tw8496160253032658521 := ()
def tw14559611356048502394 := ()
def tw9498801041222151866 := ()
def tw1632604518206579131 := ()
def tw5308366814053740893 := ()
def tw10809062208154701918 := ()
def tw14028692614540169642 := ()
def tw9370876485966197038 := ()
def tw13557074677121475136 := ()
def tw16716259782913858985 := ()
def tw5405676527805815674 := ()
def tw1866122777308548265 := ()
def tw13433932405611655077 := ()
def tw6836699849035458128 := ()
def tw16168262856203731066 := ()
def tw17177267404517726051 := ()
def tw12665350797453634614 := ()
def tw17964977299873362996 := ()
def tw16559357648733893167 := ()
def tw4926890520371609741 := ()
def tw11625114608160968126 := ()
def tw1234726138004095708 := ()
def tw343506694908078936 := ()
def tw10601310336943470061 := ()
def tw9342510933725866614 := ()
def tw6994913098107010554 := ()
def tw3476654098846383004 := ()
def tw17259865893609287308 := ()
def tw2961855697662190898 := ()
def tw1467110338128365359 := ()
def tw17917317875433802254 := ()
def tw6662965380044327730 := ()
def tw15819178300150889812 := ()
def tw1098286037264957684 := ()
def tw439089610374032552 := ()
def tw71667066567013651 := ()
end PySem.W.Fast
open PySem PySem.W PyProof.Rows
set_option maxRecDepth 100000 in
set_option maxHeartbeats 0 in
theorem PySem.Challenge.cw_reelcut_k83_lists_refused_holds : PySem.Challenge.rw_reelcut_k83_lists_refused.Holds := by
  w_on; o_law; k_head; (case hw => w_witness2)
  k_fill
  refine Lw.walk (l := PySem.Challenge.rw_reelcut_k83_lists_refused) rfl rfl (fun w h Y => PySem.W.kIn_of Y) ?F
  case F =>
    intro w mg fa h KX G hmg
    refine' Lw.all_mk KX G hmg ?a0 ?l0 ?c0 ?k0 ?a1 ?l1 ?c1 ?k1 ?a2 ?l2 ?c2 ?k2 ?a3 ?l3 ?c3 ?k3 ?a4 ?l4 ?c4 ?k4 ?a5 ?l5 ?c5 ?k5 ?a6 ?l6 ?c6 ?k6 ?a7 ?l7 ?c7 ?k7 ?a8 ?l8 ?c8 ?k8 ?a9 ?l9 ?c9 ?k9 ?a10 ?l10 ?c10 ?k10 ?a11 ?l11 ?c11 ?k11 ?a12 ?l12 ?c12 ?k12 ?a13 ?l13 ?c13 ?k13 ?a14 ?l14 ?c14 ?k14 ?a15 ?l15 ?c15 ?k15 ?a16 ?l16 ?c16 ?k16 ?a17 ?l17 ?c17 ?k17 ?a18 ?l18 ?c18 ?k18 ?a19 ?l19 ?c19 ?k19 ?a20 ?l20 ?c20 ?k20 ?a21 ?l21 ?c21 ?k21 ?a22 ?l22 ?c22 ?k22 ?a23 ?l23 ?c23 ?k23 ?a24 ?l24 ?c24 ?k24 ?a25 ?l25 ?c25 ?k25 ?a26 ?l26 ?c26 ?k26 ?a27 ?l27 ?c27 ?k27 ?a28 ?l28 ?c28 ?k28 ?a29 ?l29 ?c29 ?k29 ?a30 ?l30 ?c30 ?k30 ?a31 ?l31 ?c31 ?k31 ?a32 ?l32 ?c32 ?k32 ?a33 ?l33 ?c33 ?k33 ?a34 ?l34 ?c34 ?k34 ?a35 ?l35 ?c35 ?k35 ?a36 ?l36 ?c36 ?k36 ?a37 ?l37 ?c37 ?k37 ?a38 ?l38 ?c38 ?k38 ?a39 ?l39 ?c39 ?k39 ?a40 ?l40 ?c40 ?k40 ?xg0 ?xg1 ?xg2 ?xg3 ?x_NoNumber ?e_NoList ?m_NN ?m_LN ?m_LL ?i_LT ?i_LC ?f_at ?xz0 ?xz1 ?xz2 ?xz3 ?xz4 ?xz5 ?xz6 ?xz7 ?xz8 ?xz9 ?xz10 ?xcLETTERS ?xcLONGEST_NAME ?xcNOUGHT ?xlNOUGHT ?xcONE ?xlONE ?xcEND ?xlEND ?xcGAP ?xlGAP ?iaNoList ?ilNoList ?icNoList ?ikNoList ?ifNoList ?ivNoList ?ihNoList ?isNoList ?ixNoList ?itNoList
    (case a0 | l0 | c0 | k0 | a1 | l1 | c1 | k1 | a2 | l2 | c2 | k2 | a3 | l3 | c3 | k3 | a4 | l4 | c4 | k4 | a5 | l5 | c5 | k5 | a6 | l6 | c6 | k6 | a7 | l7 | c7 | k7 | a8 | l8 | c8 | k8 | a9 | l9 | c9 | k9 | a10 | l10 | c10 | k10 | a11 | l11 | c11 | k11 | a12 | l12 | c12 | k12 | a13 | l13 | c13 | k13 | a14 | l14 | c14 | k14 | a15 | l15 | c15 | k15 | a16 | l16 | c16 | k16 | a17 | l17 | c17 | k17 | a18 | l18 | c18 | k18 | a19 | l19 | c19 | k19 | a20 | l20 | c20 | k20 | a21 | l21 | c21 | k21 | a22 | l22 | c22 | k22 | a23 | l23 | c23 | k23 | a24 | l24 | c24 | k24 | a25 | l25 | c25 | k25 | a26 | l26 | c26 | k26 | a27 | l27 | c27 | k27 | a28 | l28 | c28 | k28 | a29 | l29 | c29 | k29 | a30 | l30 | c30 | k30 | a31 | l31 | c31 | k31 | a32 | l32 | c32 | k32 | a33 | l33 | c33 | k33 | a34 | l34 | c34 | k34 | a35 | l35 | c35 | k35 | a36 | l36 | c36 | k36 | a37 | l37 | c37 | k37 | a38 | l38 | c38 | k38 | a39 | l39 | c39 | k39 | a40 | l40 | c40 | k40 | xg0 | xg1 | xg2 | xg3 => k_is)
    (case x_NoNumber => (unfold L3.OwnX; kernel_rfl))
    (case e_NoList => exact ⟨by k_is, by k_is, by k_is, by k_is, by k_is, by k_is, by k_is⟩)
    (case m_NN => kernel_rfl)
    (case m_LN => kernel_rfl)
    (case m_LL => kernel_rfl)
    (case i_LT => kernel_rfl)
    (case i_LC => kernel_rfl)
    (case f_at | xz0 | xz1 | xz2 | xz3 | xz4 | xz5 | xz6 | xz7 | xz8 | xz9 | xz10 | xcLETTERS | xcLONGEST_NAME | xcNOUGHT | xlNOUGHT | xcONE | xlONE | xcEND | xlEND | xcGAP | xlGAP | iaNoList | ilNoList | icNoList | ikNoList | ifNoList => k_is)
    (case ivNoList => (unfold L3.exOver; kernel_rfl))
    (case ihNoList | isNoList => k_is)
    (case ixNoList => (unfold L3.excInitIn; kernel_rfl))
    (case itNoList => k_is)

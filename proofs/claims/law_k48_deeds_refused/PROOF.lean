import PyProof.Rows.All
import Wide.All
import OpenK.AllK
import Wide.FinOn
import Lean
import PyProof.EqAt
import PyProof.EqKinds
import PyProof.TupleCall
import PyProof.StrLawsTight
import KE.KIntText
import KE.KxPart
import PySem.Challenge.RW_reelcut_k48_deeds_refused
set_option Elab.async false
set_option linter.all false
set_option maxRecDepth 100000
namespace L2
open PySem PySem.Spec PyProof.Rows
abbrev Key := Sum Int Str
def qF3 : Key → Value → Bool
  | .inl k, v => Value.isInt k v
  | .inr x, v => Value.isStrOf x v
def qOj (w : World) : Key → Int
  | .inl k => hashInt k
  | .inr x => hashStr w x
theorem jM : ∀ {k : Key} {v : Value}, qF3 k v = true → (∃ i t, k = Sum.inl i ∧ v = Value.int i t) ∨ (∃ x t, k = Sum.inr x ∧ v = Value.str x t)
  | .inl i, v, h => by
    obtain ⟨t, e⟩ := Value.isInt_shape (k := i) (v := v) h
    exact .inl ⟨i, t, rfl, e⟩
  | .inr x, v, h => by
    obtain ⟨t, e⟩ := Value.isStrOf_shape (x := x) (v := v) h
    exact .inr ⟨x, t, rfl, e⟩
theorem qH2 (i : Int) (t : Tok) : qF3 (.inl i) (.int i t) = true := by simp [qF3, Value.isInt]
theorem qHa (x : Str) (t : Tok) : qF3 (.inr x) (.str x t) = true := by simp [qF3, Value.isStrOf]
theorem qLr (a b : Int) : decide ((Sum.inl a : Key) = Sum.inl b) = (a == b) := by
  by_cases e : a = b
  · subst e; simp
  · have h : ¬ (Sum.inl a : Key) = Sum.inl b := fun q => e (Sum.inl.inj q)
    rw [decide_eq_false h]
    exact (beq_eq_false_iff_ne.mpr e).symm
theorem qLz (a b : Str) : decide ((Sum.inr a : Key) = Sum.inr b) = decide (a = b) := by
  by_cases e : a = b
  · subst e; simp
  · have h : ¬ (Sum.inr a : Key) = Sum.inr b := fun q => e (Sum.inr.inj q)
    rw [decide_eq_false h, decide_eq_false e]
theorem qMr (a : Int) (b : Str) : decide ((Sum.inl a : Key) = Sum.inr b) = false := decide_eq_false (fun q => nomatch q)
theorem qLu (a : Str) (b : Int) : decide ((Sum.inr a : Key) = Sum.inl b) = false := decide_eq_false (fun q => nomatch q)
def j9 (prog : Program) (w : World) : PySem.KeyKind prog w Key where
  is := qF3
  hash := qOj w
  inj := fun v a b ha hb => by
    rcases jM ha with ⟨i, t, rfl, rfl⟩ | ⟨x, t, rfl, rfl⟩
    · rcases jM hb with ⟨j, u, rfl, e⟩ | ⟨y, u, rfl, e⟩
      · injection e with e1 _; rw [e1]
      · exact nomatch e
    · rcases jM hb with ⟨j, u, rfl, e⟩ | ⟨y, u, rfl, e⟩
      · exact nomatch e
      · injection e with e1 _; rw [e1]
  byValue := fun k v h => by
    rcases jM h with ⟨i, t, rfl, rfl⟩ | ⟨x, t, rfl, rfl⟩ <;> rfl
  pyHash := fun hv h => by
    rcases jM hv with ⟨i, t, rfl, rfl⟩ | ⟨x, t, rfl, rfl⟩
    · exact wpAny_pyHash_int h
    · exact wpAny_pyHash_str h
  eqBool := fun hu hv h => by
    rcases jM hu with ⟨i, t, rfl, rfl⟩ | ⟨x, t, rfl, rfl⟩
    · rcases jM hv with ⟨j, u, rfl, rfl⟩ | ⟨y, u, rfl, rfl⟩
      · rw [qLr] at h; exact wpAny_eqBool_int h
      · rw [qMr] at h; exact SeqAt.EqAt.int_str i t y u _ _ _ _ h
    · rcases jM hv with ⟨j, u, rfl, rfl⟩ | ⟨y, u, rfl, rfl⟩
      · rw [qLu] at h; exact SeqAt.EqAt.str_int x t j u _ _ _ _ h
      · rw [qLz] at h; exact wpAny_eqBool_str h
  «strs» := fun k x t v h => by
    rcases jM h with ⟨i, u, rfl, e⟩ | ⟨y, u, rfl, e⟩
    · exact nomatch e
    · injection e with e1 _
      subst e1
      cases v <;> rfl
theorem qDo (prog : Program) (w : World) (i : Int) (t : Tok) : (j9 prog w).is (.inl i) (.int i t) = true := qH2 i t
theorem qDi (prog : Program) (w : World) (x : Str) (t : Tok) : (j9 prog w).is (.inr x) (.str x t) = true := qHa x t
end L2
namespace L2
open PySem PySem.Spec PyProof.Rows
inductive V where
  | non | bl (b : Bool) | int (i : Int) | str (x : Str) | byt (b : Array UInt8) | flt (b : UInt64) | ref (a : Addr) | ty (n : String)
  deriving DecidableEq
def RelV : V → Value → Prop
  | .non, u => u = Value.none
  | .bl b, u => u = Value.bool b
  | .int i, u => ∃ t, u = Value.int i t
  | .str x, u => ∃ t, u = Value.str x t
  | .byt b, u => ∃ t, u = Value.bytes b t
  | .flt b, u => ∃ t, u = Value.float b t
  | .ref a, u => u = Value.ref a
  | .ty n, u => u = Value.type n
abbrev Vals : List V → List Value → Prop := Paired RelV
theorem Vals.length {xs : List V} {us : List Value} (r : Vals xs us) : xs.length = us.length := Paired.length r
theorem Vals.get : ∀ {xs : List V} {us : List Value} {i : Nat} {x : V}, Vals xs us → xs[i]? = some x → ∃ u, us[i]? = some u ∧ RelV x u
  | _, _, _, _, .nil, e => by simp at e
  | _, _, 0, _, .cons r _, e => by simp at e; subst e; exact ⟨_, rfl, r⟩
  | _, _, i + 1, x, .cons _ t, e => by
    obtain ⟨u, h1, h2⟩ := Vals.get (i := i) (x := x) t (by simpa using e)
    exact ⟨u, by simpa using h1, h2⟩
theorem Vals.set {x : V} {u : Value} (r : RelV x u) : ∀ {xs : List V} {us : List Value} (i : Nat), Vals xs us → Vals (xs.set i x) (us.set i u)
  | _, _, _, .nil => .nil
  | _, _, 0, .cons _ t => .cons r t
  | _, _, i + 1, .cons q t => .cons q (Vals.set r i t)
theorem Vals.append : ∀ {xs ys : List V} {us ws : List Value}, Vals xs us → Vals ys ws → Vals (xs ++ ys) (us ++ ws)
  | _, _, _, _, .nil, s => s
  | _, _, _, _, .cons r t, s => .cons r (Vals.append t s)
theorem Vals.take : ∀ {xs : List V} {us : List Value} (n : Nat), Vals xs us → Vals (xs.take n) (us.take n)
  | _, _, 0, _ => .nil
  | _, _, _ + 1, .nil => .nil
  | _, _, n + 1, .cons r t => .cons r (Vals.take n t)
theorem Vals.drop : ∀ {xs : List V} {us : List Value} (n : Nat), Vals xs us → Vals (xs.drop n) (us.drop n)
  | _, _, 0, r => r
  | _, _, _ + 1, .nil => .nil
  | _, _, n + 1, .cons _ t => Vals.drop n t
def RelO : Option V → Option Value → Prop
  | some v, some u => RelV v u
  | none, none => True
  | _, _ => False
def KV {κ : Type} : List (κ × V) → List (κ × Value) → Prop := Paired fun (p : κ × V) (q : κ × Value) => p.1 = q.1 ∧ RelV p.2 q.2
def kV : Key → V
  | .inl i => .int i
  | .inr x => .str x
inductive HO where
  | lst (xs : List V)
  | tup (xs : List V)
  | dK (kvs : List (Key × V)) | dT (kvs : List (List Key × V))
  | set (S : Int → Bool) (n : Nat)
  | ins (C dx : Addr) (fs : List (Str × V))
  | own (x : Addr)
  | xd (fs : List (Str × V))
  | met (f x : Addr)
  | rng (lo hi : Int)
  | frz (o : Obj) (u : HO)
  | tbl (ps : Array Value)
  | ext (φ : Heap → Prop)
abbrev Hp := Addr → Option HO
def upd (H : Hp) (a : Addr) (o : HO) : Hp := fun b => if b = a then some o else H b
theorem qB {H : Hp} {a : Addr} {o : HO} : upd H a o a = some o := by unfold upd; rw [if_pos rfl]
theorem qd {H : Hp} {a b : Addr} {o : HO} (h : b ≠ a) : upd H a o b = H b := by unfold upd; rw [if_neg h]
theorem qH3 {H : Hp} {a : Addr} {o u : HO} : upd (upd H a o) a u = upd H a u := by
  funext b; unfold upd; split <;> rfl
theorem qNe {H : Hp} {a b : Addr} {o u : HO} (h : H a = some o) (h' : H b = some u) (d : o ≠ u) : a ≠ b := by
  intro e; subst e; rw [h] at h'; exact d (Option.some.inj h')
theorem qf {H : Hp} {a b : Addr} {o : HO} (h : H a = some o) (h' : H b = none) : a ≠ b := by
  intro e; subst e; rw [h] at h'; cases h'
section
variable (P : Program) (w : World)
def ObjOk (H : Hp) (h : Heap) (a : Addr) : HO → Prop
  | .lst xs => xs.length ≤ sizeLine ∧ ∃ (its : List Value) (n : Nat), Vals xs its ∧ h.get? a = some { cls := .type "list", data := .seq its.toArray n }
  | .tup xs => xs.length ≤ sizeLine ∧ ∃ its : List Value, Vals xs its ∧ IsTup h a its.toArray
  | .dK kvs => kvs.length ≤ sizeLine ∧ (a == sysModules) = false ∧ ∃ vs, KV kvs vs ∧ h.DictOf (j9 P w) a vs
  | .dT kvs => kvs.length ≤ sizeLine ∧ (a == sysModules) = false ∧ ∃ xs : List (List Key × Addr × Value),
      Paired (fun (p : List Key × V) (q : List Key × Addr × Value) => p.1 = q.1 ∧ H q.2.1 = some (.tup (p.1.map kV)) ∧ RelV p.2 q.2.2) kvs xs ∧
      ∃ o es ep, h.get? a = some o ∧ o.ExactDict ∧ o.data = .dict es ep ∧ es.toList = xs.map (entryOfKey (tupleKind (j9 P w))) ∧ (xs.map (·.1)).Nodup
  | .set S n => h.SetOf (intKind P w) a S n
  | .ins C dx fs => H dx = some (.own a) ∧ fs.length ≤ 1000 ∧ dx ≠ a ∧ h.get? a = some (PySem.W.instObj C dx) ∧
      ∃ mA, h.Ns1 dx mA ∧ (∀ f, RelO (fs.lookup f) (mA f)) ∧ PySem.Within mA (fs.map (·.1))
  | .own _ => ∃ o, h.get? a = some o
  | .xd fs => ∃ mA, h.Ns1 a mA ∧ ∀ f, RelO (fs.lookup f) (mA f)
  | .rng lo hi => ∃ t u v, h.get? a = some { cls := .type "range", data := .fields #[.int lo t, .int hi u, .int 1 v] }
  | .frz o u => h.get? a = some o ∧ ObjOk H h a u
  | .tbl ps => h.get? a = some { cls := .none, data := .fields ps }
  | .met f x => h.get? a = some (PySem.W.methodObj (.ref f) (.ref x))
  | .ext φ => φ h ∧ (∃ o, h.get? a = some o) ∧ ∀ h1 h2 : Heap, φ h1 → (∀ o, h1.get? a = some o → h2.get? a = some o) → φ h2
def HOk (H : Hp) (h : Heap) : Prop := ∀ a o, H a = some o → ObjOk P w H h a o
end
section
variable {P : Program} {w : World} {H H' : Hp} {h h' : Heap} {a : Addr} {o : HO}
theorem ObjOk.lt (x : ObjOk P w H h a o) : a < h.objs.size := by
  cases o with
  | lst xs => obtain ⟨_, _, _, _, e⟩ := x; exact Heap.lt_size e
  | tup xs => obtain ⟨_, _, _, p⟩ := x; exact p.lt
  | dK kvs => obtain ⟨_, _, _, _, o, _, _, e, _⟩ := x; exact Heap.lt_size e
  | dT kvs => obtain ⟨_, _, _, _, o, _, _, e, _⟩ := x; exact Heap.lt_size e
  | set S n => obtain ⟨o, _, _, _, e, _⟩ := x; exact Heap.lt_size e
  | ins C dx fs => obtain ⟨_, _, _, e, _⟩ := x; exact Heap.lt_size e
  | own y => obtain ⟨_, e⟩ := x; exact Heap.lt_size e
  | xd fs => obtain ⟨_, ⟨_, _, _, e, _⟩, _⟩ := x; exact Heap.lt_size e
  | rng lo hi => obtain ⟨_, _, _, e⟩ := x; exact Heap.lt_size e
  | frz ob u => obtain ⟨e, _⟩ := x; exact Heap.lt_size e
  | tbl ps => exact Heap.lt_size (show h.get? a = some _ from x)
  | met f y => exact Heap.lt_size (show h.get? a = some _ from x)
  | ext φ => obtain ⟨_, ⟨_, e⟩, _⟩ := x; exact Heap.lt_size e
theorem Paired.mapP {α β : Type} {F G : α → β → Prop} : ∀ {l₁ : List α} {l₂ : List β}, Paired F l₁ l₂ → (∀ a b, F a b → G a b) → Paired G l₁ l₂
  | _, _, .nil, _ => .nil
  | _, _, .cons r t, f => .cons (f _ _ r) (Paired.mapP t f)
theorem ObjOk.stay (x : ObjOk P w H h a o) (k : ∀ b u, (b = a ∨ H b = some (.own a)) → h.get? b = some u → h'.get? b = some u)
    (ho : ∀ b, H b = some (.own a) → H' b = some (.own a)) (ht : ∀ b xs, H b = some (.tup xs) → H' b = some (.tup xs)) : ObjOk P w H' h' a o := by
  induction o with
  | lst xs => obtain ⟨z, its, n, r, e⟩ := x; exact ⟨z, its, n, r, k _ _ (.inl rfl) e⟩
  | tup xs => obtain ⟨z, its, r, ob, e, c⟩ := x; exact ⟨z, its, r, ob, k _ _ (.inl rfl) e, c⟩
  | dK kvs => obtain ⟨z, y, vs, r, ob, es, ep, e, c⟩ := x; exact ⟨z, y, vs, r, ob, es, ep, k _ _ (.inl rfl) e, c⟩
  | dT kvs =>
    obtain ⟨z, y, xs, r, ob, es, ep, e, c⟩ := x
    exact ⟨z, y, xs, Paired.mapP r fun p q z => ⟨z.1, ht _ _ z.2.1, z.2.2⟩, ob, es, ep, k _ _ (.inl rfl) e, c⟩
  | set S n => obtain ⟨ob, es, ep, t, e, c⟩ := x; exact ⟨ob, es, ep, t, k _ _ (.inl rfl) e, c⟩
  | ins C dx fs =>
    obtain ⟨d, z, ne, e, mA, ⟨od, es, ep, e2, c⟩, r⟩ := x
    exact ⟨ho _ d, z, ne, k _ _ (.inl rfl) e, mA, ⟨od, es, ep, k _ _ (.inr d) e2, c⟩, r⟩
  | own y => obtain ⟨ob, e⟩ := x; exact ⟨ob, k _ _ (.inl rfl) e⟩
  | xd fs => obtain ⟨mA, ⟨od, es, ep, e, c⟩, r⟩ := x; exact ⟨mA, ⟨od, es, ep, k _ _ (.inl rfl) e, c⟩, r⟩
  | rng lo hi => obtain ⟨t, u, v, e⟩ := x; exact ⟨t, u, v, k _ _ (.inl rfl) e⟩
  | frz ob u ih => obtain ⟨e, q⟩ := x; exact ⟨k _ _ (.inl rfl) e, ih q⟩
  | tbl ps =>
    have e : h.get? a = some { cls := .none, data := .fields ps } := x
    show h'.get? a = some { cls := .none, data := .fields ps }
    exact k a _ (.inl rfl) e
  | met f y =>
    have e : h.get? a = some (PySem.W.methodObj (.ref f) (.ref y)) := x
    show h'.get? a = some (PySem.W.methodObj (.ref f) (.ref y))
    exact k a _ (.inl rfl) e
  | ext φ => obtain ⟨p, ⟨o, e⟩, st⟩ := x; exact ⟨st _ _ p fun o q => k _ _ (.inl rfl) q, ⟨o, k _ _ (.inl rfl) e⟩, st⟩
theorem HOk.lt (x : HOk P w H h) (e : H a = some o) : a < h.objs.size := (x a o e).lt
theorem HOk.fresh (x : HOk P w H h) (e : h.objs.size ≤ a) : H a = none := by
  cases q : H a with
  | none => rfl
  | some u => exact absurd (Nat.lt_of_lt_of_le (x.lt q) e) (Nat.lt_irrefl _)
theorem HOk.kept (x : HOk P w H h) (k : ∀ b u, h.get? b = some u → h'.get? b = some u) : HOk P w H h' := fun a o e =>
  (x a o e).stay (fun b u _ q => k b u q) (fun _ q => q) fun _ _ q => q
theorem HOk.laid (x : HOk P w H h) (k : ∀ b u, h.get? b = some u → h'.get? b = some u) (hp : h.objs.size ≤ a) (new : ObjOk P w (upd H a o) h' a o) : HOk P w (upd H a o) h' := fun b u e => by
  have hn := x.fresh hp
  by_cases hb : b = a
  · subst hb; rw [qB] at e; cases e; exact new
  · rw [qd hb] at e
    exact (x b u e).stay (fun c v _ q => k c v q) (fun c q => by rw [qd (qf q hn)]; exact q) fun c xs q => by rw [qd (qf q hn)]; exact q
end
def Rd (H : Hp) (a : Addr) (u : HO) : Prop := H a = some u ∨ ∃ o, H a = some (.frz o u)
theorem Rd.of {H : Hp} {a : Addr} {u : HO} (h : H a = some u) : Rd H a u := .inl h
theorem Rd.ok {P : Program} {w : World} {H : Hp} {h : Heap} {a : Addr} {u : HO} (r : Rd H a u) (x : HOk P w H h) : ObjOk P w H h a u := by
  rcases r with r | ⟨o, r⟩
  · exact x a u r
  · obtain ⟨_, q⟩ := x a _ r
    exact q
def Mut : Option HO → Prop
  | some (.lst _) => True
  | some (.dK _) => True
  | some (.dT _) => True
  | some (.set _ _) => True
  | some (.ins _ _ _) => True
  | some (.ext _) => True
  | _ => False
section
variable {P : Program} {w : World} {H : Hp} {h h' : Heap} {x e : Addr} {o' : HO}
theorem HOk.write (ok : HOk P w H h) (mu : Mut (H x)) (he : e = x ∨ H e = some (.own x)) (k : ∀ b u, b ≠ e → h.get? b = some u → h'.get? b = some u) (heo : ∃ u, h'.get? e = some u)
    (new : ObjOk P w (upd H x o') h' x o') : HOk P w (upd H x o') h' := fun b u q => by
  have nown : ∀ c y, H c = some (.own y) → c ≠ x := fun c y r z => by subst z; rw [r] at mu; exact mu
  have ntup : ∀ c xs, H c = some (.tup xs) → c ≠ x := fun c xs r z => by subst z; rw [r] at mu; exact mu
  by_cases hb : b = x
  · subst hb; rw [qB] at q; cases q; exact new
  · rw [qd hb] at q
    by_cases hbe : b = e
    · have q' : H b = some (.own x) := by
        rcases he with z | z
        · exact absurd (hbe.trans z) hb
        · rw [hbe]; exact z
      rw [q] at q'; cases q'
      obtain ⟨v, hv⟩ := heo
      exact ⟨v, by rw [hbe]; exact hv⟩
    · refine (ok b u q).stay (fun c v hc r => k c v ?_ r) (fun c r => by rw [qd (nown c b r)]; exact r) fun c xs r => by rw [qd (ntup c xs r)]; exact r
      rcases hc with rfl | hc
      · exact hbe
      · rintro rfl
        rcases he with z | z
        · exact nown c b hc z
        · rw [hc] at z; cases z; exact hb rfl
end
structure Un (fs ex : List Addr) (H H' : Hp) (h h' : Heap) : Prop where
  keep : ∀ b o, h.get? b = some o → H b = none → b ∉ fs → b ∉ ex → h'.get? b = some o
  slot : ∀ b o, h.get? b = some o → H b = none → b ∈ fs → b ∉ ex → ∃ sl, h'.get? b = some { o with slots := sl }
  free : ∀ b o, h.get? b = some o → H b = none → b ∉ ex → H' b = none
  there : ∀ b o, h.get? b = some o → b ∉ ex → ∃ o', h'.get? b = some o'
  tups : ∀ b xs, H b = some (.tup xs) → H' b = some (.tup xs)
  frzs : ∀ b o u, H b = some (.frz o u) → H' b = some (.frz o u)
  tbls : ∀ b ps, H b = some (.tbl ps) → ∃ more, H' b = some (.tbl (ps ++ more))
section
variable {fs fs' ex ex' : List Addr} {H H1 H2 : Hp} {h h1 h2 h' : Heap} {a x e : Addr} {o : HO}
theorem Un.any (u : Un fs ex H H1 h h1) {b : Addr} {ob : Obj} (q : h.get? b = some ob) (n : H b = none) (hx : b ∉ ex) : ∃ sl, h1.get? b = some { ob with slots := sl } := by
  by_cases hb : b ∈ fs
  · exact u.slot b ob q n hb hx
  · exact ⟨ob.slots, u.keep b ob q n hb hx⟩
theorem Un.trans (a : Un fs ex H H1 h h1) (b : Un fs ex H1 H2 h1 h2) : Un fs ex H H2 h h2 where
  keep := fun c ob q n hc hx => b.keep c ob (a.keep c ob q n hc hx) (a.free c ob q n hx) hc hx
  slot := fun c ob q n hc hx => by
    obtain ⟨sl, e1⟩ := a.slot c ob q n hc hx
    obtain ⟨sl', e2⟩ := b.slot c _ e1 (a.free c ob q n hx) hc hx
    exact ⟨sl', e2⟩
  free := fun c ob q n hx => by
    obtain ⟨o', e1⟩ := a.there c ob q hx
    exact b.free c o' e1 (a.free c ob q n hx) hx
  there := fun c ob q hx => by
    obtain ⟨o', e1⟩ := a.there c ob q hx
    exact b.there c o' e1 hx
  tups := fun c xs q => b.tups c xs (a.tups c xs q)
  frzs := fun c ob xs q => b.frzs c ob xs (a.frzs c ob xs q)
  tbls := fun c ps q => by
    obtain ⟨m1, e1⟩ := a.tbls c ps q
    obtain ⟨m2, e2⟩ := b.tbls c _ e1
    exact ⟨m1 ++ m2, by rw [e2, Array.append_assoc]⟩
theorem Un.kept (k : ∀ b u, h.get? b = some u → h'.get? b = some u) : Un fs ex H H h h' :=
  ⟨fun b ob q _ _ _ => k b ob q, fun b ob q _ _ _ => ⟨ob.slots, k b ob q⟩, fun _ _ _ n _ => n, fun b ob q _ => ⟨ob, k b ob q⟩, fun _ _ q => q, fun _ _ _ q => q, fun _ ps q => ⟨#[], by rw [q]; simp⟩⟩
theorem Un.refl : Un fs ex H H h h := Un.kept fun _ _ q => q
theorem Un.laid (k : ∀ b u, h.get? b = some u → h'.get? b = some u) (hp : h.objs.size ≤ a) (hn : H a = none) : Un fs ex H (upd H a o) h h' where
  keep := fun b u q _ _ _ => k b u q
  slot := fun b u q _ _ _ => ⟨u.slots, k b u q⟩
  free := fun b u q n _ => by rw [qd (Nat.ne_of_lt (Nat.lt_of_lt_of_le (Heap.lt_size q) hp))]; exact n
  there := fun b u q _ => ⟨u, k b u q⟩
  tups := fun b xs q => by rw [qd (qf q hn)]; exact q
  frzs := fun b u xs q => by rw [qd (qf q hn)]; exact q
  tbls := fun b ps q => ⟨#[], by rw [qd (qf q hn), q]; simp⟩
theorem Un.write (mu : Mut (H x)) (he : e = x ∨ H e = some (.own x)) (k : ∀ b u, b ≠ e → h.get? b = some u → h'.get? b = some u) (heo : ∃ u, h'.get? e = some u) : Un fs ex H (upd H x o) h h' := by
  have hx : ∀ b, H b = none → b ≠ x := fun b n z => by subst z; rw [n] at mu; exact mu
  have hb : ∀ b, H b = none → b ≠ e := fun b n z => by
    subst z
    rcases he with r | r
    · exact hx b n r
    · rw [n] at r; cases r
  have hm : ∀ b u, H b = some u → ¬ Mut (some u) → b ≠ x := fun b u q nm z => by subst z; rw [q] at mu; exact nm mu
  refine ⟨fun b u q n _ _ => k b u (hb b n) q, fun b u q n _ _ => ⟨u.slots, k b u (hb b n) q⟩, fun b u q n _ => by rw [qd (hx b n)]; exact n, fun b u q _ => ?_,
    fun b xs q => by rw [qd (hm b _ q fun z => z)]; exact q, fun b u xs q => by rw [qd (hm b _ q fun z => z)]; exact q, fun b ps q => ⟨#[], by rw [qd (hm b _ q fun z => z), q]; simp⟩⟩
  by_cases hbe : b = e
  · subst hbe; exact heo
  · exact ⟨u, k b u hbe q⟩
theorem Un.mono (u : Un fs ex H H1 h h1) (hs : ∀ b ∈ fs, b ∈ fs') (hx : ∀ b ∈ ex, b ∈ ex') : Un fs' ex' H H1 h h1 :=
  ⟨fun b ob q n hb he => u.keep b ob q n (fun z => hb (hs b z)) fun z => he (hx b z), fun _ _ q n _ he => u.any q n fun z => he (hx _ z), fun b ob q n he => u.free b ob q n fun z => he (hx b z), fun b ob q he => u.there b ob q fun z => he (hx b z), u.tups, u.frzs, u.tbls⟩
end
def trk (h : Heap) (H : Hp) : List Addr := (List.range h.objs.size).filter fun a => (H a).isSome
def qI6 (h : Heap) (H : Hp) : Heap := PySem.W.hideAll h (trk h H)
theorem qHt (h : Heap) (H : Hp) : (qI6 h H).objs.size = h.objs.size := PySem.W.hideAll_size _ _
theorem qIf {h : Heap} {H : Hp} {b : Addr} {o : Obj} (e : h.get? b = some o) (n : H b = none) : (qI6 h H).get? b = some o :=
  PySem.W.hideAll_get _ e fun hm => by
    have q : (H b).isSome = true := (List.mem_filter.mp hm).2
    rw [n] at q; simp at q
theorem qK7 {h : Heap} {H : Hp} {b : Addr} {o : Obj} (e : (qI6 h H).get? b = some o) : h.get? b = some o ∧ H b = none := by
  have e' : h.get? b = some o := PySem.W.of_hideAll (trk h H) e
  refine ⟨e', ?_⟩
  cases q : H b with
  | none => rfl
  | some x =>
    have hm : b ∈ trk h H := List.mem_filter.mpr ⟨List.mem_range.mpr (Heap.lt_size e'), by simp [q]⟩
    have z : (qI6 h H).get? b = none := PySem.W.hideAll_none (trk h H) hm
    rw [z] at e; cases e
def qLe (g h : Heap) (L : Addr) : List (Addr × Obj) := (List.range h.objs.size).filterMap fun a => if a = L ∨ (g.get? a).isSome = true then none else (h.get? a).map fun o => (a, o)
def rest (g h : Heap) (L d : Addr) : List (Addr × Obj) := (qLe g h L).filter fun p => decide (p.1 ≠ d)
end L2
namespace L2
open PySem PySem.Spec PyProof.Rows
structure Mod (K : PySem.W.Frag) (mg : Str → Option Value) (base : Heap) : Prop where
  kin : K.In base
  glob : base.Ns mainGlobals mg
  blt : ∃ mb, base.Ns builtinsNs mb ∧ ∀ x : Str, x ≠ "__name__" → mb x = bootBuiltins x
  nolimit : base.NoLimit
structure Cx where
  prog : Program
  w : World
  K : PySem.W.Frag
  mg : Str → Option Value
  base : Heap
  A : Around
  N : List Str
  s₀ : Shared
  H₀ : Hp
  env : Env
  outer : List Env
  stack : List Env
  ex : List Addr
  fn : Str → Bool
  calm : Bool
  pn : List (Addr × Obj)
  xe : Value → Shared → Prop
def frs (l : List Env) : List Addr := l.filterMap (·.frame)
abbrev Cx.fs (X : Cx) : List Addr := frs X.outer
def Vis (sc : Scope) (x : Str) : Prop := sc.names.lookup x = some .local ∨ sc.names.lookup x = some .cell ∨ sc.names.lookup x = some .free
def Loc (sc : Scope) (x : Str) : Prop := sc.names.lookup x = some .local ∨ sc.names.lookup x = some .cell
def qOd (env : Env) (h : Heap) (m : Str → Option Value) (x : Str) (u : Value) : Prop :=
  (env.kindOf x = some .local ∧ m x = some u) ∨ ((env.kindOf x = some .cell ∨ env.kindOf x = some .free) ∧ ∃ c, env.cells.lookup x = some c ∧ h.IsCell c (some u))
structure Cx.Ok (X : Cx) : Prop where
  mod : Mod X.K X.mg X.base
  kind : X.env.scope.kind = .function
  glob : X.env.globals = mainGlobals
  blt : X.env.builtins = builtinsNs
  above : X.s₀.heap.objs.size ≤ X.env.locals
  inj : ∀ x y c, X.env.cells.lookup x = some c → X.env.cells.lookup y = some c → x = y
  has : ∀ x, (X.env.kindOf x = some .cell ∨ X.env.kindOf x = some .free) → ∃ c, X.env.cells.lookup x = some c
  cab : ∀ x c, X.fn x = true → X.env.cells.lookup x = some c → X.s₀.heap.objs.size ≤ c
  hd : X.calm = true → X.A.handled = none
  frames : X.A.frames = some X.stack
  stk : X.stack = X.outer ∨ (X.stack = X.env :: X.outer ∧ X.env.frame = some X.env.locals)
  exf : ∀ b ∈ X.ex, b ≠ X.env.locals ∧ ∀ x c, X.env.cells.lookup x = some c → c ≠ b
  bs : ∀ b o, X.base.get? b = some o → X.s₀.heap.get? b = some o ∧ X.H₀ b = none
  bsz : X.base.objs.size ≤ X.s₀.heap.objs.size
  noex : ∀ b o, X.base.get? b = some o → b ∉ X.ex
  exfs : ∀ b ∈ X.ex, b ∉ X.fs
  funs : X.s₀.heap.FunFrames X.base X.outer
  frf : ∀ b ∈ X.fs, X.H₀ b = none
structure Inv (X : Cx) (pins : List (Addr × Obj)) (σ : List (Option V)) (H : Hp) (s : Shared) : Prop where
  ok : X.Ok
  os : s.os = X.s₀.os
  bare : AllBare s.gens
  base : Un X.fs X.ex X.H₀ H X.s₀.heap s.heap
  loc : ∃ m, s.heap.Ns X.env.locals m ∧ ∀ (i : Nat) (x : Str) (v : V), X.N[i]? = some x → σ[i]? = some (some v) → Vis X.env.scope x → ∃ u, RelV v u ∧ qOd X.env s.heap m x u
  cell : ∀ x c, X.env.cells.lookup x = some c → ∃ v, s.heap.IsCell c v
  free : H X.env.locals = none
  freeC : ∀ x c, X.env.cells.lookup x = some c → H c = none
  pin : ∀ p ∈ X.pn ++ pins, s.heap.get? p.1 = some p.2 ∧ H p.1 = none ∧ p.1 ≠ X.env.locals ∧ p.1 ∉ X.fs ∧ ∀ v, p.2.data ≠ .cell v
  hok : HOk X.prog X.w H s.heap
  len : σ.length = X.N.length
section
variable {X : Cx} {pins : List (Addr × Obj)} {σ : List (Option V)} {H H' : Hp} {s : Shared} {h' : Heap}
theorem Cx.Ok.nofr (ok : X.Ok) {b : Addr} {o : Obj} (e : X.base.get? b = some o) : b ∉ X.fs := fun hb => by
  have := (ok.funs.mem hb).1
  rw [e] at this; cases this
theorem Inv.bs (I : Inv X pins σ H s) : ∀ b o, X.base.get? b = some o → s.heap.get? b = some o ∧ H b = none := fun b o e =>
  ⟨I.base.keep b o (I.ok.bs b o e).1 (I.ok.bs b o e).2 (I.ok.nofr e) (I.ok.noex b o e), I.base.free b o (I.ok.bs b o e).1 (I.ok.bs b o e).2 (I.ok.noex b o e)⟩
theorem Inv.bk (I : Inv X pins σ H s) : ∀ b o, X.base.get? b = some o → s.heap.get? b = some o := fun b o e => (I.bs b o e).1
theorem Inv.mod (I : Inv X pins σ H s) : Mod X.K X.mg X.base := I.ok.mod
theorem Inv.kIn (I : Inv X pins σ H s) : X.K.In s.heap := I.ok.mod.kin.keeps I.bk
theorem Inv.nolimit (I : Inv X pins σ H s) : s.heap.NoLimit := I.ok.mod.nolimit.keeps I.bk
theorem Inv.fr (I : Inv X pins σ H s) : ∃ m, Fr X.base X.env.locals s.heap m :=
  let ⟨m, hn, _⟩ := I.loc
  ⟨m, hn, I.bk, Nat.le_trans I.ok.bsz I.ok.above⟩
theorem Inv.lt (I : Inv X pins σ H s) : X.env.locals < s.heap.objs.size := let ⟨_, hn, _⟩ := I.loc; hn.lt
theorem Inv.sz (I : Inv X pins σ H s) : X.s₀.heap.objs.size ≤ s.heap.objs.size := Nat.le_trans I.ok.above (Nat.le_of_lt I.lt)
theorem Inv.nofs (I : Inv X pins σ H s) {a : Addr} (h : s.heap.objs.size ≤ a) : a ∉ X.fs := fun hb => by
  obtain ⟨_, o, ho, _⟩ := I.ok.funs.mem hb
  exact absurd (Nat.lt_of_lt_of_le (Heap.lt_size ho) (Nat.le_trans I.sz h)) (Nat.lt_irrefl _)
theorem Inv.cne (I : Inv X pins σ H s) : ∀ x c, X.env.cells.lookup x = some c → c ≠ X.env.locals := fun x c e z => by
  obtain ⟨v, o, ho, hd⟩ := I.cell x c e
  obtain ⟨m, ⟨o', es, ep, ho', hd', _⟩, _⟩ := I.loc
  rw [z, ho'] at ho; cases ho; rw [hd'] at hd; cases hd
theorem Inv.funs (I : Inv X pins σ H s) : s.heap.FunFrames X.base X.outer := by
  have all : ∀ (l : List Env), (∀ b ∈ frs l, b ∈ X.fs) → X.s₀.heap.FunFrames X.base l → s.heap.FunFrames X.base l := by
    intro l
    induction l with
    | nil => intro _ _; trivial
    | cons env r ih =>
      intro hs hl
      obtain ⟨hk, ⟨L, o, hf, hn, ho, hd⟩, hr⟩ := hl
      have hL : L ∈ X.fs := hs L (by unfold frs; rw [List.filterMap_cons, hf]; exact List.mem_cons_self)
      obtain ⟨sl, e⟩ := I.base.slot L o ho (I.ok.frf L hL) hL fun z => I.ok.exfs L z hL
      exact ⟨hk, ⟨L, _, hf, hn, e, hd⟩, ih (fun b hb => hs b (by unfold frs; rw [List.filterMap_cons, hf]; exact List.mem_cons_of_mem _ hb)) hr⟩
  exact all X.outer (fun _ hb => hb) I.ok.funs
theorem Inv.stack (I : Inv X pins σ H s) : s.heap.FunFrames X.base X.stack := by
  rcases I.ok.stk with e | ⟨e, hf⟩
  · rw [e]; exact I.funs
  · rw [e]
    obtain ⟨m, hn, _⟩ := I.loc
    refine .cons (by rw [I.ok.kind]; decide) hf hn ?_ I.funs
    exact Heap.get?_none_of_le (Nat.le_trans I.ok.bsz I.ok.above)
theorem Inv.stkSub (I : Inv X pins σ H s) : ∀ b ∈ frs X.stack, b ∈ X.env.locals :: X.fs := fun b hb => by
  rcases I.ok.stk with e | ⟨e, hf⟩
  · rw [e] at hb; exact List.mem_cons_of_mem _ hb
  · rw [e] at hb
    unfold frs at hb
    rw [List.filterMap_cons, hf] at hb
    exact hb
theorem Inv.stkFree (I : Inv X pins σ H s) : ∀ b ∈ frs X.stack, H b = none := fun b hb => by
  rcases List.mem_cons.mp (I.stkSub b hb) with e | hb
  · rw [e]; exact I.free
  · obtain ⟨_, o, ho, _⟩ := I.ok.funs.mem hb
    exact I.base.free b o ho (I.ok.frf b hb) fun z => I.ok.exfs b z hb
theorem Inv.step {g' : Array GenState} {t' : Nat} {d' : Drawn} {ch : List Addr} (I : Inv X pins σ H s)
    (hch : ∀ b ∈ ch, (b ∈ X.ex ∨ X.s₀.heap.objs.size ≤ b) ∧ b ≠ X.env.locals ∧ (∀ x c, X.env.cells.lookup x = some c → c ≠ b) ∧ ∀ p ∈ X.pn ++ pins, p.1 ≠ b)
    (keep : ∀ b o, b ≠ X.env.locals → b ∉ X.fs → b ∉ ch → s.heap.get? b = some o → H b = none → h'.get? b = some o)
    (slot : ∀ b o, b ≠ X.env.locals → b ∈ X.fs → b ∉ ch → s.heap.get? b = some o → H b = none → ∃ sl, h'.get? b = some { o with slots := sl }) (free : ∀ b o, b ∉ ch → s.heap.get? b = some o → H b = none → H' b = none)
    (there : ∀ b o, b ∉ ch → s.heap.get? b = some o → ∃ o', h'.get? b = some o')
    (tups : ∀ b xs, H b = some (.tup xs) → H' b = some (.tup xs)) (frzs : ∀ b o u, H b = some (.frz o u) → H' b = some (.frz o u)) (tbls : ∀ b ps, H b = some (.tbl ps) → ∃ more, H' b = some (.tbl (ps ++ more)))
    (ns : ∀ m, s.heap.Ns X.env.locals m → h'.Ns X.env.locals m) (hok : HOk X.prog X.w H' h') (hg : AllBare g') :
    Inv X pins σ H' { s with heap := h', gens := g', drawn := d', toks := t' } := by
  have neL : ∀ b o, X.s₀.heap.get? b = some o → b ≠ X.env.locals := fun b o e => Nat.ne_of_lt (Nat.lt_of_lt_of_le (Heap.lt_size e) I.ok.above)
  have neC : ∀ b o, X.s₀.heap.get? b = some o → b ∉ X.ex → b ∉ ch := fun b o e hx hb => by
    rcases (hch b hb).1 with z | z
    · exact hx z
    · exact absurd (Nat.lt_of_lt_of_le (Heap.lt_size e) z) (Nat.lt_irrefl _)
  have cellK : ∀ x c, X.env.cells.lookup x = some c → ∀ v, s.heap.IsCell c v → h'.IsCell c v := fun x c e v ⟨o, ho, hd⟩ => by
    have nch : c ∉ ch := fun z => (hch c z).2.2.1 x c e rfl
    by_cases hc : c ∈ X.fs
    · obtain ⟨sl, q⟩ := slot c o (I.cne x c e) hc nch ho (I.freeC x c e)
      exact ⟨_, q, hd⟩
    · exact ⟨o, keep c o (I.cne x c e) hc nch ho (I.freeC x c e), hd⟩
  refine ⟨I.ok, I.os, hg, ⟨fun b o e n hb hx => ?_, fun b o e n hb hx => ?_, fun b o e n hx => ?_, fun b o e hx => ?_, fun b xs e => tups b xs (I.base.tups b xs e), fun b o xs e => frzs b o xs (I.base.frzs b o xs e), fun b ps e => ?_⟩, ?_, fun x c e => ?_, ?_, fun x c e => ?_, fun p hp => ?_, hok, I.len⟩
  · exact keep b o (neL b o e) hb (neC b o e hx) (I.base.keep b o e n hb hx) (I.base.free b o e n hx)
  · obtain ⟨sl, e1⟩ := I.base.slot b o e n hb hx
    obtain ⟨sl', e2⟩ := slot b _ (neL b o e) hb (neC b o e hx) e1 (I.base.free b o e n hx)
    exact ⟨sl', e2⟩
  · obtain ⟨o', e1⟩ := I.base.there b o e hx
    exact free b o' (neC b o e hx) e1 (I.base.free b o e n hx)
  · obtain ⟨o', e1⟩ := I.base.there b o e hx
    exact there b o' (neC b o e hx) e1
  · obtain ⟨m1, e1⟩ := I.base.tbls b ps e
    obtain ⟨m2, e2⟩ := tbls b _ e1
    exact ⟨m1 ++ m2, by rw [e2, Array.append_assoc]⟩
  · obtain ⟨m, hn, hl⟩ := I.loc
    refine ⟨m, ns m hn, fun i x v e1 e2 e3 => ?_⟩
    obtain ⟨u, r, l⟩ := hl i x v e1 e2 e3
    refine ⟨u, r, ?_⟩
    rcases l with l | ⟨k, c, e, z⟩
    · exact .inl l
    · exact .inr ⟨k, c, e, cellK x c e _ z⟩
  · obtain ⟨v, z⟩ := I.cell x c e
    exact ⟨v, cellK x c e v z⟩
  · obtain ⟨m, ⟨o, _, _, ho, _⟩, _⟩ := I.loc
    exact free _ o (fun z => (hch _ z).2.1 rfl) ho I.free
  · obtain ⟨v, o, ho, hd⟩ := I.cell x c e
    exact free c o (fun z => (hch c z).2.2.1 x c e rfl) ho (I.freeC x c e)
  · obtain ⟨e, n, ne, nf, d⟩ := I.pin p hp
    have nch : p.1 ∉ ch := fun z => (hch p.1 z).2.2.2 p hp rfl
    exact ⟨keep p.1 p.2 ne nf nch e n, free p.1 p.2 nch e n, ne, nf, d⟩
theorem Inv.un {t' : Nat} (I : Inv X pins σ H s) (u : Un X.fs [] H H' s.heap h') (hok : HOk X.prog X.w H' h') : Inv X pins σ H' { s with heap := h', toks := t' } := by
  obtain ⟨m, ⟨o, es, ep, ho, r⟩, _⟩ := id I.loc
  obtain ⟨sl, hL⟩ := u.any ho I.free (by simp)
  exact I.step (g' := s.gens) (d' := s.drawn) (ch := []) (fun _ z => nomatch z) (fun b o _ hb _ e n => u.keep b o e n hb (by simp)) (fun b o _ hb _ e n => u.slot b o e n hb (by simp)) (fun b o _ e n => u.free b o e n (by simp)) (fun b o _ e => u.there b o e (by simp)) u.tups u.frzs u.tbls (fun m' hm => by
    obtain ⟨o', es', ep', ho', r'⟩ := hm
    rw [ho] at ho'; cases ho'
    exact ⟨_, es', ep', hL, r'⟩) hok I.bare
theorem Inv.call {g' : Array GenState} {t' : Nat} {d' : Drawn} {ch : List Addr} (I : Inv X pins σ H s) (u : Un (frs X.stack) ch H H' s.heap h') (hok : HOk X.prog X.w H' h') (hg : AllBare g')
    (hch : ∀ b ∈ ch, (b ∈ X.ex ∨ X.s₀.heap.objs.size ≤ b) ∧ b ≠ X.env.locals ∧ (∀ x c, X.env.cells.lookup x = some c → c ≠ b) ∧ ∀ p ∈ X.pn ++ pins, p.1 ≠ b) :
    Inv X pins σ H' { s with heap := h', gens := g', drawn := d', toks := t' } := by
  obtain ⟨m, ⟨o, es, ep, ho, r⟩, _⟩ := id I.loc
  obtain ⟨sl, hL⟩ := u.any ho I.free fun z => (hch _ z).2.1 rfl
  exact I.step (ch := ch) hch (fun b o hL hb hc e n => u.keep b o e n (fun z => (List.mem_cons.mp (I.stkSub b z)).elim hL hb) hc) (fun b o _ _ hc e n => u.any e n hc) (fun b o hc e n => u.free b o e n hc) (fun b o hc e => u.there b o e hc) u.tups u.frzs u.tbls (fun m' hm => by
    obtain ⟨o', es', ep', ho', r'⟩ := hm
    rw [ho] at ho'; cases ho'
    exact ⟨_, es', ep', hL, r'⟩) hok hg
theorem Inv.turned {t' : Nat} {it : Addr} (I : Inv X pins σ H s) (k : ∀ b o, b ≠ it → s.heap.get? b = some o → h'.get? b = some o) (hn : H it = none) (hL : it ≠ X.env.locals)
    (h1 : it ∈ X.ex ∨ X.s₀.heap.objs.size ≤ it) (h2 : ∀ x c, X.env.cells.lookup x = some c → c ≠ it) (h3 : ∀ p ∈ X.pn ++ pins, p.1 ≠ it) : Inv X pins σ H { s with heap := h', toks := t' } := by
  have nit : ∀ b u, H b = some u → b ≠ it := fun b u e z => by rw [z, hn] at e; cases e
  refine I.step (g' := s.gens) (d' := s.drawn) (ch := [it]) (fun b hb => ?_) (fun b o _ _ hc e _ => k b o (fun z => hc (by simp [z])) e) (fun b o _ _ hc e _ => ⟨o.slots, k b o (fun z => hc (by simp [z])) e⟩) (fun _ _ _ _ n => n)
    (fun b o hc e => ⟨o, k b o (fun z => hc (by simp [z])) e⟩) (fun _ _ e => e) (fun _ _ _ e => e) (fun b ps e => ⟨#[], by rw [e]; simp⟩) (fun m hm => ?_) (fun b u e => ?_) I.bare
  · have e : b = it := by simpa using hb
    subst e
    exact ⟨h1, hL, h2, h3⟩
  · obtain ⟨o, es, ep, ho, r⟩ := hm
    exact ⟨o, es, ep, k _ o (Ne.symm hL) ho, r⟩
  · refine (I.hok b u e).stay (fun c v hc q => k c v ?_ q) (fun _ q => q) fun _ _ q => q
    rcases hc with z | z
    · rw [z]; exact nit b u e
    · exact nit c _ z
theorem Inv.tok (I : Inv X pins σ H s) (t : Nat) : Inv X pins σ H { s with toks := t } := I.un (h' := s.heap) (t' := t) Un.refl I.hok
theorem Inv.kept {t' : Nat} (I : Inv X pins σ H s) (k : ∀ b u, s.heap.get? b = some u → h'.get? b = some u) : Inv X pins σ H { s with heap := h', toks := t' } := I.un (Un.kept k) (I.hok.kept k)
theorem Inv.laid {a : Addr} {o : HO} {t' : Nat} (I : Inv X pins σ H s) (k : ∀ b u, s.heap.get? b = some u → h'.get? b = some u) (hp : s.heap.objs.size ≤ a) (new : ObjOk X.prog X.w (upd H a o) h' a o) :
    Inv X pins σ (upd H a o) { s with heap := h', toks := t' } := I.un (Un.laid k hp (I.hok.fresh hp)) (I.hok.laid k hp new)
theorem Inv.write {x e : Addr} {o : HO} {t' : Nat} (I : Inv X pins σ H s) (mu : Mut (H x)) (he : e = x ∨ H e = some (.own x)) (k : ∀ b u, b ≠ e → s.heap.get? b = some u → h'.get? b = some u) (heo : ∃ u, h'.get? e = some u)
    (new : ObjOk X.prog X.w (upd H x o) h' x o) : Inv X pins σ (upd H x o) { s with heap := h', toks := t' } := I.un (Un.write mu he k heo) (I.hok.write mu he k heo new)
theorem Inv.weak {σ' : List (Option V)} (I : Inv X pins σ H s) (hl : σ'.length = σ.length) (w : ∀ (i : Nat) v, σ'[i]? = some (some v) → σ[i]? = some (some v)) : Inv X pins σ' H s :=
  ⟨I.ok, I.os, I.bare, I.base, let ⟨m, hn, hl'⟩ := I.loc; ⟨m, hn, fun i x v e1 e2 e3 => hl' i x v e1 (w i v e2) e3⟩, I.cell, I.free, I.freeC, I.pin, I.hok, hl.trans I.len⟩
theorem Inv.pins_of {pins' : List (Addr × Obj)} (I : Inv X pins σ H s) (h : ∀ p ∈ pins', s.heap.get? p.1 = some p.2 ∧ H p.1 = none ∧ p.1 ≠ X.env.locals ∧ p.1 ∉ X.fs ∧ ∀ v, p.2.data ≠ .cell v) : Inv X pins' σ H s :=
  ⟨I.ok, I.os, I.bare, I.base, I.loc, I.cell, I.free, I.freeC, fun p hp => (List.mem_append.mp hp).elim (fun z => I.pin p (List.mem_append_left _ z)) (h p), I.hok, I.len⟩
theorem qBq {N : List Str} (hN : N.Nodup) {i j : Nat} {x : Str} (a : N[i]? = some x) (b : N[j]? = some x) : i = j := by
  obtain ⟨h1, e1⟩ := List.getElem?_eq_some_iff.mp a
  obtain ⟨h2, e2⟩ := List.getElem?_eq_some_iff.mp b
  exact (List.getElem_inj hN).mp (e1.trans e2.symm)
theorem qC4 {M : Model} {A : Around} {E : Value → Shared → Prop} {i : Nat} {x : Str} {v : V} {u : Value} {Q : Unit → Shared → Prop} (I : Inv X pins σ H s) (hN : X.N.Nodup) (hi : X.N[i]? = some x) (hx : Loc X.env.scope x) (r : RelV v u)
    (h : ∀ s', Inv X pins (σ.set i (some v)) H s' → (∃ a, Heap.SameBut a s.heap s'.heap ∧ (a = X.env.locals ∨ X.env.cells.lookup x = some a)) → Q () s') (hf : X.fn x = true ∨ X.env.scope.names.lookup x = some .local := by first | exact .inl rfl | exact .inr rfl | assumption) : wpAny M A (storeName X.env x u) Q E s := by
  obtain ⟨m, hn, hl⟩ := id I.loc
  have hcls : (X.env.scope.kind == .class || (X.env.scope.kind == .module && X.env.locals != X.env.globals)) = false := by rw [I.ok.kind]; rfl
  have hiσ : i < σ.length := by rw [I.len]; exact (List.getElem?_eq_some_iff.mp hi).1
  have cne := I.cne
  have tracked : ∀ {a : Addr} {h' : Heap}, (∃ o, s.heap.get? a = some o ∧ H a = none) → Heap.SameBut a s.heap h' → HOk X.prog X.w H h' := fun {a h'} ha hs b ob e => by
    obtain ⟨_, _, hfree⟩ := ha
    refine (I.hok b ob e).stay (fun c w' hc q => (hs.2 c ?_).trans q) (fun _ q => q) fun _ _ q => q
    rintro rfl
    rcases hc with rfl | hc
    · rw [hfree] at e; cases e
    · rw [hfree] at hc; cases hc
  rcases hx with hk | hk
  · refine wpAny_storeName_local hk hn (fun h' hn' hs => ?_) hcls
    obtain ⟨oL, _, _, hoL, _⟩ := id hn
    refine h _ ⟨I.ok, I.os, I.bare, ⟨fun b o e n hb hx => ?_, fun b o e n hb hx => ?_, I.base.free, fun b o e hx => ?_, I.base.tups, I.base.frzs, I.base.tbls⟩, ⟨_, hn', fun j y v' e1 e2 e3 => ?_⟩, fun y c e => ?_, I.free, I.freeC, fun p hp => ?_, tracked ⟨oL, hoL, I.free⟩ hs, by simpa using I.len⟩ ⟨_, hs, .inl rfl⟩
    · exact (hs.2 b (Nat.ne_of_lt (Nat.lt_of_lt_of_le (Heap.lt_size e) I.ok.above))).trans (I.base.keep b o e n hb hx)
    · obtain ⟨sl, e1⟩ := I.base.slot b o e n hb hx
      exact ⟨sl, (hs.2 b (Nat.ne_of_lt (Nat.lt_of_lt_of_le (Heap.lt_size e) I.ok.above))).trans e1⟩
    · obtain ⟨o', e1⟩ := I.base.there b o e hx
      exact ⟨o', (hs.2 b (Nat.ne_of_lt (Nat.lt_of_lt_of_le (Heap.lt_size e) I.ok.above))).trans e1⟩
    · by_cases hj : j = i
      · subst hj
        rw [hi] at e1; cases e1
        rw [List.getElem?_set_self hiσ] at e2
        cases e2
        exact ⟨u, r, .inl ⟨hk, by simp⟩⟩
      · rw [List.getElem?_set_ne (Ne.symm hj)] at e2
        obtain ⟨u', r', q⟩ := hl j y v' e1 e2 e3
        refine ⟨u', r', ?_⟩
        rcases q with ⟨k, e⟩ | ⟨k, c, e, z⟩
        · refine .inl ⟨k, ?_⟩
          have : y ≠ x := fun e => hj (qBq hN e1 (e ▸ hi))
          simp [this, e]
        · exact .inr ⟨k, c, e, z.sameBut hs (cne y c e)⟩
    · obtain ⟨w', z⟩ := I.cell y c e
      exact ⟨w', z.sameBut hs (cne y c e)⟩
    · obtain ⟨e, n, ne, nf, d⟩ := I.pin p hp
      exact ⟨(hs.2 p.1 ne).trans e, n, ne, nf, d⟩
  · have hfn : X.fn x = true := by
      rcases hf with z | z
      · exact z
      · rw [z] at hk; cases hk
    obtain ⟨c, hc⟩ := I.ok.has x (.inl hk)
    obtain ⟨w', z⟩ := I.cell x c hc
    refine wpAny_storeName_cell I.ok.kind hk hc z (fun h' hc' hs => ?_)
    obtain ⟨oc, hoc, hocd⟩ := id z
    refine h { s with heap := h' } ⟨I.ok, I.os, I.bare, ⟨fun b o e n hb hx => ?_, fun b o e n hb hx => ?_, I.base.free, fun b o e hx => ?_, I.base.tups, I.base.frzs, I.base.tbls⟩, ⟨m, hn.sameBut hs (Ne.symm (cne x c hc)), fun j y v' e1 e2 e3 => ?_⟩, fun y c' e => ?_, I.free, I.freeC, fun p hp => ?_, tracked ⟨oc, hoc, I.freeC x c hc⟩ hs, by simpa using I.len⟩ ⟨c, hs, .inr hc⟩
    · exact (hs.2 b (Nat.ne_of_lt (Nat.lt_of_lt_of_le (Heap.lt_size e) (I.ok.cab x c hfn hc)))).trans (I.base.keep b o e n hb hx)
    · obtain ⟨sl, e1⟩ := I.base.slot b o e n hb hx
      exact ⟨sl, (hs.2 b (Nat.ne_of_lt (Nat.lt_of_lt_of_le (Heap.lt_size e) (I.ok.cab x c hfn hc)))).trans e1⟩
    · obtain ⟨o', e1⟩ := I.base.there b o e hx
      exact ⟨o', (hs.2 b (Nat.ne_of_lt (Nat.lt_of_lt_of_le (Heap.lt_size e) (I.ok.cab x c hfn hc)))).trans e1⟩
    · by_cases hj : j = i
      · subst hj
        rw [hi] at e1; cases e1
        rw [List.getElem?_set_self hiσ] at e2
        cases e2
        exact ⟨u, r, .inr ⟨.inl hk, c, hc, hc'⟩⟩
      · rw [List.getElem?_set_ne (Ne.symm hj)] at e2
        obtain ⟨u', r', q⟩ := hl j y v' e1 e2 e3
        refine ⟨u', r', ?_⟩
        rcases q with q | ⟨k, c', e, z'⟩
        · exact .inl q
        · refine .inr ⟨k, c', e, z'.sameBut hs ?_⟩
          rintro rfl
          exact hj (qBq hN e1 (I.ok.inj _ _ _ e hc ▸ hi))
    · by_cases hcc : c' = c
      · subst hcc; exact ⟨_, hc'⟩
      · obtain ⟨w2, z2⟩ := I.cell y c' e
        exact ⟨w2, z2.sameBut hs hcc⟩
    · obtain ⟨e, n, ne, nf, d⟩ := I.pin p hp
      refine ⟨(hs.2 p.1 ?_).trans e, n, ne, nf, d⟩
      intro q
      rw [q, hoc] at e
      have q' : oc = p.2 := Option.some.inj e
      exact d w' (by rw [← q']; exact hocd)
theorem zd {M : Model} {A : Around} {E : Value → Shared → Prop} {i : Nat} {x : Str} {v : V} {u : Value} {Q : Unit → Shared → Prop} (I : Inv X pins σ H s) (hN : X.N.Nodup) (hi : X.N[i]? = some x) (hx : Loc X.env.scope x) (r : RelV v u)
    (h : ∀ s', Inv X pins (σ.set i (some v)) H s' → Q () s') (hf : X.fn x = true ∨ X.env.scope.names.lookup x = some .local := by first | exact .inl rfl | exact .inr rfl | assumption) : wpAny M A (storeName X.env x u) Q E s :=
  qC4 I hN hi hx r (fun s' I' _ => h s' I') hf
theorem Inv.call' {s' : Shared} {ch : List Addr} (I : Inv X pins σ H s) (ho : s'.os = s.os) (u : Un (frs X.stack) ch H H' s.heap s'.heap) (hok : HOk X.prog X.w H' s'.heap) (hg : AllBare s'.gens)
    (hch : ∀ b ∈ ch, (b ∈ X.ex ∨ X.s₀.heap.objs.size ≤ b) ∧ b ≠ X.env.locals ∧ (∀ x c, X.env.cells.lookup x = some c → c ≠ b) ∧ ∀ p ∈ X.pn ++ pins, p.1 ≠ b) : Inv X pins σ H' s' := by
  obtain ⟨h', g', d', t', o'⟩ := s'
  have e : o' = s.os := ho
  subst e
  exact I.call (g' := g') (t' := t') (d' := d') u hok hg hch
end
abbrev XK := Value → Option Addr → Hp → Prop
abbrev St := List (Option V)
abbrev VK := V → Hp → Prop
abbrev TE := St → Hp → VK → Prop
abbrev TT := St → Hp → (Bool → Hp → Prop) → Prop
abbrev TA := St → Hp → (List V → Hp → Prop) → Prop
structure qH7 where
  nx : St → Hp → Prop
  rt : VK
  bk : St → Hp → Prop := fun _ _ => False
  ct : St → Hp → Prop := fun _ _ => False
abbrev TS := qH7 → St → Hp → Prop
def EP (X : Cx) (pins : List (Addr × Obj)) (σ : St) (Q : VK) (u : Value) (s' : Shared) : Prop := ∃ v H', Inv X pins σ H' s' ∧ RelV v u ∧ Q v H'
def TP (X : Cx) (pins : List (Addr × Obj)) (σ : St) (Q : Bool → Hp → Prop) (b : Bool) (s' : Shared) : Prop := ∃ H', Inv X pins σ H' s' ∧ Q b H'
def AP (X : Cx) (pins : List (Addr × Obj)) (σ : St) (Q : List V → Hp → Prop) (us : List Value) (s' : Shared) : Prop := ∃ vs H', Inv X pins σ H' s' ∧ Vals vs us ∧ Q vs H'
def SP (X : Cx) (pins : List (Addr × Obj)) (D : qH7) (f : Flow) (s' : Shared) : Prop :=
  match f with
  | .next => ∃ σ' H', Inv X pins σ' H' s' ∧ D.nx σ' H'
  | .brk => ∃ σ' H', Inv X pins σ' H' s' ∧ D.bk σ' H'
  | .cont => ∃ σ' H', Inv X pins σ' H' s' ∧ D.ct σ' H'
  | .ret u => ∃ v σ' H', Inv X pins σ' H' s' ∧ RelV v u ∧ D.rt v H'
def PE (X : Cx) (e : Expr) (t : TE) : Prop :=
  ∀ (pins : List (Addr × Obj)) (s : Shared) (σ : St) (H : Hp) (Q : VK), Inv X pins σ H s → t σ H Q → wpAny (model X.prog X.w) X.A (eval e X.env) (EP X pins σ Q) X.xe s
def PT (X : Cx) (e : Expr) (t : TT) : Prop :=
  ∀ (pins : List (Addr × Obj)) (s : Shared) (σ : St) (H : Hp) (Q : Bool → Hp → Prop), Inv X pins σ H s → t σ H Q → wpAny (model X.prog X.w) X.A (isTrue e X.env (eval e X.env)) (TP X pins σ Q) X.xe s
def PW (X : Cx) (e : Expr) (t : TT) : Prop :=
  ∀ (whole : Sem Value) (pins : List (Addr × Obj)) (s : Shared) (σ : St) (H : Hp) (Q : Bool → Hp → Prop), Inv X pins σ H s → t σ H Q → wpAny (model X.prog X.w) X.A (isTrue e X.env whole) (TP X pins σ Q) X.xe s
theorem PW.pt {X : Cx} {e : Expr} {t : TT} (h : PW X e t) : PT X e t := h _
def PA (X : Cx) (es : List Expr) (t : TA) : Prop :=
  ∀ (pos : Pos) (pins : List (Addr × Obj)) (s : Shared) (σ : St) (H : Hp) (Q : List V → Hp → Prop), Inv X pins σ H s → t σ H Q → wpAny (model X.prog X.w) X.A (spliced (backTo pos (starEach es X.env))) (AP X pins σ Q) X.xe s
def PS (X : Cx) (st : Stmt) (t : TS) : Prop :=
  ∀ (pins : List (Addr × Obj)) (s : Shared) (σ : St) (H : Hp) (D : qH7), Inv X pins σ H s → t D σ H → wpAny (model X.prog X.w) X.A (exec st X.env) (SP X pins D) X.xe s
def PSs (X : Cx) (st : List Stmt) (t : TS) : Prop :=
  ∀ (pins : List (Addr × Obj)) (s : Shared) (σ : St) (H : Hp) (D : qH7), Inv X pins σ H s → t D σ H → wpAny (model X.prog X.w) X.A (execs st X.env) (SP X pins D) X.xe s
theorem thn {α : Type} {t : Sem α} {Q Q' : α → Shared → Prop} {M : Model} {A : Around} {E : Value → Shared → Prop} {s : Shared} (h : wpAny M A t Q E s) (hQ : ∀ a s, Q a s → Q' a s) : wpAny M A t Q' E s := wpAny_mono h hQ fun _ _ x => x
end L2
namespace L2
open PySem PySem.Spec PyProof.Rows
section
variable {X : Cx}
def qM8 (i : Nat) : TE := fun σ H Q => ∃ v, σ[i]? = some (some v) ∧ Q v H
def tC (v : V) : TE := fun _ H Q => Q v H
theorem qL2 {i : Nat} {x : Str} {pos : Pos} (hN : X.N[i]? = some x) (hv : Vis X.env.scope x) (hd : (x == ("__debug__" : Str)) = false := by decide) (hcd : (x == ("__classdict__" : Str)) = false := by decide) : PE X (.Name x pos) (qM8 i) := by
  intro pins s σ H Q I h
  obtain ⟨v, e, h⟩ := h
  obtain ⟨m, hn, hl⟩ := I.loc
  obtain ⟨u, r, l⟩ := hl i x v hN e hv
  have fin : EP X pins σ Q u s := ⟨v, H, I, r, h⟩
  rcases l with ⟨hk, hm⟩ | ⟨hk, c, hc, hcell⟩
  · exact wpAny_Name (wpAny_loadName_local I.ok.kind hk hn hm fin) hd
  · rcases hk with hk | hk
    · exact wpAny_Name (wpAny_loadName_cell I.ok.kind hk hc hcell fin) hd
    · exact wpAny_Name (wpAny_loadName_free I.ok.kind hk hc hcell fin hcd) hd
theorem qD {i j pos} : PE X (.Constant (.int i) j pos) (tC (.int i)) := fun _ _ _ H _ I h => wpAny_Constant_int ⟨.int i, H, I.tok _, ⟨_, rfl⟩, h⟩
theorem kC {b j pos} : PE X (.Constant (.bool b) j pos) (tC (.bl b)) := fun _ _ _ H _ I h => Constant_bool ⟨.bl b, H, I, rfl, h⟩
theorem vY {j pos} : PE X (.Constant .none j pos) (tC .non) := fun _ _ _ H _ I h => Constant_none ⟨.non, H, I, rfl, h⟩
theorem qI {x j pos} : PE X (.Constant (.str x) j pos) (tC (.str x)) := fun _ _ _ H _ I h => Calls.Constant_str ⟨.str x, H, I.tok _, ⟨_, rfl⟩, h⟩
def Gl (X : Cx) (x : Str) : Prop := X.env.kindOf x = some .globalImplicit
theorem kM {E : Value → Shared → Prop} {pins : List (Addr × Obj)} {s : Shared} {σ : St} {H : Hp} {x : Str} {u : Value} {pos : Pos} {Q : Value → Shared → Prop} (I : Inv X pins σ H s) (hg : Gl X x) (hm : X.mg x = some u) (h : Q u s)
    (hd : (x == ("__debug__" : Str)) = false := by decide) : wpAny (model X.prog X.w) X.A (eval (.Name x pos) X.env) Q E s :=
  Calls.Name_function_global I.ok.kind hg (Calls.loadGlobal_global (by rw [I.ok.glob]; exact I.mod.glob.keeps I.bk) hm h) hd
theorem qEw {E : Value → Shared → Prop} {pins : List (Addr × Obj)} {s : Shared} {σ : St} {H : Hp} {x : Str} {u : Value} {pos : Pos} {Q : Value → Shared → Prop} (I : Inv X pins σ H s) (hg : Gl X x) (hm : X.mg x = none) (hv : bootBuiltins x = some u) (h : Q u s)
    (hn : x ≠ "__name__" := by decide) (hd : (x == ("__debug__" : Str)) = false := by decide) : wpAny (model X.prog X.w) X.A (eval (.Name x pos) X.env) Q E s := by
  obtain ⟨mb, h1, h2⟩ := I.mod.blt
  exact Calls.Name_function_global I.ok.kind hg (Calls.loadGlobal_builtin (by rw [I.ok.glob]; exact I.mod.glob.keeps I.bk) hm (by rw [I.ok.blt]; exact h1.keeps I.bk) ((h2 x hn).trans hv) h) hd
theorem ja {x : Str} {v : V} {u : Value} {pos : Pos} (hg : Gl X x) (hm : X.mg x = some u) (r : RelV v u) (hd : (x == ("__debug__" : Str)) = false := by decide) : PE X (.Name x pos) (tC v) :=
  fun _ _ _ H _ I h => kM I hg hm ⟨v, H, I, r, h⟩ hd
theorem qKx {x : Str} {v : V} {u : Value} {pos : Pos} (hg : Gl X x) (hm : X.mg x = none) (hv : bootBuiltins x = some u) (r : RelV v u) (hn : x ≠ "__name__" := by decide) (hd : (x == ("__debug__" : Str)) = false := by decide) : PE X (.Name x pos) (tC v) :=
  fun _ _ _ H _ I h => qEw I hg hm hv ⟨v, H, I, r, h⟩ hn hd
variable {a b : Expr} {ta tb : TE} {pos : Pos}
def PC (X : Cx) (op : CmpOp) (a b : Expr) (t : TE) : Prop :=
  ∀ (pins : List (Addr × Obj)) (s : Shared) (σ : St) (H : Hp) (Q : VK), Inv X pins σ H s → t σ H Q →
    wpAny (model X.prog X.w) X.A (eval a X.env) (fun v s₁ => wpAny (model X.prog X.w) X.A (eval b X.env) (fun u s₂ => wpAny (model X.prog X.w) X.A (compareOp op v u) (EP X pins σ Q) X.xe s₂) X.xe s₁) X.xe s
theorem qE8 (b : Expr) {op : CmpOp} (h : op ≠ .In) (h2 : op ≠ .NotIn) : behindInMarks op b = false := by
  have e1 : (op == CmpOp.In) = false := by cases op <;> first | rfl | exact absurd rfl h
  have e2 : (op == CmpOp.NotIn) = false := by cases op <;> first | rfl | exact absurd rfl h2
  cases b <;> simp [behindInMarks, e1, e2]
def qOt (ta : TE) : TE := fun σ H Q => ta σ H fun x H1 => Q (.bl (decide (x = .non))) H1
def qM7 (ta : TE) : TE := fun σ H Q => ta σ H fun x H1 => Q (.bl (!decide (x = .non))) H1
theorem RelV.none_iff {x : V} {v : Value} (r : RelV x v) : (v == Value.none) = decide (x = .non) := by
  cases x with
  | non => cases r; rfl
  | bl _ => cases r; rfl
  | int _ => obtain ⟨t, rfl⟩ := r; rfl
  | str _ => obtain ⟨t, rfl⟩ := r; rfl
  | byt _ => obtain ⟨t, rfl⟩ := r; rfl
  | flt _ => obtain ⟨t, rfl⟩ := r; rfl
  | ref _ => cases r; rfl
  | ty _ => cases r; rfl
theorem vW {j pos'} (ha : PE X a ta) : PC X .Is a (.Constant .none j pos') (qOt ta) := by
  intro pins s σ H Q I h
  refine thn (ha pins s σ H _ I h) fun v s1 ⟨x, H1, I1, r1, q1⟩ => ?_
  exact Constant_none (is_none_gen ⟨.bl _, H1, I1, by rw [r1.none_iff]; rfl, q1⟩)
theorem qK8 {j pos'} (ha : PE X a ta) : PC X .IsNot a (.Constant .none j pos') (qM7 ta) := by
  intro pins s σ H Q I h
  refine thn (ha pins s σ H _ I h) fun v s1 ⟨x, H1, I1, r1, q1⟩ => ?_
  exact Constant_none (isnot_none_gen ⟨.bl _, H1, I1, by rw [r1.none_iff]; rfl, q1⟩)
def tB (t : TE) : TT := fun σ H Q => t σ H fun x H1 => ∃ c, x = .bl c ∧ Q c H1
theorem qLq {op : CmpOp} {t : TE} (h : PC X op a b t) (h1 : behindInMarks op b = false := by first | exact qE8 _ (by decide) (by decide) | rfl) : PE X (.Compare a [op] [b] pos) t := fun pins s σ H Q I hw => wpAny_Compare1 (h pins s σ H Q I hw) h1
theorem kU {op : CmpOp} {t : TE} (h : PC X op a b t) (h1 : behindInMarks op b = false := by first | exact qE8 _ (by decide) (by decide) | rfl) : PT X (.Compare a [op] [b] pos) (tB t) := by
  intro pins s σ H Q I hw
  refine wpAny_isTrue_Compare1 (thn (h pins s σ H _ I hw) fun v s1 h1 => thn h1 fun u s2 h2 => thn h2 fun c s3 ⟨x, H1, I1, r1, q1⟩ => ?_) h1
  obtain ⟨d, rfl, q⟩ := q1
  cases r1
  exact wpAny_truthy_bool ⟨H1, I1, q⟩
theorem jD {e : Expr} {t : TE} (h : PE X e t) (he : ∀ whole, isTrue e X.env whole = (do let v ← whole; standAt e.pos; holding [v] (truthy v)) := by intro _; rfl) : PT X e (tB t) := by
  intro pins s σ H Q I hw
  refine isTrue_plain (thn (h pins s σ H _ I hw) fun v s1 ⟨x, H1, I1, r1, q1⟩ => ?_) (he _)
  obtain ⟨d, rfl, q⟩ := q1
  cases r1
  exact wpAny_truthy_bool ⟨H1, I1, q⟩
variable {tA tB' : TT} {rest : List Expr}
def qOm (t u : TT) : TT := fun σ H Q => t σ H fun c H1 => if c = true then u σ H1 Q else Q false H1
def tOr (t u : TT) : TT := fun σ H Q => t σ H fun c H1 => if c = true then Q true H1 else u σ H1 Q
def qOg (t : TT) : TT := fun σ H Q => t σ H fun c H1 => Q (!c) H1
theorem zY (ha : PT X a tA) : PW X (.BoolOp .And [a] pos) tA := by
  intro wh pins s σ H Q I h
  refine isTrue_and (thn (ha pins s σ H Q I h) fun c s1 e => ?_)
  cases c with
  | true => exact isTrue_and_nil e
  | false => exact e
theorem jS (ha : PT X a tA) : PW X (.BoolOp .Or [a] pos) tA := by
  intro wh pins s σ H Q I h
  refine isTrue_or (thn (ha pins s σ H Q I h) fun c s1 e => ?_)
  cases c with
  | false => exact isTrue_or_nil e
  | true => exact e
theorem kc (ha : PT X a tA) (hb : PW X (.BoolOp .And (b :: rest) pos) tB') : PW X (.BoolOp .And (a :: b :: rest) pos) (qOm tA tB') := by
  intro wh pins s σ H Q I h
  refine isTrue_and (thn (ha pins s σ H _ I h) fun c s1 ⟨H1, I1, q1⟩ => ?_)
  cases c with
  | true => exact hb wh pins s1 σ H1 Q I1 q1
  | false => exact ⟨H1, I1, q1⟩
theorem xA (ha : PT X a tA) (hb : PW X (.BoolOp .Or (b :: rest) pos) tB') : PW X (.BoolOp .Or (a :: b :: rest) pos) (tOr tA tB') := by
  intro wh pins s σ H Q I h
  refine isTrue_or (thn (ha pins s σ H _ I h) fun c s1 ⟨H1, I1, q1⟩ => ?_)
  cases c with
  | true => exact ⟨H1, I1, q1⟩
  | false => exact hb wh pins s1 σ H1 Q I1 q1
theorem jP (ha : PT X a tA) : PT X (.UnaryOp .Not a pos) (qOg tA) := by
  intro pins s σ H Q I h
  exact isTrue_not (ha pins s σ H (fun c H1 => Q (!c) H1) I h)
def qMx (ta tb : TE) : TE := fun σ H Q => ta σ H fun x H1 => ∃ c, x = .bl c ∧ if c = true then tb σ H1 Q else Q (.bl false) H1
def qOu (ta tb : TE) : TE := fun σ H Q => ta σ H fun x H1 => ∃ c, x = .bl c ∧ if c = true then Q (.bl true) H1 else tb σ H1 Q
def qNc (ta : TE) : TE := fun σ H Q => ta σ H fun x H1 => ∃ c, x = .bl c ∧ Q (.bl (!c)) H1
theorem zl {op} {t : TE} (h : PE X a t) : PE X (.BoolOp op [a] pos) t := fun pins s σ H Q I hw => BoolOp_one (h pins s σ H Q I hw)
theorem zo (ha : PE X a ta) (hb : PE X (.BoolOp .And (b :: rest) pos) tb) : PE X (.BoolOp .And (a :: b :: rest) pos) (qMx ta tb) := by
  intro pins s σ H Q I h
  refine BoolOp_and (thn (ha pins s σ H _ I h) fun v s1 ⟨x, H1, I1, r1, q1⟩ => ?_)
  obtain ⟨c, rfl, q1⟩ := q1
  cases r1
  refine wpAny_truthy_bool ?_
  cases c with
  | true => exact hb pins s1 σ H1 Q I1 q1
  | false => exact ⟨.bl false, H1, I1, rfl, q1⟩
theorem qLo (ha : PE X a ta) (hb : PE X (.BoolOp .Or (b :: rest) pos) tb) : PE X (.BoolOp .Or (a :: b :: rest) pos) (qOu ta tb) := by
  intro pins s σ H Q I h
  refine BoolOp_or (thn (ha pins s σ H _ I h) fun v s1 ⟨x, H1, I1, r1, q1⟩ => ?_)
  obtain ⟨c, rfl, q1⟩ := q1
  cases r1
  refine wpAny_truthy_bool ?_
  cases c with
  | false => exact hb pins s1 σ H1 Q I1 q1
  | true => exact ⟨.bl true, H1, I1, rfl, q1⟩
theorem qJr (ha : PE X a ta) : PE X (.UnaryOp .Not a pos) (qNc ta) := by
  intro pins s σ H Q I h
  refine UnaryOp_ (thn (ha pins s σ H _ I h) fun v s1 ⟨x, H1, I1, r1, q1⟩ => ?_)
  obtain ⟨c, rfl, q1⟩ := q1
  cases r1
  exact not_of (wpAny_truthy_bool ⟨.bl (!c), H1, I1, rfl, q1⟩)
def tIf (t : TT) (ta tb : TE) : TE := fun σ H Q => t σ H fun c H1 => if c = true then ta σ H1 Q else tb σ H1 Q
theorem z7 {c : Expr} (hc : PT X c tA) (ha : PE X a ta) (hb : PE X b tb) : PE X (.IfExp c a b pos) (tIf tA ta tb) := by
  intro pins s σ H Q I h
  refine wpAny_IfExp (thn (hc pins s σ H _ I h) fun d s1 ⟨H1, I1, q1⟩ => ?_)
  cases d with
  | true => exact ha pins s1 σ H1 Q I1 q1
  | false => exact hb pins s1 σ H1 Q I1 q1
end
end L2
namespace L2
open PySem PySem.Spec PyProof.Rows
def SqL (K : PySem.W.Frag) (H : Hp) (a : Addr) (xs : List V) : Prop :=
  Rd H a (.lst xs) ∨
    ∃ (o : Obj) (its : Array Value) (n : Nat), K.lookup a = some o ∧ o.cls = .type "list" ∧ o.dict = none ∧ o.data = .seq its n ∧ its.size ≤ sizeLine ∧ Vals xs its.toList
def SqT (K : PySem.W.Frag) (H : Hp) (a : Addr) (xs : List V) : Prop :=
  Rd H a (.tup xs) ∨
    ∃ (o : Obj) (its : Array Value) (n : Nat), K.lookup a = some o ∧ o.cls = .type "tuple" ∧ o.data = .seq its n ∧ its.size ≤ sizeLine ∧ Vals xs its.toList
def qOz : Value → Option V
  | .none => some .non
  | .bool b => some (.bl b)
  | .int i _ => some (.int i)
  | .str x _ => some (.str x)
  | .bytes b _ => some (.byt b)
  | .float b _ => some (.flt b)
  | .ref a => some (.ref a)
  | .type n => some (.ty n)
  | _ => none
theorem RelV.abs {x : V} {u : Value} (r : RelV x u) : qOz u = some x := by
  cases x with
  | non => cases r; rfl
  | bl _ => cases r; rfl
  | int _ => obtain ⟨t, rfl⟩ := r; rfl
  | str _ => obtain ⟨t, rfl⟩ := r; rfl
  | byt _ => obtain ⟨t, rfl⟩ := r; rfl
  | flt _ => obtain ⟨t, rfl⟩ := r; rfl
  | ref _ => cases r; rfl
  | ty _ => cases r; rfl
theorem RelV.inj {x y : V} {u : Value} (r : RelV x u) (q : RelV y u) : x = y := Option.some.inj (r.abs.symm.trans q.abs)
theorem Vals.inj : ∀ {xs ys : List V} {us : List Value}, Vals xs us → Vals ys us → xs = ys
  | _, _, _, .nil, .nil => rfl
  | _, _, _, .cons r t, .cons r' t' => by rw [r.inj r', Vals.inj t t']
section
variable {X : Cx} {pins : List (Addr × Obj)} {σ : St} {H : Hp} {s : Shared} {a : Addr} {xs ys : List V}
theorem SqL.of {K : PySem.W.Frag} (h : H a = some (.lst xs)) : SqL K H a xs := .inl (.inl h)
theorem SqT.of {K : PySem.W.Frag} (h : H a = some (.tup xs)) : SqT K H a xs := .inl (.inl h)
theorem Inv.list (I : Inv X pins σ H s) (h : SqL X.K H a xs) : ∃ its : List Value, Vals xs its ∧ PlainL s.heap a its.toArray ∧ xs.length ≤ sizeLine := by
  rcases h with h | ⟨o, its, n, hk, hc, hd, hs, hz, r⟩
  · obtain ⟨z, its, n, r, e⟩ := h.ok I.hok
    exact ⟨its, r, ⟨_, n, e, rfl, rfl, rfl⟩, z⟩
  · refine ⟨its.toList, r, ⟨o, n, I.kIn a o hk, hc, hd, by simpa using hs⟩, ?_⟩
    have e := r.length
    simp only [Array.length_toList] at e
    omega
theorem Inv.tuple (I : Inv X pins σ H s) (h : SqT X.K H a xs) : ∃ its : List Value, Vals xs its ∧ IsTup s.heap a its.toArray ∧ xs.length ≤ sizeLine := by
  rcases h with h | ⟨o, its, n, hk, hc, hs, hz, r⟩
  · obtain ⟨z, its, r, p⟩ := h.ok I.hok
    exact ⟨its, r, p, z⟩
  · refine ⟨its.toList, r, ⟨o, I.kIn a o hk, hc, n, by simpa using hs⟩, ?_⟩
    have e := r.length
    simp only [Array.length_toList] at e
    omega
theorem Inv.list_inj (I : Inv X pins σ H s) (h : SqL X.K H a xs) (h' : SqL X.K H a ys) : xs = ys := by
  obtain ⟨its, r, ⟨o, n, e, _, _, d⟩, _⟩ := I.list h
  obtain ⟨its', r', ⟨o', n', e', _, _, d'⟩, _⟩ := I.list h'
  rw [e] at e'; cases e'
  rw [d] at d'
  injection d' with d1 _
  have : its = its' := by simpa using congrArg Array.toList d1
  subst this
  exact r.inj r'
theorem Inv.tuple_inj (I : Inv X pins σ H s) (h : SqT X.K H a xs) (h' : SqT X.K H a ys) : xs = ys := by
  obtain ⟨its, r, ⟨o, e, _, n, d⟩, _⟩ := I.tuple h
  obtain ⟨its', r', ⟨o', e', _, n', d'⟩, _⟩ := I.tuple h'
  rw [e] at e'; cases e'
  rw [d] at d'
  injection d' with d1 _
  have : its = its' := by simpa using congrArg Array.toList d1
  subst this
  exact r.inj r'
end
abbrev Cx.wish (X : Cx) (E : Value → Shared → Prop) : Cx := { X with xe := E }
abbrev Cx.nox (X : Cx) : Cx := X.wish fun _ _ => False
theorem Cx.Ok.wish {X : Cx} (ok : X.Ok) (E : Value → Shared → Prop) : (X.wish E).Ok :=
  ⟨ok.mod, ok.kind, ok.glob, ok.blt, ok.above, ok.inj, ok.has, ok.cab, ok.hd, ok.frames, ok.stk, ok.exf, ok.bs, ok.bsz, ok.noex, ok.exfs, ok.funs, ok.frf⟩
theorem Cx.Ok.unwish {X : Cx} {E : Value → Shared → Prop} (ok : (X.wish E).Ok) : X.Ok :=
  ⟨ok.mod, ok.kind, ok.glob, ok.blt, ok.above, ok.inj, ok.has, ok.cab, ok.hd, ok.frames, ok.stk, ok.exf, ok.bs, ok.bsz, ok.noex, ok.exfs, ok.funs, ok.frf⟩
section
variable {X : Cx} {pins : List (Addr × Obj)} {σ : St} {H : Hp} {s : Shared} {E : Value → Shared → Prop}
theorem Inv.wish (I : Inv X pins σ H s) (E : Value → Shared → Prop) : Inv (X.wish E) pins σ H s := ⟨I.ok.wish E, I.os, I.bare, I.base, I.loc, I.cell, I.free, I.freeC, I.pin, I.hok, I.len⟩
theorem Inv.unwish (I : Inv (X.wish E) pins σ H s) : Inv X pins σ H s := ⟨I.ok.unwish, I.os, I.bare, I.base, I.loc, I.cell, I.free, I.freeC, I.pin, I.hok, I.len⟩
theorem SP.unwish {D : qH7} {f : Flow} {s' : Shared} (h : SP (X.wish E) pins D f s') : SP X pins D f s' := by
  cases f with
  | next => obtain ⟨σ', H', I, q⟩ := h; exact ⟨σ', H', I.unwish, q⟩
  | brk => obtain ⟨σ', H', I, q⟩ := h; exact ⟨σ', H', I.unwish, q⟩
  | cont => obtain ⟨σ', H', I, q⟩ := h; exact ⟨σ', H', I.unwish, q⟩
  | ret u => obtain ⟨v, σ', H', I, r, q⟩ := h; exact ⟨v, σ', H', I.unwish, r, q⟩
theorem PE.nox {e : Expr} {t : TE} (h : PE X.nox e t) : PE X e t := fun pins s σ H Q I hw =>
  wpAny_mono (h pins s σ H Q (I.wish _) hw) (fun _ _ ⟨v, H', I', r, q⟩ => ⟨v, H', I'.unwish, r, q⟩) fun _ _ z => False.elim z
theorem PT.nox {e : Expr} {t : TT} (h : PT X.nox e t) : PT X e t := fun pins s σ H Q I hw =>
  wpAny_mono (h pins s σ H Q (I.wish _) hw) (fun _ _ ⟨H', I', q⟩ => ⟨H', I'.unwish, q⟩) fun _ _ z => False.elim z
theorem PSs.nox {st : List Stmt} {t : TS} (h : PSs X.nox st t) : PSs X st t := fun pins s σ H D I hw =>
  wpAny_mono (h pins s σ H D (I.wish _) hw) (fun _ _ q => q.unwish) fun _ _ z => False.elim z
end
section
variable {X : Cx} {st : Stmt} {rest : List Stmt} {t u : TS} {e : Expr} {te : TE} {pos : Pos}
def qNh : TS := fun D σ H => D.nx σ H
def qN4 (t u : TS) : TS := fun D σ H => t { D with nx := u D } σ H
theorem qV : PSs X [] qNh := fun _ _ σ H _ I h => wpAny_execs_nil ⟨σ, H, I, h⟩
theorem qG (h1 : PS X st t) (h2 : PSs X rest u) : PSs X (st :: rest) (qN4 t u) := by
  intro pins s σ H D I h
  refine wpAny_execs_cons (thn (h1 pins s σ H { D with nx := u D } I h) fun f s1 q => ?_)
  cases f with
  | next =>
    obtain ⟨σ', H', I', q⟩ := q
    exact h2 pins s1 σ' H' D I' q
  | ret v => exact q
  | brk => exact q
  | cont => exact q
theorem qH (h1 : PS X st t) : PSs X [st] t := by
  intro pins s σ H D I h
  refine wpAny_execs_cons (thn (h1 pins s σ H D I h) fun f s1 q => ?_)
  cases f with
  | next => exact wpAny_execs_nil q
  | ret v => exact q
  | brk => exact q
  | cont => exact q
theorem Inv.quiet {pins : List (Addr × Obj)} {σ : St} {H : Hp} {s : Shared} (I : Inv X pins σ H s) : interactive X.env = false := by simp [interactive, I.ok.kind]
def qNf (te : TE) : TS := fun D σ H => te σ H fun _ H1 => D.nx σ H1
theorem jN (he : PE X e te) (hs : swapsWith e none pos.line X.env = pure false := by rfl) : PS X (.Expr e pos) (qNf te) := by
  intro pins s σ H D I h
  exact wpAny_Expr_any (thn (he pins s σ H _ I h) fun v s1 ⟨x, H1, I1, r1, q1⟩ => ⟨σ, H1, I1, q1⟩) I.quiet hs
def qOw (te : TE) : TS := fun D σ H => te σ H D.rt
theorem qP (he : PE X e te) : PS X (.Return (some e) pos) (qOw te) := by
  intro pins s σ H D I h
  exact wpAny_Return_some (thn (he pins s σ H _ I h) fun v s1 ⟨x, H1, I1, r1, q1⟩ => ⟨x, σ, H1, I1, r1, q1⟩)
def qOo (c : TT) (t u : TS) : TS := fun D σ H => c σ H fun b H1 => if b = true then t D σ H1 else u D σ H1
theorem qj {c : Expr} {a b : List Stmt} {tc : TT} (hc : PT X c tc) (ha : PSs X a t) (hb : PSs X b u) : PS X (.If c a b pos) (qOo tc t u) := by
  intro pins s σ H D I h
  refine wpAny_If (thn (hc pins s σ H _ I h) fun d s1 ⟨H1, I1, q1⟩ => ?_)
  cases d with
  | true => exact ha pins s1 σ H1 D I1 q1
  | false => exact hb pins s1 σ H1 D I1 q1
def qL4 : TS := fun _ _ _ => False
theorem zp {sts : List Stmt} : PSs X sts qL4 := fun _ _ _ _ _ _ h => h.elim
end
abbrev TG := V → St → Hp → (St → Hp → Prop) → Prop
abbrev TGs := List V → St → Hp → (St → Hp → Prop) → Prop
def PG (X : Cx) (target : Expr) (t : TG) : Prop :=
  ∀ (pins : List (Addr × Obj)) (s : Shared) (σ : St) (H : Hp) (v : V) (u : Value) (Q : St → Hp → Prop), Inv X pins σ H s → RelV v u → t v σ H Q →
    wpAny (model X.prog X.w) X.A (assign target X.env u) (fun _ s' => ∃ σ' H', Inv X pins σ' H' s' ∧ Q σ' H') X.xe s
def PGs (X : Cx) (ts : List Expr) (t : TGs) : Prop :=
  ∀ (pins : List (Addr × Obj)) (s : Shared) (σ : St) (H : Hp) (vs : List V) (us : List Value) (Q : St → Hp → Prop), Inv X pins σ H s → Vals vs us → t vs σ H Q →
    wpAny (model X.prog X.w) X.A (assignInOrder ((assignEach ts X.env).map (·.2)) us) (fun _ s' => ∃ σ' H', Inv X pins σ' H' s' ∧ Q σ' H') X.xe s
abbrev qNg := V → V → V → Hp → (Hp → Prop) → Prop
def qN5 (X : Cx) (t : qNg) : Prop :=
  ∀ (pins : List (Addr × Obj)) (s : Shared) (σ : St) (H : Hp) (o i v : V) (ov iv u : Value) (Q : Hp → Prop), Inv X pins σ H s → RelV o ov → RelV i iv → RelV v u → t o i v H Q →
    wpAny (model X.prog X.w) X.A (setItem ov iv u) (fun _ s' => ∃ H', Inv X pins σ H' s' ∧ Q H') X.xe s
section
variable {X : Cx} {pos : Pos}
def qKo (i : Nat) : TG := fun v σ H Q => Q (σ.set i (some v)) H
theorem zF {i : Nat} {x : Str} (hN : X.N.Nodup) (hi : X.N[i]? = some x) (hx : Loc X.env.scope x) (hf : X.fn x = true ∨ X.env.scope.names.lookup x = some .local := by first | exact .inl rfl | exact .inr rfl | assumption) : PG X (.Name x pos) (qKo i) := by
  intro pins s σ H v u Q I r h
  exact wpAny_assign_Name (zd I hN hi hx r (fun s' I' => ⟨_, H, I', h⟩) hf)
def qOx : TGs := fun vs σ H Q => vs = [] ∧ Q σ H
def qNl (t : TG) (u : TGs) : TGs := fun vs σ H Q => ∃ v r, vs = v :: r ∧ t v σ H fun σ' H' => u r σ' H' Q
theorem qG4 : PGs X [] qOx := by
  intro pins s σ H vs us Q I r h
  obtain ⟨e, h⟩ := h
  subst e
  cases r
  exact assignInOrder_nil ⟨σ, H, I, h⟩
theorem v8 {e : Expr} {es : List Expr} {t : TG} {u : TGs} (h1 : PG X e t) (h2 : PGs X es u)
    (hs : (assignEach (e :: es) X.env).map (·.2) = assign e X.env :: (assignEach es X.env).map (·.2) := by rfl) : PGs X (e :: es) (qNl t u) := by
  intro pins s σ H vs us Q I r h
  obtain ⟨v, vr, e1, h⟩ := h
  subst e1
  cases r with
  | cons r rr =>
    rw [hs]
    refine assignInOrder_cons (thn (h1 pins s σ H _ _ _ I r h) fun _ s1 ⟨σ1, H1, I1, q1⟩ => ?_)
    exact h2 pins s1 σ1 H1 _ _ Q I1 rr q1
def qOy (K : PySem.W.Frag) (n : Nat) (t : TGs) : TG := fun v σ H Q => ∃ a xs, v = .ref a ∧ SqT K H a xs ∧ xs.length = n ∧ t xs σ H Q
theorem qJp {es : List Expr} {k : Nat} {t : TGs} {n : Nat} (hc : X.calm = true) (h : PGs X es t)
    (hn : (assignEach es X.env).length = n := by rfl) (hst : (assignEach es X.env).findIdx? (·.1) = none := by rfl) : PG X (.Tuple es k pos) (qOy X.K n t) := by
  intro pins s σ H v u Q I r hw
  obtain ⟨a, xs, e1, hq, hl, hw⟩ := hw
  subst e1
  cases r
  obtain ⟨its, rv, ht, hz⟩ := I.tuple hq
  refine assign_Tuple_tuple (I.ok.hd hc) ht (by simp [hn, ← hl, rv.length]) hst fun h' hx => ?_
  have I1 : Inv X pins σ H { s with heap := h' } := I.kept (t' := s.toks) fun b o e => hx b o (Nat.ne_of_lt (Heap.lt_size e)) e
  exact h pins _ σ H xs _ Q I1 (by simpa using rv) hw
def qOf (to ti : TE) (t : qNg) : TG := fun v σ H Q => to σ H fun o H1 => ti σ H1 fun i H2 => t o i v H2 fun H3 => Q σ H3
theorem qE1 {o i : Expr} {to ti : TE} {t : qNg} (ho : PE X o to) (hi : PE X i ti) (hs : qN5 X t)
    (ha : ∀ v, assign (.Subscript o i pos) X.env v = (do
      let ov ← holding [v] (eval o X.env)
      let iv ← holding [v, ov] (eval i X.env)
      standAt pos
      holding [v, ov, iv] (setItem ov iv v)
      release [v, ov, iv] []) := by intro _; rfl) : PG X (.Subscript o i pos) (qOf to ti t) := by
  intro pins s σ H v u Q I r h
  rw [ha]
  refine wpAny_bind (wpAny_holding (thn (ho pins s σ H _ I h) fun ov s1 ⟨x, H1, I1, r1, q1⟩ => ?_))
  refine wpAny_bind (wpAny_holding (thn (hi pins s1 σ H1 _ I1 q1) fun iv s2 ⟨y, H2, I2, r2, q2⟩ => ?_))
  refine wpAny_bind (wpAny_standAt (wpAny_bind (wpAny_holding (thn (hs pins s2 σ H2 x y v ov iv u _ I2 r1 r2 r q2) fun _ s3 ⟨H3, I3, q3⟩ => ?_))))
  exact wpAny_release ⟨σ, H3, I3, q3⟩
def qNj (te : TE) (g : TG) : TS := fun D σ H => te σ H fun x H1 => g x σ H1 D.nx
theorem qEp {tg e : Expr} {te : TE} {g : TG} (he : PE X e te) (hg : PG X tg g) (hs : swapsWithSole [tg] e pos.line X.env = pure false := by rfl) (hw : swappedStores [tg] e X.env = pure none := by rfl)
    (h1 : (assignEach [tg] X.env).map (·.2) = [assign tg X.env] := by rfl) : PS X (.Assign [tg] e pos) (qNj te g) := by
  intro pins s σ H D I h
  refine wpAny_Assign_stores (thn (he pins s σ H _ I h) fun v s1 ⟨x, H1, I1, r1, q1⟩ => ?_) hs hw
  rw [h1]
  exact thn (hg pins s1 σ H1 x v _ I1 r1 q1) fun _ s2 q => q
theorem qU {i : Nat} {x : Str} {e : Expr} {te : TE} {pos' : Pos} (hN : X.N.Nodup) (hi : X.N[i]? = some x) (hx : Loc X.env.scope x) (he : PE X e te) (hs : swapsWith e (some (.Name x pos')) pos.line X.env = pure false := by rfl) (hf : X.fn x = true ∨ X.env.scope.names.lookup x = some .local := by first | exact .inl rfl | exact .inr rfl | assumption) :
    PS X (.Assign [.Name x pos'] e pos) (qNj te (qKo i)) := by
  intro pins s σ H D I h
  refine wpAny_Assign_Name (thn (he pins s σ H _ I h) fun v s1 ⟨y, H1, I1, r1, q1⟩ => ?_) hs
  exact zd I1 hN hi hx r1 (fun s2 I2 => ⟨_, H1, I2, q1⟩) hf
end
section
variable {X : Cx} {pos : Pos}
def qJm (c : TT) (tb : TS) : TS := fun D σ H => ∃ W : Nat → St → Hp → Prop, (∃ m, W m σ H) ∧ ∀ m σ H, W m σ H →
  c σ H fun b H1 => if b = true then ∃ N : St → Hp → Prop, (∀ σ' H', N σ' H' → ∃ m', m' < m ∧ W m' σ' H') ∧ tb { D with nx := N, ct := N, bk := D.nx } σ H1 else D.nx σ H1
theorem qJj {c : Expr} {body : List Stmt} {tc : TT} {tb : TS} (hp : PassesOwn (model X.prog X.w) X.A X.env X.xe) (hc : PT X c tc) (hb : PSs X body tb) : PS X (.While c body [] pos) (qJm tc tb) := by
  intro pins s σ H D I h
  obtain ⟨W, ⟨m0, w0⟩, turn⟩ := h
  refine wpAny_While (codeAny_whileLoop (fun n s' => ∃ σ' H', Inv X pins σ' H' s' ∧ W n σ' H') ?_ m0 ⟨σ, H, I, w0⟩)
  rintro n s1 ⟨σ1, H1, I1, w1⟩
  refine wpAny_passesOwn hp (thn (hc pins s1 σ1 H1 _ I1 (turn n σ1 H1 w1)) fun b s2 ⟨H2, I2, q2⟩ => ?_)
  cases b with
  | true =>
    obtain ⟨N, hN, q2⟩ := q2
    rw [if_pos rfl]
    refine wpAny_passesOwn hp (thn (hb pins s2 σ1 H2 _ I2 q2) fun f s3 q3 => ?_)
    cases f with
    | next =>
      obtain ⟨σ3, H3, I3, n3⟩ := q3
      obtain ⟨m', hm, w3⟩ := hN σ3 H3 n3
      exact ⟨m', hm, σ3, H3, I3, w3⟩
    | cont =>
      obtain ⟨σ3, H3, I3, n3⟩ := q3
      obtain ⟨m', hm, w3⟩ := hN σ3 H3 n3
      exact ⟨m', hm, σ3, H3, I3, w3⟩
    | brk => exact q3
    | ret v => exact q3
  | false =>
    rw [if_neg Bool.false_ne_true]
    exact wpAny_execs_nil ⟨σ1, H2, I2, q2⟩
end
structure It where
  go : Nat → Hp → Prop
  yld : Nat → Hp → V → Hp → Prop
  stop : Nat → Hp → Prop
def qId (X : Cx) (pins : List (Addr × Obj)) (H : Hp) (b : Addr) : Prop :=
  H b = none ∧ b ≠ X.env.locals ∧ b ∉ X.fs ∧ (b ∈ X.ex ∨ X.s₀.heap.objs.size ≤ b) ∧ (∀ x c, X.env.cells.lookup x = some c → c ≠ b) ∧ ∀ p ∈ X.pn ++ pins, p.1 ≠ b
theorem Inv.fpOk {X : Cx} {pins : List (Addr × Obj)} {σ : St} {H H' : Hp} {s : Shared} {b : Addr} (I : Inv X pins σ H s) (hb : s.heap.objs.size ≤ b) (hn : H' b = none) : qId X pins H' b := by
  refine ⟨hn, Nat.ne_of_gt (Nat.lt_of_lt_of_le I.lt hb), I.nofs hb, .inr (Nat.le_trans I.sz hb), fun x c e z => ?_, fun p hp z => ?_⟩
  · obtain ⟨v, q⟩ := I.cell x c e
    exact absurd (Nat.lt_of_lt_of_le q.lt (by rw [z]; exact hb)) (Nat.lt_irrefl _)
  · exact absurd (Nat.lt_of_lt_of_le (Heap.lt_size (I.pin p hp).1) (by rw [z]; exact hb)) (Nat.lt_irrefl _)
structure qMa (P : Program) (w : World) (K : PySem.W.Frag) (tg : Expr) (J : It) (fp : List Addr) (it : Addr) (tn : Nat → Heap → Prop) : Prop where
  mem : it ∈ fp
  obj : ∀ i h, tn i h → ∀ b ∈ fp, ∃ o, h.get? b = some o ∧ ∀ v, o.data ≠ .cell v
  keep : ∀ i h h', tn i h → (∀ b ∈ fp, ∀ o, h.get? b = some o → h'.get? b = some o) → tn i h'
  item : ∀ (X : Cx), X.prog = P → X.w = w → X.K = K → X.calm = true → ∀ (i : Nat) (pins : List (Addr × Obj)) (s : Shared) (σ : St) (H : Hp) (E : Value → Shared → Prop), Inv X pins σ H s → (∀ b ∈ fp, qId X pins H b) → tn i s.heap → J.go i H →
    wpAny (model P w) X.A (pyNext (.ref it)) (fun r s1 => ∃ u, r = some u ∧
      wpAny (model P w) X.A (letOwnedTupleGo tg (.ref it) u) (fun _ s2 => ∃ x H', Inv X pins σ H' s2 ∧ RelV x u ∧ J.yld i H x H' ∧ tn (i + 1) s2.heap ∧ ∀ b ∈ fp, H' b = none) E s1) E s
  done : ∀ (X : Cx), X.prog = P → X.w = w → X.K = K → X.calm = true → ∀ (i : Nat) (pins : List (Addr × Obj)) (s : Shared) (σ : St) (H : Hp) (E : Value → Shared → Prop), Inv X pins σ H s → (∀ b ∈ fp, qId X pins H b) → tn i s.heap → J.stop i H →
    wpAny (model P w) X.A (pyNext (.ref it)) (fun r s1 => r = none ∧ Inv X pins σ H s1) E s
  self : ∀ (A : Around) (i : Nat) (s : Shared) (Q : Value → Shared → Prop) (E : Value → Shared → Prop), tn i s.heap → Q (.ref it) s → wpAny (model P w) A (pyIter (.ref it)) Q E s
abbrev TI := St → Hp → (It → Hp → Prop) → Prop
def PIE (X : Cx) (pins : List (Addr × Obj)) (σ : St) (tg : Expr) (R : It → Hp → Prop) (itv : Value) (s2 : Shared) : Prop :=
  ∃ (it : Addr) (fp : List Addr) (tn : Nat → Heap → Prop) (J : It) (H' : Hp), itv = .ref it ∧ Inv X pins σ H' s2 ∧ qMa X.prog X.w X.K tg J fp it tn ∧ tn 0 s2.heap ∧ (∀ b ∈ fp, qId X pins H' b) ∧ R J H'
def PI (X : Cx) (tg iter : Expr) (wi : TI) : Prop :=
  ∀ (pins : List (Addr × Obj)) (s : Shared) (σ : St) (H : Hp) (R : It → Hp → Prop), Inv X pins σ H s → wi σ H R →
    wpAny (model X.prog X.w) X.A (eval iter X.env) (fun v s1 => wpAny (model X.prog X.w) X.A (pyIter v) (PIE X pins σ tg R) X.xe s1) X.xe s
theorem qK1 {M : Model} {A : Around} {E : Value → Shared → Prop} {s : Shared} {tg : Expr} {it : Addr} {u : Value} {o : Obj} {n : String} {vs : Array Value} {Q : Unit → Shared → Prop} (ho : s.heap.get? it = some o) (hc : o.cls = .type n) (hd : o.data = .fields vs)
    (hn : ["enumerate", "zip", "dict_itemiterator", "dict_reverseitemiterator", "odict_iterator", "itertools.zip_longest", "itertools.pairwise"].contains n = false) (hQ : Q () s) : wpAny M A (letOwnedTupleGo tg (.ref it) u) Q E s := by
  unfold letOwnedTupleGo
  cases tg <;> first
    | exact wpAny_pure hQ
    | (cases u <;> first
        | exact wpAny_pure hQ
        | (refine wpAny_bind (wpAny_load ho ?_)
           rw [hc, hd]
           show wpAny M A (if (["enumerate", "zip", "dict_itemiterator", "dict_reverseitemiterator", "odict_iterator", "itertools.zip_longest", "itertools.pairwise"].contains n && vs[0]? == some (rawInt _)) = true then _ else _) Q E s
           rw [if_neg (by intro h; rw [hn, Bool.false_and] at h; cases h)]
           exact wpAny_pure hQ))
def Itl (K : PySem.W.Frag) (a : Addr) : It :=
  ⟨fun i H => ∃ xs x, SqL K H a xs ∧ xs[i]? = some x, fun i H x H' => H' = H ∧ ∀ xs, SqL K H a xs → xs[i]? = some x, fun i H => ∃ xs, SqL K H a xs ∧ xs.length ≤ i⟩
def Itt (K : PySem.W.Frag) (a : Addr) : It :=
  ⟨fun i H => ∃ xs x, SqT K H a xs ∧ xs[i]? = some x, fun i H x H' => H' = H ∧ ∀ xs, SqT K H a xs → xs[i]? = some x, fun i H => ∃ xs, SqT K H a xs ∧ xs.length ≤ i⟩
theorem qGu {P : Program} {w : World} {K : PySem.W.Frag} {tg : Expr} (a it : Addr) : qMa P w K tg (Itl K a) [it] it (fun i h => h.IsListIter it a i) where
  mem := by simp
  obj := fun i h st b hb => by
    have e : b = it := by simpa using hb
    subst e
    obtain ⟨o, e, c, d⟩ := st
    exact ⟨o, e, fun v z => by rw [d] at z; cases z⟩
  keep := fun i h h' st k => st.at fun o e => k it (by simp) o e
  item := by
    intro X hP hw hK hc i pins s σ H E I hf st hg
    subst hP hw hK
    obtain ⟨xs, x, hq, hx⟩ := hg
    obtain ⟨its, rv, p, hz⟩ := I.list hq
    obtain ⟨u, hu, ru⟩ := rv.get hx
    obtain ⟨f0, f1, f2, f3, f4, f5⟩ := hf it (by simp)
    refine wpAny_pyNext_list_item st p.isList (x := u) (by simpa using hu) fun h' st' sb => ?_
    have I1 : Inv X pins σ H { s with heap := h' } := I.turned (t' := s.toks) (fun b o hb e => (sb.2 b hb).trans e) f0 f1 f3 f4 f5
    obtain ⟨o, e, c, d⟩ := id st'
    exact ⟨u, rfl, qK1 (s := { s with heap := h' }) e c d (by decide) ⟨x, H, I1, ru, ⟨rfl, fun ys hy => by rw [I.list_inj hy hq]; exact hx⟩, st', fun b hb => (hf b hb).1⟩⟩
  done := by
    intro X hP hw hK hc i pins s σ H E I hf st hg
    subst hP hw hK
    obtain ⟨xs, hq, hx⟩ := hg
    obtain ⟨its, rv, p, hz⟩ := I.list hq
    obtain ⟨f0, f1, f2, f3, f4, f5⟩ := hf it (by simp)
    have hl := rv.length
    exact wpAny_pyNext_list_end (I.ok.hd hc) st p.isList (by simp; omega) fun h' eb => ⟨rfl, I.turned (t' := s.toks) (fun b o hb e => eb b o hb e) f0 f1 f3 f4 f5⟩
  self := fun _ _ _ _ _ st h => wpAny_pyIter_listiter st h
theorem qFo {P : Program} {w : World} {K : PySem.W.Frag} {tg : Expr} (a it : Addr) : qMa P w K tg (Itt K a) [it] it (fun i h => h.IsTupleIter it a i) where
  mem := by simp
  obj := fun i h st b hb => by
    have e : b = it := by simpa using hb
    subst e
    obtain ⟨o, e, c, d⟩ := st
    exact ⟨o, e, fun v z => by rw [d] at z; cases z⟩
  keep := fun i h h' st k => st.at fun o e => k it (by simp) o e
  item := by
    intro X hP hw hK hc i pins s σ H E I hf st hg
    subst hP hw hK
    obtain ⟨xs, x, hq, hx⟩ := hg
    obtain ⟨its, rv, p, hz⟩ := I.tuple hq
    obtain ⟨u, hu, ru⟩ := rv.get hx
    obtain ⟨f0, f1, f2, f3, f4, f5⟩ := hf it (by simp)
    refine wpAny_pyNext_tuple_item st (show s.heap.IsTuple a its.toArray from p) (x := u) (by simpa using hu) fun h' st' sb => ?_
    have I1 : Inv X pins σ H { s with heap := h' } := I.turned (t' := s.toks) (fun b o hb e => (sb.2 b hb).trans e) f0 f1 f3 f4 f5
    obtain ⟨o, e, c, d⟩ := id st'
    exact ⟨u, rfl, qK1 (s := { s with heap := h' }) e c d (by decide) ⟨x, H, I1, ru, ⟨rfl, fun ys hy => by rw [I.tuple_inj hy hq]; exact hx⟩, st', fun b hb => (hf b hb).1⟩⟩
  done := by
    intro X hP hw hK hc i pins s σ H E I hf st hg
    subst hP hw hK
    obtain ⟨xs, hq, hx⟩ := hg
    obtain ⟨its, rv, p, hz⟩ := I.tuple hq
    obtain ⟨f0, f1, f2, f3, f4, f5⟩ := hf it (by simp)
    have hl := rv.length
    exact wpAny_pyNext_tuple_end (I.ok.hd hc) st (show s.heap.IsTuple a its.toArray from p) (by simp; omega) fun h' eb => ⟨rfl, I.turned (t' := s.toks) (fun b o hb e => eb b o hb e) f0 f1 f3 f4 f5⟩
  self := fun _ _ _ _ _ st h => wpAny_pyIter_tupleiter st h
end L2
namespace L2
open PySem PySem.Spec PyProof.Rows
section
variable {X : Cx} {tg : Expr}
def qNv (K : PySem.W.Frag) (tl : TE) : TI := fun σ H R => tl σ H fun x H1 => ∃ a, x = .ref a ∧ (∃ xs, SqL K H1 a xs) ∧ R (Itl K a) H1
def qO3 (K : PySem.W.Frag) (tl : TE) : TI := fun σ H R => tl σ H fun x H1 => ∃ a, x = .ref a ∧ (∃ xs, SqT K H1 a xs) ∧ R (Itt K a) H1
theorem xW {l : Expr} {tl : TE} (hl : PE X l tl) : PI X tg l (qNv X.K tl) := by
  intro pins s σ H R I h
  refine thn (hl pins s σ H _ I h) fun v s1 ⟨x, H1, I1, r1, q1⟩ => ?_
  obtain ⟨a, e, ⟨xs, hq⟩, q⟩ := q1
  subst e
  cases r1
  obtain ⟨its, rv, p, hz⟩ := I1.list hq
  refine wpAny_pyIter_list p.isList ?_
  refine ⟨s1.heap.objs.size, [s1.heap.objs.size], _, _, H1, rfl, I1.kept (t' := s1.toks) fun b o e => Heap.get?_push_of_some _ e, qGu a _, ⟨_, Heap.get?_push_size _ rfl, rfl, rfl⟩, fun b hb => ?_, q⟩
  have e : b = s1.heap.objs.size := by simpa using hb
  subst e
  exact I1.fpOk (Nat.le_refl _) (I1.hok.fresh (Nat.le_refl _))
theorem qLt {l : Expr} {tl : TE} (hl : PE X l tl) : PI X tg l (qO3 X.K tl) := by
  intro pins s σ H R I h
  refine thn (hl pins s σ H _ I h) fun v s1 ⟨x, H1, I1, r1, q1⟩ => ?_
  obtain ⟨a, e, ⟨xs, hq⟩, q⟩ := q1
  subst e
  cases r1
  obtain ⟨its, rv, p, hz⟩ := I1.tuple hq
  refine wpAny_pyIter_tuple (show s1.heap.IsTuple a its.toArray from p) ?_
  refine ⟨s1.heap.objs.size, [s1.heap.objs.size], _, _, H1, rfl, I1.kept (t' := s1.toks) fun b o e => Heap.get?_push_of_some _ e, qFo a _, ⟨_, Heap.get?_push_size _ rfl, rfl, rfl⟩, fun b hb => ?_, q⟩
  have e : b = s1.heap.objs.size := by simpa using hb
  subst e
  exact I1.fpOk (Nat.le_refl _) (I1.hok.fresh (Nat.le_refl _))
def qO1 (wi : TI) (g : TG) (tb : TS) : TS := fun D σ H => wi σ H fun J H1 => ∃ W : Nat → Nat → St → Hp → Prop, (∃ m, W 0 m σ H1) ∧ ∀ i m σ H, W i m σ H →
  (J.stop i H ∧ D.nx σ H) ∨ (J.go i H ∧ ∃ N : St → Hp → Prop, (∀ σ' H', N σ' H' → ∃ m', m' < m ∧ W (i + 1) m' σ' H') ∧ ∀ x H', J.yld i H x H' → g x σ H' fun σ2 H2 => tb { D with nx := N, ct := N, bk := D.nx } σ2 H2)
def qCc (fp : List Addr) (h : Heap) : List (Addr × Obj) := fp.filterMap fun b => (h.get? b).map fun o => (b, o)
theorem zz {fp : List Addr} {h : Heap} {b : Addr} {o : Obj} (hb : b ∈ fp) (e : h.get? b = some o) : (b, o) ∈ qCc fp h := List.mem_filterMap.mpr ⟨b, hb, by rw [e]; rfl⟩
theorem qGt {fp : List Addr} {h : Heap} {p : Addr × Obj} (hp : p ∈ qCc fp h) : p.1 ∈ fp ∧ h.get? p.1 = some p.2 := by
  obtain ⟨b, hb, e⟩ := List.mem_filterMap.mp hp
  cases q : h.get? b with
  | none => rw [q] at e; cases e
  | some o =>
    rw [q] at e
    have e' : (b, o) = p := Option.some.inj e
    subst e'
    exact ⟨hb, q⟩
theorem Inv.pinned {pins : List (Addr × Obj)} {σ : St} {H : Hp} {s : Shared} {fp : List Addr} (I : Inv X pins σ H s) (hf : ∀ b ∈ fp, qId X pins H b) (ho : ∀ b ∈ fp, ∃ o, s.heap.get? b = some o ∧ ∀ v, o.data ≠ .cell v) : Inv X (pins ++ qCc fp s.heap) σ H s :=
  I.pins_of fun p hp => (List.mem_append.mp hp).elim (fun z => I.pin p (List.mem_append_right _ z)) fun z => by
    obtain ⟨hb, e⟩ := qGt z
    obtain ⟨f0, f1, f2, _⟩ := hf p.1 hb
    obtain ⟨o, e', d⟩ := ho p.1 hb
    rw [e] at e'; cases e'
    exact ⟨e, f0, f1, f2, d⟩
theorem Inv.unpinned {pins pl : List (Addr × Obj)} {σ : St} {H : Hp} {s : Shared} (I : Inv X (pins ++ pl) σ H s) : Inv X pins σ H s := I.pins_of fun p hp => I.pin p (List.mem_append_right _ (List.mem_append_left _ hp))
theorem vT {iter : Expr} {body : List Stmt} {wi : TI} {g : TG} {tb : TS} {pos : Pos} (hp : PassesOwn (model X.prog X.w) X.A X.env X.xe) (hc : X.calm = true) (hi : PI X tg iter wi) (hg : PG X tg g) (hb : PSs X body tb)
    (hs : ∀ x, foldedSetIterable iter X.env x = pure x := by intro _; rfl) : PS X (.For tg iter body [] pos) (qO1 wi g tb) := by
  intro pins s σ H D I h
  refine wpAny_For (thn (hi pins s σ H _ I h) fun v s1 h1 => thn h1 fun itv s2 h2 => ?_) hs
  obtain ⟨it, fp, tn, J, H2, e, I2, T, st2, f2, W, ⟨m0, w0⟩, turn⟩ := h2
  subst e
  have stat : ∀ {H' : Hp}, (∀ b ∈ fp, H' b = none) → ∀ b ∈ fp, qId X pins H' b := fun hn b hb => ⟨hn b hb, (f2 b hb).2⟩
  refine codeAny_forLoop_any (fun n s' => ∃ i σ' H', Inv X pins σ' H' s' ∧ tn i s'.heap ∧ (∀ b ∈ fp, H' b = none) ∧ W i n σ' H') ?_ m0 ⟨0, σ, H2, I2, st2, fun b hb => (f2 b hb).1, w0⟩
  rintro n s3 ⟨i, σ3, H3, I3, st3, fr3, w3⟩
  rcases turn i n σ3 H3 w3 with ⟨stop, qn⟩ | ⟨go, N, hN, step⟩
  · refine wpAny_passesOwn hp (thn (T.done X rfl rfl rfl hc i pins s3 σ3 H3 X.xe I3 (stat fr3) st3 stop) fun r s4 ⟨hr, I4⟩ => ?_)
    subst hr
    exact wpAny_execs_nil ⟨σ3, H3, I4, qn⟩
  · refine wpAny_passesOwn hp (thn (T.item X rfl rfl rfl hc i pins s3 σ3 H3 X.xe I3 (stat fr3) st3 go) fun r s4 ⟨u, hr, h4⟩ => ?_)
    subst hr
    refine wpAny_passesOwn hp (thn h4 fun _ s5 ⟨x, H5, I5, r5, y5, st5, fr5⟩ => ?_)
    have I5' := I5.pinned (stat fr5) (T.obj _ _ st5)
    refine wpAny_passesOwn hp (thn (hg _ s5 σ3 H5 x u _ I5' r5 (step x H5 y5)) fun _ s6 ⟨σ6, H6, I6, q6⟩ => ?_)
    refine wpAny_passesOwn hp (thn (hb _ s6 σ6 H6 _ I6 q6) fun f s7 q7 => ?_)
    have again : ∀ {σ7 : St} {H7 : Hp}, Inv X (pins ++ qCc fp s5.heap) σ7 H7 s7 → N σ7 H7 → ∃ m, m < n ∧ ∃ i σ' H', Inv X pins σ' H' s7 ∧ tn i s7.heap ∧ (∀ b ∈ fp, H' b = none) ∧ W i m σ' H' := fun {σ7 H7} I7 n7 => by
      obtain ⟨m', hm, w7⟩ := hN σ7 H7 n7
      refine ⟨m', hm, i + 1, σ7, H7, I7.unpinned, T.keep _ _ _ st5 fun b hb o e => (I7.pin (b, o) (List.mem_append_right _ (List.mem_append_right _ (zz hb e)))).1, fun b hb => ?_, w7⟩
      obtain ⟨o, e, d⟩ := T.obj _ _ st5 b hb
      exact (I7.pin (b, o) (List.mem_append_right _ (List.mem_append_right _ (zz hb e)))).2.1
    cases f with
    | next => obtain ⟨σ7, H7, I7, n7⟩ := q7; exact again I7 n7
    | cont => obtain ⟨σ7, H7, I7, n7⟩ := q7; exact again I7 n7
    | brk => obtain ⟨σ7, H7, I7, q7⟩ := q7; exact ⟨σ7, H7, I7.unpinned, q7⟩
    | ret v => obtain ⟨x7, σ7, H7, I7, r7, q7⟩ := q7; exact ⟨x7, σ7, H7, I7.unpinned, r7, q7⟩
end
theorem zV {K : PySem.W.Frag} {a : Addr} {xs : List V} {g : TG} {tb : TS} {D : qH7} {σ : St} {H : Hp} (Pv : Nat → St → Hp → Prop) (h0 : Pv 0 σ H) (hl : ∀ i σ H, i ≤ xs.length → Pv i σ H → SqL K H a xs)
    (hs : ∀ i x σ H, xs[i]? = some x → Pv i σ H → g x σ H fun σ2 H2 => tb { D with nx := Pv (i + 1), ct := Pv (i + 1), bk := D.nx } σ2 H2) (hd : ∀ σ H, Pv xs.length σ H → D.nx σ H) :
    ∃ W : Nat → Nat → St → Hp → Prop, (∃ m, W 0 m σ H) ∧ ∀ i m σ H, W i m σ H →
      ((Itl K a).stop i H ∧ D.nx σ H) ∨ ((Itl K a).go i H ∧ ∃ N : St → Hp → Prop, (∀ σ' H', N σ' H' → ∃ m', m' < m ∧ W (i + 1) m' σ' H') ∧ ∀ x H', (Itl K a).yld i H x H' → g x σ H' fun σ2 H2 => tb { D with nx := N, ct := N, bk := D.nx } σ2 H2) := by
  refine ⟨fun i m σ H => m = xs.length - i ∧ i ≤ xs.length ∧ Pv i σ H, ⟨xs.length, by simp, Nat.zero_le _, h0⟩, ?_⟩
  rintro i m σ H ⟨rfl, hi, p⟩
  have q := hl i σ H hi p
  by_cases hlt : i < xs.length
  · refine .inr ⟨⟨xs, xs[i], q, by simp [hlt]⟩, Pv (i + 1), fun σ' H' p' => ⟨xs.length - (i + 1), by omega, rfl, hlt, p'⟩, fun x H' y => ?_⟩
    obtain ⟨e, y⟩ := y
    subst e
    exact hs i x σ _ (y xs q) p
  · have e : i = xs.length := by omega
    subst e
    exact .inl ⟨⟨xs, q, Nat.le_refl _⟩, hd σ H p⟩
theorem qIr {c : TT} {tb : TS} {D : qH7} {σ : St} {H : Hp} (Pv : St → Hp → Prop) (μ : St → Hp → Nat) (h0 : Pv σ H)
    (hs : ∀ σ H, Pv σ H → c σ H fun b H1 => if b = true then tb { D with nx := fun σ' H' => Pv σ' H' ∧ μ σ' H' < μ σ H, ct := fun σ' H' => Pv σ' H' ∧ μ σ' H' < μ σ H, bk := D.nx } σ H1 else D.nx σ H1)
    (mono : ∀ σ H Q Q', (∀ b H1, Q b H1 → Q' b H1) → c σ H Q → c σ H Q') : qJm c tb D σ H := by
  refine ⟨fun m σ H => m = μ σ H ∧ Pv σ H, ⟨_, rfl, h0⟩, ?_⟩
  rintro m σ H ⟨rfl, p⟩
  refine mono σ H _ _ (fun b H1 q => ?_) (hs σ H p)
  cases b with
  | true => exact ⟨_, fun σ' H' ⟨p', l⟩ => ⟨_, l, rfl, p'⟩, q⟩
  | false => exact q
end L2
namespace L2
open PySem PySem.Spec PyProof.Rows
abbrev R2 := V → V → Hp → VK → Prop
def OpR (X : Cx) (f : Value → Value → Sem Value) (r : R2) : Prop :=
  ∀ (pins : List (Addr × Obj)) (s : Shared) (σ : St) (H : Hp) (x y : V) (v u : Value) (Q : VK), Inv X pins σ H s → RelV x v → RelV y u → r x y H Q →
    wpAny (model X.prog X.w) X.A (f v u) (EP X pins σ Q) X.xe s
def UnR (X : Cx) (f : Value → Sem Value) (r : V → Hp → VK → Prop) : Prop :=
  ∀ (pins : List (Addr × Obj)) (s : Shared) (σ : St) (H : Hp) (x : V) (v : Value) (Q : VK), Inv X pins σ H s → RelV x v → r x H Q →
    wpAny (model X.prog X.w) X.A (f v) (EP X pins σ Q) X.xe s
def CallR (X : Cx) (f : Value) (r : List V → Hp → VK → Prop) : Prop :=
  ∀ (pins : List (Addr × Obj)) (s : Shared) (σ : St) (H : Hp) (xs : List V) (us : List Value) (Q : VK), Inv X pins σ H s → Vals xs us → r xs H Q →
    wpAny (model X.prog X.w) X.A (call f us) (EP X pins σ Q) X.xe s
def tOp (r : R2) (ta tb : TE) : TE := fun σ H Q => ta σ H fun x H1 => tb σ H1 fun y H2 => r x y H2 Q
def tUn (r : V → Hp → VK → Prop) (ta : TE) : TE := fun σ H Q => ta σ H fun x H1 => r x H1 Q
def rI (C : Int → Int → Prop) (g : Int → Int → V) : R2 := fun x y H Q => ∃ i j, x = .int i ∧ y = .int j ∧ C i j ∧ Q (g i j) H
def rI0 (g : Int → Int → V) : R2 := fun x y H Q => ∃ i j, x = .int i ∧ y = .int j ∧ Q (g i j) H
def rU (g : Int → V) : V → Hp → VK → Prop := fun x H Q => ∃ i, x = .int i ∧ Q (g i) H
section
variable {X : Cx} {a b c : Expr} {ta tb tc : TE} {pos : Pos}
theorem qM4 (ha : PE X a ta) (hb : PE X b tb) {pins : List (Addr × Obj)} {s : Shared} {σ : St} {H : Hp} {R : V → V → Hp → Prop} (I : Inv X pins σ H s)
    (h : ta σ H fun x H1 => tb σ H1 fun y H2 => R x y H2) {Q : Value → Shared → Prop} {f : Value → Value → Sem Value}
    (hf : ∀ v u s2 x y H2, Inv X pins σ H2 s2 → RelV x v → RelV y u → R x y H2 → wpAny (model X.prog X.w) X.A (f v u) Q X.xe s2) :
    wpAny (model X.prog X.w) X.A (eval a X.env) (fun v s₁ => wpAny (model X.prog X.w) X.A (eval b X.env) (fun u s₂ => wpAny (model X.prog X.w) X.A (f v u) Q X.xe s₂) X.xe s₁) X.xe s := by
  refine thn (ha pins s σ H _ I h) fun v s1 ⟨x, H1, I1, r1, q1⟩ => ?_
  refine thn (hb pins s1 σ H1 _ I1 q1) fun u s2 ⟨y, H2, I2, r2, q2⟩ => ?_
  exact hf v u s2 x y H2 I2 r1 r2 q2
theorem qS {op : Operator} {r : R2} (ho : OpR X (binaryOp op) r) (ha : PE X a ta) (hb : PE X b tb) : PE X (.BinOp a op b pos) (tOp r ta tb) := by
  intro pins s σ H Q I h
  exact wpAny_BinOp (qM4 ha hb I h fun v u s2 x y H2 I2 rx ry q => ho pins s2 σ H2 x y v u Q I2 rx ry q)
theorem vd {op : UnaryOp} {r : V → Hp → VK → Prop} (ho : UnR X (unaryOp op) r) (ha : PE X a ta) : PE X (.UnaryOp op a pos) (tUn r ta) := by
  intro pins s σ H Q I h
  exact UnaryOp_ (thn (ha pins s σ H _ I h) fun v s1 ⟨x, H1, I1, r1, q1⟩ => ho pins s1 σ H1 x v Q I1 r1 q1)
theorem opI {f : Value → Value → Sem Value} {C : Int → Int → Prop} {g : Int → Int → Int}
    (rule : ∀ (i j : Int) (t u : Tok) (s : Shared) (Q : Value → Shared → Prop) (E : Value → Shared → Prop), C i j → Q (.int (g i j) s.toks) { s with toks := s.toks + 1 } → wpAny (model X.prog X.w) X.A (f (.int i t) (.int j u)) Q E s) :
    OpR X f (rI C fun i j => .int (g i j)) := by
  intro pins s σ H x y v u Q I rx ry h
  obtain ⟨i, j, rfl, rfl, hc, q⟩ := h
  obtain ⟨t, rfl⟩ := rx
  obtain ⟨t', rfl⟩ := ry
  exact rule i j t t' s _ _ hc ⟨.int (g i j), H, I.tok _, ⟨_, rfl⟩, q⟩
theorem qN8 {f : Value → Value → Sem Value} {g : Int → Int → Int}
    (rule : ∀ (i j : Int) (t u : Tok) (s : Shared) (Q : Value → Shared → Prop) (E : Value → Shared → Prop), Q (.int (g i j) s.toks) { s with toks := s.toks + 1 } → wpAny (model X.prog X.w) X.A (f (.int i t) (.int j u)) Q E s) :
    OpR X f (rI0 fun i j => .int (g i j)) := by
  intro pins s σ H x y v u Q I rx ry h
  obtain ⟨i, j, rfl, rfl, q⟩ := h
  obtain ⟨t, rfl⟩ := rx
  obtain ⟨t', rfl⟩ := ry
  exact rule i j t t' s _ _ ⟨.int (g i j), H, I.tok _, ⟨_, rfl⟩, q⟩
theorem qMs {f : Value → Value → Sem Value} {g : Int → Int → Bool}
    (rule : ∀ (i j : Int) (t u : Tok) (s : Shared) (Q : Value → Shared → Prop) (E : Value → Shared → Prop), Q (.bool (g i j)) s → wpAny (model X.prog X.w) X.A (f (.int i t) (.int j u)) Q E s) :
    OpR X f (rI0 fun i j => .bl (g i j)) := by
  intro pins s σ H x y v u Q I rx ry h
  obtain ⟨i, j, rfl, rfl, q⟩ := h
  obtain ⟨t, rfl⟩ := rx
  obtain ⟨t', rfl⟩ := ry
  exact rule i j t t' s _ _ ⟨.bl (g i j), H, I, rfl, q⟩
def qOb (i j : Int) : Prop := 0 ≤ j ∧ j ≤ 1000000 ∧ i.natAbs < 2 ^ 64
def CMul (i j : Int) : Prop := (-(2 ^ 64) < i ∧ i < 2 ^ 64) ∨ (-(2 ^ 64) < j ∧ j < 2 ^ 64)
theorem CMul.ok {i j : Int} (h : CMul i j) : IntMulOk i j := by
  rcases h with ⟨h1, h2⟩ | ⟨h1, h2⟩
  · exact .of_left (intBits_le_64 h1 h2)
  · exact .of_right (intBits_le_64 h1 h2)
theorem qc : OpR X (binaryOp .Add) (rI0 fun i j => .int (i + j)) := qN8 fun _ _ _ _ _ _ _ q => add_int q
theorem j6 : OpR X (binaryOp .Sub) (rI0 fun i j => .int (i - j)) := qN8 fun _ _ _ _ _ _ _ q => sub_int q
theorem kK : OpR X (binaryOp .Mod) (rI (fun _ j => j ≠ 0) fun i j => .int (i.fmod j)) := opI fun _ _ _ _ _ _ _ hc q => mod_int' hc q
theorem qHe : OpR X (binaryOp .Pow) (rI qOb fun i j => .int (i ^ j.toNat)) := opI fun _ _ _ _ _ _ _ hc q => pow_int_small hc.1 hc.2.1 hc.2.2 q
theorem unI {f : Value → Sem Value} {g : Int → Int}
    (rule : ∀ (i : Int) (t : Tok) (s : Shared) (Q : Value → Shared → Prop) (E : Value → Shared → Prop), Q (.int (g i) s.toks) { s with toks := s.toks + 1 } → wpAny (model X.prog X.w) X.A (f (.int i t)) Q E s) :
    UnR X f (rU fun i => .int (g i)) := by
  intro pins s σ H x v Q I rx h
  obtain ⟨i, rfl, q⟩ := h
  obtain ⟨t, rfl⟩ := rx
  exact rule i t s _ _ ⟨.int (g i), H, I.tok _, ⟨_, rfl⟩, q⟩
theorem zk : UnR X (unaryOp .USub) (rU fun i => .int (-i)) := unI fun _ _ _ _ _ q => neg_int q
end
def qNr : V → V → Bool
  | .non, .non => true | .non, .int _ => true | .int _, .non => true | .non, .bl _ => true | .bl _, .non => true | .non, .str _ => true | .str _, .non => true
  | .int _, .int _ => true | .bl _, .bl _ => true | .str _, .str _ => true | .byt _, .byt _ => true
  | .int _, .str _ => true | .str _, .int _ => true | .bl _, .str _ => true | .str _, .bl _ => true
  | _, _ => false
def rEq : R2 := fun x y H Q => qNr x y = true ∧ Q (.bl (decide (x = y))) H
def rNe : R2 := fun x y H Q => qNr x y = true ∧ Q (.bl (!decide (x = y))) H
theorem qGr {i j : Int} : decide (V.int i = V.int j) = (i == j) := by
  rw [Bool.eq_iff_iff]
  simp
theorem qJz {i j : Bool} : decide (V.bl i = V.bl j) = (i == j) := by
  rw [Bool.eq_iff_iff]
  simp
theorem qGx {i j : Str} : decide (V.str i = V.str j) = (i == j) := by
  rw [Bool.eq_iff_iff]
  simp
theorem qG8 {i j : Array UInt8} : decide (V.byt i = V.byt j) = (i.toList == j.toList) := by
  rw [Bool.eq_iff_iff]
  cases i
  cases j
  simp
section
variable {X : Cx} {a b c : Expr} {ta tb tc : TE} {pos : Pos}
theorem qy {pins : List (Addr × Obj)} {σ : St} {H : Hp} {s : Shared} {Q : VK} {k k' : Bool} (I : Inv X pins σ H s) (q : Q (.bl k) H) (e : k = k') : EP X pins σ Q (.bool k') s := by
  subst e
  exact ⟨.bl k, H, I, rfl, q⟩
theorem j4 : OpR X (compareOp .Eq) rEq := by
  intro pins s σ H x y v u Q I rx ry h
  obtain ⟨hs, q⟩ := h
  cases x with
  | non =>
    cases rx
    cases y with
    | non => cases ry; exact PySem.EqNone.eq_none_none (qy I q (by simp))
    | bl j => cases ry; exact PySem.EqNone.eq_none_bool (qy I q (by simp))
    | int j => obtain ⟨t', rfl⟩ := ry; exact PySem.EqNone.eq_none_int (qy I q (by simp))
    | str j => obtain ⟨t', rfl⟩ := ry; exact PySem.EqNone.eq_none_str (qy I q (by simp))
    | _ => exact absurd (show false = true from hs) Bool.false_ne_true
  | bl i =>
    cases rx
    cases y with
    | non => cases ry; exact PySem.EqNone.eq_bool_none (qy I q (by simp))
    | bl j => cases ry; exact eq_bool (qy I q qJz)
    | str j => obtain ⟨t', rfl⟩ := ry; exact PySem.EqMixed.eq_bool_str (qy I q (by simp))
    | _ => exact absurd (show false = true from hs) Bool.false_ne_true
  | int i =>
    obtain ⟨t, rfl⟩ := rx
    cases y with
    | non => cases ry; exact PySem.EqNone.eq_int_none (qy I q (by simp))
    | int j => obtain ⟨t', rfl⟩ := ry; exact eq_int (qy I q qGr)
    | str j => obtain ⟨t', rfl⟩ := ry; exact PySem.EqMixed.eq_int_str (qy I q (by simp))
    | _ => exact absurd (show false = true from hs) Bool.false_ne_true
  | str i =>
    obtain ⟨t, rfl⟩ := rx
    cases y with
    | non => cases ry; exact PySem.EqNone.eq_str_none (qy I q (by simp))
    | bl j => cases ry; exact PySem.EqMixed.eq_str_bool (qy I q (by simp))
    | int j => obtain ⟨t', rfl⟩ := ry; exact PySem.EqMixed.eq_str_int (qy I q (by simp))
    | str j => obtain ⟨t', rfl⟩ := ry; exact eq_str (qy I q qGx)
    | _ => exact absurd (show false = true from hs) Bool.false_ne_true
  | byt i =>
    obtain ⟨t, rfl⟩ := rx
    cases y with
    | byt j => obtain ⟨t', rfl⟩ := ry; exact PySem.W.eq_bytes (qy I q qG8)
    | _ => exact absurd (show false = true from hs) Bool.false_ne_true
  | _ => cases y <;> exact absurd (show false = true from hs) Bool.false_ne_true
theorem kA : OpR X (compareOp .NotEq) rNe := by
  intro pins s σ H x y v u Q I rx ry h
  obtain ⟨hs, q⟩ := h
  cases x with
  | non =>
    cases rx
    cases y with
    | non => cases ry; exact PySem.EqNone.ne_none_none (qy I q (by simp))
    | bl j => cases ry; exact PySem.EqNone.ne_none_bool (qy I q (by simp))
    | int j => obtain ⟨t', rfl⟩ := ry; exact PySem.EqNone.ne_none_int (qy I q (by simp))
    | str j => obtain ⟨t', rfl⟩ := ry; exact PySem.EqNone.ne_none_str (qy I q (by simp))
    | _ => exact absurd (show false = true from hs) Bool.false_ne_true
  | bl i =>
    cases rx
    cases y with
    | non => cases ry; exact PySem.EqNone.ne_bool_none (qy I q (by simp))
    | bl j => cases ry; exact ne_bool (qy I q (congrArg not qJz))
    | str j => obtain ⟨t', rfl⟩ := ry; exact PySem.EqMixed.ne_bool_str (qy I q (by simp))
    | _ => exact absurd (show false = true from hs) Bool.false_ne_true
  | int i =>
    obtain ⟨t, rfl⟩ := rx
    cases y with
    | non => cases ry; exact PySem.EqNone.ne_int_none (qy I q (by simp))
    | int j => obtain ⟨t', rfl⟩ := ry; exact ne_int (qy I q (congrArg not qGr))
    | str j => obtain ⟨t', rfl⟩ := ry; exact PySem.EqMixed.ne_int_str (qy I q (by simp))
    | _ => exact absurd (show false = true from hs) Bool.false_ne_true
  | str i =>
    obtain ⟨t, rfl⟩ := rx
    cases y with
    | non => cases ry; exact PySem.EqNone.ne_str_none (qy I q (by simp))
    | bl j => cases ry; exact PySem.EqMixed.ne_str_bool (qy I q (by simp))
    | int j => obtain ⟨t', rfl⟩ := ry; exact PySem.EqMixed.ne_str_int (qy I q (by simp))
    | str j => obtain ⟨t', rfl⟩ := ry; exact ne_str (qy I q (congrArg not qGx))
    | _ => exact absurd (show false = true from hs) Bool.false_ne_true
  | byt i =>
    obtain ⟨t, rfl⟩ := rx
    cases y with
    | byt j => obtain ⟨t', rfl⟩ := ry; exact PySem.W.ne_bytes (qy I q (congrArg not qG8))
    | _ => exact absurd (show false = true from hs) Bool.false_ne_true
  | _ => cases y <;> exact absurd (show false = true from hs) Bool.false_ne_true
theorem kt : OpR X (compareOp .Lt) (rI0 fun i j => .bl (decide (i < j))) := qMs fun _ _ _ _ _ _ _ q => lt_int q
theorem qIp : OpR X (compareOp .LtE) (rI0 fun i j => .bl (decide (i ≤ j))) := qMs fun _ _ _ _ _ _ _ q => le_int q
theorem qAu : OpR X (compareOp .Gt) (rI0 fun i j => .bl (decide (j < i))) := qMs fun _ _ _ _ _ _ _ q => gt_int q
theorem qDh : OpR X (compareOp .GtE) (rI0 fun i j => .bl (decide (j ≤ i))) := qMs fun _ _ _ _ _ _ _ q => ge_int q
theorem OpR.or {f : Value → Value → Sem Value} {r r' : R2} (h : OpR X f r) (h' : OpR X f r') : OpR X f (fun x y H Q => r x y H Q ∨ r' x y H Q) := by
  intro pins s σ H x y v u Q I rx ry q
  rcases q with q | q
  · exact h pins s σ H x y v u Q I rx ry q
  · exact h' pins s σ H x y v u Q I rx ry q
theorem qX (b : Expr) {op : CmpOp} (h : op ≠ .In := by decide) (h2 : op ≠ .NotIn := by decide) : behindInMarks op b = false := by
  have e1 : (op == CmpOp.In) = false := by cases op <;> first | rfl | exact absurd rfl h
  have e2 : (op == CmpOp.NotIn) = false := by cases op <;> first | rfl | exact absurd rfl h2
  cases b <;> simp [behindInMarks, e1, e2]
theorem jO {op : CmpOp} {r : R2} (ho : OpR X (compareOp op) r) (ha : PE X a ta) (hb : PE X b tb) (hm : behindInMarks op b = false) : PE X (.Compare a [op] [b] pos) (tOp r ta tb) := by
  intro pins s σ H Q I h
  exact wpAny_Compare1 (qM4 ha hb I h fun v u s2 x y H2 I2 rx ry q => ho pins s2 σ H2 x y v u Q I2 rx ry q) hm
def qM2 (t : TE) : TT := fun σ H Q => t σ H fun x H' => ∃ k, x = .bl k ∧ Q k H'
theorem qR {op : CmpOp} {r : R2} (ho : OpR X (compareOp op) r) (ha : PE X a ta) (hb : PE X b tb) (hm : behindInMarks op b = false) : PT X (.Compare a [op] [b] pos) (qM2 (tOp r ta tb)) := by
  intro pins s σ H Q I h
  refine wpAny_isTrue_Compare1 (thn (ha pins s σ H _ I h) fun v s1 ⟨x, H1, I1, r1, q1⟩ => thn (hb pins s1 σ H1 _ I1 q1) fun u s2 ⟨y, H2, I2, r2, q2⟩ =>
    thn (ho pins s2 σ H2 x y v u _ I2 r1 r2 q2) fun c s3 ⟨z, H3, I3, r3, k, e, q3⟩ => ?_) hm
  subst e
  cases r3
  exact wpAny_truthy_bool ⟨H3, I3, q3⟩
theorem qB4 : (sizeLine : Nat) < 2 ^ 63 := by rw [sizeLine_eq]; decide
theorem qEe {x : V} {us : List Value} (r : Vals [x] us) : ∃ u, us = [u] ∧ RelV x u := by
  cases r with
  | cons r1 r2 => cases r2; exact ⟨_, rfl, r1⟩
theorem qI9 {x y : V} {us : List Value} (r : Vals [x, y] us) : ∃ u w', us = [u, w'] ∧ RelV x u ∧ RelV y w' := by
  cases r with
  | cons r1 r2 =>
    cases r2 with
    | cons r3 r4 => cases r4; exact ⟨_, _, rfl, r1, r3⟩
theorem qBe : CallR X (.builtin "abs") (fun xs H Q => ∃ i, xs = [.int i] ∧ Q (.int (if i < 0 then -i else i)) H) := by
  intro pins s σ H xs us Q I r h
  obtain ⟨i, rfl, q⟩ := h
  obtain ⟨u, rfl, t, rfl⟩ := qEe r
  exact call_abs_int fun u tk => ⟨.int (if i < 0 then -i else i), H, I.tok _, ⟨_, rfl⟩, q⟩
theorem qB3 (hc : X.calm = true) : CallR X (.builtin "max") (fun xs H Q => ∃ i j, xs = [.int i, .int j] ∧ Q (.int (if j > i then j else i)) H) := by
  intro pins s σ H xs us Q I r h
  obtain ⟨i, j, rfl, q⟩ := h
  obtain ⟨u, w', rfl, ⟨t, rfl⟩, ⟨t', rfl⟩⟩ := qI9 r
  refine max_two_ints (I.ok.hd hc) fun h' tk k => ⟨_, H, I.kept k, ?_, q⟩
  by_cases hj : j > i
  · rw [if_pos hj, if_pos hj]; exact ⟨_, rfl⟩
  · rw [if_neg hj, if_neg hj]; exact ⟨_, rfl⟩
theorem kY (hc : X.calm = true) : CallR X (.builtin "min") (fun xs H Q => ∃ i j, xs = [.int i, .int j] ∧ Q (.int (if j < i then j else i)) H) := by
  intro pins s σ H xs us Q I r h
  obtain ⟨i, j, rfl, q⟩ := h
  obtain ⟨u, w', rfl, ⟨t, rfl⟩, ⟨t', rfl⟩⟩ := qI9 r
  refine min_two_ints (I.ok.hd hc) fun h' tk k => ⟨_, H, I.kept k, ?_, q⟩
  by_cases hj : j < i
  · rw [if_pos hj, if_pos hj]; exact ⟨_, rfl⟩
  · rw [if_neg hj, if_neg hj]; exact ⟨_, rfl⟩
end
end L2
namespace L2
open PySem PySem.Spec PyProof.Rows
structure ObjM (h : Heap) (x dx C : Addr) (mA : Str → Option Value) : Prop where
  obj : h.get? x = some (PySem.W.instObj C dx)
  ns : h.Ns1 dx mA
  ne : dx ≠ x
theorem qGf {h : Heap} {dx : Addr} {mA : Str → Option Value} (n : h.Ns1 dx mA) : ∃ od, h.get? dx = some od ∧ ∀ name, PySem.W.lookIn name od = some (mA name) := by
  obtain ⟨o, es, ep, ho, hd, hk, _, hm⟩ := n
  refine ⟨o, ho, fun name => ?_⟩
  have e := hm name
  unfold nsFind findBy at e
  rw [← Array.find?_toList] at e
  unfold PySem.W.lookIn
  rw [hd]
  dsimp only
  split
  · rename_i y q
    rw [q] at e
    exact congrArg some e
  · rename_i q
    rw [q] at e
    have a : es.toList.any (·.refKey) = false := by
      rw [List.any_eq_false]
      intro y hy
      obtain ⟨z, t, hkey⟩ := hk y (Array.mem_toList_iff.mp hy)
      simp [DictEntry.refKey, hkey]
    have a' : ¬ es.toList.any (·.refKey) = true := by rw [a]; exact Bool.false_ne_true
    rw [if_neg a']
    exact congrArg some e
theorem ObjM.look {h : Heap} {x dx C : Addr} {mA : Str → Option Value} (I : ObjM h x dx C mA) : ∃ od, PySem.W.InstAt h x (PySem.W.instObj C dx) C (some od) ∧ ∀ name, PySem.W.lookIn name od = some (mA name) :=
  let ⟨od, ho, hl⟩ := qGf I.ns
  ⟨od, ⟨I.obj, rfl, rfl, ho⟩, hl⟩
section
variable {prog : Program} {w : World} {A : Around} {E : Value → Shared → Prop} {s : Shared} {K : PySem.W.Frag} {x dx C f : Addr} {mA : Str → Option Value} {name : Str} {v : Value}
end
theorem RelO.some_of {v : V} {o : Option Value} (r : RelO (some v) o) : ∃ u, o = some u ∧ RelV v u := by
  cases o with
  | none => exact (show False from r).elim
  | some u => exact ⟨u, rfl, r⟩
section
variable {P : Program} {w : World} {H H' : Hp} {h h' : Heap} {a C dx : Addr} {fs fs' : List (Str × V)}
theorem qKu (hok : HOk P w H h) (e : H a = some (.ins C dx fs)) : ∃ mA, ObjM h a dx C mA ∧ (∀ f, RelO (fs.lookup f) (mA f)) ∧ PySem.Within mA (fs.map (·.1)) ∧ fs.length ≤ 1000 ∧ H dx = some (.own a) := by
  obtain ⟨d, z, ne, ob, mA, n, r, q⟩ := (show ObjOk P w H h a (.ins C dx fs) from hok a _ e)
  exact ⟨mA, ⟨ob, n, ne⟩, r, q, z, d⟩
end
structure Cls (K : PySem.W.Frag) (C : Addr) : Prop where
  pg : PySem.W.plainGet K C Str.empty = true
  hd : PySem.W.hasDictIn K C = true
  po : PySem.W.plainOver K C = true
  sa : PySem.W.findIn K (.ref C) "__setattr__" = some (some (.builtin "object.__setattr__"))
theorem Cls.get {K : PySem.W.Frag} {C : Addr} (c : Cls K C) (f : Str) : PySem.W.plainGet K C f = true := c.pg
structure Con (K : PySem.W.Frag) (C : Addr) (f : Str) (v : V) (u : Value) : Prop where
  at_ : PySem.W.findIn K (.ref C) f = some (some u)
  rel : RelV v u
  get : PySem.W.specialIn K u "__get__" = some none
  cp : PySem.W.copiedNames.contains f = false
structure Meth (K : PySem.W.Frag) (C : Addr) (m : Str) (f : Addr) : Prop where
  at_ : PySem.W.findIn K (.ref C) m = some (some (.ref f))
  fn : PySem.W.isFn K (.ref f) = true
  kp : PySem.W.keepIn K (.ref f) = true
section
variable {X : Cx} {pins : List (Addr × Obj)} {σ : St} {H : Hp} {s : Shared} {a C dx : Addr} {fs : List (Str × V)} {f : Str} {v : V} {A : Around} {E : Value → Shared → Prop}
theorem Inv.made (I : Inv X pins σ H s) : Inv X pins σ (upd (upd H s.heap.objs.size (.own (s.heap.objs.size + 1))) (s.heap.objs.size + 1) (.ins C s.heap.objs.size []))
    { s with heap := (s.heap.push PySem.W.emptyDict).push (PySem.W.instObj C s.heap.objs.size) } := by
  have e1 : (s.heap.push PySem.W.emptyDict).get? s.heap.objs.size = some PySem.W.emptyDict := Heap.get?_push_size s.heap rfl
  have e2 : ((s.heap.push PySem.W.emptyDict).push (PySem.W.instObj C s.heap.objs.size)).get? (s.heap.objs.size + 1) = some (PySem.W.instObj C s.heap.objs.size) := by
    have := Heap.get?_push_size (s.heap.push PySem.W.emptyDict) (o := PySem.W.instObj C s.heap.objs.size) rfl
    rwa [Heap.size_push] at this
  have e3 : (s.heap.push PySem.W.emptyDict).Ns s.heap.objs.size (fun _ => none) := ⟨PySem.W.emptyDict, #[], _, e1, rfl, (fun e he => absurd he (by simp)), fun _ => rfl⟩
  have I1 := I.laid (a := s.heap.objs.size) (o := .own (s.heap.objs.size + 1)) (h' := s.heap.push PySem.W.emptyDict) (t' := s.toks) (fun b u q => Heap.get?_push_of_some _ q) (Nat.le_refl _) ⟨_, e1⟩
  refine I1.laid (a := s.heap.objs.size + 1) (o := .ins C s.heap.objs.size []) (t' := s.toks) (fun b u q => Heap.get?_push_of_some _ q) (Nat.le_of_eq (Heap.size_push _ _)) ?_
  have ne : s.heap.objs.size ≠ s.heap.objs.size + 1 := Nat.ne_of_lt (Nat.lt_succ_self _)
  refine ⟨by rw [qd ne, qB], Nat.zero_le _, ne, e2, fun _ => none, (Heap.Ns1.of_empty e3).at fun o q => Heap.get?_push_of_some _ q, fun _ => True.intro, fun y hy => absurd rfl hy⟩
end
section
variable {X : Cx} {o e value : Expr} {f : Str} {pos pos' tpos : Pos} {ta tv : TE}
end
section
variable {X : Cx} {pins : List (Addr × Obj)} {σ : St} {H : Hp} {s : Shared} {A : Around} {E : Value → Shared → Prop} {Q : Value → Shared → Prop} {c : Value} {b : Bool}
inductive qAo (K : PySem.W.Frag) (H : Hp) : V → Value → Prop where
  | non : qAo K H .non (.type "NoneType")
  | bl (x : Bool) : qAo K H (.bl x) (.type "bool")
  | int (i : Int) : qAo K H (.int i) (.type "int")
  | str (x : Str) : qAo K H (.str x) (.type "str")
  | flt (x : UInt64) : qAo K H (.flt x) (.type "float")
  | lst {a : Addr} {xs : List V} (e : H a = some (.lst xs)) : qAo K H (.ref a) (.type "list")
  | frz {a : Addr} {o : Obj} {xs : List V} (e : H a = some (.frz o (.lst xs))) : qAo K H (.ref a) (.type "list")
  | tup {a : Addr} {xs : List V} (e : H a = some (.tup xs)) : qAo K H (.ref a) (.type "tuple")
  | dK {a : Addr} {kvs : List (Key × V)} (e : H a = some (.dK kvs)) : qAo K H (.ref a) (.type "dict")
  | dT {a : Addr} {kvs : List (List Key × V)} (e : H a = some (.dT kvs)) : qAo K H (.ref a) (.type "dict")
  | ins {a C dx : Addr} {fs : List (Str × V)} (e : H a = some (.ins C dx fs)) (cl : Cls K C) (ha : PySem.W.findIn K (.ref C) "__class__" = some (some (.builtin "object.__class__")))
      (hn : PySem.W.specialIn K (.builtin "object.__class__") "__get__" = some (some (.builtin "getset_descriptor.__get__"))) (htk : PySem.W.takesIn K (.builtin "object.__class__") = some true)
      (hm : PySem.W.mroIn K C (.type "object") = some true) : qAo K H (.ref a) (.ref C)
theorem qCw {x : V} {u t : Value} (I : Inv X pins σ H s) (rx : RelV x u) (ty : qAo X.K H x t) (e : PySem.W.kitOne X.K t c = some b) (h : ∀ tk, Q (.bool b) { s with toks := tk }) :
    wpAny (model X.prog X.w) A (call (.builtin "isinstance") [u, c]) Q E s := by
  cases ty with
  | non => cases (show u = Value.none from rx); exact PySem.W.kia_one PySem.W.kitx_none I.kIn True.intro e (fun z => nomatch z) h
  | bl y => cases (show u = Value.bool y from rx); exact PySem.W.kia_one PySem.W.kitx_bool I.kIn True.intro e (fun z => nomatch z) h
  | int i => obtain ⟨t, q⟩ := (show ∃ t, u = Value.int i t from rx); cases q; exact PySem.W.kia_one PySem.W.kitx_int I.kIn True.intro e (fun z => nomatch z) h
  | str y => obtain ⟨t, q⟩ := (show ∃ t, u = Value.str y t from rx); cases q; exact PySem.W.kia_one PySem.W.kitx_str I.kIn True.intro e (fun z => nomatch z) h
  | flt y => obtain ⟨t, q⟩ := (show ∃ t, u = Value.float y t from rx); cases q; exact PySem.W.kia_one PySem.W.kitx_float I.kIn True.intro e (fun z => nomatch z) h
  | @lst a xs ea =>
    cases (show u = Value.ref a from rx)
    obtain ⟨_, _, n, _, h1⟩ := (show ObjOk X.prog X.w H s.heap a (.lst xs) from I.hok a _ ea)
    exact PySem.W.kia_one PySem.W.kitx_list I.kIn ⟨_, h1, rfl⟩ e (fun z => nomatch z) h
  | @frz a ob xs ea =>
    cases (show u = Value.ref a from rx)
    obtain ⟨_, _, _, n, _, h1⟩ := (show ObjOk X.prog X.w H s.heap a (.frz ob (.lst xs)) from I.hok a _ ea)
    exact PySem.W.kia_one PySem.W.kitx_list I.kIn ⟨_, h1, rfl⟩ e (fun z => nomatch z) h
  | @tup a xs ea =>
    cases (show u = Value.ref a from rx)
    obtain ⟨_, _, _, p⟩ := (show ObjOk X.prog X.w H s.heap a (.tup xs) from I.hok a _ ea)
    obtain ⟨o, h1, h2, _⟩ := p
    exact PySem.W.kia_one PySem.W.kitx_tuple I.kIn ⟨o, h1, h2⟩ e (fun z => nomatch z) h
  | @dK a kvs ea =>
    cases (show u = Value.ref a from rx)
    obtain ⟨_, _, vs, _, p⟩ := (show ObjOk X.prog X.w H s.heap a (.dK kvs) from I.hok a _ ea)
    obtain ⟨o, es, ep, h1, h2, _⟩ := p
    exact PySem.W.kia_one PySem.W.kitx_dict I.kIn ⟨o, h1, h2.1⟩ e (fun z => nomatch z) h
  | @dT a kvs ea =>
    cases (show u = Value.ref a from rx)
    obtain ⟨_, _, xs, _, o, es, ep, h1, h2, _⟩ := (show ObjOk X.prog X.w H s.heap a (.dT kvs) from I.hok a _ ea)
    exact PySem.W.kia_one PySem.W.kitx_dict I.kIn ⟨o, h1, h2.1⟩ e (fun z => nomatch z) h
  | @ins a C dx fs ea cl ha hn htk hm =>
    cases (show u = Value.ref a from rx)
    obtain ⟨mA, O, _⟩ := qKu I.hok ea
    obtain ⟨od, J, _⟩ := O.look
    exact PySem.W.kia_one (PySem.W.kitx_own (cl.get _) cl.hd ha hn htk hm) I.kIn J e (fun z => nomatch z) h
end
end L2
namespace L2
open PySem PySem.Spec PyProof.Rows
structure Room (k : Nat) (A : Around) : Prop where
  hd : A.handled = none
  dp : A.depth + 3 * k + 5 < recursionLimit
  un : A.units + 16 * k + 200 < cLine
theorem Room.mono {j k : Nat} {A : Around} (r : Room k A) (h : j ≤ k) : Room j A := ⟨r.hd, by have := r.dp; omega, by have := r.un; omega⟩
theorem Room.deeper {k : Nat} {A : Around} (r : Room (k + 1) A) (env : Env) : Room k (A.deeper env) :=
  ⟨r.hd, by have := r.dp; show A.depth + 1 + 3 * k + 5 < _; omega, by have := r.un; show A.units + 3 + 16 * k + 200 < _; omega⟩
theorem Room.in1 {k : Nat} {A : Around} (r : Room (k + 1) A) : Room k A.in1 :=
  ⟨r.hd, by have := r.dp; show A.depth + 3 * k + 5 < _; omega, by have := r.un; show A.units + 1 + 16 * k + 200 < _; omega⟩
theorem qFd {A : Around} {C : Addr} {us : List Value} {kw : List (Str × Value)} : (A.under (.builtin "type.__call__" ⟨.ref C :: us, kw⟩)).depth = A.depth + 1 := by
  first | rfl | simp [Around.under, Code.weight, Code.isCreation, Code.isGuard, Code.isCaller, Code.frames, Code.isFrame, guardIds]
theorem qFv {A : Around} {C : Addr} {us : List Value} {kw : List (Str × Value)} : (A.under (.builtin "type.__call__" ⟨.ref C :: us, kw⟩)).units = A.units + 1 := by
  first | rfl | simp [Around.under, Code.cUnits, Code.frames, Code.isFrame]
theorem Room.make {k : Nat} {A : Around} (r : Room (k + 1) A) (C : Addr) (us : List Value) (kw : List (Str × Value)) : Room k (A.under (.builtin "type.__call__" ⟨.ref C :: us, kw⟩)) :=
  ⟨r.hd, by have := r.dp; rw [qFd]; omega, by have := r.un; rw [qFv]; omega⟩
theorem Room.depth {k : Nat} {A : Around} (r : Room k A) : A.depth < recursionLimit := by have := r.dp; omega
theorem Room.units {k : Nat} {A : Around} (r : Room k A) : A.units + 64 < cLine := by have := r.un; omega
theorem Room.units0 {k : Nat} {A : Around} (r : Room k A) : A.units < cLine := by have := r.un; omega
def qOh : TA := fun _ H Q => Q [] H
def qNq (ta : TE) (tr : TA) : TA := fun σ H Q => ta σ H fun x H1 => tr σ H1 fun xs H2 => Q (x :: xs) H2
section
variable {X : Cx} {e : Expr} {es : List Expr} {te : TE} {t : TA} {pos : Pos}
theorem qE : PA X [] qOh := fun _ _ _ _ H Q I h => Calls.spliced_nil ⟨[], H, I, .nil, h⟩
theorem qA (ha : PE X e te) (hr : PA X es t) (hs : starEach (e :: es) X.env = (false, eval e X.env) :: starEach es X.env := by rfl) : PA X (e :: es) (qNq te t) := by
  intro pos pins s σ H Q I h
  rw [hs]
  show wpAny _ _ (spliced ((false, eval e X.env) :: backTo pos (starEach es X.env))) _ _ s
  refine Calls.spliced_cons (thn (ha pins s σ H _ I h) fun u s1 ⟨x, H1, I1, r1, q1⟩ => ?_)
  exact thn (hr pos pins s1 σ H1 _ I1 q1) fun us s2 ⟨xs, H2, I2, r2, q2⟩ => ⟨x :: xs, H2, I2, .cons r1 r2, q2⟩
def qOe (t : TA) : TE := fun σ H Q => t σ H fun xs H1 => xs.length ≤ sizeLine ∧ ∀ p, H1 p = none → Q (.ref p) (upd H1 p (.tup xs))
def qO0 (t : TA) : TE := fun σ H Q => t σ H fun xs H1 => xs.length ≤ sizeLine ∧ ∀ p, H1 p = none → Q (.ref p) (upd H1 p (.lst xs))
theorem qK {x1} (h : PA X es t) : PE X (.Tuple es x1 pos) (qOe t) := by
  intro pins s σ H Q I hq
  refine wpAny_Tuple_spliced (thn (h pos pins s σ H _ I hq) fun us s1 ⟨xs, H1, I1, r, z, q⟩ => ⟨by rw [← r.length]; exact z, ?_⟩)
  have hf : H1 s1.heap.objs.size = none := I1.hok.fresh (Nat.le_refl _)
  refine ⟨.ref s1.heap.objs.size, upd H1 s1.heap.objs.size (.tup xs), I1.laid (t' := s1.toks) (fun b u e => Heap.get?_push_of_some _ e) (Nat.le_refl _) ?_, rfl, q _ hf⟩
  exact ⟨z, us, r, ⟨_, Heap.get?_push_size _ rfl, rfl, _, rfl⟩⟩
theorem ql (h : PA X es t) : PE X (.List es pos) (qO0 t) := by
  intro pins s σ H Q I hq
  refine wpAny_List_spliced (thn (h pos pins s σ H _ I hq) fun us s1 ⟨xs, H1, I1, r, z, q⟩ => ⟨by rw [← r.length]; exact z, ?_⟩)
  have hf : H1 s1.heap.objs.size = none := I1.hok.fresh (Nat.le_refl _)
  refine ⟨.ref s1.heap.objs.size, upd H1 s1.heap.objs.size (.lst xs), I1.laid (t' := s1.toks) (fun b u e => Heap.get?_push_of_some _ e) (Nat.le_refl _) ?_, rfl, q _ hf⟩
  exact ⟨z, us, 0, r, Heap.get?_push_size _ rfl⟩
end
abbrev Sp := List V → Hp → VK → XK → Prop
abbrev CXT := List Env → Hp → Shared → XK → Value → Shared → Prop
structure Env0 (P : Program) (w : World) (K : PySem.W.Frag) (mg : Str → Option Value) (base : Heap) (A : Around) (outer : List Env) (s : Shared) (H : Hp) : Prop where
  frames : A.frames = some outer
  mod : Mod K mg base
  bs : ∀ b o, base.get? b = some o → s.heap.get? b = some o ∧ H b = none
  bsz : base.objs.size ≤ s.heap.objs.size
  funs : s.heap.FunFrames base outer
  frf : ∀ b ∈ frs outer, H b = none
  hok : HOk P w H s.heap
  bare : AllBare s.gens
def CE (outer : List Env) (P : Program) (w : World) (H : Hp) (s : Shared) (Q : VK) (u : Value) (s' : Shared) : Prop :=
  ∃ v H', s'.os = s.os ∧ AllBare s'.gens ∧ Un (frs outer) [] H H' s.heap s'.heap ∧ HOk P w H' s'.heap ∧ RelV v u ∧ Q v H'
def CR (CX : CXT) (outer : List Env) (P : Program) (w : World) (H : Hp) (s : Shared) (Q : VK) (E : XK) (r : Result) (s' : Shared) : Prop :=
  match r with
  | .ok (.ret u) => CE outer P w H s Q u s'
  | .ok _ => False
  | .error e => CX outer H s E e s'
structure FnOk (P : Program) (w : World) (K : PySem.W.Frag) (mg : Str → Option Value) (base : Heap) (CX : CXT) (k : Nat) (f : Addr) (fd : FuncData) (ps : List Str) (sp : Sp) : Prop where
  len : ∀ vs H Q E, sp vs H Q E → vs.length = ps.length
  run : ∀ (A : Around) (outer : List Env) (s : Shared) (H : Hp) (args : Args) (us : List Value) (vs : List V) (Q : VK) (E : XK), Room k A → Env0 P w K mg base A outer s H → BindsTo s fd args (ps.zip us) → Vals vs us → sp vs H Q E →
    codeAny (model P w) A (.call (.ref f) args) (CR CX outer P w H s Q E) s
theorem FnOk.mono {P : Program} {w : World} {K : PySem.W.Frag} {mg : Str → Option Value} {base : Heap} {CX : CXT} {j k : Nat} {f : Addr} {fd : FuncData} {ps : List Str} {sp : Sp} (F : FnOk P w K mg base CX j f fd ps sp) (h : j ≤ k) :
    FnOk P w K mg base CX k f fd ps sp := ⟨F.len, fun A outer s H args us vs Q E hr => F.run A outer s H args us vs Q E (hr.mono h)⟩
theorem Env0.make {P : Program} {w : World} {K : PySem.W.Frag} {mg : Str → Option Value} {base : Heap} {A : Around} {outer : List Env} {s : Shared} {H : Hp} (e : Env0 P w K mg base A outer s H) (C : Addr) (us : List Value) (kw : List (Str × Value)) :
    Env0 P w K mg base (A.under (.builtin "type.__call__" ⟨.ref C :: us, kw⟩)) outer s H := ⟨by first | exact e.frames | (simpa [Around.under, Code.envs, Code.isFrame, pushEnvs] using e.frames), e.mod, e.bs, e.bsz, e.funs, e.frf, e.hok, e.bare⟩
theorem Env0.in1 {P : Program} {w : World} {K : PySem.W.Frag} {mg : Str → Option Value} {base : Heap} {A : Around} {outer : List Env} {s : Shared} {H : Hp} (e : Env0 P w K mg base A outer s H) :
    Env0 P w K mg base A.in1 outer s H := ⟨e.frames, e.mod, e.bs, e.bsz, e.funs, e.frf, e.hok, e.bare⟩
section
variable {X : Cx} {pins : List (Addr × Obj)} {σ : St} {H : Hp} {s s' : Shared}
theorem Inv.env0 (I : Inv X pins σ H s) : Env0 X.prog X.w X.K X.mg X.base X.A X.stack s H :=
  ⟨I.ok.frames, I.ok.mod, I.bs, Nat.le_trans I.ok.bsz I.sz, I.stack, I.stkFree, I.hok, I.bare⟩
theorem Inv.after {Q : VK} {u : Value} (I : Inv X pins σ H s) (h : CE X.stack X.prog X.w H s Q u s') : EP X pins σ Q u s' := by
  obtain ⟨v, H', os, bare, un, hok, r, q⟩ := h
  obtain ⟨hh, g, d, t, os'⟩ := s'
  obtain rfl : os' = s.os := os
  exact ⟨v, H', I.call (h' := hh) (g' := g) (d' := d) (t' := t) (ch := []) un hok bare (fun b z => absurd z (by simp)), r, q⟩
end
def qKe (sp : Sp) (dvs : List V) (E : XK) (t : TA) : TE := fun σ H Q => t σ H fun vs H1 => sp (vs ++ dvs) H1 Q E
def Binds (K : PySem.W.Frag) (fd : FuncData) (ps : List Str) (ds : List Value) : Prop :=
  ∀ (s : Shared) (us : List Value), K.In s.heap → (us ++ ds).length = ps.length → BindsTo s fd ⟨us, []⟩ (ps.zip (us ++ ds))
theorem Binds.all {K : PySem.W.Frag} {fd : FuncData} {ps : List Str} (h : ∀ us : List Value, us.length = ps.length → bindArgs fd ⟨us, []⟩ = pure (ps.zip us)) : Binds K fd ps [] := fun s us _ hl => by
  rw [List.append_nil] at hl ⊢
  exact .of_eq (h us hl)
def qEt (CX : CXT) (X : Cx) (E : XK) : Prop := ∀ (pins : List (Addr × Obj)) (σ : St) (H : Hp) (s : Shared) (e : Value) (s' : Shared), Inv X pins σ H s → CX X.stack H s E e s' → X.xe e s'
section
variable {X : Cx} {CX : CXT} {k : Nat} {f C : Addr} {fd : FuncData} {ps : List Str} {sp : Sp} {dvs : List V} {ds : List Value} {E : XK} {x m : Str} {p pos apos : Pos} {e o : Expr} {es : List Expr} {ta : TE} {t : TA}
theorem qMm {pins : List (Addr × Obj)} {σ : St} {H : Hp} {s : Shared} {Q : VK} {us : List Value} {vs : List V} (F : FnOk X.prog X.w X.K X.mg X.base CX k f fd ps sp) (hr : Room k X.A) (hb : Binds X.K fd ps ds) (hd : Vals dvs ds) (hx : qEt CX X E)
    (I : Inv X pins σ H s) (r : Vals vs us) (h : sp (vs ++ dvs) H Q E) : wpAny (model X.prog X.w) X.A (call (.ref f) us) (EP X pins σ Q) X.xe s := by
  have r2 : Vals (vs ++ dvs) (us ++ ds) := r.append hd
  have hl : (us ++ ds).length = ps.length := by rw [← r2.length]; exact F.len _ _ _ _ h
  refine wpAny_call (codeAny_mono (F.run X.A X.stack s H ⟨us, []⟩ (us ++ ds) (vs ++ dvs) Q E hr I.env0 (hb s us I.kIn hl) r2 h) fun r s' hq => ?_)
  cases r with
  | error e => exact hx pins σ H s e s' I hq
  | ok fl =>
    cases fl with
    | ret u => exact I.after hq
    | next => exact False.elim hq
    | brk => exact False.elim hq
    | cont => exact False.elim hq
theorem qH1 (F : FnOk X.prog X.w X.K X.mg X.base CX k f fd ps sp) (hr : Room k X.A) (hg : Gl X x) (hm : X.mg x = some (.ref f)) (hk : PySem.W.keepIn X.K (.ref f) = true) (hb : Binds X.K fd ps ds) (hd : Vals dvs ds) (hx : qEt CX X E)
    (ha : PA X (e :: es) t) (hdb : (x == ("__debug__" : Str)) = false := by decide) (he : starEach (e :: es) X.env = (false, eval e X.env) :: starEach es X.env := by rfl) (hpl : (backTo pos (starEach es X.env)).any (·.1) = false := by rfl) :
    PE X (.Call (.Name x p) (e :: es) [] pos) (qKe sp dvs E t) := by
  intro pins s σ H Q I h
  refine wpAny_Call_Name_kw (kM I hg hm ?_ hdb)
  refine PySem.W.callWith_K (h₀ := X.base) I.ok.mod.kin hk (thn (ha pos pins s σ H _ I h) fun us s1 ⟨vs, H1, I1, r, q⟩ => ⟨I1.kIn, ?_⟩) he hpl
  exact qMm F hr hb hd hx I1 r q
structure Mk (K : PySem.W.Frag) (C f : Addr) : Prop where
  makes : PySem.W.makesIn K C = true
  init : PySem.W.findIn K (.ref C) "__init__" = some (some (.ref f))
  fn : PySem.W.isFn K (.ref f) = true
  kp : PySem.W.keepIn K (.ref C) = true
end
section
variable {X : Cx} {CX : CXT} {k : Nat} {f C : Addr} {fd : FuncData} {ps ks : List Str} {sp : Sp} {E : XK} {x m : Str} {p pos apos kpos : Pos} {e o : Expr} {es : List Expr} {kws : List Keyword} {te ta : TE} {t tk : TA} {nm : Option Str}
structure KBinds (K : PySem.W.Frag) (fd : FuncData) (ps ks : List Str) (g : List Value → List Value → List Value) (gV : List V → List V → List V) : Prop where
  to : ∀ (s : Shared) (us ws : List Value), K.In s.heap → (g us ws).length = ps.length → BindsTo s fd ⟨us, ks.zip ws⟩ (ps.zip (g us ws))
  rel : ∀ {vs : List V} {us : List Value} {zs : List V} {ws : List Value}, Vals vs us → Vals zs ws → Vals (gV vs zs) (g us ws)
variable {g : List Value → List Value → List Value} {gV : List V → List V → List V}
end
structure qQ (N P : List Str) (sc : Scope) : Prop where
  kind : sc.kind = .function
  co : sc.isCoroutine = false
  gen : sc.isGenerator = false
  nd : N.Nodup
  pre : N.take P.length = P
  par : ∀ x ∈ P, sc.names.lookup x = some .local ∨ sc.names.lookup x = some .cell
  nofree : ∀ y ∈ sc.names, y.2 ≠ .free
theorem qBz {kindOf : Str → Option NameKind} {x : Str} : ∀ {binds : List (Str × Value)} {m : Str → Option Value}, (∀ v, (x, v) ∉ binds) → bindL kindOf binds m x = m x
  | [], _, _ => rfl
  | (n, v) :: r, m, h => by
    unfold bindL
    rw [qBz fun w hw => h w (List.mem_cons_of_mem _ hw)]
    split
    · have : x ≠ n := by rintro rfl; exact h v List.mem_cons_self
      simp [this]
    · rfl
theorem qDa {kindOf : Str → Option NameKind} {x : Str} : ∀ {binds : List (Str × Value)} {m : Str → Option Value}, (∀ v, (x, v) ∉ binds) → bindC kindOf binds m x = m x
  | [], _, _ => rfl
  | (n, v) :: r, m, h => by
    unfold bindC
    rw [qDa fun w hw => h w (List.mem_cons_of_mem _ hw)]
    split
    · rfl
    · have : x ≠ n := by rintro rfl; exact h v List.mem_cons_self
      simp [this]
theorem qB0 {kindOf : Str → Option NameKind} {x : Str} {v : Value} : ∀ {P : List Str} {vs : List Value} {i : Nat} {m : Str → Option Value}, P.Nodup → P[i]? = some x → vs[i]? = some v → kindOf x = some .local →
    bindL kindOf (P.zip vs) m x = some v
  | [], _, _, _, _, h, _, _ => by simp at h
  | _ :: _, [], _, _, _, _, h, _ => by simp at h
  | p :: P, w :: vs, 0, m, nd, h1, h2, hk => by
    simp at h1 h2; subst h1; subst h2
    show bindL kindOf ((p, w) :: P.zip vs) m p = _
    unfold bindL
    rw [qBz fun v hv => (List.nodup_cons.mp nd).1 (List.of_mem_zip hv).1, if_pos hk]
    simp
  | p :: P, w :: vs, i + 1, m, nd, h1, h2, hk => by
    show bindL kindOf ((p, w) :: P.zip vs) m x = _
    unfold bindL
    exact qB0 (i := i) (List.nodup_cons.mp nd).2 (by simpa using h1) (by simpa using h2) hk
theorem qCr {kindOf : Str → Option NameKind} {x : Str} {v : Value} : ∀ {P : List Str} {vs : List Value} {i : Nat} {m : Str → Option Value}, P.Nodup → P[i]? = some x → vs[i]? = some v → kindOf x ≠ some .local →
    bindC kindOf (P.zip vs) m x = some v
  | [], _, _, _, _, h, _, _ => by simp at h
  | _ :: _, [], _, _, _, _, h, _ => by simp at h
  | p :: P, w :: vs, 0, m, nd, h1, h2, hk => by
    simp at h1 h2; subst h1; subst h2
    show bindC kindOf ((p, w) :: P.zip vs) m p = _
    unfold bindC
    rw [qDa fun v hv => (List.nodup_cons.mp nd).1 (List.of_mem_zip hv).1, if_neg hk]
    simp
  | p :: P, w :: vs, i + 1, m, nd, h1, h2, hk => by
    show bindC kindOf ((p, w) :: P.zip vs) m x = _
    unfold bindC
    exact qCr (i := i) (List.nodup_cons.mp nd).2 (by simpa using h1) (by simpa using h2) hk
def qAs (N : List Str) (vs : List V) : St := vs.map some ++ List.replicate (N.length - vs.length) none
def qIe (CX : CXT) (P : Program) (w : World) (K : PySem.W.Frag) (mg : Str → Option Value) (base : Heap) (N : List Str) (qual : Str) (scope : Scope) (f : Addr) (cd : Value) (A : Around) (outer : List Env) (s : Shared) (H : Hp) (E : XK) : Cx where
  prog := P
  w := w
  K := K
  mg := mg
  base := base
  A := A.deeper (envOfC qual scope s.heap.objs.size f cd)
  N := N
  s₀ := s
  H₀ := H
  env := envOfC qual scope s.heap.objs.size f cd
  outer := outer
  stack := envOfC qual scope s.heap.objs.size f cd :: outer
  ex := []
  calm := true
  fn := fun _ => true
  pn := []
  xe := fun e s' => wpAny (model P w) (A.deeper (envOfC qual scope s.heap.objs.size f cd)) (leaving (envOfC qual scope s.heap.objs.size f cd) e) (fun _ s'' => CX outer H s E e s'') (fun e' s'' => CX outer H s E e' s'') s'
theorem qE9 {sc : Scope} {n : Nat} {x : Str} (h : sc.names.lookup x = some .cell) : ∃ c, (cellsFrom n sc.names []).lookup x = some c := by
  have q := PySem.W.cellsFrom_some sc.names n [] (.inl h)
  exact Option.isSome_iff_exists.mp q
theorem qH6 {CX : CXT} {P : Program} {w : World} {K : PySem.W.Frag} {mg : Str → Option Value} {base : Heap} {N ps : List Str} {qual : Str} {scope : Scope} {f : Addr} {cd : Value} {A : Around} {outer : List Env} {s s1 : Shared} {H : Hp} {E : XK} {us : List Value} {vs : List V}
    (S : qQ N ps scope) (hd : A.handled = none) (e0 : Env0 P w K mg base A outer s H) (hl : vs.length = ps.length) (r : Vals vs us)
    (x : InCallC s s.heap.objs.size (bindL (envOfC qual scope s.heap.objs.size f cd).kindOf (ps.zip us) fun _ => none) (cellsFrom (s.heap.objs.size + 1) scope.names []) (bindC (envOfC qual scope s.heap.objs.size f cd).kindOf (ps.zip us) fun _ => none) s1) :
    Inv (qIe CX P w K mg base N qual scope f cd A outer s H E) [] (qAs N vs) H s1 := by
  have hpl : ps.length ≤ N.length := by have := congrArg List.length S.pre; rw [List.length_take] at this; omega
  obtain ⟨h1, tk, rfl, hk⟩ := x.done
  have noA : ∀ b : Addr, b ∉ (qIe CX P w K mg base N qual scope f cd A outer s H E).ex := fun b z => absurd (show b ∈ ([] : List Addr) from z) (by simp)
  refine ⟨⟨e0.mod, S.kind, rfl, rfl, Nat.le_refl _, fun y z c h1 h2 => ?_, fun y hy => ?_, fun y c _ h => ?_, fun _ => hd, Around.frames_deeper e0.frames, .inr ⟨rfl, rfl⟩, fun b z => absurd z (noA b), e0.bs, e0.bsz, fun b _ _ => noA b, fun b z => absurd z (noA b), e0.funs, e0.frf⟩,
    rfl, e0.bare, Un.kept hk, ⟨_, x.toInCall.ns, fun i y v h1 h2 h3 => ?_⟩, fun y c h => ⟨_, x.cell y c h⟩, e0.hok.fresh (Nat.le_refl _), fun y c h => ?_, fun p hp => absurd (show p ∈ ([] : List (Addr × Obj)) from hp) (by simp), e0.hok.kept hk, ?_⟩
  · exact name_of_addr x.apart (PySem.mem_of_lookup h1) (PySem.mem_of_lookup h2)
  · have hy : scope.names.lookup y = some .cell ∨ scope.names.lookup y = some .free := hy
    rcases hy with hy | hy
    · exact qE9 hy
    · exact absurd rfl (S.nofree _ (PySem.mem_of_lookup hy))
  · exact Nat.le_of_lt (x.above y c (PySem.mem_of_lookup h))
  · have hi : i < vs.length := by
      unfold qAs at h2
      by_cases hi : i < vs.length
      · exact hi
      · rw [List.getElem?_append_right (by simpa using hi)] at h2
        rw [List.getElem?_replicate] at h2
        split at h2 <;> cases h2
    have ha : vs[i]? = some v := by
      unfold qAs at h2
      rw [List.getElem?_append_left (by simpa using hi), List.getElem?_map] at h2
      cases e : vs[i]? with
      | none => rw [e] at h2; cases h2
      | some a => rw [e] at h2; cases h2; rfl
    obtain ⟨u, hu, rv⟩ := r.get ha
    have hp : ps[i]? = some y := by
      rw [← S.pre, List.getElem?_take_of_lt (by omega)]; exact h1
    have ndP : ps.Nodup := by rw [← S.pre]; exact S.nd.sublist (List.take_sublist _ _)
    refine ⟨u, rv, ?_⟩
    rcases S.par y (List.mem_of_getElem? hp) with k | k
    · exact .inl ⟨k, qB0 ndP hp hu k⟩
    · obtain ⟨c, e⟩ := qE9 (n := s.heap.objs.size + 1) k
      refine .inr ⟨.inl k, c, e, ?_⟩
      have q := x.cell y c e
      rw [qCr ndP hp hu (by show scope.names.lookup y ≠ _; rw [k]; decide)] at q
      exact q
  · exact e0.hok.fresh (Nat.le_of_lt (x.above y c (PySem.mem_of_lookup h)))
  · unfold qAs
    show _ = N.length
    rw [List.length_append, List.length_map, List.length_replicate]
    omega
theorem qMi {CX : CXT} {P : Program} {w : World} {K : PySem.W.Frag} {mg : Str → Option Value} {base : Heap} {k : Nat} {f : Addr} {name qual : Str} {params : Arguments} {body : List Stmt} {scope : Scope} {dV kV doc pm cdv ct oc : Value} {an od : Option Addr}
    {osl : Array (Option Value)} {N ps : List Str} {sp : Sp} (lk : K.lookup f = some ⟨oc, od, .func (PySem.W.fnOf name qual params body scope dV kV doc pm an cdv ct), osl⟩) (hcd : PySem.W.codeIn K cdv qual = true) (S : qQ N ps scope)
    (len : ∀ vs H Q E, sp vs H Q E → vs.length = ps.length)
    (hbody : ∀ (A : Around) (outer : List Env) (s : Shared) (H : Hp) (vs : List V) (Q : VK) (E : XK), Room k (A.deeper (envOfC qual scope s.heap.objs.size f cdv)) → sp vs H Q E →
      ∃ t, PSs (qIe CX P w K mg base N qual scope f cdv A outer s H E) body t ∧ t { nx := fun _ H' => Q .non H', rt := Q } (qAs N vs) H) :
    FnOk P w K mg base CX (k + 1) f (PySem.W.fnOf name qual params body scope dV kV doc pm an cdv ct) ps sp := by
  refine ⟨len, fun A outer s H args us vs Q E hr e0 hb r hsp => ?_⟩
  have hl := len _ _ _ _ hsp
  have KX : K.In s.heap := e0.mod.kin.keeps fun b o e => (e0.bs b o e).1
  have lim : s.heap.NoLimit := e0.mod.nolimit.keeps fun b o e => (e0.bs b o e).1
  have hkind : ∀ y ∈ ps.zip us, scope.names.lookup y.1 = some .local ∨ (scope.names.lookup y.1 = some .cell ∧ ((cellsFrom (s.heap.objs.size + 1) scope.names []).lookup y.1).isSome = true) := fun ⟨n, v⟩ hy => by
    rcases S.par n (List.of_mem_zip hy).1 with q | q
    · exact .inl q
    · exact .inr ⟨q, PySem.W.cellsFrom_some _ _ _ (.inl q)⟩
  refine codeAny_call_function hr.depth (KX _ _ lk) rfl S.co S.gen rfl (PySem.W.codeRec_of KX hcd) (hb _ _ _ _ ?_)
  refine wpAny_newFunctionEnv_cells S.kind hkind fun env he s1 x => ?_
  subst he
  refine ⟨lim.keeps x.toInCall.keep, codeAny_func ?_⟩
  obtain ⟨t, ht, hq⟩ := hbody A outer s H vs Q E (hr.deeper _) hsp
  have I : Inv (qIe CX P w K mg base N qual scope f cdv A outer s H E) [] (qAs N vs) H s1 := qH6 S hr.hd e0 hl r x
  refine wpAny_mono (ht [] s1 (qAs N vs) H _ I hq) (fun fl s' hs => ?_) fun e s' hs => hs
  have fin : ∀ {σ' : St} {H' : Hp} {v : V} {u : Value}, Inv (qIe CX P w K mg base N qual scope f cdv A outer s H E) [] σ' H' s' → RelV v u → Q v H' → CE outer P w H s Q u s' :=
    fun {σ' H' v u} J rv q => ⟨v, H', J.os, J.bare, J.base, J.hok, rv, q⟩
  cases fl with
  | ret u =>
    obtain ⟨v, σ', H', J, rv, q⟩ := hs
    exact fin J rv q
  | next =>
    obtain ⟨σ', H', J, q⟩ := hs
    exact fin (v := V.non) (u := Value.none) J rfl q
  | brk =>
    obtain ⟨_, _, _, q⟩ := hs
    exact False.elim q
  | cont =>
    obtain ⟨_, _, _, q⟩ := hs
    exact False.elim q
end L2
namespace L2
open PySem PySem.Spec PyProof.Rows
section
variable {X : Cx} {x : Str} {p pos : Pos} {e : Expr} {es : List Expr} {t : TA} {id T : String} {r : List V → Hp → VK → Prop}
def tCB (r : List V → Hp → VK → Prop) (t : TA) : TE := fun σ H Q => t σ H fun vs H1 => r vs H1 Q
theorem qh (hc : CallR X (.builtin id) r) (hg : Gl X x) (hm : X.mg x = none) (hv : bootBuiltins x = some (.builtin id)) (ha : PA X (e :: es) t) (hn : x ≠ "__name__" := by decide) (hdb : (x == ("__debug__" : Str)) = false := by decide)
    (he : starEach (e :: es) X.env = (false, eval e X.env) :: starEach es X.env := by rfl) (hpl : (backTo pos (starEach es X.env)).any (·.1) = false := by rfl) : PE X (.Call (.Name x p) (e :: es) [] pos) (tCB r t) := by
  intro pins s σ H Q I h
  refine wpAny_Call_Name_kw (qEw I hg hm hv ?_ hn hdb)
  exact PyProof.Rows.callWith_builtin1 (thn (ha pos pins s σ H _ I h) fun us s1 ⟨vs, H1, I1, r1, q1⟩ => hc pins s1 σ H1 vs us Q I1 r1 q1) he hpl
theorem kj (hc : CallR X (.type T) r) (hg : Gl X x) (hm : X.mg x = none) (hv : bootBuiltins x = some (.type T)) (ha : PA X (e :: es) t) (hn : x ≠ "__name__" := by decide) (hdb : (x == ("__debug__" : Str)) = false := by decide)
    (he : starEach (e :: es) X.env = (false, eval e X.env) :: starEach es X.env := by rfl) (hpl : (backTo pos (starEach es X.env)).any (·.1) = false := by rfl) : PE X (.Call (.Name x p) (e :: es) [] pos) (tCB r t) := by
  intro pins s σ H Q I h
  refine wpAny_Call_Name_kw (qEw I hg hm hv ?_ hn hdb)
  exact PyProof.Rows.callWith_type1 (thn (ha pos pins s σ H _ I h) fun us s1 ⟨vs, H1, I1, r1, q1⟩ => hc pins s1 σ H1 vs us Q I1 r1 q1) he hpl
end
end L2
namespace HT
open PySem PyProof.Rows
section
open PySem.SeqAt
open PySem.AutoSeq1 (wpAny_loadPart')
open PySem.MeetsSeq PySem.MeetsSeq2 PySem.MeetsSeq3
end
section
variable {prog : Program} {w : World} {A : Around} {E : Value → Shared → Prop} {s : Shared}
def sIx (n d : Nat) : Option Int → Nat
  | none => d
  | some v => if v < 0 then (v + (n : Int)).toNat else min v.toNat n
theorem sIx_none (n d : Nat) : sIx n d none = d := rfl
theorem sIx_nat (n d k : Nat) : sIx n d (some (k : Int)) = min k n := by
  show (if (k : Int) < 0 then ((k : Int) + (n : Int)).toNat else min (k : Int).toNat n) = min k n
  rw [if_neg (by omega), Int.toNat_natCast]
end
end HT
namespace L2
open PySem PySem.Spec PyProof.Rows
abbrev TO := St → Hp → (Option Int → Hp → Prop) → Prop
def PO (X : Cx) (e : Option Expr) (t : TO) : Prop :=
  ∀ (pins : List (Addr × Obj)) (s : Shared) (σ : St) (H : Hp) (Q : Option Int → Hp → Prop), Inv X pins σ H s → t σ H Q →
    wpAny (model X.prog X.w) X.A (evalPart e X.env) (fun u s' => ∃ o H', Inv X pins σ H' s' ∧ IsPart u o ∧ Q o H') X.xe s
def qKg : TO := fun _ H Q => Q none H
def qN2 (t : TE) : TO := fun σ H Q => t σ H fun x H1 => ∃ i, x = .int i ∧ Q (some i) H1
section
variable {X : Cx} {e : Expr} {te : TE} {lo hi : Option Expr} {tl th : TO} {pos p2 : Pos}
theorem qGg : PO X none qKg := by
  intro pins s σ H Q I h
  rw [evalPart_none]
  exact wpAny_pure ⟨none, H, I, .none, h⟩
theorem qGs (h : PE X e te) : PO X (some e) (qN2 te) := by
  intro pins s σ H Q I hw
  rw [evalPart_some]
  refine thn (h pins s σ H _ I hw) fun u s1 ⟨x, H1, I1, r1, q1⟩ => ?_
  obtain ⟨i, rfl, q⟩ := q1
  obtain ⟨t, rfl⟩ := r1
  exact ⟨some i, H1, I1, .int i t, q⟩
def SlR (X : Cx) (r : V → Option Int → Option Int → Hp → VK → Prop) : Prop :=
  ∀ (pins : List (Addr × Obj)) (s : Shared) (σ : St) (H : Hp) (x : V) (v vl vu : Value) (lo hi : Option Int) (sl : Addr) (Q : VK), Inv X pins σ H s → RelV x v → s.heap.IsSliceOf sl vl vu .none → IsPart vl lo → IsPart vu hi → r x lo hi H Q →
    ∃ T id, typeLookup (.type T) "__getitem__" = pure (some (.builtin id)) ∧ s.TypeIs v T ∧ wpAny (model X.prog X.w) X.A (getItem v (.ref sl)) (EP X pins σ Q) X.xe s
theorem SlR.or {r r' : V → Option Int → Option Int → Hp → VK → Prop} (h : SlR X r) (h' : SlR X r') : SlR X (fun x lo hi H Q => r x lo hi H Q ∨ r' x lo hi H Q) := by
  intro pins s σ H x v vl vu lo hi sl Q I rx hs pl pu q
  rcases q with q | q
  · exact h pins s σ H x v vl vu lo hi sl Q I rx hs pl pu q
  · exact h' pins s σ H x v vl vu lo hi sl Q I rx hs pl pu q
def tSl (r : V → Option Int → Option Int → Hp → VK → Prop) (te : TE) (tl th : TO) : TE := fun σ H Q => te σ H fun x H1 => tl σ H1 fun l H2 => th σ H2 fun u H3 => r x l u H3 Q
theorem qEv {r : V → Option Int → Option Int → Hp → VK → Prop} (hr : SlR X r) (he : PE X e te) (hl : PO X lo tl) (hu : PO X hi th) : PE X (.Subscript e (.Slice lo hi none p2) pos) (tSl r te tl th) := by
  intro pins s σ H Q I h
  refine Subscript_ (thn (he pins s σ H _ I h) fun v s1 ⟨x, H1, I1, r1, q1⟩ => ?_)
  refine wpAny_Slice (thn (hl pins s1 σ H1 _ I1 q1) fun vl s2 ⟨l, H2, I2, pl, q2⟩ => thn (hu pins s2 σ H2 _ I2 q2) fun vu s3 ⟨u, H3, I3, pu, q3⟩ => ?_)
  rw [evalPart_none]
  refine wpAny_pure ?_
  have I4 : Inv X pins σ H3 { s3 with heap := s3.heap.push { cls := .type "slice", data := .fields #[vl, vu, .none] } } := I3.kept (t' := s3.toks) fun b ob q => Heap.get?_push_of_some _ q
  obtain ⟨T, id, hT, ht, hg⟩ := hr pins { s3 with heap := s3.heap.push { cls := .type "slice", data := .fields #[vl, vu, .none] } } σ H3 x v vl vu l u s3.heap.objs.size Q I4 r1 (Heap.IsSliceOf.new ..) pl pu q3
  show wpAny (model X.prog X.w) X.A (subscriptTail e (.Slice lo hi none p2) v (.ref s3.heap.objs.size)) (EP X pins σ Q) X.xe { s3 with heap := s3.heap.push { cls := .type "slice", data := .fields #[vl, vu, .none] } }
  exact tail_any (ops := [.ref s3.heap.objs.size, v]) ht hT hg (by with_unfolding_all rfl)
def qI3 (xs : List V) (lo hi : Option Int) : List V := (xs.drop (HT.sIx xs.length 0 lo)).take (HT.sIx xs.length xs.length hi - HT.sIx xs.length 0 lo)
theorem qDx (xs : List V) (lo hi : Option Int) : (qI3 xs lo hi).length ≤ xs.length := by
  unfold qI3
  rw [List.length_take, List.length_drop]
  omega
end
end L2
namespace L2
open PySem PySem.Spec PyProof.Rows
def ixN (n : Nat) (i : Int) : Option Nat := if 0 ≤ i then (if i < n then some i.toNat else none) else if -(n : Int) ≤ i then some (i + n).toNat else none
def atI {α : Type} (xs : List α) (i : Int) : Option α := (ixN xs.length i).bind fun j => xs[j]?
theorem qG0 {n : Nat} {i : Int} {j : Nat} (h : ixN n i = some j) : seqIndex? i n = some j ∧ j < n ∧ -(n : Int) ≤ i ∧ i < n := by
  unfold ixN at h
  by_cases h0 : 0 ≤ i
  · rw [if_pos h0] at h
    by_cases h1 : i < n
    · rw [if_pos h1] at h
      have e : i.toNat = j := Option.some.inj h
      exact ⟨by rw [seqIndex_of h0 h1, e], by omega, by omega, h1⟩
    · rw [if_neg h1] at h; cases h
  · rw [if_neg h0] at h
    by_cases h1 : -(n : Int) ≤ i
    · rw [if_pos h1] at h
      have e : (i + n).toNat = j := Option.some.inj h
      exact ⟨by rw [seqIndex_neg (by omega) h1, e], by omega, h1, by omega⟩
    · rw [if_neg h1] at h; cases h
theorem qIb {α : Type} {xs : List α} {i : Int} {v : α} (h : atI xs i = some v) : ∃ j, seqIndex? i xs.length = some j ∧ xs[j]? = some v ∧ j < xs.length ∧ -(xs.length : Int) ≤ i ∧ i < xs.length := by
  unfold atI at h
  cases e : ixN xs.length i with
  | none => rw [e] at h; cases h
  | some j =>
    rw [e] at h
    obtain ⟨h1, h2, h3, h4⟩ := qG0 e
    exact ⟨j, h1, h, h2, h3, h4⟩
theorem jn {α : Type} {xs : List α} {j : Nat} {v : α} (h : xs[j]? = some v) : atI xs (j : Int) = some v := by
  have hj : j < xs.length := (List.getElem?_eq_some_iff.mp h).1
  have e : ixN xs.length (j : Int) = some j := by
    unfold ixN
    rw [if_pos (by omega), if_pos (by omega)]; simp
  unfold atI; rw [e]; exact h
def qKt (b : Expr) : Prop := ∀ o i, subscripted b false o i = operate [o, i] (getItem o i)
def IxR (X : Cx) (r : R2) : Prop :=
  ∀ (value slice : Expr) (pins : List (Addr × Obj)) (s : Shared) (σ : St) (H : Hp) (x y : V) (v u : Value) (Q : VK), Inv X pins σ H s → RelV x v → RelV y u → r x y H Q →
    subscripted slice false v u = operate [v, u] (getItem v u) → wpAny (model X.prog X.w) X.A (subscriptTail value slice v u) (EP X pins σ Q) X.xe s
def MtR (X : Cx) (id : String) (r : V → List V → Hp → VK → Prop) : Prop :=
  ∀ (pins : List (Addr × Obj)) (s : Shared) (σ : St) (H : Hp) (x : V) (xs : List V) (v : Value) (us : List Value) (Q : VK), Inv X pins σ H s → RelV x v → Vals xs us → r x xs H Q →
    wpAny (model X.prog X.w) X.A (call (.builtin id) (v :: us)) (EP X pins σ Q) X.xe s
section
variable {X : Cx} {a b : Expr} {ta tb : TE} {pos : Pos}
theorem IxR.or {r r' : R2} (h : IxR X r) (h' : IxR X r') : IxR X (fun x y H Q => r x y H Q ∨ r' x y H Q) := by
  intro value slice pins s σ H x y v u Q I rx ry q hs
  rcases q with q | q
  · exact h value slice pins s σ H x y v u Q I rx ry q hs
  · exact h' value slice pins s σ H x y v u Q I rx ry q hs
theorem MtR.or {id : String} {r r' : V → List V → Hp → VK → Prop} (h : MtR X id r) (h' : MtR X id r') : MtR X id (fun x xs H Q => r x xs H Q ∨ r' x xs H Q) := by
  intro pins s σ H x xs v us Q I rx rs q
  rcases q with q | q
  · exact h pins s σ H x xs v us Q I rx rs q
  · exact h' pins s σ H x xs v us Q I rx rs q
theorem qL {r : R2} (hr : IxR X r) (ha : PE X a ta) (hb : PE X b tb) (hs : qKt b) : PE X (.Subscript a b pos) (tOp r ta tb) := by
  intro pins s σ H Q I h
  exact Subscript_ (qM4 ha hb I h fun v u s2 x y H2 I2 rx ry q => hr a b pins s2 σ H2 x y v u Q I2 rx ry q (hs _ _))
def qOi (K : PySem.W.Frag) : R2 := fun x y H Q => ∃ p xs i v, x = .ref p ∧ y = .int i ∧ SqL K H p xs ∧ atI xs i = some v ∧ Q v H
def qNb (K : PySem.W.Frag) : R2 := fun x y H Q => ∃ p xs i v, x = .ref p ∧ y = .int i ∧ SqT K H p xs ∧ atI xs i = some v ∧ Q v H
theorem jb : IxR X (qOi X.K) := by
  intro value slice pins s σ H x y v u Q I rx ry h hs
  obtain ⟨p, xs, i, z, rfl, rfl, hq, he, q⟩ := h
  cases rx
  obtain ⟨t, rfl⟩ := ry
  obtain ⟨its, r, pl, hz⟩ := I.list hq
  obtain ⟨j, h1, h2, h3, h4, h5⟩ := qIb he
  obtain ⟨w, ew, rw'⟩ := r.get h2
  have hl := r.length
  have hn := qB4
  have fin : EP X pins σ Q w s := ⟨z, H, I, rw', q⟩
  by_cases h0 : 0 ≤ i
  · have hj : i.toNat = j := by
      rw [seqIndex_of h0 h5] at h1
      exact Option.some.inj h1
    exact item_listR pl.isList h0 (by omega) (by rw [hj]; simpa using ew) fin hs
  · have hj : (i + (its.toArray.size : Int)).toNat = j := by
      rw [seqIndex_neg (by omega) h4] at h1
      rw [List.size_toArray, ← hl]
      exact Option.some.inj h1
    exact subscriptTail_builtinR (x := w) pl.isList.typeIs slot_list_getitem.lookup
      (wpAny_getItem_list_neg (Q := fun r s' => r = w ∧ EP X pins σ Q r s') pl.isList (by omega) (by rw [List.size_toArray] <;> omega) (by omega) (by rw [hj]; simpa using ew) ⟨rfl, fin⟩) hs
theorem qJ : IxR X (qNb X.K) := by
  intro value slice pins s σ H x y v u Q I rx ry h hs
  obtain ⟨p, xs, i, z, rfl, rfl, hq, he, q⟩ := h
  cases rx
  obtain ⟨t, rfl⟩ := ry
  obtain ⟨its, r, pl, hz⟩ := I.tuple hq
  obtain ⟨j, h1, h2, h3, h4, h5⟩ := qIb he
  obtain ⟨w, ew, rw'⟩ := r.get h2
  have hl := r.length
  have hn := qB4
  have fin : EP X pins σ Q w s := ⟨z, H, I, rw', q⟩
  exact subscriptTail_builtinR (x := w) pl.typeIs slot_tuple_getitem.lookup
    (getItem_tuple (j := j) (Q := fun r s' => r = w ∧ EP X pins σ Q r s') pl (by omega) (by omega) (by rw [List.size_toArray, ← hl]; exact h1) (by simpa using ew) ⟨rfl, fin⟩) hs
theorem qFp (its : List Value) (n j : Nat) (u : Value) : Obj.mapSeq (·.setIfInBounds j u) { cls := .type "list", data := .seq its.toArray n } = { cls := .type "list", data := .seq (its.set j u).toArray n } := by
  simp [Obj.mapSeq]
theorem Inv.lst {pins : List (Addr × Obj)} {σ : St} {H : Hp} {s : Shared} {p : Addr} {xs : List V} (I : Inv X pins σ H s) (h : H p = some (.lst xs)) :
    ∃ (its : List Value) (n : Nat), Vals xs its ∧ s.heap.get? p = some { cls := .type "list", data := .seq its.toArray n } ∧ xs.length ≤ sizeLine := by
  obtain ⟨z, its, n, r, e⟩ := I.hok p _ h
  exact ⟨its, n, r, e, z⟩
theorem Inv.lstUpd {pins : List (Addr × Obj)} {σ : St} {H : Hp} {s : Shared} {p : Addr} {xs ys : List V} {its its' : List Value} {n n' : Nat} {f : Obj → Obj} (I : Inv X pins σ H s) (h : H p = some (.lst xs))
    (ho : s.heap.get? p = some { cls := .type "list", data := .seq its.toArray n }) (hf : f { cls := .type "list", data := .seq its.toArray n } = { cls := .type "list", data := .seq its'.toArray n' }) (r : Vals ys its') (hz : ys.length ≤ sizeLine) (t : Nat) :
    Inv X pins σ (upd H p (.lst ys)) { s with heap := s.heap.update p f, toks := t } := by
  have e : (s.heap.update p f).get? p = some { cls := .type "list", data := .seq its'.toArray n' } := by
    rw [Heap.get?_update_self f ho (by rw [hf] <;> rfl), hf]
  refine I.write (x := p) (e := p) (by rw [h]; trivial) (.inl rfl) (fun b u hb q => (Heap.get?_update_other _ _ (Ne.symm hb)).trans q) ⟨_, e⟩ ?_
  exact ⟨hz, its', n', r, e⟩
def qNn : V → V → V → Hp → (Hp → Prop) → Prop := fun o i v H Q => ∃ p xs k j, o = .ref p ∧ i = .int k ∧ H p = some (.lst xs) ∧ ixN xs.length k = some j ∧ Q (upd H p (.lst (xs.set j v)))
theorem v0 : qN5 X qNn := by
  intro pins s σ H o i v ov iv u Q I ro ri rv h
  obtain ⟨p, xs, k, j, rfl, rfl, hp, hj, q⟩ := h
  cases ro
  obtain ⟨t, rfl⟩ := ri
  obtain ⟨its, n, r, ho, hz⟩ := I.lst hp
  obtain ⟨h1, h2, h3, h4⟩ := qG0 hj
  have hl := r.length
  have hn := qB4
  have I' : Inv X pins σ (upd H p (.lst (xs.set j v))) { s with heap := s.heap.update p (Obj.mapSeq (·.setIfInBounds j u)) } :=
    I.lstUpd hp ho (qFp its n j u) (r.set rv j) (by rw [List.length_set]; exact hz) s.toks
  by_cases h0 : 0 ≤ k
  · have hk : k.toNat = j := by
      rw [seqIndex_of h0 h4] at h1
      exact Option.some.inj h1
    exact PySem.W.ki_setAt ho h0 (by omega) (by rw [List.size_toArray, ← hl]; exact h4) (by rw [hk]; exact ⟨_, I', q⟩)
  · have hk : (k + (its.toArray.size : Int)).toNat = j := by
      rw [seqIndex_neg (by omega) h3] at h1
      rw [List.size_toArray, ← hl]
      exact Option.some.inj h1
    exact PySem.W.ki_setBack ho (by omega) (by rw [List.size_toArray, ← hl]; exact h3) (by omega) (by rw [hk]; exact ⟨_, I', q⟩)
theorem qB6 (lo hi : Option Int) (n : Nat) : (sliceBounds lo hi none n).1 = ((HT.sIx n 0 lo : Nat) : Int) ∧ (sliceBounds lo hi none n).2.1 = ((HT.sIx n n hi : Nat) : Int) ∧ (sliceBounds lo hi none n).2.2 = 1 := by
  refine ⟨?_, ?_, rfl⟩
  · cases lo with
    | none => simp [sliceBounds, HT.sIx]
    | some i =>
      simp only [sliceBounds, HT.sIx, Option.getD_none, show (1 : Int) > 0 by decide, if_true]
      by_cases h : i < 0
      · simp only [h, if_true] <;> omega
      · simp only [h, if_false] <;> omega
  · cases hi with
    | none => simp [sliceBounds, HT.sIx]
    | some i =>
      simp only [sliceBounds, HT.sIx, Option.getD_none, show (1 : Int) > 0 by decide, if_true]
      by_cases h : i < 0
      · simp only [h, if_true] <;> omega
      · simp only [h, if_false] <;> omega
theorem qAz (its : List Value) (lo hi : Option Int) : slicePick its.toArray lo hi none = ((its.drop (HT.sIx its.length 0 lo)).take (HT.sIx its.length its.length hi - HT.sIx its.length 0 lo)).toArray := by
  obtain ⟨h1, h2, h3⟩ := qB6 lo hi its.toArray.size
  unfold slicePick
  rw [h1, h2, h3]
  simp only [sliceRange_one, pick_run, List.size_toArray] <;> rfl
def qOk (K : PySem.W.Frag) : V → Option Int → Option Int → Hp → VK → Prop := fun x lo hi H Q => ∃ a xs, x = .ref a ∧ SqL K H a xs ∧ ∀ p, H p = none → Q (.ref p) (upd H p (.lst (qI3 xs lo hi)))
theorem qHn : SlR X (qOk X.K) := by
  intro pins s σ H x v vl vu lo hi sl Q I rx hs pl pu h
  obtain ⟨a, xs, rfl, hx, q⟩ := h
  cases rx
  obtain ⟨its, r, ht, hz⟩ := I.list hx
  have hlen := r.length
  refine ⟨"list", _, slot_list_getitem.lookup, ht.isList.typeIs, ?_⟩
  refine wpAny_getItem_list_slice ht.isList hs pl pu .none (by simp) ?_ (by rw [List.size_toArray] <;> omega)
  rw [qAz, ← hlen]
  refine ⟨.ref s.heap.objs.size, _, I.laid (t' := s.toks) (o := .lst (qI3 xs lo hi)) (fun b ob q => Heap.get?_push_of_some _ q) (Nat.le_refl _) ?_, rfl, q _ (I.hok.fresh (Nat.le_refl _))⟩
  exact ⟨Nat.le_trans (qDx xs lo hi) hz, _, 0, (r.drop (HT.sIx xs.length 0 lo)).take (HT.sIx xs.length xs.length hi - HT.sIx xs.length 0 lo), Heap.get?_push_size _ rfl⟩
def xY : V → Bool
  | .non => true
  | .bl _ => true
  | .int _ => true
  | .str _ => true
  | _ => false
def eqV : V → V → Bool
  | .non, .non => true
  | .bl a, .bl b => a == b
  | .bl a, .int b => (if a then 1 else 0) == b
  | .int a, .bl b => a == (if b then 1 else 0)
  | .int a, .int b => a == b
  | .str a, .str b => a == b
  | _, _ => false
theorem qCf {A : Around} {s : Shared} {y x : V} {u v : Value} (ry : RelV y u) (rx : RelV x v) (fy : xY y = true) (fx : xY x = true) : SeqAt.EqAt A s u v (eqV y x) := by
  cases y with
  | non =>
    cases ry
    cases x with
    | non => cases rx; exact SeqAt.EqAt.same _
    | bl b => cases rx; exact SeqAt.EqAt.none_bool b
    | int b => obtain ⟨t, rfl⟩ := rx; exact SeqAt.EqAt.none_int b t
    | str b => obtain ⟨t, rfl⟩ := rx; exact SeqAt.EqAt.none_str b t
    | _ => exact absurd (show false = true from fx) Bool.false_ne_true
  | bl a =>
    cases ry
    cases x with
    | non => cases rx; exact SeqAt.EqAt.bool_none a
    | bl b => cases rx; exact SeqAt.EqAt.bool_bool a b
    | int b => obtain ⟨t, rfl⟩ := rx; exact SeqAt.EqAt.bool_int a b t
    | str b => obtain ⟨t, rfl⟩ := rx; exact SeqAt.EqAt.bool_str a b t
    | _ => exact absurd (show false = true from fx) Bool.false_ne_true
  | int a =>
    obtain ⟨t', rfl⟩ := ry
    cases x with
    | non => cases rx; exact SeqAt.EqAt.int_none a t'
    | bl b => cases rx; exact SeqAt.EqAt.int_bool a t' b
    | int b => obtain ⟨t, rfl⟩ := rx; exact SeqAt.EqAt.int_int a t' b t
    | str b => obtain ⟨t, rfl⟩ := rx; exact SeqAt.EqAt.int_str a t' b t
    | _ => exact absurd (show false = true from fx) Bool.false_ne_true
  | str a =>
    obtain ⟨t', rfl⟩ := ry
    cases x with
    | non => cases rx; exact SeqAt.EqAt.str_none a t'
    | bl b => cases rx; exact SeqAt.EqAt.str_bool a t' b
    | int b => obtain ⟨t, rfl⟩ := rx; exact SeqAt.EqAt.str_int a t' b t
    | str b => obtain ⟨t, rfl⟩ := rx; exact SeqAt.EqAt.str_str a t' b t
    | _ => exact absurd (show false = true from fx) Bool.false_ne_true
  | _ => exact absurd (show false = true from fy) Bool.false_ne_true
def eqU (x : V) (u : Value) : Bool := match u with
  | .none => eqV .non x
  | .bool b => eqV (.bl b) x
  | .int i _ => eqV (.int i) x
  | .str z _ => eqV (.str z) x
  | _ => false
theorem qJw {x y : V} {u : Value} (r : RelV y u) (f : xY y = true) : eqU x u = eqV y x := by
  cases y with
  | non => cases r; rfl
  | bl b => cases r; rfl
  | int i => obtain ⟨t, rfl⟩ := r; rfl
  | str z => obtain ⟨t, rfl⟩ := r; rfl
  | _ => exact absurd (show false = true from f) Bool.false_ne_true
theorem wX {x : V} : ∀ {xs : List V} {us : List Value}, Vals xs us → xs.all xY = true → us.any (eqU x) = xs.any fun y => eqV y x
  | _, _, .nil, _ => rfl
  | y :: xs, u :: us, .cons r t, f => by
    rw [List.all_cons, Bool.and_eq_true] at f
    rw [List.any_cons, List.any_cons, qJw r f.1, wX t f.2]
theorem kx {A : Around} {s : Shared} {x : V} {v : Value} (rx : RelV x v) (fx : xY x = true) : ∀ {xs : List V} {us : List Value}, Vals xs us → xs.all xY = true → ∀ u ∈ us, SeqAt.EqAt A s u v (eqU x u)
  | _, _, .nil, _ => fun u hu => by cases hu
  | y :: xs, u :: us, .cons r t, f => fun u' hu => by
    rw [List.all_cons, Bool.and_eq_true] at f
    rcases List.mem_cons.mp hu with rfl | hu
    · rw [qJw r f.1]; exact qCf r rx f.1 fx
    · exact kx rx fx t f.2 u' hu
def inV (x : V) (xs : List V) : Bool := xs.any fun y => eqV y x
def rIn (K : PySem.W.Frag) (neg : Bool) : R2 := fun x y H Q => ∃ p xs, y = .ref p ∧ (SqL K H p xs ∨ SqT K H p xs) ∧ xY x = true ∧ xs.all xY = true ∧ Q (.bl (if neg then !inV x xs else inV x xs)) H
theorem xx : OpR X (compareOp .In) (rIn X.K false) := by
  intro pins s σ H x y v u Q I rx ry h
  obtain ⟨p, xs, rfl, hq, fx, fs, q⟩ := h
  cases ry
  rcases hq with hq | hq
  · obtain ⟨its, r, pl, hz⟩ := I.list hq
    refine SeqAt.in_listAt (eqU x) pl.isList (fun w hw => kx rx fx r fs w (by simpa using hw)) ⟨.bl _, H, I, rfl, ?_⟩
    rw [show its.toArray.any (eqU x) = its.any (eqU x) by simp, wX r fs]
    exact q
  · obtain ⟨its, r, pl, hz⟩ := I.tuple hq
    refine SeqAt.in_tupleAt (eqU x) pl (fun w hw => kx rx fx r fs w (by simpa using hw)) ⟨.bl _, H, I, rfl, ?_⟩
    rw [show its.toArray.any (eqU x) = its.any (eqU x) by simp, wX r fs]
    exact q
theorem zn : OpR X (compareOp .NotIn) (rIn X.K true) := by
  intro pins s σ H x y v u Q I rx ry h
  obtain ⟨p, xs, rfl, hq, fx, fs, q⟩ := h
  cases ry
  rcases hq with hq | hq
  · obtain ⟨its, r, pl, hz⟩ := I.list hq
    refine SeqAt.notIn_listAt (eqU x) pl.isList (fun w hw => kx rx fx r fs w (by simpa using hw)) ⟨.bl _, H, I, rfl, ?_⟩
    rw [show its.toArray.any (eqU x) = its.any (eqU x) by simp, wX r fs]
    exact q
  · obtain ⟨its, r, pl, hz⟩ := I.tuple hq
    refine SeqAt.notIn_tupleAt (eqU x) pl (fun w hw => kx rx fx r fs w (by simpa using hw)) ⟨.bl _, H, I, rfl, ?_⟩
    rw [show its.toArray.any (eqU x) = its.any (eqU x) by simp, wX r fs]
    exact q
theorem j3 : CallR X (.builtin "len") (fun xs H Q => ∃ p ys, xs = [.ref p] ∧ (SqL X.K H p ys ∨ SqT X.K H p ys) ∧ Q (.int ys.length) H) := by
  intro pins s σ H xs us Q I r h
  obtain ⟨p, ys, rfl, hq, q⟩ := h
  obtain ⟨u, rfl, rx⟩ := qEe r
  cases rx
  have hn := qB4
  rcases hq with hq | hq
  · obtain ⟨its, r', pl, hz⟩ := I.list hq
    have hlen := r'.length
    exact Calls.call_len_list pl.isList (by simp only [List.size_toArray] <;> omega) ⟨.int ys.length, H, I.tok _, ⟨s.toks + 1, by rw [List.size_toArray, hlen]⟩, q⟩
  · obtain ⟨its, r', pl, hz⟩ := I.tuple hq
    have hlen := r'.length
    exact len_tuple pl (by simp only [List.size_toArray] <;> omega) ⟨.int ys.length, H, I.tok _, ⟨s.toks + 1, by rw [List.size_toArray, hlen]⟩, q⟩
theorem vX : CallR X (.builtin "len") (fun xs H Q => ∃ z, xs = [.str z] ∧ z.length ≤ sizeLine ∧ Q (.int z.length) H) := by
  intro pins s σ H xs us Q I r h
  obtain ⟨z, rfl, hz, q⟩ := h
  obtain ⟨u, rfl, t, rfl⟩ := qEe r
  have hn := qB4
  exact len_str (by omega) ⟨.int z.length, H, I.tok _, ⟨_, rfl⟩, q⟩
theorem CallR.or {f : Value} {r r' : List V → Hp → VK → Prop} (h : CallR X f r) (h' : CallR X f r') : CallR X f (fun xs H Q => r xs H Q ∨ r' xs H Q) := by
  intro pins s σ H xs us Q I rs q
  rcases q with q | q
  · exact h pins s σ H xs us Q I rs q
  · exact h' pins s σ H xs us Q I rs q
theorem zA : CallR X (.type "list") (fun xs H Q => ∃ p ys, xs = [.ref p] ∧ (SqL X.K H p ys ∨ SqT X.K H p ys) ∧ ∀ l, H l = none → Q (.ref l) (upd H l (.lst ys))) := by
  intro pins s σ H xs us Q I r h
  obtain ⟨p, ys, rfl, hq, q⟩ := h
  obtain ⟨u, rfl, rx⟩ := qEe r
  cases rx
  have fin : ∀ (its : List Value), Vals ys its → ys.length ≤ sizeLine → ∀ (h' : Heap) (c' : Nat), (∀ b o', s.heap.get? b = some o' → h'.get? b = some o') →
      h'.get? s.heap.objs.size = some { cls := .type "list", dict := none, data := .seq its.toArray c', slots := #[] } → EP X pins σ Q (.ref s.heap.objs.size) { s with heap := h' } := fun its r' hz h' c' kp e =>
    ⟨.ref s.heap.objs.size, _, I.laid (t' := s.toks) kp (Nat.le_refl _) (show ObjOk X.prog X.w _ h' _ (.lst ys) from ⟨hz, its, c', r', e⟩), rfl, q _ (I.hok.fresh (Nat.le_refl _))⟩
  rcases hq with hq | hq
  · obtain ⟨its, r', pl, hz⟩ := I.list hq
    have hlen := r'.length
    obtain ⟨o, ho, hc, n, hd⟩ := pl.isList
    exact call_list_seq p (.inl rfl) ho hc hd (fun h' c' kp e => fin its r' hz h' c' kp e) (by simp only [List.size_toArray] <;> omega)
  · obtain ⟨its, r', pl, hz⟩ := I.tuple hq
    have hlen := r'.length
    obtain ⟨o, ho, hc, n, hd⟩ := pl
    exact call_list_seq p (.inr rfl) ho hc hd (fun h' c' kp e => fin its r' hz h' c' kp e) (by simp only [List.size_toArray] <;> omega)
def tyV (K : PySem.W.Frag) (T : String) (x : V) (H : Hp) : Prop := match x with
  | .str _ => T = "str"
  | .int _ => T = "int"
  | .ref p => (T = "list" ∧ ∃ xs, SqL K H p xs) ∨ (T = "tuple" ∧ ∃ o, K.lookup p = some o ∧ o.cls = .type "tuple" ∧ o.dict = none) ∨
      (T = "dict" ∧ ((∃ kvs, H p = some (.dK kvs)) ∨ ∃ kvs, H p = some (.dT kvs))) ∨ (T = "set" ∧ ∃ S n, H p = some (.set S n))
  | _ => False
theorem qL9 {pins : List (Addr × Obj)} {σ : St} {H : Hp} {s : Shared} {T : String} {x : V} {v : Value} (I : Inv X pins σ H s) (r : RelV x v) (ty : tyV X.K T x H) :
    s.TypeIs v T ∧ ∀ a, v = .ref a → ∃ ob, s.heap.get? a = some ob ∧ ob.dict = none := by
  cases x with
  | str z =>
    obtain ⟨t, rfl⟩ := r
    cases (show T = "str" from ty)
    exact ⟨typeIs_str s z t, fun _ e => nomatch e⟩
  | int i =>
    obtain ⟨t, rfl⟩ := r
    cases (show T = "int" from ty)
    exact ⟨typeIs_int s i t, fun _ e => nomatch e⟩
  | ref p =>
    cases r
    rcases ty with ⟨rfl, xs, hq⟩ | ⟨rfl, o, hk, hc, hd⟩ | ⟨rfl, hk⟩ | ⟨rfl, S, n, hk⟩
    · obtain ⟨its, _, pl, _⟩ := I.list hq
      refine ⟨pl.isList.typeIs, fun a e => ?_⟩
      cases e
      obtain ⟨o, n, e, c, hd, _⟩ := pl
      exact ⟨o, e, hd⟩
    · refine ⟨⟨o, I.kIn p o hk, hc⟩, fun a e => ?_⟩
      cases e
      exact ⟨o, I.kIn _ o hk, hd⟩
    · have z : ∃ o, s.heap.get? p = some o ∧ o.ExactDict := by
        rcases hk with ⟨kvs, hk⟩ | ⟨kvs, hk⟩
        · obtain ⟨_, _, _, _, o, _, _, e, ex, _⟩ := I.hok p _ hk
          exact ⟨o, e, ex⟩
        · obtain ⟨_, _, _, _, o, _, _, e, ex, _⟩ := I.hok p _ hk
          exact ⟨o, e, ex⟩
      obtain ⟨o, e, ex⟩ := z
      refine ⟨⟨o, e, ex.1⟩, fun a e2 => ?_⟩
      cases e2
      exact ⟨o, e, ex.2.1⟩
    · obtain ⟨o, _, _, _, e, ex, _⟩ := I.hok p _ hk
      refine ⟨⟨o, e, ex.1⟩, fun a e2 => ?_⟩
      cases e2
      exact ⟨o, e, ex.2.1⟩
  | _ => exact False.elim ty
def tBM (K : PySem.W.Frag) (T : String) (r : V → List V → Hp → VK → Prop) (to : TE) (t : TA) : TE := fun σ H Q => to σ H fun x H1 => tyV K T x H1 ∧ t σ H1 fun xs H2 => r x xs H2 Q
variable {o e : Expr} {es : List Expr} {to : TE} {t : TA} {name : Str} {apos cpos : Pos} {T id : String} {r : V → List V → Hp → VK → Prop}
theorem qDd (pa : PlainAttrs T) (slot : Slot T name id) (hty : typeOf (.builtin id) = pure (.type "method_descriptor")) (hm : MtR X id r) (ho : PE X o to) (ha : PA X (e :: es) t)
    (hbase : attributeBase o name X.env (eval o X.env) = eval o X.env := by rfl)
    (hfew : ((backTo cpos (starEach (e :: es) X.env)).all (fun x => !x.1) && (backToKw cpos (keywordEach [] X.env)).all (fun x => x.1.isSome)
      && decide ((e :: es).length + ([] : List Keyword).length + (if ([] : List Keyword).isEmpty then 0 else 1) < 30)) = true := by rfl)
    (hline : (apos.endLine == cpos.line) = true := by rfl) (hs : starEach (e :: es) X.env = (false, eval e X.env) :: starEach es X.env := by rfl) (hplain : (backTo cpos (starEach es X.env)).any (·.1) = false := by rfl) :
    PE X (.Call (.Attribute o name apos) (e :: es) [] cpos) (tBM X.K T r to t) := by
  intro pins s σ H Q I h
  refine wpAny_Call_method_late hbase hfew hline rfl (thn (ho pins s σ H _ I h) fun v s1 ⟨x, H1, I1, r1, ty, q1⟩ => ?_)
  obtain ⟨h1, h2⟩ := qL9 I1 r1 ty
  refine ⟨T, id, pa, slot, hty, h1, h2, ?_⟩
  have hA := ha cpos pins s1 σ H1 _ I1 q1
  rw [hs] at hA ⊢
  refine Calls.callWith_builtin (by show (false || (backTo cpos (starEach es X.env)).any (·.1)) = false; rw [hplain] <;> rfl) (Calls.evalArgs_plain ?_)
  exact thn hA fun us s2 ⟨vs, H2, I2, r2, q2⟩ => hm pins s2 σ H2 x vs v us Q I2 r1 r2 q2
end
end L2
namespace L2
open PySem PySem.Spec PyProof.Rows
def MtM (X : Cx) (id : String) (r : V → List V → Hp → VK → Prop) : Prop :=
  ∀ (pins : List (Addr × Obj)) (s : Shared) (σ : St) (H : Hp) (x : V) (xs : List V) (v : Value) (us : List Value) (Q : VK), Inv X pins σ H s → RelV x v → Vals xs us → r x xs H Q →
    wpAny (model X.prog X.w) X.A (call (.builtin id) (v :: us)) (EP X pins σ Q) X.xe s
theorem Vals.one : ∀ {x : V} {us : List Value}, Vals [x] us → ∃ u, us = [u] ∧ RelV x u
  | _, _, .cons r .nil => ⟨_, rfl, r⟩
theorem Vals.two : ∀ {x y : V} {us : List Value}, Vals [x, y] us → ∃ u v, us = [u, v] ∧ RelV x u ∧ RelV y v
  | _, _, _, .cons r (.cons q .nil) => ⟨_, _, rfl, r, q⟩
theorem Vals.zero : ∀ {us : List Value}, Vals [] us → us = []
  | _, .nil => rfl
theorem Vals.dropLast {xs : List V} {us : List Value} (h : Vals xs us) : Vals xs.dropLast us.dropLast := by
  induction h with
  | nil => exact .nil
  | cons r t ih =>
    cases t with
    | nil => exact .nil
    | cons q t' => exact .cons r ih
theorem Vals.rep {xs : List V} {us : List Value} (h : Vals xs us) : ∀ k : Nat, Vals (List.replicate k xs).flatten (List.replicate k us).flatten
  | 0 => .nil
  | k + 1 => by
    rw [List.replicate_succ, List.replicate_succ, List.flatten_cons, List.flatten_cons]
    exact Vals.append h (Vals.rep h k)
section
variable {X : Cx} {pins : List (Addr × Obj)} {σ : St} {H : Hp} {s : Shared} {l b : Addr} {xs ys zs : List V}
theorem Inv.lset {its its' : List Value} {n : Nat} {f : Array Value → Array Value} {t' : Nat} (I : Inv X pins σ H s) (hH : H l = some (.lst xs))
    (e : s.heap.get? l = some { cls := .type "list", data := .seq its.toArray n }) (hf : f its.toArray = its'.toArray) (hv : Vals ys its') (hz : ys.length ≤ sizeLine) :
    Inv X pins σ (upd H l (.lst ys)) { s with heap := s.heap.update l (Obj.mapSeq f), toks := t' } := by
  have q := PySem.IsL.update e f
  rw [hf] at q
  refine I.write (x := l) (e := l) (by rw [hH]; exact trivial) (.inl rfl) (fun b' u hb hu => (Heap.get?_update_other s.heap (Obj.mapSeq f) (Ne.symm hb)).trans hu) ⟨_, q⟩ ?_
  exact ⟨hz, its', _, hv, q⟩
theorem Inv.lnew {its : List Value} {t' : Nat} (I : Inv X pins σ H s) (hv : Vals ys its) (hz : ys.length ≤ sizeLine) :
    Inv X pins σ (upd H s.heap.objs.size (.lst ys)) { s with heap := s.heap.push { cls := .type "list", data := .seq its.toArray }, toks := t' } :=
  I.laid (fun _ _ q => Heap.get?_push_of_some _ q) (Nat.le_refl _) ⟨hz, its, 0, hv, Heap.get?_push_size _ rfl⟩
theorem Inv.fresh (I : Inv X pins σ H s) : H s.heap.objs.size = none := I.hok.fresh (Nat.le_refl _)
theorem Inv.lstM (I : Inv X pins σ H s) (hH : H l = some (.lst xs)) : xs.length ≤ sizeLine ∧ ∃ (its : List Value) (n : Nat), Vals xs its ∧ xs.length = its.length ∧ s.heap.get? l = some { cls := .type "list", data := .seq its.toArray n } := by
  obtain ⟨z, its, n, r, e⟩ := I.hok l _ hH
  exact ⟨z, its, n, r, r.length, e⟩
end
section
variable {X : Cx}
def qKv : V → List V → Hp → VK → Prop := fun x vs H Q => ∃ l xs y, x = .ref l ∧ vs = [y] ∧ H l = some (.lst xs) ∧ xs.length < sizeLine ∧ Q .non (upd H l (.lst (xs ++ [y])))
theorem xV : MtM X "list.append" qKv := by
  intro pins s σ H x vs v us Q I rx rv h
  obtain ⟨l, xs, y, rfl, rfl, hH, hz, q⟩ := h
  cases rx
  obtain ⟨u, rfl, ru⟩ := rv.one
  obtain ⟨z, its, n, r, hl, e⟩ := I.lstM hH
  refine call_meets F.slot_list_append ⟨_, e, rfl⟩ F.entry_list_append (F.args_list_append_2 _ _) (PySem.list_append l its.toArray n u (by rw [List.size_toArray]; omega)) ⟨e, ?_⟩
  refine ⟨.non, _, I.lset (its' := its ++ [u]) hH e (by simp) (r.append (.cons ru .nil)) ?_, rfl, q⟩
  rw [List.length_append, List.length_singleton]
  omega
def qOn : R2 := fun x y H Q => ∃ l b xs zs, x = .ref l ∧ y = .ref b ∧ H l = some (.lst xs) ∧ H b = some (.lst zs) ∧ xs.length + zs.length ≤ sizeLine ∧ ∀ p, H p = none → Q (.ref p) (upd H p (.lst (xs ++ zs)))
theorem jC : OpR X (binaryOp .Add) qOn := by
  intro pins s σ H x y v u Q I rx ry h
  obtain ⟨l, b, xs, zs, rfl, rfl, hH, hB, hz, q⟩ := h
  cases rx
  cases ry
  obtain ⟨z, its, n, r, hl, e⟩ := I.lstM hH
  obtain ⟨z2, its2, n2, r2, hl2, e2⟩ := I.lstM hB
  refine PySem.P.add_list e e2 ?_ (by rw [List.size_toArray, List.size_toArray]; omega)
  have ea : its.toArray ++ its2.toArray = (its ++ its2).toArray := by simp
  rw [ea]
  exact ⟨.ref _, _, I.lnew (t' := s.toks) (r.append r2) (by rw [List.length_append]; omega), rfl, q _ I.fresh⟩
end
section
variable {prog : Program} {w : World} {A : Around} {E : Value → Shared → Prop} {s : Shared}
end
section
variable {X : Cx}
end
end L2
namespace Att
open PySem PySem.W PySem.Calls PyProof.Rows
theorem wL {P : Params} {h : Heap} : ∀ (ns : List Int) (vs : List Value), WellAll P h vs (ns.map WData.int) → IntsAre vs ns := by
  intro ns
  induction ns with
  | nil =>
    intro vs w
    rw [List.map_nil] at w
    cases w
    exact .nil
  | cons n ns ih =>
    intro vs w
    rw [List.map_cons] at w
    cases w with
    | cons a b =>
      cases a
      exact .cons _ _ (ih _ b)
theorem qHf {l : OpenLaw} {n : Nat} (hn : l.most = some n) {P : Params} {h : Heap} {args : List WData} {vals : List Value}
    (hpre : l.row.toRowW.claim.pre args = true) (hwl : WellAll P h vals args) :
    ∃ a vs ns, vals = [Value.ref a] ∧ args = [WData.list (ns.map WData.int)] ∧ h.get? a = some { cls := .type "list", data := .seq vs.toArray } ∧ IntsAre vs ns ∧ ns.length ≤ n := by
  have hsh : WShape.hasAll [] args [.list .int] = true := (pre_splitW hpre).1
  have hc : l.pre.holds [] { args := args } = true := (pre_splitW hpre).2
  obtain ⟨d, r, rfl, h1, h2⟩ := hasAllW_cons hsh
  obtain rfl := hasAllW_nil h2
  obtain ⟨xs, rfl, h3⟩ := hasW_list h1
  obtain ⟨ns, rfl⟩ := items_int h3
  have hlen : ns.length ≤ n := by
    unfold OpenLaw.pre at hc
    have h4 : (WTm.not (.lt (.lit (.int (n : Int))) (.len (.arg 0)))).holds [] { args := [.list (ns.map .int)] } = true := by
      have h4 := (holds_andW hc).1
      rw [hn] at h4
      exact h4
    have h5 := condW_of h4 (w_not (w_lt w_lit (w_len_list (w_arg rfl))))
    rw [List.length_map] at h5
    refine Nat.le_of_not_lt fun q => ?_
    have q' : (n : Int) < ((ns.length : Nat) : Int) := by omega
    first
      | (rw [decide_eq_true q'] at h5; exact absurd h5 (by decide))
      | (simp at h5; omega)
  cases hwl with
  | cons w1 w2 =>
    cases w2
    cases w1 with
    | list ho hall => exact ⟨_, _, ns, rfl, rfl, ho, wL ns _ hall, hlen⟩
theorem qGn (l : OpenLaw) (args : List WData) : l.row.toRowW.claim.post args (.bool true) args = true :=
  postW_of (r := l.row.toRowW) (X := (true == true))
    (show WShape.has [] (.bool true) .bool = true by first | rfl | decide | simp [WShape.has, WShape.arms, WShape.armsAll])
    (show (WTm.eq .res (.lit (.bool true))).value [] { args := args, res := some (.bool true), after := args } = some (.bool (true == true)) from w_eq_bool (w_res rfl) w_lit) rfl
theorem attach_call {l : OpenLaw} {n : Nat} {q : Program} {loose : List Str} {XP : (Str → Option Value) → Heap → Prop} {YP : World → Heap → Prop} {d : DefRec}
    (hn : l.most = some n) (hdf : d.params.defaults = [])
    (call : ∀ (w : World) (s₀ s₁ : Shared) (mg mb : Str → Option Value) (fa : Addr) (o : Obj) (pm cd doc : Value) (a : Addr) (vs : List Value) (ns : List Int),
      Ground q loose [] XP w s₀ mg mb s₁.heap → YP w s₁.heap →
      s₁.heap.get? fa = some o → o.data = .func (docDef d.name d.params d.body d.scope pm cd doc) → s₁.heap.CodeRec cd d.name → mg d.name = some (.ref fa) →
      s₁.heap.get? a = some { cls := .type "list", data := .seq vs.toArray } → IntsAre vs ns → ns.length ≤ n → s₁.gens = #[] →
      codeAny (model l.prog w) callerA (.call (.ref fa) ⟨[.ref a], []⟩) (fun r s' => r = .ok (.ret (.bool true)) ∧ OldK s₁.heap s'.heap ∧ s'.os = s₁.os ∧ AllBare s'.gens) s₁) :
    WalkO q loose XP YP l.row.toRowW d [] (fun f vs => PySem.call f vs) := by
  intro w s₀ s₁ mg mb G Y fa o pm cd doc dV kV ho hd hcd hD hmg hg args vals as hpre hlay hrd hwl hlo
  obtain rfl : dV = .none := Dflts.none hD hdf
  obtain rfl : kV = .none := Dflts.noKw hD
  obtain ⟨a, vs, ns, rfl, rfl, hobj, hints, hlen⟩ := qHf hn hpre hwl
  refine enter_call (codeAny_mono (call w s₀ s₁ mg mb fa o pm cd doc a vs ns G Y ho (fd_plain hd) hcd hmg hobj hints hlen hg) fun r s' hq => ?_)
  obtain ⟨rfl, h2, h3, h4⟩ := hq
  exact ⟨.inl ⟨.bool true, .bool true, [], rfl, fun _ => rfl, .bool true, qGn l _, fun _ => ⟨List.Pairwise.nil, fun _ hm => (nomatch hm)⟩⟩, h2, h3, h4⟩
section
variable {prog : Program} {w : World} {A : Around} {E : Value → Shared → Prop} {s : Shared} {K : Frag}
def ledger (h : Heap) (L d : Addr) : List (Addr × Obj) := (List.range h.objs.size).filterMap fun a => if a = L ∨ a = d then none else (h.get? a).map fun o => (a, o)
end
end Att
namespace L2
open PySem PySem.Spec PyProof.Rows
theorem qC9 : ∀ {vs : List Value} {ns : List Int}, IntsAre vs ns → Vals (ns.map V.int) vs
  | _, _, .nil => .nil
  | _, _, .cons n t h => .cons ⟨t, rfl⟩ (qC9 h)
def qM9 (H : Hp) : Prop := ∀ b, H b = none ∨ ∃ o xs, H b = some (.frz o (.lst xs))
theorem qIs {P : Program} {w : World} {K : PySem.W.Frag} {mg mb : Str → Option Value} {CX : CXT} {k : Nat} {fa a : Addr} {fd : FuncData} {x : Str} {sp : Sp} {s₁ : Shared} {vs : List Value} {ns : List Int}
    (KX : K.In s₁.heap) (hns : s₁.heap.Ns mainGlobals mg) (hb : s₁.heap.Ns builtinsNs mb) (hbb : ∀ x : Str, x ≠ "__name__" → mb x = bootBuiltins x) (hlim : s₁.heap.NoLimit) (hg : s₁.gens = #[])
    (ha : s₁.heap.get? a = some { cls := .type "list", data := .seq vs.toArray }) (hi : IntsAre vs ns) (hl : ns.length ≤ sizeLine) (hr : Room k callerA)
    (F : ∀ base : Heap, K.In base → base.Ns mainGlobals mg → FnOk P w K mg base CX k fa fd [x] sp) (hbind : ∀ (s : Shared) (u : Value), BindsTo s fd ⟨[u], []⟩ [(x, u)])
    (hsp : ∀ H : Hp, qM9 H → SqL K H a (ns.map V.int) → sp [.ref a] H (fun v _ => v = .bl true) fun _ _ _ => False)
    (hCX : ∀ H e s', CX [] H s₁ (fun _ _ _ => False) e s' → False) :
    codeAny (model P w) callerA (.call (.ref fa) ⟨[.ref a], []⟩) (fun r s' => r = .ok (.ret (.bool true)) ∧ OldK s₁.heap s'.heap ∧ s'.os = s₁.os ∧ AllBare s'.gens) s₁ := by
  have rv := qC9 hi
  have lenV := hi.length
  have core : ∀ H : Hp, qM9 H → SqL K H a (ns.map V.int) → HOk P w H s₁.heap → (∀ b, H b ≠ none → b = a) → (H a ≠ none → K.lookup a = none) →
      codeAny (model P w) callerA (.call (.ref fa) ⟨[.ref a], []⟩) (fun r s' => r = .ok (.ret (.bool true)) ∧ OldK s₁.heap s'.heap ∧ s'.os = s₁.os ∧ AllBare s'.gens) s₁ := by
    intro H hO hS hok hA hK
    have base_of : ∀ {b : Addr} {o : Obj}, s₁.heap.get? b = some o → H b = none → (qI6 s₁.heap H).get? b = some o := fun e n => qIf e n
    have noA : ∀ {b : Addr} {o : Obj} {es : Array DictEntry} {ep : Nat}, s₁.heap.get? b = some o → o.data = .dict es ep → H b = none := fun {b o es ep} e d => by
      cases q : H b with
      | none => rfl
      | some u =>
        have e' : b = a := hA b (by rw [q]; simp)
        subst e'
        rw [ha] at e; cases e
        have d' : Data.seq vs.toArray _ = Data.dict es ep := d
        cases d'
    have nsK : ∀ {b : Addr} {m : Str → Option Value}, s₁.heap.Ns b m → (qI6 s₁.heap H).Ns b m := fun {b m} ⟨o, es, ep, e, d, r⟩ => ⟨o, es, ep, base_of e (noA e d), d, r⟩
    have hKb : K.In (qI6 s₁.heap H) := fun b o e => base_of (KX b o e) (by
      cases q : H b with
      | none => rfl
      | some u =>
        have e' : b = a := hA b (by rw [q]; simp)
        subst e'
        rw [hK (by rw [q]; simp)] at e; cases e)
    have hM : Mod K mg (qI6 s₁.heap H) := ⟨hKb, nsK hns, ⟨mb, nsK hb, hbb⟩, let ⟨mc, h1, h2⟩ := hlim; ⟨mc, nsK h1, h2⟩⟩
    have e0 : Env0 P w K mg (qI6 s₁.heap H) callerA [] s₁ H := ⟨rfl, hM, fun b o e => qK7 e, Nat.le_of_eq (qHt _ _), trivial, fun b hb => absurd (show b ∈ ([] : List Addr) from hb) (by simp), hok, .of_eq hg⟩
    refine codeAny_mono ((F _ hKb (nsK hns)).run callerA [] s₁ H ⟨[.ref a], []⟩ [.ref a] [.ref a] _ _ hr e0 (hbind s₁ (.ref a)) (.cons rfl .nil) (hsp H hO hS)) fun r s' h => ?_
    cases r with
    | error e => exact (hCX H e s' h).elim
    | ok fl =>
      cases fl with
      | next => exact False.elim h
      | brk => exact False.elim h
      | cont => exact False.elim h
      | ret u =>
        obtain ⟨v, H', os, bare, un, hok', r', q⟩ := h
        have q' : v = .bl true := q
        subst q'
        obtain rfl : u = Value.bool true := r'
        refine ⟨rfl, OldK.of_keep fun b o e => ?_, os, bare⟩
        cases q : H b with
        | none => exact un.keep b o e q (by intro z; exact absurd (show b ∈ ([] : List Addr) from z) (by simp)) (by simp)
        | some u =>
          rcases hO b with z | ⟨ob, xs, z⟩
          · rw [q] at z; cases z
          · have z2 := un.frzs b ob _ z
            obtain ⟨e1, _⟩ := hok b _ z
            obtain ⟨e2, _⟩ := hok' b _ z2
            rw [e] at e1; cases e1
            exact e2
  cases hk : K.lookup a with
  | some o =>
    have e := KX a o hk
    rw [ha] at e
    cases e
    refine core (fun _ => none) (fun _ => .inl rfl) (.inr ⟨_, vs.toArray, _, hk, rfl, rfl, rfl, by rw [List.size_toArray, lenV]; exact hl, by simpa using rv⟩) (fun b u z => by have z' : (none : Option HO) = some u := z; cases z') (fun b z => absurd rfl z) fun z => absurd rfl z
  | none =>
    refine core (fun b => if b = a then some (.frz { cls := .type "list", data := .seq vs.toArray } (.lst (ns.map V.int))) else none) (fun b => ?_) (.inl (.inr ⟨{ cls := .type "list", data := .seq vs.toArray }, if_pos rfl⟩)) (fun b u z => ?_) (fun b z => ?_) fun _ => hk
    · by_cases hb : b = a
      · exact .inr ⟨_, _, if_pos hb⟩
      · exact .inl (if_neg hb)
    · by_cases hb : b = a
      · have z' := (if_pos hb).symm.trans z
        cases z'
        subst hb
        exact ⟨ha, by rw [List.length_map]; exact hl, vs, _, rv, ha⟩
      · have z' := (if_neg hb).symm.trans z
        cases z'
    · by_cases hb : b = a
      · exact hb
      · exact absurd (if_neg hb) z
end L2
namespace L2
open PySem PySem.Spec PyProof.Rows
theorem walk_of {l : PySem.W.OpenLaw} {n k : Nat} {q : Program} {loose : List Str} {XP : (Str → Option Value) → Heap → Prop} {YP : World → Heap → Prop} {d : DefRec} {K : Params → PySem.W.Frag} {CX : World → CXT} {sp : World → Sp} {x : Str}
    (hn : l.most = some n) (hn2 : n ≤ sizeLine) (hdf : d.params.defaults = []) (hr : Room k callerA)
    (hY : ∀ (w : World) (h : Heap), YP w h → (K w.params).In h)
    (F : ∀ (w : World) (mg : Str → Option Value) (fa : Addr) (h : Heap), (K w.params).In h → h.Ns mainGlobals mg → mg d.name = some (.ref fa) →
      ∃ fd : FuncData, (∀ (s : Shared) (u : Value), BindsTo s fd ⟨[u], []⟩ [(x, u)]) ∧
        ∀ base : Heap, (K w.params).In base → base.Ns mainGlobals mg → FnOk l.prog w (K w.params) mg base (CX w) k fa fd [x] (sp w))
    (hsp : ∀ (w : World) (H : Hp) (a : Addr) (ns : List Int), ns.length ≤ n → qM9 H → SqL (K w.params) H a (ns.map V.int) → sp w [.ref a] H (fun v _ => v = .bl true) fun _ _ _ => False)
    (hCX : ∀ (w : World) (H : Hp) (s : Shared) (e : Value) (s' : Shared), CX w [] H s (fun _ _ _ => False) e s' → False) :
    PySem.W.WalkO q loose XP YP l.row.toRowW d [] (fun f vs => PySem.call f vs) := by
  refine Att.attach_call hn hdf fun w s₀ s₁ mg mb fa o pm cd doc a vs ns G Y ho hd hcd hmg hobj hints hlen hg => ?_
  have KX := hY w _ Y
  obtain ⟨fd, hb, hF⟩ := F w mg fa _ KX G.T.g hmg
  exact qIs KX G.T.g G.T.b G.T.builtins G.T.nolimit hg hobj hints (Nat.le_trans hlen hn2) hr hF hb (fun H hO hS => hsp w H a ns hlen hO hS) fun H e s' => hCX w H s₁ e s'
end L2
namespace L2
open PySem PySem.Spec PyProof.Rows
def qJ8 (s : Stmt) (j : Nat) : Stmt := match s with
  | .ClassDef _ _ _ body _ _ _ _ _ _ _ => body.getD j (.Pass ⟨0, 0, 0, 0⟩)
  | _ => .Pass ⟨0, 0, 0, 0⟩
def qO (s : Stmt) : Arguments := match s with
  | .FunctionDef _ a _ _ _ _ _ _ _ _ => a
  | _ => { posonlyargs := [], args := [], vararg := none, kwonlyargs := [], kw_defaults := [], kwarg := none, defaults := [] }
def qN (s : Stmt) : List Stmt := match s with
  | .FunctionDef _ _ b _ _ _ _ _ _ _ => b
  | _ => []
def qF (s : Stmt) : Scope := match s with
  | .FunctionDef _ _ _ _ _ _ sc _ _ _ => sc
  | _ => { kind := .function, names := [], isGenerator := false, isCoroutine := false }
abbrev CX0 : CXT := fun _ _ _ _ _ _ => False
abbrev E0 : XK := fun _ _ _ => False
theorem qN0 {X : Cx} : qEt CX0 X E0 := fun _ _ _ _ _ _ _ h => h.elim
structure Fun (K : PySem.W.Frag) (x qual : Str) (st : Stmt) (f : Addr) (fd : FuncData) : Prop where
  ex : ∃ (oc : Value) (od : Option Addr) (kV doc pm : Value) (an : Option Addr) (cdv ct : Value) (osl : Array (Option Value)),
    fd = PySem.W.fnOf x qual (qO st) (qN st) (qF st) .none kV doc pm an cdv ct ∧ K.lookup f = some ⟨oc, od, .func fd, osl⟩ ∧ PySem.W.codeIn K cdv qual = true
  kp : PySem.W.keepIn K (.ref f) = true
section
variable {P : Program} {w : World} {K : PySem.W.Frag} {mg : Str → Option Value} {base : Heap}
theorem Fun.ok {x qual : Str} {st : Stmt} {f : Addr} {fd : FuncData} {N ps : List Str} {k : Nat} {sp : Sp} (F : Fun K x qual st f fd) (S : qQ N ps (qF st)) (len : ∀ vs H Q E, sp vs H Q E → vs.length = ps.length)
    (hbody : ∀ (cdv : Value) (A : Around) (outer : List Env) (s : Shared) (H : Hp) (vs : List V) (Q : VK) (E : XK), Room k (A.deeper (envOfC qual (qF st) s.heap.objs.size f cdv)) → sp vs H Q E →
      ∃ t, PSs (qIe CX0 P w K mg base N qual (qF st) f cdv A outer s H E).nox (qN st) t ∧ t { nx := fun _ H' => Q .non H', rt := Q } (qAs N vs) H) : FnOk P w K mg base CX0 (k + 1) f fd ps sp := by
  obtain ⟨oc, od, kV, doc, pm, an, cdv, ct, osl, rfl, lk, hcd⟩ := F.ex
  refine qMi lk hcd S len fun A outer s H vs Q E hr hsp => ?_
  obtain ⟨t, h, q⟩ := hbody cdv A outer s H vs Q E hr hsp
  exact ⟨t, h.nox, q⟩
theorem Fun.binds {x qual : Str} {st : Stmt} {f : Addr} {fd : FuncData} {ps : List Str} (F : Fun K x qual st f fd)
    (h : ∀ (kV doc pm : Value) (an : Option Addr) (cdv ct : Value) (us : List Value), us.length = ps.length → bindArgs (PySem.W.fnOf x qual (qO st) (qN st) (qF st) .none kV doc pm an cdv ct) ⟨us, []⟩ = pure (ps.zip us)) : Binds K fd ps [] := by
  obtain ⟨oc, od, kV, doc, pm, an, cdv, ct, osl, rfl, lk, hcd⟩ := F.ex
  exact .all (h kV doc pm an cdv ct)
theorem qY {x qual : Str} {st : Stmt} {f : Addr} {oc : Value} {od an : Option Addr} {osl : Array (Option Value)} {kV doc pm cdv ct : Value} (l : K.lookup f = some ⟨oc, od, .func (PySem.W.fnOf x qual (qO st) (qN st) (qF st) .none kV doc pm an cdv ct), osl⟩)
    (c : PySem.W.codeIn K cdv qual = true) (k : PySem.W.keepIn K (.ref f) = true) : Fun K x qual st f (PySem.W.fnOf x qual (qO st) (qN st) (qF st) .none kV doc pm an cdv ct) := ⟨⟨oc, od, kV, doc, pm, an, cdv, ct, osl, rfl, l, c⟩, k⟩
end
theorem qHv {A : Around} {k : Nat} (hr : Room k A) : A.units + 1 < cLine := Nat.lt_of_le_of_lt (Nat.add_le_add_left (by decide : 1 ≤ 64) _) hr.units
theorem qW {n : Nat} (h : n ≤ 1000) : n < sizeLine := Nat.lt_of_le_of_lt h (by decide)
section
variable {X : Cx}
theorem pv (i : Nat) {x : Str} {pos : Pos} (hN : X.N[i]? = some x := by rfl) (hv : Vis X.env.scope x := by first | exact Or.inl rfl | exact Or.inr (Or.inl rfl) | exact Or.inr (Or.inr rfl)) (hd : (x == ("__debug__" : Str)) = false := by decide)
    (hcd : (x == ("__classdict__" : Str)) = false := by decide) : PE X (.Name x pos) (qM8 i) := qL2 hN hv hd hcd
end
theorem qm {A B : Prop} (h : B) : if false = true then A else B := by
  rw [if_neg Bool.false_ne_true]
  exact h
theorem qr {A B : Prop} (h : A) : if true = true then A else B := by
  rw [if_pos rfl]
  exact h
theorem x9 {c A B : Prop} [Decidable c] (h1 : c → A) (h2 : ¬ c → B) : if c then A else B := by
  by_cases h : c
  · rw [if_pos h]
    exact h1 h
  · rw [if_neg h]
    exact h2 h
theorem qGk {c A B : Prop} [Decidable c] (hc : c) (h : B) : if (!decide c) = true then A else B := by
  rw [decide_eq_true hc]
  exact qm h
def Same (H H' : Hp) : Prop := ∀ b o, H b = some o → H' b = some o
theorem Same.refl (H : Hp) : Same H H := fun _ _ h => h
theorem Same.trans {H H1 H2 : Hp} (a : Same H H1) (b : Same H1 H2) : Same H H2 := fun c o h => b c o (a c o h)
theorem Same.free {H H' : Hp} (e : Same H H') {l : Addr} (h : H' l = Option.none) : H l = Option.none := by
  cases q : H l with
  | none => rfl
  | some o =>
    rw [e l o q] at h
    cases h
theorem Same.seq {K : PySem.W.Frag} {H H' : Hp} {a : Addr} {xs : List V} (e : Same H H') (h : SqL K H a xs) : SqL K H' a xs := by
  rcases h with (h | ⟨o, h⟩) | h
  · exact .inl (.inl (e _ _ h))
  · exact .inl (.inr ⟨o, e _ _ h⟩)
  · exact .inr h
end L2
namespace L2
open PySem PySem.Spec PyProof.Rows
section
variable {κ : Type} [DecidableEq κ]
def qDf (kvs : List (κ × V)) (k : κ) : Option V := (kvs.find? fun kv => decide (kv.1 = k)).map (·.2)
def qEr (kvs : List (κ × V)) (k : κ) (v : V) : List (κ × V) :=
  if (kvs.any fun kv => decide (kv.1 = k)) = true then kvs.map (fun kv => if kv.1 = k then (kv.1, v) else kv) else kvs ++ [(k, v)]
def qMg (kvs : List (κ × V)) (k : κ) : List (κ × V) := kvs.filter fun kv => decide (kv.1 ≠ k)
theorem qAq {p : κ × V} {r : List (κ × V)} {k : κ} (e : p.1 = k) : qDf (p :: r) k = some p.2 := by simp [qDf, List.find?_cons, e]
theorem qBl {p : κ × V} {r : List (κ × V)} {k : κ} (e : ¬ p.1 = k) : qDf (p :: r) k = qDf r k := by simp [qDf, List.find?_cons, e]
theorem qEz (k : κ) : ∀ kvs : List (κ × V), (kvs.any fun kv => decide (kv.1 = k)) = (qDf kvs k).isSome
  | [] => rfl
  | p :: r => by
    rw [List.any_cons]
    by_cases e : p.1 = k
    · simp only [qAq e, decide_eq_true e, Bool.true_or, Option.isSome_some]
    · rw [qBl e, decide_eq_false e, Bool.false_or]; exact qEz k r
theorem qEm (kvs : List (κ × V)) (k : κ) (v : V) : (qEr kvs k v).length ≤ kvs.length + 1 := by
  unfold qEr
  split
  · rw [List.length_map]; omega
  · rw [List.length_append, List.length_cons, List.length_nil]; omega
theorem RelO.isSome_eq {o : Option V} {u : Option Value} (r : RelO o u) : o.isSome = u.isSome := by
  cases o with
  | none => cases u with
    | none => rfl
    | some _ => exact (show False from r).elim
  | some _ => cases u with
    | none => exact (show False from r).elim
    | some _ => rfl
theorem RelO.getD {o : Option V} {u : Option Value} {d : V} {d' : Value} (r : RelO o u) (rd : RelV d d') : RelV (o.getD d) (u.getD d') := by
  cases o with
  | none => cases u with
    | none => exact rd
    | some _ => exact (show False from r).elim
  | some _ => cases u with
    | none => exact (show False from r).elim
    | some _ => exact r
theorem KV.val {kvs : List (κ × V)} {vs : List (κ × Value)} (r : KV kvs vs) (k : κ) : RelO (qDf kvs k) (valueAt vs k) := by
  unfold KV at r
  induction r with
  | nil => exact True.intro
  | @cons p q ps qs h t ih =>
    obtain ⟨h1, h2⟩ := h
    by_cases e : p.1 = k
    · have e' : q.1 = k := h1.symm.trans e
      have b : valueAt (q :: qs) k = some q.2 := by simp [valueAt, List.find?_cons, e']
      rw [qAq e, b]; exact h2
    · have e' : ¬ q.1 = k := fun z => e (h1.trans z)
      have b : valueAt (q :: qs) k = valueAt qs k := by simp [valueAt, List.find?_cons, e']
      rw [qBl e, b]; exact ih
theorem KV.any {kvs : List (κ × V)} {vs : List (κ × Value)} (r : KV kvs vs) (k : κ) : (kvs.any fun kv => decide (kv.1 = k)) = vs.any fun kv => decide (kv.1 = k) := by
  unfold KV at r
  induction r with
  | nil => rfl
  | cons h t ih => rw [List.any_cons, List.any_cons, ih, h.1]
theorem KV.repl {kvs : List (κ × V)} {vs : List (κ × Value)} (r : KV kvs vs) (k : κ) {y : V} {u : Value} (ry : RelV y u) :
    KV (kvs.map fun kv => if kv.1 = k then (kv.1, y) else kv) (vs.map fun kv => if kv.1 = k then (kv.1, u) else kv) := by
  unfold KV at r ⊢
  induction r with
  | nil => exact .nil
  | @cons p q ps qs h t ih =>
    rw [List.map_cons, List.map_cons]
    refine .cons ?_ ih
    obtain ⟨h1, h2⟩ := h
    by_cases e : p.1 = k
    · rw [if_pos e, if_pos (h1.symm.trans e)]; exact ⟨h1, ry⟩
    · rw [if_neg e, if_neg (fun z => e (h1.trans z))]; exact ⟨h1, h2⟩
theorem KV.put {kvs : List (κ × V)} {vs : List (κ × Value)} (r : KV kvs vs) (k : κ) {y : V} {u : Value} (ry : RelV y u) : KV (qEr kvs k y) (stored vs k u) := by
  unfold qEr stored
  rw [r.any k]
  by_cases e : (vs.any fun kv => decide (kv.1 = k)) = true
  · rw [if_pos e, if_pos e]; exact r.repl k ry
  · rw [if_neg e, if_neg e]; exact Paired.snoc r ⟨rfl, ry⟩
theorem KV.drop {kvs : List (κ × V)} {vs : List (κ × Value)} (r : KV kvs vs) (k : κ) : KV (qMg kvs k) (without vs k) := by
  unfold KV at r ⊢
  unfold qMg without
  induction r with
  | nil => exact .nil
  | @cons p q ps qs h t ih =>
    obtain ⟨h1, h2⟩ := h
    rw [List.filter_cons, List.filter_cons]
    by_cases e : p.1 = k
    · have a : ¬ decide (p.1 ≠ k) = true := by simp [e]
      have b : ¬ decide (q.1 ≠ k) = true := by simp [h1.symm.trans e]
      rw [if_neg a, if_neg b]; exact ih
    · have e' : ¬ q.1 = k := fun z => e (h1.trans z)
      have a : decide (p.1 ≠ k) = true := by simp [e]
      have b : decide (q.1 ≠ k) = true := by simp [e']
      rw [if_pos a, if_pos b]; exact .cons ⟨h1, h2⟩ ih
theorem KV.keys {kvs : List (κ × V)} {vs : List (κ × Value)} (r : KV kvs vs) : kvs.map (·.1) = vs.map (·.1) := by
  unfold KV at r
  induction r with
  | nil => rfl
  | cons h t ih => rw [List.map_cons, List.map_cons, ih, h.1]
theorem KV.length {kvs : List (κ × V)} {vs : List (κ × Value)} (r : KV kvs vs) : kvs.length = vs.length := Paired.length r
end
theorem qJf {P : Program} {w : World} {k : Key} {u : Value} (r : RelV (kV k) u) : (j9 P w).is k u = true := by
  cases k with
  | inl i => obtain ⟨t, e⟩ := (show ∃ t, u = Value.int i t from r); subst e; exact qDo P w i t
  | inr x => obtain ⟨t, e⟩ := (show ∃ t, u = Value.str x t from r); subst e; exact qDi P w x t
theorem qCz {P : Program} {w : World} : ∀ {ks : List Key} {us : List Value}, Vals (ks.map kV) us → ItemsAre (j9 P w) ks us
  | [], _, r => by rw [List.map_nil] at r; cases r; exact .nil
  | k :: ks, _, r => by
    rw [List.map_cons] at r
    cases r with
    | cons h t => exact .cons (qJf h) (qCz t)
abbrev KT (H : Hp) : List (List Key × V) → List (List Key × Addr × Value) → Prop := Paired fun p q => p.1 = q.1 ∧ H q.2.1 = some (.tup (p.1.map kV)) ∧ RelV p.2 q.2.2
theorem KT.val {H : Hp} {kvs : List (List Key × V)} {xs : List (List Key × Addr × Value)} (r : KT H kvs xs) (k : List Key) : RelO (qDf kvs k) ((atKey xs k).map (·.2)) := by
  induction r with
  | nil => exact True.intro
  | @cons p q ps qs h t ih =>
    obtain ⟨h1, _, h2⟩ := h
    by_cases e : p.1 = k
    · have e' : q.1 = k := h1.symm.trans e
      have b : atKey (q :: qs) k = some q.2 := by simp [atKey, List.find?_cons, e']
      rw [qAq e, b]; exact h2
    · have e' : ¬ q.1 = k := fun z => e (h1.trans z)
      have b : atKey (q :: qs) k = atKey qs k := by simp [atKey, List.find?_cons, e']
      rw [qBl e, b]; exact ih
theorem KT.repl {H : Hp} {kvs : List (List Key × V)} {xs : List (List Key × Addr × Value)} (r : KT H kvs xs) (k : List Key) {y : V} {u : Value} (ry : RelV y u) :
    KT H (kvs.map fun kv => if kv.1 = k then (kv.1, y) else kv) (xs.map (putAt k u)) := by
  induction r with
  | nil => exact .nil
  | @cons p q ps qs h t ih =>
    rw [List.map_cons, List.map_cons]
    refine .cons ?_ ih
    obtain ⟨h1, h2, h3⟩ := h
    unfold putAt
    by_cases e : p.1 = k
    · rw [if_pos e, if_pos (h1.symm.trans e)]; exact ⟨h1, h2, ry⟩
    · rw [if_neg e, if_neg (fun z => e (h1.trans z))]; exact ⟨h1, h2, h3⟩
theorem KT.put {H : Hp} {kvs : List (List Key × V)} {xs : List (List Key × Addr × Value)} (r : KT H kvs xs) (k : List Key) {b : Addr} {y : V} {u : Value} (hb : H b = some (.tup (k.map kV))) (ry : RelV y u) :
    KT H (qEr kvs k y) (storedH xs k b u) := by
  have e : (kvs.any fun kv => decide (kv.1 = k)) = (atKey xs k).isSome := by
    rw [qEz, (r.val k).isSome_eq, Option.isSome_map]
  unfold qEr storedH
  rw [e]
  by_cases q : (atKey xs k).isSome = true
  · rw [if_pos q, if_pos q]; exact r.repl k ry
  · rw [if_neg q, if_neg q]; exact Paired.snoc r ⟨rfl, hb, ry⟩
theorem KT.keeps {H H' : Hp} {kvs : List (List Key × V)} {xs : List (List Key × Addr × Value)} (r : KT H kvs xs) (ht : ∀ b ys, H b = some (.tup ys) → H' b = some (.tup ys)) : KT H' kvs xs :=
  Paired.mapP r fun _ _ z => ⟨z.1, ht _ _ z.2.1, z.2.2⟩
section
variable {P : Program} {w : World} {H : Hp} {h : Heap} {a : Addr}
theorem qLp {u : HO} (ok : HOk P w H h) (e : Rd H a u) : ObjOk P w H h a u := e.ok ok
theorem qFm {kvs : List (Key × V)} (ok : HOk P w H h) (e : Rd H a (.dK kvs)) : kvs.length ≤ sizeLine ∧ (a == sysModules) = false ∧ ∃ vs, KV kvs vs ∧ h.DictOf (j9 P w) a vs :=
  show ObjOk P w H h a (.dK kvs) from qLp ok e
theorem qMw {kvs : List (Key × V)} (ok : HOk P w H h) (e : H a = some (.dK kvs)) : kvs.length ≤ sizeLine ∧ (a == sysModules) = false ∧ ∃ vs, KV kvs vs ∧ h.DictOf (j9 P w) a vs := qFm ok (.inl e)
theorem qGq {ks : List Key} (ok : HOk P w H h) (e : H a = some (.tup (ks.map kV))) : (tupleKind (j9 P w)).is h ks a := by
  obtain ⟨_, its, r, o, h1, h2, n, h3⟩ := (show ObjOk P w H h a (.tup (ks.map kV)) from ok a _ e)
  exact ⟨o, its.toArray, n, h1, h2, h3, by simpa using qCz r⟩
theorem qKk {kvs : List (List Key × V)} (ok : HOk P w H h) (e : Rd H a (.dT kvs)) : kvs.length ≤ sizeLine ∧ (a == sysModules) = false ∧
    ∃ xs, KT H kvs xs ∧ h.DictOfH (tupleKind (j9 P w)) a xs := by
  obtain ⟨z, y, xs, r, o, es, ep, h1, h2, h3, h4, h5⟩ := (show ObjOk P w H h a (.dT kvs) from qLp ok e)
  refine ⟨z, y, xs, r, o, es, ep, h1, h2, h3, h4, fun x hx => ?_, h5⟩
  have all : ∀ {l : List (List Key × V)} {m : List (List Key × Addr × Value)}, KT H l m → ∀ x ∈ m, (tupleKind (j9 P w)).is h x.1 x.2.1 := by
    intro l m q
    induction q with
    | nil => intro x hx; exact nomatch hx
    | @cons p q ps qs hq t ih =>
      intro x hx
      rcases List.mem_cons.mp hx with e | hx
      · subst e
        exact qGq ok (by rw [← hq.1]; exact hq.2.1)
      · exact ih x hx
  exact all r x hx
end
def DGet (H : Hp) (a : Addr) (y : V) (r : Option V) : Prop :=
  (∃ kvs k, Rd H a (.dK kvs) ∧ y = kV k ∧ r = qDf kvs k) ∨ ∃ kvs k b, Rd H a (.dT kvs) ∧ y = .ref b ∧ H b = some (.tup (k.map kV)) ∧ r = qDf kvs k
def DPut (H : Hp) (a : Addr) (y v : V) (H' : Hp) : Prop :=
  (∃ kvs k, H a = some (.dK kvs) ∧ y = kV k ∧ kvs.length < sizeLine ∧ H' = upd H a (.dK (qEr kvs k v))) ∨
  ∃ kvs k b, H a = some (.dT kvs) ∧ y = .ref b ∧ H b = some (.tup (k.map kV)) ∧ kvs.length < sizeLine ∧ H' = upd H a (.dT (qEr kvs k v))
theorem DGet.k {H : Hp} {a : Addr} {kvs : List (Key × V)} {k : Key} (e : H a = some (.dK kvs)) : DGet H a (kV k) (qDf kvs k) := .inl ⟨kvs, k, .inl e, rfl, rfl⟩
theorem DGet.t {H : Hp} {a b : Addr} {kvs : List (List Key × V)} {k : List Key} (e : H a = some (.dT kvs)) (eb : H b = some (.tup (k.map kV))) : DGet H a (.ref b) (qDf kvs k) := .inr ⟨kvs, k, b, .inl e, rfl, eb, rfl⟩
theorem DPut.k {H : Hp} {a : Addr} {kvs : List (Key × V)} {k : Key} {v : V} (e : H a = some (.dK kvs)) (hl : kvs.length < sizeLine) : DPut H a (kV k) v (upd H a (.dK (qEr kvs k v))) := .inl ⟨kvs, k, e, rfl, hl, rfl⟩
theorem DPut.t {H : Hp} {a b : Addr} {kvs : List (List Key × V)} {k : List Key} {v : V} (e : H a = some (.dT kvs)) (eb : H b = some (.tup (k.map kV))) (hl : kvs.length < sizeLine) :
    DPut H a (.ref b) v (upd H a (.dT (qEr kvs k v))) := .inr ⟨kvs, k, b, e, rfl, eb, hl, rfl⟩
section
variable {X : Cx} {pins : List (Addr × Obj)} {σ : St} {H : Hp} {s : Shared} {a : Addr} {y v : V} {u r : Value} {o : Option V} {A : Around} {E : Value → Shared → Prop}
theorem Inv.big (I : Inv X pins σ H s) : sysModules < s.heap.objs.size := by
  have h : mainGlobals < s.heap.objs.size := (I.mod.glob.keeps I.bk).lt
  exact Nat.lt_trans (by decide) h
theorem qG7 {Q : Value → Shared → Prop} (hu : A.units + 1 < cLine) (I : Inv X pins σ H s) (g : DGet H a y (some v)) (ry : RelV y u) (h : ∀ w' s', Inv X pins σ H s' → RelV v w' → Q w' s') :
    wpAny (model X.prog X.w) A (getItem (.ref a) u) Q E s := by
  rcases g with ⟨kvs, k, e, ey, l⟩ | ⟨kvs, k, b, e, ey, eb, l⟩
  · subst ey
    obtain ⟨z, hd, vs, rel, dd⟩ := qFm I.hok e
    obtain ⟨w', hw, rw'⟩ := RelO.some_of (v := v) (o := valueAt vs k) (by rw [l]; exact rel.val k)
    exact wpAny_getItem_of (qJf ry) dd.mapOf hw (h w' _ (I.tok _) rw')
  · subst ey
    cases (show u = Value.ref b from ry)
    obtain ⟨z, hd, xs, rel, dd⟩ := qKk I.hok e
    obtain ⟨w', hw, rw'⟩ := RelO.some_of (v := v) (o := (atKey xs k).map (·.2)) (by rw [l]; exact rel.val k)
    obtain ⟨p, hp, hp2⟩ := Option.map_eq_some_iff.mp hw
    refine wpAny_getItem_heap (tupleKind_room_in1 hu) (qGq I.hok eb) dd hp ?_
    rw [hp2]
    exact h w' _ (I.tok _) rw'
theorem qLb {Q : Value → Shared → Prop} (hu : A.units + 1 < cLine) (I : Inv X pins σ H s) (g : DGet H a y o) (ry : RelV y u) (h : ∀ s', Inv X pins σ H s' → Q (.bool (!o.isSome)) s') :
    wpAny (model X.prog X.w) A (compareOp .NotIn u (.ref a)) Q E s := by
  rcases g with ⟨kvs, k, e, ey, l⟩ | ⟨kvs, k, b, e, ey, eb, l⟩
  · subst ey
    obtain ⟨z, hd, vs, rel, dd⟩ := qFm I.hok e
    refine wpAny_notIn_of (qJf ry) hd dd.mapOf ?_
    rw [← (rel.val k).isSome_eq, ← l]
    exact h _ (I.tok _)
  · subst ey
    cases (show u = Value.ref b from ry)
    obtain ⟨z, hd, xs, rel, dd⟩ := qKk I.hok e
    refine wpAny_notIn_heap (tupleKind_room_in1 hu) (qGq I.hok eb) hd dd ?_
    have q := (rel.val k).isSome_eq
    rw [Option.isSome_map] at q
    rw [← q, ← l]
    exact h _ (I.tok _)
theorem qKh {h' : Heap} {t' : Nat} {ob : HO} (I : Inv X pins σ H s) (mu : Mut (H a)) (hs : Heap.SameBut a s.heap h') (he : ∃ q, h'.get? a = some q) (new : ObjOk X.prog X.w (upd H a ob) h' a ob) :
    Inv X pins σ (upd H a ob) { s with heap := h', toks := t' } :=
  I.write (x := a) (e := a) mu (.inl rfl) (fun b q hb z => (hs.2 b hb).trans z) he new
theorem qMj {P : Program} {w : World} {H' : Hp} {h' : Heap} {kvs : List (Key × V)} {vs : List (Key × Value)} (z : kvs.length ≤ sizeLine) (hd : (a == sysModules) = false) (rel : KV kvs vs) (dd : h'.DictOf (j9 P w) a vs) :
    ObjOk P w H' h' a (.dK kvs) := ⟨z, hd, vs, rel, dd⟩
end
section
variable {X : Cx} {pins : List (Addr × Obj)} {σ : St} {H : Hp} {s : Shared} {a : Addr} {kvs : List (Key × V)} {k : Key} {u : Value} {A : Around} {E : Value → Shared → Prop}
end
def qN9 (i : Expr) : Prop := ∀ ov iv, subscripted i false ov iv = operate [ov, iv] (getItem ov iv)
theorem qK6 {prog : Program} {w : World} {A : Around} {E : Value → Shared → Prop} {s : Shared} {env : Env} {value slice : Expr} {pos : Pos} {T id : String} {Q : Value → Shared → Prop}
    (hl : typeLookup (.type T) "__getitem__" = pure (some (.builtin id))) (hs : qN9 slice)
    (h : wpAny (model prog w) A (eval value env) (fun o s₁ => wpAny (model prog w) A (eval slice env) (fun i s₂ => s₂.TypeIs o T ∧ wpAny (model prog w) A (getItem o i) Q E s₂) E s₁) E s) :
    wpAny (model prog w) A (eval (.Subscript value slice pos) env) Q E s := by
  refine Subscript_ (wpAny_mono h (fun o s₁ h₁ => wpAny_mono h₁ (fun i s₂ h₂ => ?_) fun _ _ x => x) fun _ _ x => x)
  obtain ⟨hT, h₂⟩ := h₂
  unfold subscriptTail
  refine wpAny_bind ?_
  rw [getitemInPython_of_ne hT.not_modules]
  refine wpAny_bind (wpAny_specialOf hT hl ?_)
  have fin : wpAny (model prog w) A (subscripted slice false o i) (fun r s₃ => wpAny (model prog w) A (letTemporaryGo value o r >>= fun _ => pure r) Q E s₃) E s₂ := by
    rw [hs o i]
    exact wpAny_operating (wpAny_mono h₂ (fun r s₃ h₃ => wpAny_bind (wpAny_letTemporaryGo (wpAny_pure h₃))) fun _ _ x => x)
  first
    | exact wpAny_pure (wpAny_bind fin)
    | exact wpAny_bind (wpAny_pure (wpAny_bind fin))
    | exact wpAny_bind fin
theorem qDp {X : Cx} {pins : List (Addr × Obj)} {σ : St} {H : Hp} {s : Shared} {a : Addr} {y : V} {o : Option V} (I : Inv X pins σ H s) (g : DGet H a y o) : s.TypeIs (.ref a) "dict" := by
  rcases g with ⟨kvs, k, e, _, _⟩ | ⟨kvs, k, b, e, _, _, _⟩
  · obtain ⟨_, _, vs, _, dd⟩ := qFm I.hok e
    exact dd.typeIs
  · obtain ⟨_, _, xs, _, dd⟩ := qKk I.hok e
    exact dd.typeIs
def qNk (td ty : TE) : TE := fun σ H Q => td σ H fun x H1 => ty σ H1 fun y H2 => ∃ a v, x = .ref a ∧ DGet H2 a y (some v) ∧ Q v H2
def qK5 (ty td : TE) : TE := fun σ H Q => ty σ H fun y H1 => td σ H1 fun x H2 => ∃ a o, x = .ref a ∧ DGet H2 a y o ∧ Q (.bl (!o.isSome)) H2
section
variable {X : Cx} {o i e value : Expr} {pos pos' tpos : Pos} {td ty tv : TE}
theorem qDk (hu : X.A.units + 1 < cLine) (ho : PE X o td) (hi : PE X i ty) (hs : qN9 i) : PE X (.Subscript o i pos) (qNk td ty) := by
  intro pins s σ H Q I h
  refine qK6 PySem.F.slot_dict_getitem.lookup hs (thn (ho pins s σ H _ I h) fun u s1 ⟨x, H1, I1, rx, q1⟩ => thn (hi pins s1 σ H1 _ I1 q1) fun iv s2 ⟨y, H2, I2, ry, a, v, ex, g, q2⟩ => ?_)
  subst ex
  obtain rfl : u = Value.ref a := rx
  exact ⟨qDp I2 g, qG7 hu I2 g ry fun w' s3 I3 rw' => ⟨v, H2, I3, rw', q2⟩⟩
theorem qHq (hu : X.A.units + 1 < cLine) (hi : PE X i ty) (ho : PE X o td) : PC X .NotIn i o (qK5 ty td) := by
  intro pins s σ H Q I h
  refine thn (hi pins s σ H _ I h) fun iv s1 ⟨y, H1, I1, ry, q1⟩ => thn (ho pins s1 σ H1 _ I1 q1) fun u s2 ⟨x, H2, I2, rx, a, ov, ex, g, q2⟩ => ?_
  subst ex
  obtain rfl : u = Value.ref a := rx
  exact qLb hu I2 g ry fun s3 I3 => ⟨.bl (!ov.isSome), H2, I3, rfl, q2⟩
end
theorem qJe {P : Program} {w : World} {H : Hp} (h : Heap) (hb : sysModules < h.objs.size) : ObjOk P w H (h.push { cls := .type "dict", data := .dict #[] }) h.objs.size (.dK []) :=
  ⟨Nat.zero_le _, beq_eq_false_iff_ne.mpr (Ne.symm (Nat.ne_of_lt hb)), [], .nil, Heap.DictOf.new h⟩
section
variable {X : Cx} {pos : Pos}
end
def qGl : List (TE × TE) → St → Hp → (List (V × V) → Hp → Prop) → Prop
  | [], _, H, Q => Q [] H
  | (tk, tv) :: r, σ, H, Q => tk σ H fun x H1 => tv σ H1 fun y H2 => qGl r σ H2 fun ps H3 => Q ((x, y) :: ps) H3
abbrev VV : List (V × V) → List (Value × Value) → Prop := Paired fun p q => RelV p.1 q.1 ∧ RelV p.2 q.2
def PPs (X : Cx) (pos : Pos) (keys : List (Option Expr)) (values : List Expr) (trs : List (TE × TE)) : Prop :=
  ∀ (pins : List (Addr × Obj)) (s : Shared) (σ : St) (H : Hp) (Q : List (V × V) → Hp → Prop), Inv X pins σ H s → qGl trs σ H Q →
    wpAny (model X.prog X.w) X.A (evalPairs (pairTrees keys values X.env pos)) (fun vs s' => ∃ ps H', Inv X pins σ H' s' ∧ VV ps vs ∧ Q ps H') X.xe s
theorem qHc {X : Cx} {pos : Pos} : PPs X pos [] [] [] := fun pins s σ H Q I h => pairTrees_nil_walk ⟨[], H, I, .nil, h⟩
theorem qE4 {X : Cx} {pos : Pos} {k v : Expr} {ks : List (Option Expr)} {vs : List Expr} {tk tv : TE} {trs : List (TE × TE)} (hk : PE X k tk) (hv : PE X v tv) (hr : PPs X pos ks vs trs) :
    PPs X pos (some k :: ks) (v :: vs) ((tk, tv) :: trs) := fun pins s σ H Q I h =>
  pairTrees_cons_walk (thn (hk pins s σ H _ I h) fun u s1 ⟨x, H1, I1, rx, q1⟩ => thn (hv pins s1 σ H1 _ I1 q1) fun w2 s2 ⟨y, H2, I2, ry, q2⟩ =>
    thn (hr pins s2 σ H2 _ I2 q2) fun ws s3 ⟨ps, H3, I3, rel, q3⟩ => ⟨(x, y) :: ps, H3, I3, .cons ⟨rx, ry⟩ rel, q3⟩)
def qAk (kvs more : List (Key × V)) : List (Key × V) := more.foldl (fun acc kv => qEr acc kv.1 kv.2) kvs
theorem KV.merge : ∀ {more : List (Key × V)} {rs : List (Key × Value)} {kvs : List (Key × V)} {vs : List (Key × Value)}, KV more rs → KV kvs vs → KV (qAk kvs more) (merged vs rs) := by
  intro more rs kvs vs r
  unfold KV at r
  induction r generalizing kvs vs with
  | nil => intro q; exact q
  | @cons p q ps qs h t ih =>
    intro r0
    have e : KV (qEr kvs p.1 p.2) (stored vs q.1 q.2) := by
      have := r0.put p.1 h.2
      rw [← h.1]; exact this
    exact ih e
theorem ku : ∀ (more kvs : List (Key × V)), (qAk kvs more).length ≤ kvs.length + more.length
  | [], kvs => by show kvs.length ≤ kvs.length + 0; omega
  | p :: r, kvs => by
    have h1 := ku r (qEr kvs p.1 p.2)
    have h2 := qEm kvs p.1 p.2
    show (qAk (qEr kvs p.1 p.2) r).length ≤ _
    rw [List.length_cons]; omega
theorem qAg {P : Program} {w : World} : ∀ {kvs : List (Key × V)} {ws : List (Value × Value)}, VV (kvs.map fun kv => (kV kv.1, kv.2)) ws → ∃ rs, Carries (j9 P w) ws rs ∧ KV kvs rs
  | [], _, r => by rw [List.map_nil] at r; cases r; exact ⟨[], True.intro, .nil⟩
  | p :: kvs, _, r => by
    rw [List.map_cons] at r
    cases r with
    | @cons a b as bs h t =>
      obtain ⟨rs, c, q⟩ := qAg (P := P) (w := w) t
      obtain ⟨b1, b2⟩ := b
      exact ⟨(p.1, b2) :: rs, ⟨qJf h.1, rfl, c⟩, .cons ⟨rfl, h.2⟩ q⟩
def qNz (trs : List (TE × TE)) : TE := fun σ H Q => ∀ p, H p = none → qGl trs σ (upd H p (.dK [])) fun ps H2 => H2 p = some (.dK []) ∧ ∃ kvs : List (Key × V), ps = kvs.map (fun kv => (kV kv.1, kv.2)) ∧ kvs.length ≤ 15 ∧ Q (.ref p) (upd H2 p (.dK (qAk [] kvs)))
theorem qH9 {X : Cx} {pos : Pos} {keys : List (Option Expr)} {values : List Expr} {trs : List (TE × TE)} (h : PPs X pos keys values trs) (hall : keys.all (·.isSome) = true) (hl : keys.length = values.length) (h0 : keys ≠ [])
    (h15 : keys.length ≤ 15) : PE X (.Dict keys values pos) (qNz trs) := by
  intro pins s σ H Q I q
  have hn := I.hok.fresh (Nat.le_refl s.heap.objs.size)
  have I1 := I.laid (a := s.heap.objs.size) (o := .dK []) (h' := s.heap.push { cls := .type "dict", data := .dict #[] }) (t' := s.toks) (fun _ _ q => Heap.get?_push_of_some _ q) (Nat.le_refl _) (qJe s.heap I.big)
  refine wpAny_Dict_walk (knd := j9 X.prog X.w) hall hl h0 h15 (thn (h pins _ σ _ _ I1 (q _ hn)) fun ws s2 ⟨ps, H2, I2, rel, e, kvs, ep, lk, q2⟩ => ?_)
  subst ep
  obtain ⟨rs, c, rk⟩ := qAg (P := X.prog) (w := X.w) rel
  obtain ⟨z, hd, vs0, r0, dd⟩ := qMw I2.hok e
  cases r0
  refine ⟨rs, c, dd, fun h' dd' hs => ⟨.ref s.heap.objs.size, _, ?_, rfl, q2⟩⟩
  have hz : (qAk [] kvs).length ≤ sizeLine := by
    have h1 := ku kvs []
    rw [List.length_nil] at h1
    rw [sizeLine_eq]; omega
  have he : ∃ q, h'.get? s.heap.objs.size = some q := let ⟨q, _, _, hq, _⟩ := dd'; ⟨q, hq⟩
  exact qKh I2 (by rw [e]; exact True.intro) hs he (qMj hz hd (rk.merge .nil) dd')
structure M1 (X : Cx) (o : Expr) (m : Str) (apos : Pos) (e : Expr) (cpos : Pos) : Prop where
  base : attributeBase o m X.env (eval o X.env) = eval o X.env
  few : ((backTo cpos (starEach [e] X.env)).all (fun x => !x.1) && (backToKw cpos (keywordEach [] X.env)).all (fun x => x.1.isSome)
    && decide (([e] : List Expr).length + ([] : List Keyword).length + (if ([] : List Keyword).isEmpty then 0 else 1) < 30)) = true
  line : (apos.endLine == cpos.line) = true
  trees : backTo cpos (starEach [e] X.env) = [(false, eval e X.env)]
structure M2 (X : Cx) (o : Expr) (m : Str) (apos : Pos) (e f : Expr) (cpos : Pos) : Prop where
  base : attributeBase o m X.env (eval o X.env) = eval o X.env
  few : ((backTo cpos (starEach [e, f] X.env)).all (fun x => !x.1) && (backToKw cpos (keywordEach [] X.env)).all (fun x => x.1.isSome)
    && decide (([e, f] : List Expr).length + ([] : List Keyword).length + (if ([] : List Keyword).isEmpty then 0 else 1) < 30)) = true
  line : (apos.endLine == cpos.line) = true
  trees : backTo cpos (starEach [e, f] X.env) = [(false, eval e X.env), (false, eval f X.env)]
section
variable {X : Cx} {pins : List (Addr × Obj)} {σ : St} {H : Hp} {s : Shared} {a : Addr} {y d : V} {u r : Value} {o : Option V} {A : Around} {E : Value → Shared → Prop}
end
section
variable {X : Cx} {o e f : Expr} {apos cpos : Pos} {td ty tx : TE}
end
section
variable {X : Cx} {pins : List (Addr × Obj)} {σ : St} {H : Hp} {s : Shared} {a : Addr} {kvs : List (Key × V)} {A : Around} {E : Value → Shared → Prop}
end
section
variable {X : Cx} {pins : List (Addr × Obj)} {σ : St} {H : Hp} {s : Shared} {a : Addr} {y : V} {u : Value} {A : Around} {E : Value → Shared → Prop}
end
end L2
namespace Att
open PySem PySem.W PySem.Calls PyProof.Rows
section
variable {prog : Program} {w : World} {A : Around} {E : Value → Shared → Prop} {s : Shared} {K : Frag}
end
end Att
namespace L2
open PySem PySem.Spec PyProof.Rows
end L2
namespace L2
open PySem PySem.Spec PyProof.Rows
end L2
namespace L2
open PySem PySem.Spec PyProof.Rows
section
variable {P : Program} {w : World} {K : PySem.W.Frag} {mg : Str → Option Value} {base : Heap}
end
section
variable {X : Cx}
end
section
variable {κ : Type} [DecidableEq κ]
end
end L2
namespace Mt
theorem qKl (a b : Int) : a.fmod b = a - b * a.fdiv b := by
  have := Int.fmod_add_mul_fdiv a b
  omega
theorem qIu (a b : Int) : Int.gcd b (a.fmod b) = Int.gcd a b := by
  apply Nat.dvd_antisymm
  · refine Int.dvd_gcd ?_ (Int.gcd_dvd_left b (a.fmod b))
    have h1 : ((Int.gcd b (a.fmod b) : Nat) : Int) ∣ b := Int.gcd_dvd_left ..
    have h2 : ((Int.gcd b (a.fmod b) : Nat) : Int) ∣ a.fmod b := Int.gcd_dvd_right ..
    have h3 := Int.dvd_add h2 (Int.dvd_trans h1 (Int.dvd_mul_right b (a.fdiv b)))
    have e : a.fmod b + b * a.fdiv b = a := Int.fmod_add_mul_fdiv a b
    rwa [e] at h3
  · refine Int.dvd_gcd (Int.gcd_dvd_right ..) ?_
    rw [qKl]
    exact Int.dvd_sub (Int.gcd_dvd_left ..) (Int.dvd_trans (Int.gcd_dvd_right ..) (Int.dvd_mul_right ..))
theorem qKs (a b : Int) (h : b ≠ 0) : (a.fmod b).natAbs < b.natAbs := by
  rcases Int.lt_or_gt_of_ne h with h | h
  · have h1 := Int.fmod_lt_of_pos (-a) (show 0 < -b by omega)
    have h2 := Int.fmod_nonneg_of_pos (-a) (show 0 < -b by omega)
    rw [Int.neg_fmod_neg] at h1 h2
    omega
  · have h1 := Int.fmod_lt_of_pos a h
    have h2 := Int.fmod_nonneg_of_pos a h
    omega
def sg (t b : Int) : Int := if b < 0 then -((Int.gcd t b : Nat) : Int) else ((Int.gcd t b : Nat) : Int)
def x8 (t b : Int) : Int := t.fdiv (sg t b)
def xD (t b : Int) : Int := b.fdiv (sg t b)
theorem vN {t b : Int} (h : b ≠ 0) : 0 < Int.gcd t b := by
  rcases Nat.eq_zero_or_pos (Int.gcd t b) with z | z
  · rw [Int.gcd_eq_zero_iff] at z
    exact absurd z.2 h
  · exact z
theorem qM3 {t b : Int} (h : b ≠ 0) : sg t b ≠ 0 := by
  have := vN (t := t) h
  unfold sg; split <;> omega
theorem qIv (t b : Int) : sg t b ∣ t := by
  unfold sg; split
  · exact Int.neg_dvd.mpr (Int.gcd_dvd_left ..)
  · exact Int.gcd_dvd_left ..
theorem qJc (t b : Int) : sg t b ∣ b := by
  unfold sg; split
  · exact Int.neg_dvd.mpr (Int.gcd_dvd_right ..)
  · exact Int.gcd_dvd_right ..
theorem qFc (t b : Int) : (sg t b).natAbs = Int.gcd t b := by
  unfold sg; split <;> omega
theorem qIm (t b : Int) : x8 t b * sg t b = t := Int.fdiv_mul_cancel (qIv t b)
theorem qHo (t b : Int) : xD t b * sg t b = b := Int.fdiv_mul_cancel (qJc t b)
theorem zD {t b : Int} (h : b ≠ 0) : 0 < xD t b := by
  have e := qHo t b
  have g := vN (t := t) h
  by_cases hb : b < 0
  · have s : sg t b = -((Int.gcd t b : Nat) : Int) := by unfold sg; rw [if_pos hb]
    rw [s] at e
    rcases Int.lt_trichotomy (xD t b) 0 with z | z | z
    · have := Int.mul_pos_of_neg_of_neg z (show -((Int.gcd t b : Nat) : Int) < 0 by omega)
      omega
    · rw [z] at e; omega
    · exact z
  · have s : sg t b = ((Int.gcd t b : Nat) : Int) := by unfold sg; rw [if_neg hb]
    rw [s] at e
    rcases Int.lt_trichotomy (xD t b) 0 with z | z | z
    · have := Int.mul_neg_of_neg_of_pos z (show 0 < ((Int.gcd t b : Nat) : Int) by omega)
      omega
    · rw [z] at e; omega
    · exact z
theorem qHw {t b : Int} (h : b ≠ 0) : Int.gcd (x8 t b) (xD t b) = 1 := by
  have e := Int.gcd_mul_right (x8 t b) (sg t b) (xD t b)
  rw [qIm, qHo, qFc] at e
  have g := vN (t := t) h
  have e' : 1 * Int.gcd t b = (x8 t b).gcd (xD t b) * Int.gcd t b := by omega
  exact (Nat.eq_of_mul_eq_mul_right g e').symm
theorem kQ (t b : Int) : x8 t b * b = t * xD t b := by
  have e1 := qIm t b
  have e2 := qHo t b
  calc x8 t b * b = x8 t b * (xD t b * sg t b) := by rw [e2]
    _ = (x8 t b * sg t b) * xD t b := by rw [Int.mul_comm (xD t b), Int.mul_assoc]
    _ = t * xD t b := by rw [e1]
theorem qAr {t b : Int} (h : b ≠ 0) : (x8 t b).natAbs ≤ t.natAbs := by
  have e := congrArg Int.natAbs (qIm t b)
  rw [Int.natAbs_mul, qFc] at e
  have g := vN (t := t) h
  rw [← e]
  exact Nat.le_mul_of_pos_right _ g
theorem zw {t b : Int} (h : b ≠ 0) : (xD t b).natAbs ≤ b.natAbs := by
  have e := congrArg Int.natAbs (qHo t b)
  rw [Int.natAbs_mul, qFc] at e
  have g := vN (t := t) h
  have := Nat.le_mul_of_pos_right (xD t b).natAbs g
  omega
end Mt
namespace Mt
theorem qJ4 {p q p' q' : Int} (hq : 0 < q) (hq' : 0 < q') (g : Int.gcd p q = 1) (g' : Int.gcd p' q' = 1) (c : p * q' = p' * q) : p = p' ∧ q = q' := by
  have d1 : q ∣ q' := by
    have h : q ∣ p * q' := by rw [c]; exact Int.dvd_mul_left ..
    have n : q.natAbs ∣ p.natAbs * q'.natAbs := by
      have := Int.natAbs_dvd_natAbs.mpr h
      rwa [Int.natAbs_mul] at this
    have co : Nat.Coprime q.natAbs p.natAbs := by
      show Nat.gcd q.natAbs p.natAbs = 1
      rw [Nat.gcd_comm]; exact g
    exact Int.natAbs_dvd_natAbs.mp (Nat.Coprime.dvd_of_dvd_mul_left co n)
  have d2 : q' ∣ q := by
    have h : q' ∣ p' * q := by rw [← c]; exact Int.dvd_mul_left ..
    have n : q'.natAbs ∣ p'.natAbs * q.natAbs := by
      have := Int.natAbs_dvd_natAbs.mpr h
      rwa [Int.natAbs_mul] at this
    have co : Nat.Coprime q'.natAbs p'.natAbs := by
      show Nat.gcd q'.natAbs p'.natAbs = 1
      rw [Nat.gcd_comm]; exact g'
    exact Int.natAbs_dvd_natAbs.mp (Nat.Coprime.dvd_of_dvd_mul_left co n)
  have e : q = q' := by
    have h1 := Int.le_of_dvd hq' d1
    have h2 := Int.le_of_dvd hq d2
    omega
  subst e
  exact ⟨Int.eq_of_mul_eq_mul_right (by omega) c, rfl⟩
theorem qEx {t b p q : Int} (h : b ≠ 0) (hq : 0 < q) (g : Int.gcd p q = 1) (c : p * b = t * q) : x8 t b = p ∧ xD t b = q := by
  have e := kQ t b
  have k : x8 t b * q = p * xD t b := by
    have : (x8 t b * q) * b = (p * xD t b) * b := by
      calc (x8 t b * q) * b = (x8 t b * b) * q := by rw [Int.mul_assoc, Int.mul_comm q b, ← Int.mul_assoc]
        _ = (t * xD t b) * q := by rw [e]
        _ = (t * q) * xD t b := by rw [Int.mul_assoc, Int.mul_comm (xD t b) q, ← Int.mul_assoc]
        _ = (p * b) * xD t b := by rw [c]
        _ = (p * xD t b) * b := by rw [Int.mul_assoc, Int.mul_comm b, ← Int.mul_assoc]
    exact Int.eq_of_mul_eq_mul_right h this
  exact qJ4 (zD h) hq (qHw h) g k
theorem qE6 {p q : Int} (hq : 0 < q) (g : Int.gcd p q = 1) : x8 p q = p ∧ xD p q = q := qEx (by omega) hq g rfl
theorem x5 {p q : Int} (hq : 0 < q) : p.fdiv q * q ≤ p ∧ p < (p.fdiv q + 1) * q := by
  have e := Int.fmod_add_mul_fdiv p q
  have h1 := Int.fmod_nonneg_of_pos p hq
  have h2 := Int.fmod_lt_of_pos p hq
  have c : q * p.fdiv q = p.fdiv q * q := Int.mul_comm ..
  have d : (p.fdiv q + 1) * q = p.fdiv q * q + q := by rw [Int.add_mul, Int.one_mul]
  omega
end Mt
namespace Mt
theorem qAh {A B C D : Int} (hB : 0 < B) (hD : 0 < D) (h : A * D = C * B) : A.fdiv B = C.fdiv D := by
  obtain ⟨h1, h2⟩ := x5 (p := A) hB
  obtain ⟨h3, h4⟩ := x5 (p := C) hD
  generalize A.fdiv B = f at h1 h2 ⊢
  generalize C.fdiv D = g at h3 h4 ⊢
  have k1 : f * B * D ≤ A * D := Int.mul_le_mul_of_nonneg_right h1 (by omega)
  have k2 : C * B < (g + 1) * D * B := Int.mul_lt_mul_of_pos_right h4 hB
  have k3 : g * D * B ≤ C * B := Int.mul_le_mul_of_nonneg_right h3 (by omega)
  have k4 : A * D < (f + 1) * B * D := Int.mul_lt_mul_of_pos_right h2 hD
  have p := Int.mul_pos hB hD
  have e1 : f * (B * D) < (g + 1) * (B * D) := by grind
  have e2 : g * (B * D) < (f + 1) * (B * D) := by grind
  have := Int.lt_of_mul_lt_mul_right e1 (by omega)
  have := Int.lt_of_mul_lt_mul_right e2 (by omega)
  omega
def plP (p q r s k : Int) : Int := x8 (p * s + k * r * q) (q * s)
def plQ (p q r s k : Int) : Int := xD (p * s + k * r * q) (q * s)
theorem qMe {p q r s k : Int} (hq : 0 < q) (hs : 0 < s) : 0 < plQ p q r s k := zD (Int.ne_of_gt (Int.mul_pos hq hs))
theorem qGp {p q r s : Int} (hq : 0 < q) (hs : 0 < s) (g : Int.gcd p q = 1) : plP p q r s 0 = p ∧ plQ p q r s 0 = q := by
  refine qEx (Int.ne_of_gt (Int.mul_pos hq hs)) hq g ?_
  grind
theorem qKf {p q r s k : Int} (hq : 0 < q) (hs : 0 < s) : (plP p q r s k).natAbs ≤ (p * s + k * r * q).natAbs := qAr (Int.ne_of_gt (Int.mul_pos hq hs))
theorem qLi {p q r s k : Int} (hq : 0 < q) (hs : 0 < s) : (plQ p q r s k).natAbs ≤ (q * s).natAbs := zw (Int.ne_of_gt (Int.mul_pos hq hs))
end Mt
namespace Mt
def InR (N D m : Int) : Prop := 0 ≤ N ∧ N < m * D
theorem qLj {N D m : Int} (hD : 0 < D) : InR N D m ↔ (0 ≤ N.fdiv D ∧ N.fdiv D < m) := by
  obtain ⟨h1, h2⟩ := x5 (p := N) hD
  generalize N.fdiv D = f at h1 h2 ⊢
  unfold InR
  constructor
  · rintro ⟨a, b⟩
    constructor
    · have : 0 * D < (f + 1) * D := by rw [Int.zero_mul]; omega
      have := Int.lt_of_mul_lt_mul_right this (by omega)
      omega
    · exact Int.lt_of_mul_lt_mul_right (a := D) (by omega) (by omega)
  · rintro ⟨a, b⟩
    constructor
    · have := Int.mul_nonneg a (by omega : 0 ≤ D)
      omega
    · have : (f + 1) * D ≤ m * D := Int.mul_le_mul_of_nonneg_right (by omega) (by omega)
      omega
def qC3 (N R D m : Int) : Int :=
  if R = 0 then 1000000 else if ¬ (0 ≤ N.fdiv D ∧ N.fdiv D < m) then 0
  else if 1000000 < (if R < 0 then N.fdiv (-R) + 1 else -((N - m * D).fdiv R)) then 1000000 else (if R < 0 then N.fdiv (-R) + 1 else -((N - m * D).fdiv R))
end Mt
set_option maxHeartbeats 4000000
namespace L3
open PySem PySem.Spec PyProof.Rows L2
def CMulB (i j : Int) : Prop := CMul i j ∨ (i.natAbs < 2 ^ 60000 ∧ j.natAbs < 2 ^ 60000)
theorem kW {i : Int} (h : i.natAbs < 2 ^ 60000) : Builtin.Int.intBits i ≤ 2 ^ 20 := by
  unfold Builtin.Int.intBits
  split
  · exact Nat.zero_le _
  · rename_i h0
    have hz : i.natAbs ≠ 0 := by
      intro z
      apply h0
      have : i = 0 := by omega
      rw [this]; rfl
    have := (Nat.log2_lt hz).mpr h
    have e : (2 : Nat) ^ 20 = 1048576 := by decide
    omega
theorem CMulB.ok {i j : Int} (h : CMulB i j) : IntMulOk i j := by
  rcases h with h | ⟨h1, h2⟩
  · exact h.ok
  · exact IntMulOk.of_bits (kW h1) (kW h2)
def CDivB (_ j : Int) : Prop := j ≠ 0 ∧ j.natAbs < 2 ^ 8000
theorem CDivB.ok {i j : Int} (h : CDivB i j) : Builtin.divisionGoesByPylong i j = false := by
  refine PyProof.noPylong_of_log2 ?_
  have hz : j.natAbs ≠ 0 := by have := h.1; omega
  have := (Nat.log2_lt hz).mpr h.2
  omega
section
variable {X : Cx}
theorem xX : OpR X (binaryOp .Mult) (rI CMulB fun i j => .int (i * j)) := opI fun _ _ _ _ _ _ _ hc q => mul_int q hc.ok
theorem zZ : OpR X (binaryOp .FloorDiv) (rI CDivB fun i j => .int (i.fdiv j)) := opI fun _ _ _ _ _ _ _ hc q => floordiv_int hc.1 q (.inl hc.ok)
theorem jc : CallR X (.builtin "isinstance") (fun xs H Q => ∃ x c t b, xs = [x, c] ∧ qAo X.K H x t ∧
    (∃ n, c = .ty n ∧ PySem.W.kitOne X.K t (.type n) = some b ∨ ∃ a, c = .ref a ∧ PySem.W.kitOne X.K t (.ref a) = some b) ∧ Q (.bl b) H) := by
  intro pins s σ H xs us Q I r h
  obtain ⟨x, c, t, b, rfl, ty, hk, q⟩ := h
  obtain ⟨u, u', rfl, rx, rc⟩ := qI9 r
  obtain ⟨n, ⟨rfl, e⟩ | ⟨a, rfl, e⟩⟩ := hk
  · cases rc
    exact qCw I rx ty e fun tk => ⟨.bl b, H, I.tok _, rfl, q⟩
  · cases rc
    exact qCw I rx ty e fun tk => ⟨.bl b, H, I.tok _, rfl, q⟩
def qA6 (xs ys : List V) : Bool := (List.range (min xs.length ys.length)).all (fun j => eqV (xs.getD j .non) (ys.getD j .non)) && xs.length == ys.length
theorem vP {A : Around} {s : Shared} {xs ys : List V} {us ws : List Value} (r1 : Vals xs us) (r2 : Vals ys ws) (f1 : xs.all xY = true) (f2 : ys.all xY = true) :
    ∀ j (h1 : j < us.toArray.size) (h2 : j < ws.toArray.size), SeqAt.EqAt A s us.toArray[j] ws.toArray[j] (eqV (xs.getD j .non) (ys.getD j .non)) := by
  intro j h1 h2
  have l1 := r1.length
  have l2 := r2.length
  rw [List.size_toArray] at h1 h2
  have g1 : xs[j]? = some xs[j] := List.getElem?_eq_getElem (by omega)
  have g2 : ys[j]? = some ys[j] := List.getElem?_eq_getElem (by omega)
  obtain ⟨u, e1, q1⟩ := r1.get g1
  obtain ⟨w, e2, q2⟩ := r2.get g2
  have d1 : xs.getD j .non = xs[j] := by rw [List.getD_eq_getElem?_getD, g1]; rfl
  have d2 : ys.getD j .non = ys[j] := by rw [List.getD_eq_getElem?_getD, g2]; rfl
  have c1 : us.toArray[j] = u := by
    have := (List.getElem?_eq_some_iff.mp e1).2
    simpa using this
  have c2 : ws.toArray[j] = w := by
    have := (List.getElem?_eq_some_iff.mp e2).2
    simpa using this
  rw [d1, d2, c1, c2]
  exact qCf q1 q2 (List.all_eq_true.mp f1 _ (List.getElem_mem _)) (List.all_eq_true.mp f2 _ (List.getElem_mem _))
def qOa (K : PySem.W.Frag) (neg : Bool) : R2 := fun x y H Q => ∃ p q xs ys, x = .ref p ∧ y = .ref q ∧ SqT K H p xs ∧ SqT K H q ys ∧ xs.all xY = true ∧ ys.all xY = true ∧ Q (.bl (if neg then !qA6 xs ys else qA6 xs ys)) H
theorem qJ3 (hu : X.A.units < cLine) : OpR X (compareOp .Eq) (qOa X.K false) := by
  intro pins s σ H x y v u Q I rx ry h
  obtain ⟨p, q, xs, ys, rfl, rfl, h1, h2, f1, f2, k⟩ := h
  cases rx; cases ry
  obtain ⟨us, r1, t1, _⟩ := I.tuple h1
  obtain ⟨ws, r2, t2, _⟩ := I.tuple h2
  have l1 : us.toArray.size = xs.length := by rw [List.size_toArray]; exact r1.length.symm
  have l2 : ws.toArray.size = ys.length := by rw [List.size_toArray]; exact r2.length.symm
  refine SeqAt.eq_tupleAt t1 t2 hu (vP r1 r2 f1 f2) ?_
  rw [l1, l2]
  exact ⟨.bl (qA6 xs ys), H, I, rfl, k⟩
theorem qLw (hu : X.A.units < cLine) : OpR X (compareOp .NotEq) (qOa X.K true) := by
  intro pins s σ H x y v u Q I rx ry h
  obtain ⟨p, q, xs, ys, rfl, rfl, h1, h2, f1, f2, k⟩ := h
  cases rx; cases ry
  obtain ⟨us, r1, t1, _⟩ := I.tuple h1
  obtain ⟨ws, r2, t2, _⟩ := I.tuple h2
  have l1 : us.toArray.size = xs.length := by rw [List.size_toArray]; exact r1.length.symm
  have l2 : ws.toArray.size = ys.length := by rw [List.size_toArray]; exact r2.length.symm
  refine SeqAt.RcNeAt.tuples t1 t2 hu (vP r1 r2 f1 f2) _ _ _ _ ?_
  rw [l1, l2]
  exact ⟨.bl (!qA6 xs ys), H, I, rfl, k⟩
end
end L3
set_option maxHeartbeats 4000000
namespace L3
open PySem PySem.Spec PyProof.Rows L2
def jB (X : Cx) (scope : Scope) (cl : List (Str × Addr)) (C : Addr) (N : List Str) (s : Shared) (H : Hp) (fp : List Addr) : Cx :=
  { X with N := N, s₀ := s, H₀ := H, env := compEnvC scope cl C X.env, outer := X.stack, stack := X.stack, ex := fp, fn := fun _ => false, pn := [] }
def kO (js : List Nat) (σ : L2.St) : L2.St := js.map fun j => (σ[j]?).join
def qA8 (js : List Nat) (te : TE) (σ : L2.St) (Q : VK) (J : It) (H1 : Hp) : Prop := ∃ W : Nat → Nat → List V → Hp → Prop, (∃ m, W 0 m [] H1) ∧ ∀ i m acc H2, W i m acc H2 →
  acc.length < sizeLine ∧ ((J.stop i H2 ∧ ∀ D, H2 D = none → Q (.ref D) (upd H2 D (.lst acc))) ∨
    (J.go i H2 ∧ ∀ x H3, J.yld i H2 x H3 → te (some x :: kO js σ) H3 fun v H4 => ∃ m', m' < m ∧ W (i + 1) m' (acc ++ [v]) H4))
def qJ6 (js : List Nat) (wi : TI) (te : TE) : TE := fun σ H Q => wi σ H (qA8 js te σ Q)
theorem qCg {X : Cx} {elt iter : Expr} {x : Str} {px : Pos} {scope : Scope} {cl : List (Str × Addr)} {pos : Pos} {wi : TI} {te : TE} (ys : List Str) (js : List Nat)
    (hcm : X.calm = true) (hi : PI X (.Name x px) iter wi) (he : ∀ C s H fp, PE (jB X scope cl C (x :: ys) s H fp).nox elt te)
    (hclos : closureFor scope X.env = pure cl := by rfl)
    (hcl : cl.map (fun p => X.env.cells.lookup p.1) = cl.map (fun p => some p.2) := by rfl)
    (hcell : (scope.names.all fun p => p.2 != .cell) = true := by rfl) (hkind : scope.kind = .function := by rfl)
    (hnames : (scope.names.all fun p => p.2 != .local || scope.names.lookup p.1 == some .local) = true := by rfl)
    (hx : scope.names.lookup x = some .local := by rfl)
    (hhas : ((relabel scope X.env).names.all fun p => (p.2 != .cell && p.2 != .free) || (cl.lookup p.1).isSome) = true := by rfl)
    (hnd : (x :: ys).Nodup := by decide)
    (hjs : js.map (fun j => X.N[j]?) = ys.map some := by rfl)
    (hys : (ys.all fun y => ((relabel scope X.env).names.lookup y == some .cell || (relabel scope X.env).names.lookup y == some .free) && (X.env.scope.names.lookup y == some .cell || X.env.scope.names.lookup y == some .free)) = true := by rfl)
    (hs : ∀ x, foldedSetIterable iter X.env x = pure x := by intro _; rfl)
    {pins : List (Addr × Obj)} {s : Shared} {σ : L2.St} {H : Hp} (R : V → Hp → Prop) (use : Option (Value → Sem Unit)) (Q : Value → Shared → Prop) (I : Inv X pins σ H s) (h : qJ6 js wi te σ H R)
    (fin : ∀ (v : V) (u : Value) (H' : Hp) (s' : Shared) (C : Addr), Inv X pins σ H' s' → RelV v u → R v H' → (∃ m, s'.heap.Ns C m) → H' C = none → C ≠ X.env.locals → X.s₀.heap.objs.size ≤ C → (∀ y c, X.env.cells.lookup y = some c → c ≠ C) → (∀ p ∈ X.pn ++ pins, p.1 ≠ C) →
      compPost (model X.prog X.w) X.A X.xe use Q u C (.ok .next) s') :
    wpAny (model X.prog X.w) X.A (comprehension (.ListComp elt [⟨.Name x px, iter, [], 0⟩] scope pos) scope X.env (firstIterPos [⟨.Name x px, iter, [], 0⟩] pos) (newList []) false (eval iter X.env) use) Q X.xe s := by
  have hcell' : ∀ y ∈ scope.names, y.2 ≠ .cell := fun y hy => by
    have := List.all_eq_true.mp hcell y hy
    simpa using this
  have hnm : ∀ y ∈ scope.names, y.2 = .local → scope.names.lookup y.1 = some .local := fun y hy e => by
    have := List.all_eq_true.mp hnames y hy
    rw [e] at this
    simpa using this
  have clX : ∀ y c, cl.lookup y = some c → X.env.cells.lookup y = some c := fun y c e => by
    have hm := PySem.mem_of_lookup e
    obtain ⟨k, hk, e2⟩ := List.mem_iff_getElem.mp hm
    have := congrArg (fun l => l[k]?) hcl
    simp only [List.getElem?_map, List.getElem?_eq_getElem hk, Option.map_some, e2] at this
    exact Option.some.inj this
  have has : ∀ y, ((relabel scope X.env).names.lookup y = some .cell ∨ (relabel scope X.env).names.lookup y = some .free) → ∃ c, cl.lookup y = some c := fun y hy => by
    have key : ∀ k : NameKind, (k = .cell ∨ k = .free) → (relabel scope X.env).names.lookup y = some k → ∃ c, cl.lookup y = some c := fun k hk e => by
      have := List.all_eq_true.mp hhas _ (PySem.mem_of_lookup e)
      rcases hk with rfl | rfl <;> exact Option.isSome_iff_exists.mp (by simpa using this)
    rcases hy with e | e
    · exact key _ (.inl rfl) e
    · exact key _ (.inr rfl) e
  refine wpAny_comprehension_free (use := use) rfl hs hclos hkind hnm (thn (hi pins s σ H _ I h) fun v s1 h1 => thn h1 fun itv s2 h2 => ?_)
  obtain ⟨it, fp, tn, J, H2, e, I2, T, st2, f2, W, ⟨m0, w0⟩, turn⟩ := h2
  subst e
  refine wpAny_newObj_type (wpAny_newFunctionEnv hcell' (by intro y hy; simp at hy) (fun h₁ hns hsb => ?_) hkind)
  dsimp only at hns hsb ⊢
  generalize hG : s2.heap.push { cls := .type "list", dict := none, data := .seq ([] : List Value).toArray } = G at hns hsb ⊢
  have szG : G.objs.size = s2.heap.objs.size + 1 := by rw [← hG, Heap.size_push]
  have inG : ∀ b o, s2.heap.get? b = some o → G.get? b = some o := fun b o e => hG ▸ Heap.get?_push_of_some _ e
  have ltC : ∀ b o, s2.heap.get? b = some o → b ≠ G.objs.size := fun b o e => by rw [szG]; exact Nat.ne_of_lt (Nat.lt_succ_of_lt (Heap.lt_size e))
  have ltD : ∀ b o, s2.heap.get? b = some o → b ≠ s2.heap.objs.size := fun b o e => Nat.ne_of_lt (Heap.lt_size e)
  have DC : s2.heap.objs.size ≠ G.objs.size := by rw [szG]; omega
  have old : ∀ b o, s2.heap.get? b = some o → h₁.get? b = some o := fun b o e => hsb.extBut b o (ltC b o e) (Heap.get?_push_of_some _ (inG b o e))
  have hacc : h₁.PlainList s2.heap.objs.size #[] := ⟨_, hsb.extBut _ _ DC (Heap.get?_push_of_some _ (hG ▸ Heap.get?_push_size _ rfl))⟩
  have fpO : ∀ b ∈ fp, ∃ o, s2.heap.get? b = some o := fun b hb => let ⟨o, e, _⟩ := T.obj 0 _ st2 b hb; ⟨o, e⟩
  have stkO : ∀ b ∈ frs X.stack, ∃ o, s2.heap.get? b = some o := fun b hb => by
    obtain ⟨_, o, ho, _⟩ := I2.stack.mem hb
    exact ⟨o, ho⟩
  have freshH : ∀ a, s2.heap.objs.size ≤ a → H2 a = none := fun a ha => I2.hok.fresh ha
  have stkFp : ∀ b ∈ fp, b ∉ frs X.stack := fun b hb z => by
    rcases List.mem_cons.mp (I2.stkSub b z) with q | q
    · exact (f2 b hb).2.1 q
    · exact (f2 b hb).2.2.1 q
  have okX : (jB X scope cl G.objs.size (x :: ys) s2 H2 fp).Ok := {
    mod := I2.ok.mod
    kind := hkind
    glob := I2.ok.glob
    blt := I2.ok.blt
    above := by show s2.heap.objs.size ≤ G.objs.size; rw [szG]; omega
    inj := fun y z c e1 e2 => I2.ok.inj y z c (clX y c e1) (clX z c e2)
    has := fun y hy => has y hy
    cab := fun y c e _ => absurd (show false = true from e) Bool.false_ne_true
    hd := I2.ok.hd
    frames := I2.ok.frames
    stk := .inl rfl
    exf := fun b hb => by
      obtain ⟨o, e⟩ := fpO b hb
      exact ⟨ltC b o e, fun y c e1 => (f2 b hb).2.2.2.2.1 y c (clX y c e1)⟩
    bs := I2.bs
    bsz := Nat.le_trans I2.ok.bsz I2.sz
    noex := fun b o e hb => by
      rcases (f2 b hb).2.2.2.1 with q | q
      · exact I2.ok.noex b o e q
      · exact Nat.lt_irrefl _ (Nat.lt_of_lt_of_le (Nat.lt_of_lt_of_le (Heap.lt_size e) I2.ok.bsz) q)
    exfs := stkFp
    funs := I2.stack
    frf := I2.stkFree }
  have lenY : js.length = ys.length := by have := congrArg List.length hjs; simpa using this
  have I0 : Inv (jB X scope cl G.objs.size (x :: ys) s2 H2 fp) [] (none :: kO js σ) H2 { s2 with heap := h₁, toks := s2.toks + ([] : List (Str × Value)).length } := by
    refine ⟨okX, rfl, I2.bare, Un.kept old, ⟨_, hns, fun k y v e1 e2 e3 => ?_⟩, fun y c e => ?_, freshH _ (by show s2.heap.objs.size ≤ G.objs.size; rw [szG]; omega), fun y c e => I2.freeC y c (clX y c e), fun p hp => absurd (show p ∈ ([] : List (Addr × Obj)) from hp) (by simp), I2.hok.kept old, ?_⟩
    · cases k with
      | zero => cases e2
      | succ k =>
        have e1' : ys[k]? = some y := e1
        have e2' : (kO js σ)[k]? = some (some v) := e2
        unfold kO at e2'
        rw [List.getElem?_map] at e2'
        cases ej : js[k]? with
        | none => rw [ej] at e2'; cases e2'
        | some j =>
          rw [ej] at e2'
          have e4 : (σ[j]?).join = some v := Option.some.inj e2'
          have e5 : σ[j]? = some (some v) := by
            cases q : σ[j]? with
            | none => rw [q] at e4; cases e4
            | some o => rw [q] at e4; exact congrArg some e4
          have e6 : X.N[j]? = some y := by
            have := congrArg (fun l => l[k]?) hjs
            simp only [List.getElem?_map, ej, e1', Option.map_some] at this
            exact Option.some.inj this
          have hy := List.all_eq_true.mp hys y (List.mem_of_getElem? e1')
          simp only [Bool.and_eq_true, Bool.or_eq_true, beq_iff_eq] at hy
          obtain ⟨ky, ko⟩ := hy
          obtain ⟨m, hn, hl⟩ := I2.loc
          obtain ⟨u, r, lk⟩ := hl j y v e6 e5 (.inr ko)
          refine ⟨u, r, .inr ⟨ky, ?_⟩⟩
          rcases lk with ⟨kl, _⟩ | ⟨_, c, ec, hc⟩
          · have kl' : X.env.scope.names.lookup y = some .local := kl
            rw [kl'] at ko
            rcases ko with z | z <;> cases z
          · obtain ⟨c', ec'⟩ := has y ky
            have := clX y c' ec'
            rw [ec] at this
            cases this
            obtain ⟨o, ho, hd⟩ := hc
            exact ⟨c, ec', o, old c o ho, hd⟩
    · obtain ⟨v, o, ho, hd⟩ := I2.cell y c (clX y c e)
      exact ⟨v, o, old c o ho, hd⟩
    · show (none :: kO js σ).length = (x :: ys).length
      simp [kO, lenY]
  have loop : ∀ s3 : Shared, s3 = { s2 with heap := h₁, toks := s2.toks + ([] : List (Str × Value)).length } →
      codeAny (model X.prog X.w) X.A (.compLoop (.ListComp elt [⟨.Name x px, iter, [], 0⟩] scope pos) 0 (.ref it) (.ref s2.heap.objs.size) (compEnvC scope cl G.objs.size X.env))
        (compPost (model X.prog X.w) X.A X.xe use Q (.ref s2.heap.objs.size) G.objs.size) s3 := by
    rintro s3 rfl
    have stat : ∀ {H' : Hp} (o : Obj), (∀ b ∈ fp, H' b = none) → ∀ b ∈ fp, qId (jB X scope cl G.objs.size (x :: ys) s2 H2 fp) [(s2.heap.objs.size, o)] H' b := fun {H'} o hn b hb => by
      obtain ⟨ob, eb⟩ := fpO b hb
      refine ⟨hn b hb, ltC b ob eb, stkFp b hb, .inl hb, fun y c e1 => (f2 b hb).2.2.2.2.1 y c (clX y c e1), fun p hp => ?_⟩
      have hp' : p = (s2.heap.objs.size, o) := by
        have : p ∈ [(s2.heap.objs.size, o)] := hp
        simpa using this
      rw [hp']
      exact Ne.symm (ltD b ob eb)
    refine codeAny_compLoop_list (fun n s' => ∃ i acc its H3, Inv (jB X scope cl G.objs.size (x :: ys) s2 H2 fp) [] (none :: kO js σ) H3 s' ∧ tn i s'.heap ∧ (∀ b ∈ fp, H3 b = none) ∧ s'.heap.PlainList s2.heap.objs.size its.toArray ∧ Vals acc its ∧ H3 s2.heap.objs.size = none ∧ W i n acc H3)
      ?_ m0 ⟨0, [], [], H2, I0, T.keep _ _ _ st2 fun b _ o e => old b o e, fun b hb => (f2 b hb).1, hacc, .nil, freshH _ (Nat.le_refl _), w0⟩
    rintro n s3 ⟨i, acc, its, H3, I3, st3, fr3, ⟨nn, pl3⟩, va3, hD3, w3⟩
    obtain ⟨hlen, cs⟩ := turn i n acc H3 w3
    have hal : acc.length = its.length := va3.length
    have nD : s2.heap.objs.size ∉ frs X.stack := fun z => by
      obtain ⟨o, e⟩ := stkO _ z
      exact ltD _ o e rfl
    have I3p : Inv (jB X scope cl G.objs.size (x :: ys) s2 H2 fp) [(s2.heap.objs.size, { cls := .type "list", data := .seq its.toArray nn })] (none :: kO js σ) H3 s3 := I3.pins_of fun p hp => by
      have e : p = (s2.heap.objs.size, { cls := .type "list", data := .seq its.toArray nn }) := by simpa using hp
      subst e
      exact ⟨pl3, hD3, DC, nD, fun v z => nomatch z⟩
    rcases cs with ⟨stop, q⟩ | ⟨go, step⟩
    · refine thn (T.done (jB X scope cl G.objs.size (x :: ys) s2 H2 fp) rfl rfl rfl hcm i _ s3 _ H3 _ I3p (stat _ fr3) st3 stop) fun r s4 hr => ?_
      obtain ⟨hr, I4⟩ := hr
      subst hr
      have pl4 := (I4.pin (s2.heap.objs.size, { cls := .type "list", data := .seq its.toArray nn }) (by simp)).1
      obtain ⟨m, hn, _⟩ := I4.loc
      have B := I4.base
      have un' : Un (frs X.stack) fp H2 (upd H3 s2.heap.objs.size (.lst acc)) s2.heap s4.heap := by
        refine ⟨fun b o e n hb hx => B.keep b o e n hb hx, fun b o e n hb hx => B.slot b o e n hb hx, fun b o e n hx => ?_, fun b o e hx => B.there b o e hx, fun b xs e => ?_, fun b o u e => ?_, fun b ps e => ?_⟩
        · rw [qd (ltD b o e)]
          exact B.free b o e n hx
        · have z := B.tups b xs e
          rw [qd (qf z hD3)]
          exact z
        · have z := B.frzs b o u e
          rw [qd (qf z hD3)]
          exact z
        · obtain ⟨more, z⟩ := B.tbls b ps e
          exact ⟨more, by rw [qd (qf z hD3)]; exact z⟩
      have freeC4 : H3 G.objs.size = none := I4.free
      have hok' : HOk X.prog X.w (upd H3 s2.heap.objs.size (.lst acc)) s4.heap := fun b u e => by
        by_cases hb : b = s2.heap.objs.size
        · subst hb
          rw [qB] at e
          cases e
          exact ⟨Nat.le_of_lt hlen, its, nn, va3, pl4⟩
        · rw [qd hb] at e
          exact (I4.hok b u e).stay (fun c v hc z => z) (fun c z => by rw [qd (qf z hD3)]; exact z) fun c xs z => by rw [qd (qf z hD3)]; exact z
      have hch : ∀ b ∈ fp, (b ∈ X.ex ∨ X.s₀.heap.objs.size ≤ b) ∧ b ≠ X.env.locals ∧ (∀ y c, X.env.cells.lookup y = some c → c ≠ b) ∧ ∀ p ∈ X.pn ++ pins, p.1 ≠ b := fun b hb => by
        obtain ⟨_, z1, _, z3, z4, z5⟩ := f2 b hb
        exact ⟨z3, z1, z4, z5⟩
      have I5 := I2.call' (s' := s4) (ch := fp) I4.os un' hok' I4.bare hch
      refine fin (.ref s2.heap.objs.size) _ _ s4 G.objs.size I5 rfl (q _ hD3) ⟨m, hn⟩ ?_ ?_ ?_ (fun y c e => ?_) fun p hp => ?_
      · rw [qd (Ne.symm DC)]; exact freeC4
      · rw [szG]; exact Nat.ne_of_gt (Nat.lt_succ_of_lt I2.lt)
      · rw [szG]; exact Nat.le_succ_of_le I2.sz
      · obtain ⟨v, o, ho, _⟩ := I2.cell y c e
        exact ltC c o ho
      · exact ltC p.1 p.2 (I2.pin p hp).1
    · refine thn (T.item (jB X scope cl G.objs.size (x :: ys) s2 H2 fp) rfl rfl rfl hcm i _ s3 _ H3 _ I3p (stat _ fr3) st3 go) fun r s4 hr => ?_
      obtain ⟨u, hr, h4⟩ := hr
      subst hr
      show wpAny (model X.prog X.w) X.A (letOwnedTupleGo (.Name x px) (.ref it) u >>= fun _ => assign (.Name x px) (compEnvC scope cl G.objs.size X.env) u) _ _ s4
      refine wpAny_bind (thn h4 fun _ s5 h5 => ?_)
      obtain ⟨v, H5, I5, r5, y5, st5, fr5⟩ := h5
      have I5' := I5.pinned (stat _ fr5) (T.obj _ _ st5)
      refine wpAny_assign_Name (zd (i := 0) I5' hnd rfl (.inl (lookup_relabel_local hx)) r5 (fun s6 I6 => ?_) (.inr (lookup_relabel_local hx)))
      have I6' : Inv (jB X scope cl G.objs.size (x :: ys) s2 H2 fp).nox _ _ H5 s6 := I6.wish _
      refine wpAny_mono (he G.objs.size s2 H2 fp _ s6 _ H5 _ I6' (step v H5 y5)) (fun y s7 h7 => ?_) fun _ _ z => z.elim
      obtain ⟨v7, H7, I7, r7, m', hm', w7⟩ := h7
      have I7 := I7.unwish
      have pinD := I7.pin (s2.heap.objs.size, { cls := .type "list", data := .seq its.toArray nn }) (by simp)
      refine wpAny_list_append_plain (items := its.toArray) ⟨nn, pinD.1⟩ (fun h' hp' hsb' => ?_) (by rw [List.size_toArray, ← hal]; exact Nat.le_of_lt hlen)
      have e8 : its.toArray.push y = (its ++ [y]).toArray := by simp
      rw [e8] at hp'
      have pf : ∀ b ∈ fp, ∀ o, s5.heap.get? b = some o → s7.heap.get? b = some o ∧ H7 b = none := fun b hb o e => by
        have z := I7.pin (b, o) (List.mem_append_right _ (List.mem_append_right _ (zz hb e)))
        exact ⟨z.1, z.2.1⟩
      have I8 : Inv (jB X scope cl G.objs.size (x :: ys) s2 H2 fp) [] (none :: kO js σ) H7 { s7 with heap := h' } := by
        have I7u : Inv (jB X scope cl G.objs.size (x :: ys) s2 H2 fp) [] (none :: kO js σ) H7 s7 := (I7.pins_of (pins' := []) fun p hp => absurd hp (by simp)).weak (by simp) fun k v e => by
          cases k with
          | zero => cases e
          | succ k => exact e
        refine I7u.turned (t' := s7.toks) (it := s2.heap.objs.size) (fun b o hb e => hsb'.extBut b o hb e) pinD.2.1 DC (.inr (Nat.le_refl _)) (fun y c e => ?_) fun p hp => absurd (show p ∈ ([] : List (Addr × Obj)) from hp) (by simp)
        obtain ⟨v, o, ho, _⟩ := I2.cell y c (clX y c e)
        exact ltD c o ho
      refine ⟨m', hm', i + 1, acc ++ [v7], its ++ [y], H7, I8, ?_, fun b hb => ?_, hp', va3.append (.cons r7 .nil), pinD.2.1, w7⟩
      · refine T.keep _ _ _ st5 fun b hb o e => hsb'.extBut b o ?_ (pf b hb o e).1
        obtain ⟨ob, eb⟩ := fpO b hb
        exact ltD b ob eb
      · obtain ⟨o, e, _⟩ := T.obj _ _ st5 b hb
        exact (pf b hb o e).2
  exact codeAny_compStart_list (loop _ rfl) (T.self _ 0 _ _ _ (T.keep _ _ _ st2 fun b _ o e => old b o e) (loop _ rfl))
theorem qA0 {X : Cx} {pins : List (Addr × Obj)} {σ : L2.St} {H : Hp} {s : Shared} {C : Addr} {h' : Heap} (I : Inv X pins σ H s) (hsb : Heap.SameBut C s.heap h') (h0 : H C = none) (h1 : C ≠ X.env.locals) (h2 : X.s₀.heap.objs.size ≤ C)
    (h3 : ∀ y c, X.env.cells.lookup y = some c → c ≠ C) (h4 : ∀ p ∈ X.pn ++ pins, p.1 ≠ C) : Inv X pins σ H { s with heap := h' } :=
  I.turned (t' := s.toks) (it := C) (fun b o hb e => hsb.extBut b o hb e) h0 h1 (.inr h2) h3 h4
theorem qBi {X : Cx} {elt iter : Expr} {x : Str} {px : Pos} {scope : Scope} {cl : List (Str × Addr)} {pos : Pos} {wi : TI} {te : TE} (ys : List Str) (js : List Nat)
    (hcm : X.calm = true) (hi : PI X (.Name x px) iter wi) (he : ∀ C s H fp, PE (jB X scope cl C (x :: ys) s H fp).nox elt te)
    (hclos : closureFor scope X.env = pure cl := by rfl)
    (hcl : cl.map (fun p => X.env.cells.lookup p.1) = cl.map (fun p => some p.2) := by rfl)
    (hcell : (scope.names.all fun p => p.2 != .cell) = true := by rfl) (hkind : scope.kind = .function := by rfl)
    (hnames : (scope.names.all fun p => p.2 != .local || scope.names.lookup p.1 == some .local) = true := by rfl)
    (hx : scope.names.lookup x = some .local := by rfl)
    (hhas : ((relabel scope X.env).names.all fun p => (p.2 != .cell && p.2 != .free) || (cl.lookup p.1).isSome) = true := by rfl)
    (hnd : (x :: ys).Nodup := by decide)
    (hjs : js.map (fun j => X.N[j]?) = ys.map some := by rfl)
    (hys : (ys.all fun y => ((relabel scope X.env).names.lookup y == some .cell || (relabel scope X.env).names.lookup y == some .free) && (X.env.scope.names.lookup y == some .cell || X.env.scope.names.lookup y == some .free)) = true := by rfl)
    (hs : ∀ x, foldedSetIterable iter X.env x = pure x := by intro _; rfl) : PE X (.ListComp elt [⟨.Name x px, iter, [], 0⟩] scope pos) (qJ6 js wi te) := by
  intro pins s σ H Q I h
  rw [eval_ListComp]
  refine qCg ys js hcm hi he hclos hcl hcell hkind hnames hx hhas hnd hjs hys hs Q none (EP X pins σ Q) I h fun v u H' s' C I' r q hm h0 h1 h2 h3 h4 => ?_
  obtain ⟨m, hm⟩ := hm
  exact ⟨m, hm, fun h' hsb => ⟨v, H', qA0 I' hsb h0 h1 h2 h3 h4, r, q⟩⟩
theorem qHh {X : Cx} {elt iter : Expr} {x : Str} {px : Pos} {scope : Scope} {cl : List (Str × Addr)} {pos : Pos} {wi : TI} {te : TE} (ys : List Str) (js : List Nat)
    {i : Nat} {y : Str} {py spos : Pos} (hN : X.N.Nodup) (hi' : X.N[i]? = some y) (hy : X.env.kindOf y = some .local) (hcm : X.calm = true) (hi : PI X (.Name x px) iter wi) (he : ∀ C s H fp, PE (jB X scope cl C (x :: ys) s H fp).nox elt te)
    (hclos : closureFor scope X.env = pure cl := by rfl)
    (hcl : cl.map (fun p => X.env.cells.lookup p.1) = cl.map (fun p => some p.2) := by rfl)
    (hcell : (scope.names.all fun p => p.2 != .cell) = true := by rfl) (hkind : scope.kind = .function := by rfl)
    (hnames : (scope.names.all fun p => p.2 != .local || scope.names.lookup p.1 == some .local) = true := by rfl)
    (hx : scope.names.lookup x = some .local := by rfl)
    (hhas : ((relabel scope X.env).names.all fun p => (p.2 != .cell && p.2 != .free) || (cl.lookup p.1).isSome) = true := by rfl)
    (hnd : (x :: ys).Nodup := by decide)
    (hjs : js.map (fun j => X.N[j]?) = ys.map some := by rfl)
    (hys : (ys.all fun y => ((relabel scope X.env).names.lookup y == some .cell || (relabel scope X.env).names.lookup y == some .free) && (X.env.scope.names.lookup y == some .cell || X.env.scope.names.lookup y == some .free)) = true := by rfl)
    (hs : ∀ x, foldedSetIterable iter X.env x = pure x := by intro _; rfl) (hsw : swapsWith (.ListComp elt [⟨.Name x px, iter, [], 0⟩] scope pos) (some (.Name y py)) spos.line X.env = pure true := by rfl) : PS X (.Assign [.Name y py] (.ListComp elt [⟨.Name x px, iter, [], 0⟩] scope pos) spos) (qNj (qJ6 js wi te) (qKo i)) := by
  intro pins s σ H D I h
  rw [exec_Assign_Name_used _ _ _ _ hsw]
  refine wpAny_bind (wpAny_standAt (wpAny_bind ?_))
  have key := qCg ys js hcm hi he hclos hcl hcell hkind hnames hx hhas hnd hjs hys hs (pos := pos) (fun v H' => D.nx (σ.set i (some v)) H') (some (assign (.Name y py) X.env)) (fun _ s' => SP X pins D .next s') I h fun v u H' s' C I' r q hm h0 h1 h2 h3 h4 => ?_
  · exact wpAny_bind (thn key fun _ s' hq => wpAny_pure (wpAny_pure hq))
  · refine wpAny_assign_Name (qC4 I' hN hi' (.inl hy) r (fun s2 I2 ch => ?_) (.inr hy))
    obtain ⟨b, sb, hb⟩ := ch
    obtain ⟨m, hm⟩ := hm
    have nb : C ≠ b := by
      rcases hb with rfl | hb
      · exact h1
      · exact Ne.symm (h3 y b hb)
    exact ⟨m, hm.sameBut sb nb, fun h' hsb => ⟨_, H', qA0 I2 hsb h0 h1 h2 h3 h4, q⟩⟩
def Nxt (n i : Nat) (P : Prop) : Prop := ∃ m', m' < n - i ∧ m' = n - (i + 1) ∧ i + 1 ≤ n ∧ P
theorem Nxt.mk {n i : Nat} {P : Prop} (h : i < n) (p : P) : Nxt n i P := ⟨n - (i + 1), by omega, rfl, h, p⟩
theorem ki {K : PySem.W.Frag} {a : Addr} {xs : List V} {js : List Nat} {te : TE} {σ : L2.St} {H : Hp} {Q : VK} (Pv : Nat → List V → Hp → Prop) (h0 : Pv 0 [] H) (hl : ∀ i acc H, i ≤ xs.length → Pv i acc H → SqL K H a xs ∧ acc.length < sizeLine)
    (hs : ∀ i x acc H, i < xs.length → xs[i]? = some x → Pv i acc H → te (some x :: kO js σ) H fun v H' => Nxt xs.length i (Pv (i + 1) (acc ++ [v]) H')) (hd : ∀ acc H, Pv xs.length acc H → ∀ D, H D = none → Q (.ref D) (upd H D (.lst acc))) : qA8 js te σ Q (Itl K a) H := by
  refine ⟨fun i m acc H => m = xs.length - i ∧ i ≤ xs.length ∧ Pv i acc H, ⟨xs.length, by simp, Nat.zero_le _, h0⟩, ?_⟩
  rintro i m acc H2 ⟨rfl, hi, p⟩
  obtain ⟨q, hz⟩ := hl i acc H2 hi p
  refine ⟨hz, ?_⟩
  by_cases hlt : i < xs.length
  · refine .inr ⟨⟨xs, xs[i], q, by simp [hlt]⟩, fun x H3 y => ?_⟩
    obtain ⟨e, y⟩ := y
    subst e
    exact hs i x acc _ hlt (y xs q) p
  · have e : i = xs.length := by omega
    subst e
    exact .inl ⟨⟨xs, q, Nat.le_refl _⟩, hd acc H2 p⟩
end L3
set_option maxHeartbeats 4000000
namespace L3
open PySem PySem.Spec PyProof.Rows L2
structure Def (K : PySem.W.Frag) (mg : Str → Option Value) (x : Str) (st : Stmt) (ps : List Str) (f : Addr) (fd : FuncData) : Prop where
  F : Fun K x x st f fd
  b : Binds K fd ps []
  m : mg x = some (.ref f)
section
variable {X : Cx}
theorem qM {k j : Nat} {x : Str} {st : Stmt} {ps : List Str} {f : Addr} {fd : FuncData} {sp : Sp} {e : Expr} {es : List Expr} {t : TA} {p pos : Pos} (D : Def X.K X.mg x st ps f fd) (F : FnOk X.prog X.w X.K X.mg X.base CX0 j f fd ps sp) (hr : Room k X.A) (hg : Gl X x) (ha : PA X (e :: es) t) (hj : j ≤ k := by decide)
    (hdb : (x == ("__debug__" : Str)) = false := by decide) (he : starEach (e :: es) X.env = (false, eval e X.env) :: starEach es X.env := by rfl) (hpl : (backTo pos (starEach es X.env)).any (·.1) = false := by rfl) :
    PE X (.Call (.Name x p) (e :: es) [] pos) (qKe sp [] E0 t) := qH1 F (hr.mono hj) hg D.m D.F.kp D.b .nil qN0 ha hdb he hpl
theorem qCb {x : Str} {n : String} {pos : Pos} (hg : Gl X x) (hm : X.mg x = none) (hv : bootBuiltins x = some (.type n)) (hn : x ≠ "__name__" := by decide) (hd : (x == ("__debug__" : Str)) = false := by decide) : PE X (.Name x pos) (tC (.ty n)) :=
  qKx hg hm hv rfl hn hd
end
theorem qKj {X : Cx} {K : PySem.W.Frag} (h : X.K = K) : IxR X (qNb K) := h ▸ qJ
def qNd (t : TS) : TS := fun D σ H => ∃ R : L2.St → Hp → Prop, t { D with nx := R } σ H ∧ ∀ σ' H', R σ' H' → D.nx σ' H'
theorem vE {X : Cx} {st : Stmt} {t : TS} (h : PS X st t) : PS X st (qNd t) := by
  rintro pins s σ H D I ⟨R, ht, hR⟩
  refine thn (h pins s σ H { D with nx := R } I ht) fun f s' q => ?_
  cases f with
  | next => obtain ⟨σ', H', I', r⟩ := q; exact ⟨σ', H', I', hR _ _ r⟩
  | brk => exact q
  | cont => exact q
  | ret u => exact q
theorem qC {H : Hp} {p : Addr} (h : H p = none) (o : HO) : Same H (upd H p o) := fun b u q => by rw [qd (qf q h)]; exact q
theorem Same.tup {K : PySem.W.Frag} {H H' : Hp} {a : Addr} {xs : List V} (e : Same H H') (h : SqT K H a xs) : SqT K H' a xs := by
  rcases h with (h | ⟨o, h⟩) | h
  · exact .inl (.inl (e _ _ h))
  · exact .inl (.inr ⟨o, e _ _ h⟩)
  · exact .inr h
end L3
set_option maxHeartbeats 4000000
namespace L3
open PySem PySem.Spec PyProof.Rows L2
section
variable {X : Cx}
def DE1 (K : PySem.W.Frag) (H : Hp) (x y : V) (b : Bool) : Prop := (xY x = true ∧ xY y = true ∧ b = eqV x y) ∨
  ∃ p q xs ys, x = .ref p ∧ y = .ref q ∧ SqT K H p xs ∧ SqT K H q ys ∧ xs.all xY = true ∧ ys.all xY = true ∧ b = qA6 xs ys ∧ (p = q → b = true)
theorem DE1.at {pins : List (Addr × Obj)} {σ : L2.St} {H : Hp} {s : Shared} {A : Around} {x y : V} {u v : Value} {b : Bool} (I : Inv X pins σ H s) (hu : A.units < cLine) (rx : RelV x u) (ry : RelV y v) (h : DE1 X.K H x y b) : SeqAt.EqAt A s u v b := by
  rcases h with ⟨f1, f2, rfl⟩ | ⟨p, q, xs, ys, rfl, rfl, h1, h2, f1, f2, rfl, hb⟩
  · exact qCf rx ry f1 f2
  · cases rx; cases ry
    by_cases e : p = q
    · subst e
      rw [hb rfl]
      exact SeqAt.EqAt.same _
    · obtain ⟨us, r1, t1, _⟩ := I.tuple h1
      obtain ⟨ws, r2, t2, _⟩ := I.tuple h2
      have l1 : us.toArray.size = xs.length := by rw [List.size_toArray]; exact r1.length.symm
      have l2 : ws.toArray.size = ys.length := by rw [List.size_toArray]; exact r2.length.symm
      have := SeqAt.EqAt.of_refs e (SeqAt.RcAt.tuples t1 t2 hu (vP (A := A.in1) (s := s) r1 r2 f1 f2))
      rw [l1, l2] at this
      exact this
end
end L3
set_option maxHeartbeats 4000000
namespace L3
open PySem PySem.Spec PyProof.Rows L2
abbrev EC := Value × Option Addr
def zh (h : Heap) (e : Addr) (C : EC) (hd : Option Addr) : Prop :=
  ∃ (vs : Array Value) (sl : Array (Option Value)), h.get? e = some { cls := C.1, dict := C.2, data := .fields vs, slots := sl } ∧
    match hd with
    | none => vs[1]? = some .none
    | some T => vs[1]? = some (.ref T) ∧ T ≠ e ∧ ∃ oT ts m, h.get? T = some oT ∧ oT.data = .fields ts ∧ ts[3]? = some m
structure Noted (fs : List Addr) (e : Addr) (hd : Option Addr) (C : EC) (h h' : Heap) : Prop where
  keep : ∀ b o, h.get? b = some o → b ∉ fs → b ≠ e → some b ≠ hd → h'.get? b = some o
  slot : ∀ b o, h.get? b = some o → b ∈ fs → b ≠ e → some b ≠ hd → ∃ sl, h'.get? b = some { o with slots := sl }
  ent : ∃ T, (h.get? T = none ∨ hd = some T) ∧ zh h' e C (some T)
theorem Noted.before {fs : List Addr} {e T : Addr} {C : EC} {h h1 h' : Heap} (x : Noted fs e none C h1 h') (k : ∀ b, b ≠ T → h1.get? b = h.get? b) (t : ∃ o, h1.get? T = some o) : Noted fs e (some T) C h h' := by
  refine ⟨fun b o q hf he ht => x.keep b o ?_ hf he (by simp), fun b o q hf he ht => x.slot b o ?_ hf he (by simp), ?_⟩
  · rw [k b (fun z => ht (by rw [z]))]; exact q
  · rw [k b (fun z => ht (by rw [z]))]; exact q
  · obtain ⟨T', n | n, r⟩ := x.ent
    · refine ⟨T', .inl ?_, r⟩
      rw [← k T' (fun z => ?_)]; exact n
      obtain ⟨o, q⟩ := t
      rw [z, q] at n; cases n
    · cases n
section
variable {M : Model} {A : Around} {E : Value → Shared → Prop} {s : Shared}
theorem Noted.then {fs : List Addr} {e T : Addr} {hd : Option Addr} {C : EC} {h h1 h2 : Heap} (x : Noted fs e hd C h h1) (hT : h.get? T = none ∨ hd = some T) (y : Noted fs e (some T) C h1 h2) : Noted fs e hd C h h2 := by
  have nt : ∀ b o, h.get? b = some o → some b ≠ hd → (some b : Option Addr) ≠ some T := fun b o q hb z => by
    cases z
    rcases hT with n | n
    · rw [q] at n; cases n
    · exact hb n.symm
  have n1 : ∀ T', h1.get? T' = none → T' ≠ e → some T' ≠ hd → h.get? T' = none := fun T' n he ht => by
    cases q : h.get? T' with
    | none => rfl
    | some o =>
      by_cases hs : T' ∈ fs
      · obtain ⟨sl, z⟩ := x.slot T' o q hs he ht
        rw [n] at z; cases z
      · have z := x.keep T' o q hs he ht
        rw [n] at z; cases z
  refine ⟨fun b o q hf he ht => y.keep b o (x.keep b o q hf he ht) hf he (nt b o q ht), fun b o q hf he ht => ?_, ?_⟩
  · obtain ⟨sl, z⟩ := x.slot b o q hf he ht
    obtain ⟨sl', z'⟩ := y.slot b _ z hf he (nt b o q ht)
    exact ⟨sl', z'⟩
  · obtain ⟨T', n, r⟩ := y.ent
    refine ⟨T', ?_, r⟩
    rcases n with n | n
    · by_cases hh : hd = some T'
      · exact .inr hh
      · refine .inl (n1 T' n (fun z => ?_) (Ne.symm hh))
        obtain ⟨vs, sl, q, r1, nT, _⟩ := r
        exact nT z
    · cases n
      exact hT
theorem qCi {base : Heap} {env : Env} {outer : List Env} {L e : Addr} {C : EC} {head : Value} {vs : Array Value} {sl : Array (Option Value)} {had : Bool} {Q : Unit → Shared → Prop}
    (fr : A.frames = some (env :: outer)) (ff : s.heap.FunFrames base (env :: outer)) (ef : env.frame = some L) (re : s.heap.get? e = some { cls := C.1, dict := C.2, data := .fields vs, slots := sl }) (v1 : 1 < vs.size)
    (k : ∀ h', Noted (frs (env :: outer)) e none C s.heap h' → Q () { s with heap := h' }) :
    wpAny M A (do let a ← frameOf env; let pl ← entryPlaceOf L had; let b ← EntryCells.newEntry head a .none (rawInt L) .none pl; setField (.ref e) 1 b) Q E s := by
  have efs : e ∉ frs (env :: outer) := fun z => by
    obtain ⟨_, o, q, nf⟩ := ff.mem z
    rw [re] at q; cases q
    exact nf vs rfl
  refine wpAny_bind (wpAny_frameOf_fun fr ff ef fun g so => ?_)
  refine wpAny_bind (wpAny_entryPlaceOf fun pl ip => ?_)
  unfold EntryCells.newEntry newFields
  refine wpAny_bind (wpAny_newObj_type ?_ (ip.sizeOk5 _ _ _ _ _))
  generalize hN : ({ cls := .type "traceback", dict := none, data := .fields ([head, .ref L, .none, rawInt L, .none] ++ (if pl.isEmpty then List.replicate 6 Value.none else pl)).toArray } : Obj) = N
  have Nd : N.data = .fields ([head, .ref L, .none, rawInt L, .none] ++ (if pl.isEmpty then List.replicate 6 Value.none else pl)).toArray := by rw [← hN]
  have q1 : g.get? e = some { cls := C.1, dict := C.2, data := .fields vs, slots := sl } := (so.2.1 e efs).trans re
  have q2 := Heap.get?_push_of_some (h := g) N q1
  have ne : g.objs.size ≠ e := Nat.ne_of_gt (Heap.lt_size q1)
  refine wpAny_setField q2 rfl v1 (k _ ?_)
  have q3 := Heap.get?_update_self (Obj.mapFields (·.setIfInBounds 1 (Value.ref g.objs.size))) q2 rfl
  have nf : N.isFreed = false := Obj.isFreed_of_fields Nd
  have t3 : ((g.push N).update e (Obj.mapFields (·.setIfInBounds 1 (Value.ref g.objs.size)))).get? g.objs.size = some N :=
    (Heap.get?_update_other (g.push N) _ (Ne.symm ne)).trans (Heap.get?_push_size g nf)
  have oth : ∀ b o, b ≠ e → g.get? b = some o → ((g.push N).update e (Obj.mapFields (·.setIfInBounds 1 (Value.ref g.objs.size)))).get? b = some o := fun b o hb q => by
    rw [Heap.get?_update_other _ _ (Ne.symm hb)]
    exact Heap.get?_push_of_some _ q
  refine ⟨fun b o q hf he _ => oth b o he ((so.2.1 b hf).trans q), fun b o q hf he _ => ?_, g.objs.size, .inl ?_, vs.setIfInBounds 1 (.ref g.objs.size), sl, q3, by simp [v1], ne, N, _, rawInt L, t3, Nd, ?_⟩
  · obtain ⟨sl', q'⟩ := so.2.2 b o q
    exact ⟨sl', oth b _ he q'⟩
  · rw [so.1]
    exact Heap.get?_none_of_le (Nat.le_refl _)
  · simp
theorem qEy {base : Heap} {env : Env} {outer : List Env} {L e : Addr} {C : EC} {hd : Option Addr} {Q : Unit → Shared → Prop}
    (fr : A.frames = some (env :: outer)) (ff : s.heap.FunFrames base (env :: outer)) (ef : env.frame = some L) (re : zh s.heap e C hd)
    (k : ∀ h', Noted (frs (env :: outer)) e hd C s.heap h' → Q () { s with heap := h' }) : wpAny M A (noteFrame (.ref e) env) Q E s := by
  have re0 := re
  obtain ⟨vs, sl, q, r⟩ := re
  unfold noteFrame
  simp only [ef]
  cases hd with
  | none =>
    refine wpAny_bind (wpAny_field q rfl r ?_)
    rw [if_neg (by decide)]
    exact qCi fr ff ef q (Array.getElem?_eq_some_iff.mp r).1 k
  | some T =>
    obtain ⟨r1, nT, oT, ts, m, qT, dT, r3⟩ := r
    refine wpAny_bind (wpAny_field q rfl r1 ?_)
    rw [if_pos (by simp)]
    refine wpAny_bind (wpAny_field qT dT r3 ?_)
    by_cases hm : (m == rawInt L) = true
    · rw [if_pos hm]
      exact wpAny_pure (k s.heap ⟨fun b o q _ _ _ => q, fun b o q _ _ _ => ⟨o.slots, q⟩, T, .inr rfl, re0⟩)
    rw [if_neg hm]
    refine wpAny_bind (wpAny_setField qT dT (Array.getElem?_eq_some_iff.mp r3).1 ?_)
    have oth : ∀ b, b ≠ T → (s.heap.update T (Obj.mapFields (·.setIfInBounds 3 Value.none))).get? b = s.heap.get? b := fun b z => Heap.get?_update_other _ _ (Ne.symm z)
    have qT' := Heap.get?_update_self (Obj.mapFields (·.setIfInBounds 3 Value.none)) qT (Obj.isFreed_of_fields (Obj.data_mapFields dT _))
    have nf : ∀ b o, s.heap.get? b = some o → (∀ vs, o.data ≠ .fields vs) → b ≠ T := fun b o z n w => by
      rw [w, qT] at z; cases z
      exact n ts dT
    refine qCi (s := { s with heap := s.heap.update T (Obj.mapFields (·.setIfInBounds 3 Value.none)) }) fr (ff.of_keeps fun b o z n => ⟨o, (oth b (nf b o z n)).trans z, rfl⟩) ef ((oth e (Ne.symm nT)).trans q) (Array.getElem?_eq_some_iff.mp r1).1 fun h' x => ?_
    exact k h' (x.before oth ⟨_, qT'⟩)
theorem qAl {e T : Addr} {C : EC} {fo : Option Addr} {Q : Unit → Shared → Prop} (re : zh s.heap e C (some T))
    (k : ∀ h', (∀ fs, Noted fs e (some T) C s.heap h') → Q () { s with heap := h' }) : wpAny M A (setFlight (.ref e) fo) Q E s := by
  obtain ⟨vs, sl, q, r1, nT, oT, ts, m, qT, dT, r3⟩ := re
  unfold setFlight
  refine wpAny_bind (wpAny_field q rfl r1 ?_)
  rw [if_pos (by simp)]
  have oth : ∀ b, b ≠ T → (s.heap.update T (Obj.mapFields (·.setIfInBounds 3 (fo.elim Value.none fun f => rawInt f)))).get? b = s.heap.get? b := fun b z => Heap.get?_update_other _ _ (Ne.symm z)
  refine wpAny_setField qT dT (Array.getElem?_eq_some_iff.mp r3).1 (k _ fun fs => ⟨fun b o q _ _ z => ?_, fun b o q _ _ z => ⟨o.slots, ?_⟩, T, .inr rfl, ?_⟩)
  · rw [oth b fun w => z (by rw [w])]; exact q
  · rw [oth b fun w => z (by rw [w])]; exact q
  · refine ⟨vs, sl, (Heap.get?_update_other _ _ nT).trans q, r1, nT, _, _, fo.elim Value.none fun f => rawInt f, Heap.get?_update_self _ qT (Obj.isFreed_of_fields (Obj.data_mapFields dT _)), Obj.data_mapFields dT _, ?_⟩
    have h3 := (Array.getElem?_eq_some_iff.mp r3).1
    simp [h3]
theorem zt {e T : Addr} {C : EC} {Q : Unit → Shared → Prop} (re : zh s.heap e C (some T))
    (k : ∀ h', (∀ fs, Noted fs e (some T) C s.heap h') → Q () { s with heap := h' }) : wpAny M A (setFlight (.ref e) none) Q E s := qAl re k
theorem qEl {base : Heap} {env : Env} {outer : List Env} {L e : Addr} {C : EC} {hd : Option Addr} {Q : Unit → Shared → Prop}
    (fr : A.frames = some (env :: outer)) (ff : s.heap.FunFrames base (env :: outer)) (ef : env.frame = some L) (re : zh s.heap e C hd)
    (k : ∀ h', Noted (frs (env :: outer)) e hd C s.heap h' → Q () { s with heap := h' }) : wpAny M A (noteFrame (.ref e) env) (fun _ s' => wpAny M A (setFlight (.ref e) none) Q E s') E s := by
  refine qEy fr ff ef re fun h1 N1 => ?_
  obtain ⟨T, hT, rT⟩ := N1.ent
  exact zt (s := { s with heap := h1 }) rT fun h2 N2 => k h2 (N1.then hT (N2 _))
theorem qIo {base : Heap} {env : Env} {outer : List Env} {L e : Addr} {C : EC} {hd : Option Addr} {E2 : Value → Shared → Prop}
    (fr : A.frames = some (env :: outer)) (ff : s.heap.FunFrames base (env :: outer)) (ef : env.frame = some L) (re : zh s.heap e C hd)
    (k : ∀ h', Noted (frs (env :: outer)) e hd C s.heap h' → E2 (.ref e) { s with heap := h' }) : notedBy M A env (cameBackBy M A env E2) (.ref e) s := by
  refine qEy fr ff ef re fun h1 N1 => ?_
  obtain ⟨T, hT, rT⟩ := N1.ent
  obtain ⟨vs, sl, q, r1, _⟩ := id rT
  show wpAny M A _ _ _ _
  refine wpAny_bind (wpAny_field (s := { s with heap := h1 }) q rfl r1 ?_)
  rw [if_neg (by simp)]
  exact qAl (s := { s with heap := h1 }) rT fun h2 N2 => k h2 (N1.then hT (N2 _))
end
end L3
set_option maxHeartbeats 4000000
namespace L3
open PySem PySem.Spec PyProof.Rows L2
theorem qJ0 {P : Program} {w : World} {H : Hp} {h : Heap} {a : Addr} {o : HO} (x : ObjOk P w H h a o) : ∃ ob, h.get? a = some ob := by
  cases o with
  | lst xs => obtain ⟨_, _, _, _, e⟩ := x; exact ⟨_, e⟩
  | tup xs => obtain ⟨_, _, _, ob, e, _⟩ := x; exact ⟨ob, e⟩
  | dK kvs => obtain ⟨_, _, _, _, o, _, _, e, _⟩ := x; exact ⟨_, e⟩
  | dT kvs => obtain ⟨_, _, _, _, o, _, _, e, _⟩ := x; exact ⟨_, e⟩
  | set S n => obtain ⟨o, _, _, _, e, _⟩ := x; exact ⟨_, e⟩
  | ins C dx fs => obtain ⟨_, _, _, e, _⟩ := x; exact ⟨_, e⟩
  | own y => exact x
  | xd fs => obtain ⟨_, ⟨_, _, _, e, _⟩, _⟩ := x; exact ⟨_, e⟩
  | rng lo hi => obtain ⟨_, _, _, e⟩ := x; exact ⟨_, e⟩
  | frz ob u => obtain ⟨e, _⟩ := x; exact ⟨_, e⟩
  | tbl ps => exact ⟨_, x⟩
  | met f y => exact ⟨_, x⟩
  | ext φ => exact x.2.1
def qHg (h₀ : Heap) (H : Hp) (ps : List (Addr × Obj)) (e : Addr) : Prop := h₀.get? e = none ∧ H e = none ∧ ∀ p ∈ ps, p.1 ≠ e
def qJk (h₀ : Heap) (H : Hp) (ps : List (Addr × Obj)) (h : Heap) (e : Addr) (C : EC) : Prop :=
  qHg h₀ H ps e ∧ ∃ hd, zh h e C hd ∧ ∀ T, hd = some T → qHg h₀ H ps T
def CXR (P : Program) (w : World) : CXT := fun outer H s E e s' => ∃ ea C H', e = .ref ea ∧ s'.os = s.os ∧ AllBare s'.gens ∧ Un (frs outer) [] H H' s.heap s'.heap ∧ HOk P w H' s'.heap ∧ qJk s.heap H' [] s'.heap ea C ∧ E C.1 C.2 H'
def XE (X : Cx) (Ex : Value → Option Addr → Hp → Prop) : Value → Shared → Prop := fun e s' => ∃ ea C σ H', e = .ref ea ∧ Inv X [] σ H' s' ∧ qJk X.s₀.heap H' X.pn s'.heap ea C ∧ Ex C.1 C.2 H'
section
variable {X : Cx} {σ : L2.St} {H : Hp} {s : Shared}
theorem xT {e : Addr} {hd : Option Addr} {C : EC} {h' : Heap} (I : Inv X [] σ H s) (hex : X.ex = []) (re : zh s.heap e C hd) (n1 : qHg X.s₀.heap H X.pn e) (n3 : ∀ T, hd = some T → qHg X.s₀.heap H X.pn T)
    (N : Noted (frs X.stack) e hd C s.heap h') : Inv X [] σ H { s with heap := h' } ∧ qJk X.s₀.heap H X.pn h' e C := by
  have B := I.base
  rw [hex] at B
  have ne : ∀ b o, X.s₀.heap.get? b = some o → b ≠ e ∧ some b ≠ hd ∧ b ≠ X.env.locals := fun b o q => by
    refine ⟨fun z => ?_, fun z => ?_, Nat.ne_of_lt (Nat.lt_of_lt_of_le (Heap.lt_size q) I.ok.above)⟩
    · rw [z, n1.1] at q; cases q
    · rw [(n3 b z.symm).1] at q; cases q
  have nin : ∀ b, b ∉ ([] : List Addr) := fun b z => nomatch z
  have nfl : ∀ b o, s.heap.get? b = some o → (∀ vs, o.data ≠ .fields vs) → b ≠ e ∧ some b ≠ hd := fun b o q nf => by
    obtain ⟨vs, sl, qe, r⟩ := re
    refine ⟨fun z => ?_, fun z => ?_⟩
    · rw [z, qe] at q; cases q
      exact nf vs rfl
    · subst z
      obtain ⟨_, _, oT, ts, _, qT, dT, _⟩ := r
      rw [qT] at q; cases q
      exact nf ts dT
  have up : ∀ b o, s.heap.get? b = some o → b ≠ e → some b ≠ hd → ∃ sl, h'.get? b = some { o with slots := sl } := fun b o q z1 z2 => by
    by_cases hs : b ∈ frs X.stack
    · exact N.slot b o q hs z1 z2
    · exact ⟨o.slots, N.keep b o q hs z1 z2⟩
  have un : Un X.fs [] X.H₀ H X.s₀.heap h' := by
    refine ⟨fun b o q n hb hx => ?_, fun b o q n hb hx => ?_, fun b o q n hx => B.free b o q n hx, fun b o q hx => ?_, B.tups, B.frzs, B.tbls⟩
    · obtain ⟨z1, z2, z3⟩ := ne b o q
      refine N.keep b o (B.keep b o q n hb hx) (fun z => ?_) z1 z2
      rcases List.mem_cons.mp (I.stkSub b z) with w | w
      · exact z3 w
      · exact hb w
    · obtain ⟨z1, z2, z3⟩ := ne b o q
      obtain ⟨sl, q1⟩ := B.slot b o q n hb hx
      obtain ⟨sl', q2⟩ := up b _ q1 z1 z2
      exact ⟨sl', q2⟩
    · obtain ⟨z1, z2, z3⟩ := ne b o q
      obtain ⟨o', q1⟩ := B.there b o q hx
      obtain ⟨sl', q2⟩ := up b _ q1 z1 z2
      exact ⟨_, q2⟩
  have hok : HOk X.prog X.w H h' := fun a u q => by
    have key : ∀ c, H c = none → ¬ (c = a ∨ H c = some (.own a)) := fun c z w => by
      rcases w with w | w
      · rw [w, q] at z; cases z
      · rw [z] at w; cases w
    exact (I.hok a u q).stay (fun c v hc z => N.keep c v z (fun w => key c (I.stkFree c w) hc) (fun w => key c (by rw [w]; exact n1.2.1) hc) fun w => key c (n3 c w.symm).2.1 hc) (fun _ z => z) fun _ _ z => z
  have cellK : ∀ c v, s.heap.IsCell c v → h'.IsCell c v := fun c v ⟨o, q, d⟩ => by
    obtain ⟨z1, z2⟩ := nfl c o q fun vs w => by rw [d] at w; cases w
    obtain ⟨sl, q'⟩ := up c o q z1 z2
    exact ⟨_, q', d⟩
  have I' : Inv X [] σ H { s with heap := h' } := by
    refine ⟨I.ok, I.os, I.bare, by rw [hex]; exact un, ?_, fun y c e => ?_, I.free, I.freeC, fun p hp => ?_, hok, I.len⟩
    · obtain ⟨m, ⟨o, es, ep, ho, hd', r⟩, hl⟩ := I.loc
      obtain ⟨z1, z2⟩ := nfl _ o ho fun vs w => by rw [hd'] at w; cases w
      obtain ⟨sl, q'⟩ := up _ o ho z1 z2
      refine ⟨m, ⟨_, es, ep, q', hd', r⟩, fun i x v e1 e2 e3 => ?_⟩
      obtain ⟨u, r, l⟩ := hl i x v e1 e2 e3
      refine ⟨u, r, ?_⟩
      rcases l with l | ⟨k, c, ec, z⟩
      · exact .inl l
      · exact .inr ⟨k, c, ec, cellK c _ z⟩
    · obtain ⟨v, z⟩ := I.cell y c e
      exact ⟨v, cellK c v z⟩
    · obtain ⟨q, n, nl, nf, d⟩ := I.pin p hp
      have hp' : p ∈ X.pn := by simpa using hp
      refine ⟨N.keep p.1 p.2 q (fun z => ?_) (n1.2.2 p hp') fun z => (n3 p.1 z.symm).2.2 p hp' rfl, n, nl, nf, d⟩
      rcases List.mem_cons.mp (I.stkSub p.1 z) with w | w
      · exact nl w
      · exact nf w
  refine ⟨I', n1, ?_⟩
  obtain ⟨T, nT, r⟩ := N.ent
  refine ⟨some T, r, fun T' e' => ?_⟩
  cases e'
  rcases nT with nT | nT
  rotate_left
  · exact n3 T nT
  refine ⟨?_, ?_, fun p hp z => ?_⟩
  · cases q : X.s₀.heap.get? T with
    | none => rfl
    | some o =>
      obtain ⟨o', z⟩ := B.there T o q (nin T)
      rw [nT] at z; cases z
  · cases q : H T with
    | none => rfl
    | some u =>
      obtain ⟨o', z⟩ := qJ0 (I.hok T u q)
      rw [nT] at z; cases z
  · have q := (I.pin p (List.mem_append_left _ hp)).1
    rw [z, nT] at q; cases q
end
theorem qNa {X : Cx} {Ex : Value → Option Addr → Hp → Prop} {L : Addr} {env : Env} {outer : List Env} (hst : X.stack = env :: outer) (he : X.env = env) (hf : env.frame = some L) (hex : X.ex = []) : PassesOwn (model X.prog X.w) X.A X.env (XE X Ex) := by
  rintro e s' ⟨ea, C, σ, H', rfl, I, ⟨n1, hd, r, n3⟩, z⟩
  subst he
  have fr := I.ok.frames
  rw [hst] at fr
  have ff := I.stack
  rw [hst] at ff
  refine qIo fr ff hf r fun h' N' => ?_
  rw [← hst] at N'
  obtain ⟨I', x'⟩ := xT I hex r n1 n3 N'
  exact ⟨ea, C, σ, H', rfl, I', x', z⟩
theorem qK3 {X : Cx} {E : Value → Shared → Prop} {st : List Stmt} {t : TS} (h : PSs (X.wish E) st t) (hE : ∀ e s', E e s' → X.xe e s') : PSs X st t := fun pins s σ H D I hw =>
  wpAny_mono (h pins s σ H D (I.wish E) hw) (fun _ _ q => q.unwish) hE
section
variable {P : Program} {w : World} {K : PySem.W.Frag} {mg : Str → Option Value} {base : Heap}
theorem okX {x qual : Str} {st : Stmt} {f : Addr} {fd : FuncData} {N ps : List Str} {k : Nat} {sp : Sp} (F : Fun K x qual st f fd) (S : qQ N ps (qF st)) (len : ∀ vs H Q E, sp vs H Q E → vs.length = ps.length)
    (hbody : ∀ (cdv : Value) (A : Around) (outer : List Env) (s : Shared) (H : Hp) (vs : List V) (Q : VK) (E : XK), Room k (A.deeper (envOfC qual (qF st) s.heap.objs.size f cdv)) → sp vs H Q E →
      ∃ t, PSs ((qIe (CXR P w) P w K mg base N qual (qF st) f cdv A outer s H E).wish (XE (qIe (CXR P w) P w K mg base N qual (qF st) f cdv A outer s H E) E)) (qN st) t ∧
        t { nx := fun _ H' => Q .non H', rt := Q } (qAs N vs) H) : FnOk P w K mg base (CXR P w) (k + 1) f fd ps sp := by
  obtain ⟨oc, od, kV, doc, pm, an, cdv, ct, osl, rfl, lk, hcd⟩ := F.ex
  refine qMi lk hcd S len fun A outer s H vs Q E hr hsp => ?_
  obtain ⟨t, h, q⟩ := hbody cdv A outer s H vs Q E hr hsp
  refine ⟨t, qK3 h ?_, q⟩
  rintro e s' ⟨ea, C, σ, H', rfl, I, ⟨n1, hd, r, n3⟩, z⟩
  show wpAny _ _ (leaving _ _) _ _ _
  unfold leaving
  refine wpAny_bind (qEl I.ok.frames I.stack rfl r fun h' N' => ?_)
  obtain ⟨I', x'⟩ := xT I rfl r n1 n3 N'
  exact ⟨ea, C, H', rfl, I.os, I.bare, I'.base, I'.hok, x', z⟩
end
theorem qNo {X : Cx} {Ex : Value → Option Addr → Hp → Prop} (hex : X.ex = []) : qEt (CXR X.prog X.w) (X.wish (XE X Ex)) Ex := by
  rintro pins σ H s e s' I ⟨ea, C, H', rfl, os, bare, un, hok, ⟨n1, hd, r, n3⟩, q⟩
  have I0 := I.unwish
  have I1 : Inv X pins σ H' s' := I0.call' (ch := []) os un hok bare fun b z => nomatch z
  have old : ∀ b, s.heap.get? b = none → X.s₀.heap.get? b = none := fun b z => by
    cases w : X.s₀.heap.get? b with
    | none => rfl
    | some o =>
      obtain ⟨o', w'⟩ := I0.base.there b o w (by rw [hex]; intro y; cases y)
      rw [z] at w'; cases w'
  have pn : ∀ b, s.heap.get? b = none → ∀ p ∈ X.pn, p.1 ≠ b := fun b z p hp w => by
    have q := (I0.pin p (List.mem_append_left _ hp)).1
    rw [w, z] at q; cases q
  exact ⟨ea, C, σ, H', rfl, I1.pins_of (pins' := []) fun p hp => (nomatch hp), ⟨⟨old _ n1.1, n1.2.1, pn _ n1.1⟩, hd, r, fun T e => ⟨old _ (n3 T e).1, (n3 T e).2.1, pn _ (n3 T e).1⟩⟩, q⟩
theorem jo {X : Cx} {Ex : Value → Option Addr → Hp → Prop} {k j : Nat} {x : Str} {st : Stmt} {ps : List Str} {f : Addr} {fd : FuncData} {sp : Sp} {e : Expr} {es : List Expr} {t : TA} {p pos : Pos} (D : Def X.K X.mg x st ps f fd) (F : FnOk X.prog X.w X.K X.mg X.base (CXR X.prog X.w) j f fd ps sp) (hr : Room k X.A) (hg : Gl X x)
    (ha : PA (X.wish (XE X Ex)) (e :: es) t) (hj : j ≤ k := by decide) (hex : X.ex = [] := by rfl)
    (hdb : (x == ("__debug__" : Str)) = false := by decide) (he : starEach (e :: es) X.env = (false, eval e X.env) :: starEach es X.env := by rfl) (hpl : (backTo pos (starEach es X.env)).any (·.1) = false := by rfl) :
    PE (X.wish (XE X Ex)) (.Call (.Name x p) (e :: es) [] pos) (qKe sp [] Ex t) :=
  qH1 (X := X.wish (XE X Ex)) (CX := CXR X.prog X.w) F (hr.mono hj) hg D.m D.F.kp D.b .nil (qNo hex) ha hdb he hpl
def qKw : List Value := [.type "ValueError", .type "Exception", .type "BaseException", .type "object"]
def OwnX (K : PySem.W.Frag) (C : Addr) : Prop := PySem.W.excIn K C qKw "ValueError.__new__" = true
theorem qKp {K : PySem.W.Frag} {h : Heap} {mg : Str → Option Value} {x : Str} {C : Addr} (X : K.In h) (b : mg x = some (.ref C)) (q : OwnX K C) : OwnCls x C qKw "ValueError.__new__" mg h := by
  refine ⟨b, ?_⟩
  unfold OwnX PySem.W.excIn at q
  split at q
  · rename_i dd cd sl ho
    split at q
    · rename_i C' bm k0 k1 k2 k3 n k5 hm hs
      simp only [Bool.and_eq_true, beq_iff_eq, Bool.not_eq_true'] at q
      obtain ⟨⟨⟨⟨⟨eC, en⟩, del⟩, ht⟩, ok⟩, ni⟩ := q
      subst eC en
      obtain ⟨nm, bs, mro, ns, qn, hd, sn, sub, ab, col, dl⟩ := cd
      dsimp only at hm del ok ni
      subst hm del
      have hsl : sl = #[k0, k1, k2, k3, some (.builtin "ValueError.__new__"), k5] := by
        obtain ⟨l⟩ := sl
        simp only at hs
        rw [hs]
      subst hsl
      exact ⟨bm, ns, nm, qn, bs, hd, sn, sub, ab, col, dd, k0, k1, k2, k3, k5, _, X _ _ ho, .of_isNs (PySem.W.isNs_of_in X ok), PySem.W.nsMap_none_of_in X ok ni, PySem.W.tail_of_in X ht⟩
    · cases q
  · cases q
def qL7 (C : Addr) (Ex : Value → Option Addr → Hp → Prop) (t : TA) : TS := fun _ σ H => t σ H fun vs H1 => vs.length ≤ sizeLine ∧ Ex (.ref C) none H1
theorem jE {X : Cx} {Ex : Value → Option Addr → Hp → Prop} {x : Str} {C : Addr} {np cpos pos : Pos} {e₀ : Expr} {rest : List Expr} {t : TA} (hcm : X.calm = true) (hg : Gl X x) (hm : X.mg x = some (.ref C)) (hx : OwnX X.K C) (ha : PA (X.wish (XE X Ex)) (e₀ :: rest) t)
    (he : starEach (e₀ :: rest) X.env = (false, eval e₀ X.env) :: starEach rest X.env := by rfl) (hpl : (backTo cpos (starEach rest X.env)).any (·.1) = false := by rfl) (hex : X.ex = [] := by rfl) (hdb : (x == ("__debug__" : Str)) = false := by decide) :
    PS (X.wish (XE X Ex)) (.Raise (some (.Call (.Name x np) (e₀ :: rest) [] cpos)) none pos) (qL7 C Ex t) := by
  intro pins s σ H D I h
  obtain ⟨tl, N, nm, q, bs, hdct, sn, sub, ab, col, dd, k0, k1, k2, k3, k5, mN, hC, hN, hni, T⟩ :=
    (qKp (X := I.ok.mod.kin) hm hx).obj
  refine wpAny_Raise_call_subT (bm := tl) (C := C) (N := N) (nm := nm) (q := q) (bs := bs) (hdct := hdct) (sn := sn) (sub := sub) (ab := ab) (col := col) (dd := dd) (k5 := k5) (k0 := k0) (k1 := k1) (k2 := k2) (k3 := k3)
    PySem.F.excBase_ValueError (mN := mN) (T.hasType PySem.F.excBase_ValueError.hasBase) (I.ok.hd hcm) (by rw [he]; show (false || (backTo cpos (starEach rest X.env)).any (·.1)) = false; rw [hpl]; rfl) hni (kM I hg hm ⟨rfl, ?_⟩ hdb)
  have z := ha cpos pins s σ H _ I h
  rw [show (X.wish (XE X Ex)).env = X.env from rfl] at z
  rw [he] at z ⊢
  refine Calls.evalArgs_plain (wpAny_mono z (fun us s2 w => ?_) fun _ _ y => y)
  obtain ⟨vs, H1, I1, r1, hl, ex⟩ := w
  have I1' := I1.unwish
  refine ⟨rfl, by rw [← r1.length]; exact hl, I1.bk _ _ hC, hN.keeps I1.bk, T.keeps I1.bk, fun h' e hmk => ?_⟩
  obtain ⟨tt, q1, q2, q3⟩ := hmk.there
  have I2 : Inv X pins σ H1 { s2 with heap := h' } := I1'.kept (t' := s2.toks) hmk.keeps
  refine ⟨e, (.ref C, none), σ, H1, rfl, I2.pins_of (pins' := []) fun p hp => (nomatch hp), ⟨⟨?_, ?_, fun p hp z => ?_⟩, none, ⟨_, _, q1, rfl⟩, fun T e' => nomatch e'⟩, ex⟩
  · cases w : X.s₀.heap.get? e with
    | none => rfl
    | some o =>
      obtain ⟨o', w'⟩ := I1'.base.there e o w (by rw [hex]; intro y; cases y)
      rw [hmk.new] at w'; cases w'
  · cases w : H1 e with
    | none => rfl
    | some u =>
      obtain ⟨o', w'⟩ := qJ0 (I1'.hok e u w)
      rw [hmk.new] at w'; cases w'
  · have q' := (I1'.pin p (List.mem_append_left _ hp)).1
    rw [z, hmk.new] at q'; cases q'
end L3
set_option maxHeartbeats 4000000
namespace L3
open PySem PySem.Spec PyProof.Rows L2
def pnX (X : Cx) (l : List (Addr × Obj)) : Cx := { X with pn := l }
def hdX (X : Cx) (ea : Addr) : Cx := { X with A := X.A.mark (some (.ref ea)), calm := false }
section
variable {X : Cx} {pins : List (Addr × Obj)} {σ : L2.St} {H : Hp} {s : Shared}
theorem qJx (I : Inv X pins σ H s) : Inv (pnX X (X.pn ++ pins)) [] σ H s := by
  obtain ⟨a1, a2, a3, a4, a5, a6, a7, a8, a9, a10, a11, a12, a13, a14, a15, a16, a17, a18⟩ := I.ok
  exact ⟨⟨a1, a2, a3, a4, a5, a6, a7, a8, a9, a10, a11, a12, a13, a14, a15, a16, a17, a18⟩, I.os, I.bare, I.base, I.loc, I.cell, I.free, I.freeC, fun p hp => I.pin p (by have z : p ∈ (X.pn ++ pins) ++ [] := hp; simpa using z), I.hok, I.len⟩
theorem xc (I : Inv (pnX X (X.pn ++ pins)) [] σ H s) : Inv X pins σ H s := by
  obtain ⟨a1, a2, a3, a4, a5, a6, a7, a8, a9, a10, a11, a12, a13, a14, a15, a16, a17, a18⟩ := I.ok
  exact ⟨⟨a1, a2, a3, a4, a5, a6, a7, a8, a9, a10, a11, a12, a13, a14, a15, a16, a17, a18⟩, I.os, I.bare, I.base, I.loc, I.cell, I.free, I.freeC, fun p hp => I.pin p (by show p ∈ (X.pn ++ pins) ++ []; simpa using hp), I.hok, I.len⟩
theorem qAe {ea : Addr} (I : Inv X pins σ H s) : Inv (hdX X ea) pins σ H s := by
  obtain ⟨a1, a2, a3, a4, a5, a6, a7, a8, a9, a10, a11, a12, a13, a14, a15, a16, a17, a18⟩ := I.ok
  exact ⟨⟨a1, a2, a3, a4, a5, a6, a7, a8, fun h => absurd (show false = true from h) Bool.false_ne_true, a10, a11, a12, a13, a14, a15, a16, a17, a18⟩, I.os, I.bare, I.base, I.loc, I.cell, I.free, I.freeC, I.pin, I.hok, I.len⟩
theorem kE {ea : Addr} (I : Inv (hdX X ea) pins σ H s) (hd : X.calm = true → X.A.handled = none) : Inv X pins σ H s := by
  obtain ⟨a1, a2, a3, a4, a5, a6, a7, a8, a9, a10, a11, a12, a13, a14, a15, a16, a17, a18⟩ := I.ok
  exact ⟨⟨a1, a2, a3, a4, a5, a6, a7, a8, hd, a10, a11, a12, a13, a14, a15, a16, a17, a18⟩, I.os, I.bare, I.base, I.loc, I.cell, I.free, I.freeC, I.pin, I.hok, I.len⟩
def kr (e : Addr) (C : EC) : HO := .ext fun h => ∃ (vs : Array Value) (sl : Array (Option Value)), h.get? e = some { cls := C.1, dict := C.2, data := .fields vs, slots := sl }
theorem kf {a : Addr} {C : EC} {hd : Option Addr} (I : Inv X [] σ H s) (_ : X.ex = []) (n : qHg X.s₀.heap H X.pn a) (r : zh s.heap a C hd) : Inv X [] σ (upd H a (kr a C)) s := by
  obtain ⟨vs, sl, q, _⟩ := r
  have B := I.base
  have ne : ∀ b o, X.s₀.heap.get? b = some o → b ≠ a := fun b o w z => by rw [z, n.1] at w; cases w
  refine ⟨I.ok, I.os, I.bare, ⟨B.keep, B.slot, fun b o w z hx => ?_, B.there, fun b xs w => ?_, fun b o u w => ?_, fun b ps w => ?_⟩, I.loc, I.cell, ?_, fun y c e => ?_, fun p hp => ?_, fun b u w => ?_, I.len⟩
  · rw [qd (ne b o w)]; exact B.free b o w z hx
  · have z := B.tups b xs w
    rw [qd (qf z n.2.1)]; exact z
  · have z := B.frzs b o u w
    rw [qd (qf z n.2.1)]; exact z
  · obtain ⟨more, z⟩ := B.tbls b ps w
    exact ⟨more, by rw [qd (qf z n.2.1)]; exact z⟩
  · obtain ⟨m, ⟨o, es, ep, ho, hd', _⟩, _⟩ := I.loc
    rw [qd (fun z => by rw [z, q] at ho; cases ho; cases hd')]
    exact I.free
  · obtain ⟨v, o, ho, hd'⟩ := I.cell y c e
    rw [qd (fun z => by rw [z, q] at ho; cases ho; cases hd')]
    exact I.freeC y c e
  · obtain ⟨w1, w2, w3⟩ := I.pin p hp
    have hp' : p ∈ X.pn := by simpa using hp
    rw [qd (n.2.2 p hp')]
    exact ⟨w1, w2, w3⟩
  · by_cases hb : b = a
    · subst hb
      rw [qB] at w
      cases w
      refine ⟨⟨vs, sl, q⟩, ⟨_, q⟩, fun h1 h2 z k => ?_⟩
      obtain ⟨vs', sl', z⟩ := z
      exact ⟨vs', sl', k _ z⟩
    · rw [qd hb] at w
      exact (I.hok b u w).stay (fun _ _ _ z => z) (fun c z => by rw [qd (qf z n.2.1)]; exact z) fun c xs z => by rw [qd (qf z n.2.1)]; exact z
theorem xU {M : Model} {A : Around} {E : Value → Shared → Prop} {i : Nat} {n : Str} {pos : Pos} {Q : Unit → Shared → Prop} (I : Inv X pins σ H s) (hN : X.N.Nodup) (hi : X.N[i]? = some n) (hl : X.env.scope.names.lookup n = some .local)
    (h : ∀ s', Inv X pins (σ.set i none) H s' → Q () s') : wpAny M A (do bindName X.env n .none; unbindBehindTheSuite X.env n pos) Q E s := by
  refine wpAny_bind (wpAny_bindName (zd (v := .non) I hN hi (.inl hl) rfl (fun s1 I1 => ?_) (.inr hl)))
  unfold unbindBehindTheSuite
  refine wpAny_onRaise ?_
  have hcls : (X.env.scope.kind == .class || (X.env.scope.kind == .module && X.env.locals != X.env.globals)) = false := by rw [I1.ok.kind]; rfl
  have hiσ : i < σ.length := by rw [I.len]; exact (List.getElem?_eq_some_iff.mp hi).1
  obtain ⟨m, hn, hlk⟩ := I1.loc
  obtain ⟨u, r, lk⟩ := hlk i n .non hi (by rw [List.getElem?_set_self hiσ]) (.inl hl)
  have hm : m n = some u := by
    rcases lk with ⟨_, z⟩ | ⟨z, _⟩
    · exact z
    · have hl' : X.env.kindOf n = some .local := hl
      rw [hl'] at z
      rcases z with z | z <;> cases z
  obtain ⟨oL, es, ep, hoL, hdL, _⟩ := id hn
  refine wpAny_unbindName_local hl hn hm hcls fun h' u' hn' hs => h _ ?_
  have B := I1.base
  have neL : ∀ b o, X.s₀.heap.get? b = some o → b ≠ X.env.locals := fun b o e => Nat.ne_of_lt (Nat.lt_of_lt_of_le (Heap.lt_size e) I1.ok.above)
  refine ⟨I1.ok, I1.os, I1.bare, ⟨fun b o e n hb hx => (hs.2 b (neL b o e)).trans (B.keep b o e n hb hx), fun b o e n hb hx => ?_, B.free, fun b o e hx => ?_, B.tups, B.frzs, B.tbls⟩, ⟨_, hn', fun j y v e1 e2 e3 => ?_⟩, fun y c e => ?_, I1.free, I1.freeC, fun p hp => ?_, fun b ob e => ?_, ?_⟩
  · obtain ⟨sl, z⟩ := B.slot b o e n hb hx
    exact ⟨sl, (hs.2 b (neL b o e)).trans z⟩
  · obtain ⟨o', z⟩ := B.there b o e hx
    exact ⟨o', (hs.2 b (neL b o e)).trans z⟩
  · have hj : j ≠ i := fun z => by
      subst z
      rw [List.getElem?_set_self hiσ] at e2
      cases e2
    rw [List.getElem?_set_ne (Ne.symm hj)] at e2
    obtain ⟨u2, r2, l2⟩ := hlk j y v e1 (by rw [List.getElem?_set_ne (Ne.symm hj)]; exact e2) e3
    refine ⟨u2, r2, ?_⟩
    rcases l2 with ⟨k, z⟩ | ⟨k, c, ec, z⟩
    · refine .inl ⟨k, ?_⟩
      have : y ≠ n := fun w => hj (qBq hN e1 (w ▸ hi))
      simp [this, z]
    · exact .inr ⟨k, c, ec, z.sameBut hs (I1.cne y c ec)⟩
  · obtain ⟨w', z⟩ := I1.cell y c e
    exact ⟨w', z.sameBut hs (I1.cne y c e)⟩
  · obtain ⟨e, n, ne, nf, d⟩ := I1.pin p hp
    exact ⟨(hs.2 p.1 ne).trans e, n, ne, nf, d⟩
  · refine (I1.hok b ob e).stay (fun c w' hc q => (hs.2 c fun z => ?_).trans q) (fun _ q => q) fun _ _ q => q
    have fr := I1.free
    rcases hc with hc | hc
    · rw [← hc, z, fr] at e; cases e
    · rw [z, fr] at hc; cases hc
  · have := I1.len
    simpa using this
end
def qF7 (D : qH7) (i : Option Nat) : qH7 :=
  let f : (L2.St → Hp → Prop) → L2.St → Hp → Prop := fun q σ H => match i with | some i => q (σ.set i none) H | none => q σ H
  { nx := f D.nx, rt := D.rt, bk := f D.bk, ct := f D.ct }
def qLx (i : Option Nat) (ea : Addr) (σ : L2.St) : L2.St := match i with | some i => σ.set i (some (.ref ea)) | none => σ
inductive qEs (X : Cx) : Option Str → Option Nat → Prop where
  | none : qEs X none none
  | some {n : Str} {i : Nat} (hi : X.N[i]? = some n) (hl : X.env.scope.names.lookup n = some .local) : qEs X (some n) (some i)
end L3
set_option maxHeartbeats 4000000
set_option maxRecDepth 100000
namespace L3
open PySem PySem.Spec PySem.Calls PyProof.Rows PySem.W
section
variable {prog : Program} {w : World} {A : Around} {E : Value → Shared → Prop} {K : Frag} {h : Heap} {g : Array GenState} {d : Drawn} {t : Nat} {os : OsState} {a D : Addr} {ox : Obj} {od : Option Obj}
structure ExcK (K : Frag) (D : Addr) : Prop where
  ga : findIn K (.ref D) "__getattribute__" = some (some (.builtin "BaseException.__getattribute__"))
  gt : findIn K (.ref D) "__getattr__" = some none
  ca : findIn K (.ref D) "__class__" = some (some (.builtin "object.__class__"))
  sg : specialIn K (.builtin "object.__class__") "__get__" = some (some (.builtin "getset_descriptor.__get__"))
  tk : takesIn K (.builtin "object.__class__") = some true
  mo : mroIn K D (.type "object") = some true
  mb : mroIn K D (.type "BaseException") = some true
theorem qHd {tk : Tok} {Q : Fin → Shared → Prop} (c : ExcK K D) (X : K.In h) (I : InstAt h a ox D od) (hq : Q (.done (.ret (.ref D))) ⟨h, g, d, t, os⟩) :
    wpAny (model prog w) A (Builtin.«object.__getattribute__» ⟨[.ref a, .str "__class__" tk], []⟩) Q E ⟨h, g, d, t, os⟩ := by
  have L0 := I.type (M := model prog w)
  have L1 := looks_findIn (M := model prog w) X c.ca
  have hf : findObj K D od "__class__" = some (.bind (.builtin "getset_descriptor.__get__") (.builtin "object.__class__")) := by
    have mo := c.mo
    unfold mroIn at mo
    unfold findObj
    cases e : clsIn K D with
    | none => rw [e] at mo; cases mo
    | some cd =>
      simp only [Option.bind_some, c.ca, c.sg, c.tk]
  have L2 := looks_find (M := model prog w) X I hf
  unfold Builtin.«object.__getattribute__»
  repeat (any_goals (first | assumption | (with_reducible refine wpAny_bind (L0.at ?_)) | (with_reducible refine wpAny_bind (L2.at ?_)) | wp_step))
  refine class_get (s := ⟨h, g, d, t, os⟩) (ox := ox) (od := od) X I c.mo ?_
  exact wpAny_pure hq
theorem qIt {tk : Tok} {R : Result → Shared → Prop} (c : ExcK K D) (X : K.In h) (I : InstAt h a ox D od) (hq : R (.ok (.ret (.ref D))) ⟨h, g, d, t, os⟩) :
    codeAny (model prog w) A (.call (.builtin "BaseException.__getattribute__") ⟨[.ref a, .str "__class__" tk], []⟩) R ⟨h, g, d, t, os⟩ := by
  refine codeAny_call_builtin F.attr_ValueError.ga.plain F.entry_bexc_ga ?_
  have bkd : builtinKind "BaseException.__getattribute__" = some .slot := by decide +kernel
  have hsp : splitId "BaseException.__getattribute__" = some ("BaseException", "__getattribute__") := by decide +kernel
  have ha := F.args_bexc_ga (.ref a) (.str "__class__" tk)
  have L0 := I.type (M := model prog w)
  have L1 : Looks (model prog w) h (isInstance (.ref a) (.type "BaseException")) true := L0.andThen (looks_mroIn X c.mb)
  simp only [checkBuiltinCall, bkd, hsp]
  refine wpAny_bind (L1.at ?_)
  repeat (first | assumption | (with_reducible refine qHd c X I ?_) | exact hq | wp_step)
theorem qLm {tk : Tok} {fill : Bool} {Q : Value → Shared → Prop} (c : ExcK K D) (X : K.In h) (I : InstAt h a ox D od) (hq : Q (.ref D) ⟨h, g, d, t, os⟩) :
    wpAny (model prog w) A (getAttrBy (.ref a) (.str "__class__" tk) fill) Q E ⟨h, g, d, t, os⟩ := by
  have L0 := I.type (M := model prog w)
  have L1 := looks_findIn (M := model prog w) X c.ga
  have L2 := looks_findIn (M := model prog w) X c.gt
  have f3 := F.attr_ValueError.ga.bind (.ref a)
  have no2 : (Value.builtin "BaseException.__getattribute__" == Value.builtin "object.__getattribute__") = false := by decide +kernel
  have no1 : (onTheHeap (Value.ref D) && Value.builtin "BaseException.__getattribute__" == Value.builtin "object.__getattribute__") = false := by rw [no2]; rfl
  repeat (any_goals (first | assumption | (with_reducible refine wpAny_bind (L0.at ?_)) | (with_reducible refine wpAny_bind (L1.at ?_)) | (with_reducible refine wpAny_bind (L2.at ?_)) | (with_reducible refine L1.at ?_) | (with_reducible refine L2.at ?_) | wp_step))
  refine qIt c X I ?_
  show wpAny _ _ (handedOut (.ref D)) Q E _
  exact wpAny_pure hq
theorem qI2 {Q : Option Value → Shared → Prop} (c : ExcK K D) (X : K.In h) (I : InstAt h a ox D od) (hq : Q (some (.ref D)) ⟨h, g, d, t + 1, os⟩) : wpAny (model prog w) A (getAttr? (.ref a) "__class__") Q E ⟨h, g, d, t, os⟩ := by
  unfold getAttr? getAttrBy?
  repeat (any_goals (first | assumption | with_reducible refine qLm c X I ?_ | wp_step))
theorem qE5 (c : ExcK K D) : KitX K (.ref a) (.ref D) (fun h => InstAt h a ox D od) where
  ty := fun _ _ _ I => I.type
  it := fun _ _ X _ => by
    have mo := c.mo
    unfold mroIn clsIn at mo
    split at mo
    · rename_i kls kdi kcd ksl kob
      intro A' Q' E' s' kp wq
      unfold isType loadHead
      exact wpAny_bind (wpAny_loadPart (kp _ _ (X _ _ kob)) (wpAny_pure wq))
    · cases mo
  ne := fun h tp dd its n sl X htp => by
    have mo := c.mo
    refine Bool.eq_false_iff.mpr fun same => ?_
    have here : D = tp := Value.ref.inj (beq_iff_eq.mp same)
    subst here
    unfold mroIn clsIn at mo
    split at mo
    · rename_i kls kdi kcd ksl kob
      have z := (X _ _ kob).symm.trans htp
      cases z
    · cases mo
  ca := fun {_ _ _ _ _ s} X I k => by
    obtain ⟨h, g, d, t, os⟩ := s
    exact qI2 c X I k
end
end L3
namespace L3
open PySem PySem.Spec PyProof.Rows L2
def OwnD (H : Hp) (od : Option Addr) : Prop := od = none ∨ ∃ dx fs, od = some dx ∧ H dx = some (.xd fs)
theorem OwnD.at {X : Cx} {pins : List (Addr × Obj)} {σ : L2.St} {H : Hp} {s : Shared} {e D : Addr} {od : Option Addr} {vs : Array Value} {sl : Array (Option Value)} (I : Inv X pins σ H s) (h : OwnD H od)
    (qe : s.heap.get? e = some { cls := .ref D, dict := od, data := .fields vs, slots := sl }) : ∃ o, PySem.W.InstAt s.heap e { cls := .ref D, dict := od, data := .fields vs, slots := sl } D o := by
  rcases h with rfl | ⟨dx, fs, rfl, hd⟩
  · exact ⟨none, qe, rfl, rfl, trivial⟩
  · obtain ⟨mA, ⟨o, es, ep, e', c⟩, r⟩ := I.hok dx _ hd
    exact ⟨some o, qe, rfl, rfl, e'⟩
theorem qC7 {X : Cx} : CallR X (.builtin "isinstance") (fun xs H Q => ∃ e D od c b, xs = [.ref e, c] ∧ H e = some (kr e (.ref D, od)) ∧ OwnD H od ∧ ExcK X.K D ∧
    ((∃ n, c = .ty n ∧ PySem.W.kitOne X.K (.ref D) (.type n) = some b) ∨ ∃ a, c = .ref a ∧ PySem.W.kitOne X.K (.ref D) (.ref a) = some b) ∧ Q (.bl b) H) := by
  intro pins s σ H xs us Q I r h
  obtain ⟨e, D, od, c, b, rfl, he, hod, hc, hk, q⟩ := h
  obtain ⟨u, u', rfl, rx, rc⟩ := qI9 r
  cases rx
  obtain ⟨⟨vs, sl, qe⟩, _⟩ := I.hok e _ he
  obtain ⟨oo, J⟩ := hod.at I qe
  rcases hk with ⟨n, rfl, hk⟩ | ⟨a, rfl, hk⟩
  · cases rc
    exact PySem.W.kia_one (qE5 hc) I.kIn J hk (fun z => nomatch z) fun tk => ⟨.bl b, H, I.tok _, rfl, q⟩
  · cases rc
    exact PySem.W.kia_one (qE5 hc) I.kIn J hk (fun z => nomatch z) fun tk => ⟨.bl b, H, I.tok _, rfl, q⟩
end L3
set_option maxHeartbeats 4000000
set_option maxRecDepth 100000
namespace L3
open PySem PySem.Spec PySem.Calls PySem.Builtin PySem.Builtin.ObjectAttr PyProof.Rows
def exOver (K : PySem.W.Frag) (C D : Addr) : Bool := (PySem.W.clsIn K C).any fun cd => cd.mro == .ref C :: .ref D :: qKw
section
variable {prog : Program} {w : World} {A : Around} {E : Value → Shared → Prop} {K : PySem.W.Frag} {s : Shared} {x C D : Addr} {vs : Array Value} {sl : Array (Option Value)} {R : Result → Shared → Prop}
open PySem.W in
theorem qHl {ox : Obj} {od : Option Obj} {name : Str} {tk : Tok} {v : Value} (X : K.In s.heap) (I : InstAt s.heap x ox C od) (hp : exOver K C D = true) (ht : takerIn K C name = some none)
    (h : ∀ b, wpAny (model prog w) A.in1 (storeInOwnDict (.ref x) (.ref C) (.str name tk) name v b)
      (fun fin s' => match fin with | .done f => R (.ok f) s' | .again c' => c'.quiet = true ∧ codeAny (model prog w) A c' R s') (fun e s' => R (.error e) s') s) :
    codeAny (model prog w) A (.call (.builtin "object.__setattr__") ⟨[.ref x, .str name tk, v], []⟩) R s := by
  have SF := PySem.F.store_object
  obtain ⟨cd, hc, ho⟩ := any_some hp
  have ho : cd.mro = .ref C :: .ref D :: qKw := beq_iff_eq.mp ho
  have sub : Looks (model prog w) s.heap (isInstance (.ref x) (.type "object")) true := I.type.andThen (looks_mroIn X (by unfold mroIn; rw [hc, Option.bind_some, ho]; rfl))
  refine codeAny_call_builtin SF.slot.plain SF.entry (@check_slot (model prog w) _ _ s "object.__setattr__" "object" "__setattr__" (.ref x) [.str name tk, v] [] _ SF.kind SF.split sub (SF.args (.ref x) (.str name tk) v) ?_)
  obtain ⟨attr, ha, hr⟩ := Option.bind_eq_some_iff.mp ht
  have hm : Looks (model prog w) s.heap (mroOf (.ref C)) cd.mro := (looks_clsIn X hc).andThen .now
  have L3 : Looks (model prog w) s.heap (storeTaker? attr) none := by
    cases attr with
    | none => cases hr; exact .now
    | some a =>
      obtain ⟨b, hb, hb2⟩ := Option.map_eq_some_iff.mp hr
      refine (looks_takesIn X hb).andThen ?_
      cases b
      · exact .now
      · cases hb2
  rw [osa_eq, refuse_eq]
  refine wpAny_bind (wpAny_bind (I.type.here (wpAny_bind (hm.here ?_))))
  rw [ho, refuseLoop_ref, refuseLoop_ref]
  rw [show refuseLoop (.ref x) "__setattr__" qKw = pure () from PySem.F.store_ValueError.passes (.ref x)]
  refine wpAny_pure (wpAny_bind (I.type.here (wpAny_bind ((looks_findIn X ha).here (wpAny_bind (L3.here ?_))))))
  exact h _
open PySem.W in
theorem qKz {name : Str} {v : Value} {Q : Unit → Shared → Prop} (X : K.In s.heap) (hx : s.heap.get? x = some { cls := .ref C, dict := none, data := .fields vs, slots := sl })
    (hs : findIn K (.ref C) "__setattr__" = some (some (.builtin "object.__setattr__"))) (hp : exOver K C D = true) (ht : takerIn K C name = some none) (hh : hasDictIn K C = true)
    (h : ∀ h' tk, h'.get? x = some { cls := .ref C, dict := some s.heap.objs.size, data := .fields vs, slots := sl } → h'.Ns1 s.heap.objs.size (fun y => if y = name then some v else none) → (∀ b o, b ≠ x → s.heap.get? b = some o → h'.get? b = some o) → Q () { s with heap := h', toks := tk }) :
    wpAny (model prog w) A (setAttr (.ref x) name v) Q E s := by
  have J : InstAt s.heap x { cls := .ref C, dict := none, data := .fields vs, slots := sl } C none := ⟨hx, rfl, rfl, trivial⟩
  refine PySem.W.set_plain X J hs (qHl (s := { s with toks := s.toks + 1 }) X J hp ht fun b => ?_)
  obtain ⟨cd, hc, hd'⟩ := PySem.W.any_some hh
  refine wpAny_bind (wpAny_pure (wpAny_bind (wpAny_bind (wpAny_loadPart hx (wpAny_bind (PySem.W.Looks.here (s := { s with toks := s.toks + 1 }) (PySem.W.looks_clsIn X hc) ?_))))))
  rw [hd']
  have hx₁ : (s.heap.push { cls := .type "dict", data := .dict #[] }).get? x = some { cls := .ref C, dict := none, data := .fields vs, slots := sl } := Heap.get?_push_of_some _ hx
  have hxs : x ≠ s.heap.objs.size := Nat.ne_of_lt (Heap.lt_size hx)
  refine wpAny_bind (wpAny_alloc' ?_)
  refine wpAny_bind (wpAny_update' hx₁ ?_)
  refine wpAny_pure ?_
  have hgd : ((s.heap.push { cls := .type "dict", data := .dict #[] }).update x fun o => { o with dict := some s.heap.objs.size }).get? s.heap.objs.size = some { cls := .type "dict", data := .dict #[] } :=
    (Heap.get?_update_ne _ _ _ _ hxs.symm).trans (Heap.get?_push_at rfl rfl)
  have hnd : ((s.heap.push { cls := .type "dict", data := .dict #[] }).update x fun o => { o with dict := some s.heap.objs.size }).Ns s.heap.objs.size (fun _ => none) :=
    ⟨_, #[], _, hgd, rfl, fun e he => absurd he (by simp), fun _ => rfl⟩
  refine wpAny_bind (wpAny_pure (wpAny_bind ?_))
  refine wpAny_nsSet1 (s := { s with heap := _, toks := s.toks + 1 }) (Heap.Ns1.of_empty hnd) fun h' hn' hs2 => ?_
  obtain ⟨oD, esD, epD, hoD, hdD, hcD⟩ := hn'.count (Within.cons name v Within.nil)
  refine wpAny_bind (wpAny_lookBehind hoD (by rw [hdD]; exact pastItsLine_dict (Nat.le_trans hcD (by rw [List.length_cons, List.length_nil, sizeLine_eq]; omega))) ?_)
  refine wpAny_pure (h _ _ ?_ hn' ?_)
  · refine (hs2.2 x hxs).trans (Heap.get?_update_self _ hx₁ rfl)
  · intro b o hb ho
    exact (hs2.2 b (Nat.ne_of_lt (Heap.lt_size ho))).trans ((Heap.get?_update_ne _ _ _ _ hb).trans (Heap.get?_push_of_some _ ho))
end
section
variable {prog : Program} {w : World} {A : Around} {E : Value → Shared → Prop} {h : Heap} {g : Array GenState} {d : Drawn} {t : Nat} {os : OsState}
variable {nm q : Str} {C N : Addr} {bs bm bmB : List Value} {hdct : Bool} {sn : List Str} {sub : List Value} {ab : Bool} {col : Option Bool} {dd : Option Addr} {k0 k1 k2 k3 k5 : Option Value} {B newId initId : String}
theorem wG (F : ExcBaseFacts B newId initId bmB) (T : OwnTail h bmB bm) {mN : Str → Option Value} {rest : List Value} {fI : Addr} {oI : Obj} {Q : PySem.Fin → Shared → Prop}
    (hC : h.get? C = some (excClassObj nm q C N bs bm hdct sn sub ab col dd k0 k1 k2 k3 k5 newId)) (hn : h.Ns N mN) (hi : mN "__init__" = some (.ref fI))
    (hfI : h.get? fI = some oI) (hfc : oI.cls = .type "function")
    (hq : ∀ h' e, Heap.MadeExcOf h h' e (.ref C) rest → h'.objs.size = h.objs.size + 2 → e = h.objs.size + 1 →
      wpAny (model prog w) A (call (.ref fI) (.ref e :: rest)) (fun r s' => r = .none ∧ Q (.done (.ret (.ref e))) s') E ⟨h', g, d, t, os⟩) (hrest : rest.length ≤ sizeLine := by size_fits) :
    wpAny (model prog w) A (Builtin.«type.__call__» ⟨.ref C :: rest, []⟩) Q E ⟨h, g, d, t, os⟩ := by
  repeat (first | with_reducible refine wpAny_loadPart_at hC ?_ | with_reducible refine wpAny_madeBy_exc hC ?_ | wp_step)
  refine codeAny_call_builtin_code (Code.quiet_builtin _ F.quiet) (wpAny_check_new_subT F T hC ?_)
  refine codeAny_exc_new_subT F T hC ?_ hrest
  show wpAny _ _ _ _ _ _
  have hC₁ := Heap.get?_push_of_some { cls := .ref C, data := .fields #[.ref h.objs.size, .none, .none, .none, .bool false, .none] }
    (Heap.get?_push_of_some { cls := .type "tuple", data := .seq rest.toArray } hC)
  have hfI₁ := Heap.get?_push_of_some { cls := .ref C, data := .fields #[.ref h.objs.size, .none, .none, .none, .bool false, .none] }
    (Heap.get?_push_of_some { cls := .type "tuple", data := .seq rest.toArray } hfI)
  have hn₁ : ((h.push { cls := .type "tuple", data := .seq rest.toArray }).push { cls := .ref C, data := .fields #[.ref h.objs.size, .none, .none, .none, .bool false, .none] }).Ns N mN :=
    let ⟨o, es, ep, e, r⟩ := hn; ⟨o, es, ep, Heap.get?_push_of_some _ (Heap.get?_push_of_some _ e), r⟩
  have hget : ((h.push { cls := .type "tuple", data := .seq rest.toArray }).push
      { cls := .ref C, data := .fields #[.ref h.objs.size, .none, .none, .none, .bool false, .none] }).get? (h.objs.size + 1) = some
      { cls := .ref C, data := .fields #[.ref h.objs.size, .none, .none, .none, .bool false, .none] } := by heap_get
  have hcC : (Value.ref C :: bm).contains (.ref C) = true := by simp
  have T₁ := T.keeps (h' := (h.push { cls := .type "tuple", data := .seq rest.toArray }).push { cls := .ref C, data := .fields #[.ref h.objs.size, .none, .none, .none, .bool false, .none] })
    fun b o e => Heap.get?_push_of_some _ (Heap.get?_push_of_some _ e)
  unfold isInstance
  repeat (first | with_reducible refine wpAny_loadPart_at hget ?_ | (with_reducible refine wpAny_isSubtype_exc hC₁ ?_; rw [hcC]) | wp_step)
  show wpAny _ _ (typeLookup (.ref C) _) _ _ _
  refine wpAny_typeLookup_tail hC₁ hn₁ T₁ F.mroIs F.init.lookup ?_
  rw [hi]
  refine wpAny_holding (wpAny_bind ?_)
  unfold bindSpecial
  refine wpAny_bind (wpAny_typeOf (T := "function") ⟨_, hfI₁, hfc⟩ ?_)
  rw [if_pos (by decide)]
  refine wpAny_pure (wpAny_bind (wpAny_mono (hq _ (h.objs.size + 1) ⟨fun b o hb => Heap.get?_push_of_some _ (Heap.get?_push_of_some _ hb), Heap.get?_none_of_le (Nat.le_succ _), h.objs.size, hget, Heap.get?_none_of_le (Nat.le_refl _), ?_⟩ (by simp only [Heap.size_push]) rfl) (fun r s' hr => ?_) fun _ _ x => x))
  · exact Heap.get?_push_of_some _ (Heap.get?_push_at rfl rfl)
  · obtain ⟨rfl, hQ⟩ := hr
    wp_walk
    exact hQ
theorem qFh (F : ExcBaseFacts B newId initId bmB) (T : OwnTail h bmB bm) {mN : Str → Option Value} {rest : List Value} {fI : Addr} {oI : Obj} {Q : Value → Shared → Prop}
    (hC : h.get? C = some (excClassObj nm q C N bs bm hdct sn sub ab col dd k0 k1 k2 k3 k5 newId)) (hn : h.Ns N mN) (hi : mN "__init__" = some (.ref fI))
    (hfI : h.get? fI = some oI) (hfc : oI.cls = .type "function")
    (hq : ∀ h' e, Heap.MadeExcOf h h' e (.ref C) rest → h'.objs.size = h.objs.size + 2 → e = h.objs.size + 1 →
      wpAny (model prog w) (A.under (.builtin "type.__call__" ⟨.ref C :: rest, []⟩)) (call (.ref fI) (.ref e :: rest)) (fun r s' => r = .none ∧ Q (.ref e) s') E ⟨h', g, d, t, os⟩) (hrest : rest.length ≤ sizeLine := by size_fits) :
    wpAny (model prog w) A (call (.ref C) rest) Q E ⟨h, g, d, t, os⟩ := by
  have f1 := tc_lookup
  have f2 := tc_bind (.ref C)
  have hT : (⟨h, g, d, t, os⟩ : Shared).TypeIs (.ref C) "type" := ⟨_, hC, rfl⟩
  refine wpAny_call (codeAny_of_tree ?_)
  show wpAny _ _ (callAny (.ref C) _) _ _ _
  repeat (any_goals (first | assumption | with_reducible refine wpAny_loadPart_at hC ?_ | wp_step))
  refine ⟨rfl, ?_⟩
  refine codeAny_call_builtin_at (Code.quiet_builtin _ (by decide +kernel)) entry_typeCall (wpAny_check_type_call_sub hC (wG (hrest := hrest) F T hC hn hi hfI hfc fun h' e hm h1 h2 => ?_))
  exact hq h' e hm h1 h2
end
section
variable {prog : Program} {w : World} {A : Around} {E : Value → Shared → Prop} {s : Shared} {env : Env}
variable {nm q : Str} {C N : Addr} {bs bm bmB : List Value} {hdct : Bool} {sn : List Str} {sub : List Value} {ab : Bool} {col : Option Bool} {dd : Option Addr} {k0 k1 k2 k3 k5 : Option Value} {B newId initId : String}
theorem qFl {M : Model} {x : Sem Value} {Q : Flow → Shared → Prop} (hbase : bm.contains (.type "BaseException") = true) (hh : A.handled = none)
    (h : wpAny M A x (fun v s₁ => ∃ e od vs sl, v = .ref e ∧ s₁.heap.get? C = some (excClassObj nm q C N bs bm hdct sn sub ab col dd k0 k1 k2 k3 k5 newId) ∧
      s₁.heap.get? e = some { cls := .ref C, dict := od, data := .fields vs, slots := sl } ∧ vs[1]? = some .none ∧ E (.ref e) s₁) E s) :
    wpAny M A (raiseStmt env (some x) none) Q E s := by
  have hcB : (Value.ref C :: bm).contains (.type "BaseException") = true := by rw [List.contains_cons, hbase, Bool.or_true]
  unfold raiseStmt
  refine wpAny_bind (wpAny_mono h (fun v s₁ h₁ => ?_) fun _ _ x => x)
  obtain ⟨e, od, vs, sl, rfl, hC, he, hv, hE⟩ := h₁
  obtain ⟨hp, g, d, tk, os⟩ := s₁
  repeat (first | with_reducible refine wpAny_loadPart_at he ?_ | with_reducible refine wpAny_loadPart_at hC ?_ | (with_reducible refine wpAny_isSubtype_exc hC ?_; rw [hcB]) | wp_step)
  rw [hv]
  refine wpAny_pure ?_
  rw [if_neg (by decide)]
  refine wpAny_pure ?_
  exact wpAny_raiseNew_none hh hE
theorem qD4 (F : ExcBaseFacts B newId initId bmB) {mN : Str → Option Value} {x : Str} {np cpos pos : Pos} {args : List Expr} {fI : Addr} {oI : Obj} {Q : Flow → Shared → Prop}
    (hbase : bm.contains (.type "BaseException") = true) (hh : A.handled = none) (hplain : (backTo cpos (starEach args env)).any (·.1) = false) (hi : mN "__init__" = some (.ref fI)) (hfc : oI.cls = .type "function")
    (h : wpAny (model prog w) A (eval (.Name x np) env) (fun f s₁ => f = .ref C ∧ wpAny (model prog w) A (evalArgs (.ref C) true (backTo cpos (starEach args env)) [])
      (fun a s₂ => a.kw = [] ∧ a.pos.length ≤ sizeLine ∧ s₂.heap.get? C = some (excClassObj nm q C N bs bm hdct sn sub ab col dd k0 k1 k2 k3 k5 newId) ∧ s₂.heap.Ns N mN ∧ OwnTail s₂.heap bmB bm ∧ s₂.heap.get? fI = some oI ∧
        ∀ h' e, Heap.MadeExcOf s₂.heap h' e (.ref C) a.pos → h'.objs.size = s₂.heap.objs.size + 2 → e = s₂.heap.objs.size + 1 →
          wpAny (model prog w) (A.under (.builtin "type.__call__" ⟨.ref C :: a.pos, []⟩)) (call (.ref fI) (.ref e :: a.pos))
            (fun r s' => r = .none ∧ s'.heap.get? C = some (excClassObj nm q C N bs bm hdct sn sub ab col dd k0 k1 k2 k3 k5 newId) ∧ (∃ od vs sl, s'.heap.get? e = some { cls := .ref C, dict := od, data := .fields vs, slots := sl } ∧ vs[1]? = some .none) ∧ E (.ref e) s') E { s₂ with heap := h' }) E s₁) E s) :
    wpAny (model prog w) A (exec (.Raise (some (.Call (.Name x np) args [] cpos)) none pos) env) Q E s := by
  rw [arm_exec_Raise]
  refine wpAny_bind (wpAny_standAt (qFl (C := C) (nm := nm) (q := q) (N := N) (bs := bs) (bm := bm) (hdct := hdct) (sn := sn) (sub := sub) (ab := ab) (col := col) (dd := dd) (k0 := k0) (k1 := k1) (k2 := k2) (k3 := k3) (k5 := k5) (newId := newId) hbase hh (wpAny_bind (wpAny_mono (wpAny_Call_ofName (wpAny_mono h (fun f s₁ h₁ => ?_) fun _ _ x => x)) (fun v s₃ h₃ => wpAny_bind (wpAny_standAt (wpAny_pure h₃))) fun _ _ x => x))))
  obtain ⟨rfl, h₁⟩ := h₁
  unfold callWith
  refine wpAny_bind (wpAny_holding (wpAny_mono h₁ (fun a s₂ h₂ => wpAny_bind (wpAny_standAt ?_)) fun _ _ x => x))
  obtain ⟨apos, akw⟩ := a
  obtain ⟨hkw, hlen, hC, hn, T, hfI, h₂⟩ := h₂
  obtain rfl : akw = [] := hkw
  obtain ⟨hp, g, d, tk, os⟩ := s₂
  simp only [hplain]
  refine wpAny_bind (wpAny_keeperOf_exc hC ?_)
  refine wpAny_bind (qFh (hrest := hlen) F T hC hn hi hfI hfc fun h' e hm h1 h2 => wpAny_mono (h₂ h' e hm h1 h2) (fun r s' z => ⟨z.1, ?_⟩) fun _ _ x => x)
  obtain ⟨_, hC', ⟨od, vs, sl, he, hv⟩, hE⟩ := z
  refine wpAny_bind (wpAny_holding (wpAny_point (wpAny_pure ?_)))
  exact ⟨e, od, vs, sl, rfl, hC', he, hv, hE⟩
end
end L3
namespace L3
open PySem PySem.Spec PyProof.Rows L2
def v6 (e : Addr) (C : Value) : HO := .ext fun h => ∃ (vs : Array Value) (sl : Array (Option Value)), h.get? e = some { cls := C, dict := none, data := .fields vs, slots := sl } ∧ vs[1]? = some .none
def wJ (e : Addr) (C : EC) : HO := .ext fun h => zh h e C none
def excInitIn (K : PySem.W.Frag) (C f : Addr) : Bool := match K.lookup C with
  | some ⟨.type "type", _, .cls cd, sl⟩ => (match cd.mro, sl.toList with
    | .ref C' :: bm, [_, _, _, _, some (.builtin n), _] => C' == C && n == "ValueError.__new__" && !cd.hasDel && PySem.W.tailIn K qKw bm && PySem.W.nsOkIn K cd.ns && PySem.W.nsIn K cd.ns "__init__" == some (some (.ref f))
    | _, _ => false)
  | _ => false
structure XMk (K : PySem.W.Frag) (C D f : Addr) : Prop where
  ov : exOver K C D = true
  hd : PySem.W.hasDictIn K C = true
  sa : PySem.W.findIn K (.ref C) "__setattr__" = some (some (.builtin "object.__setattr__"))
  ex : excInitIn K C f = true
  fn : PySem.W.isFn K (.ref f) = true
theorem qFi {K : PySem.W.Frag} {h : Heap} {N : Addr} {mg : Str → Option Value} {n : Str} {v : Value} (X : K.In h) (G : h.Ns N mg) (e : PySem.W.nsIn K N n = some (some v)) : mg n = some v := by
  obtain ⟨o, es, ep, ho, hd, _, hf⟩ := G
  unfold PySem.W.nsIn at e
  split at e
  · rename_i c d es' n' sl q
    have := X _ _ q
    rw [ho] at this
    cases this
    cases hd
    split at e
    · rename_i en he
      cases e
      rw [← hf]
      unfold nsFind findBy
      rw [← Array.find?_toList, he]
      rfl
    · split at e <;> cases e
  · cases e
theorem qIq {K : PySem.W.Frag} {h : Heap} {C f : Addr} (X : K.In h) (q : excInitIn K C f = true) :
    ∃ bm N nm qn bs hdct sn sub ab col dd k0 k1 k2 k3 k5 mN, h.get? C = some (excClassObj nm qn C N bs bm hdct sn sub ab col dd k0 k1 k2 k3 k5 "ValueError.__new__") ∧ h.Ns N mN ∧ mN "__init__" = some (.ref f) ∧ OwnTail h qKw bm := by
  unfold excInitIn at q
  split at q
  · rename_i dd cd sl ho
    split at q
    · rename_i C' bm k0 k1 k2 k3 n k5 hm hs
      simp only [Bool.and_eq_true, beq_iff_eq, Bool.not_eq_true'] at q
      obtain ⟨⟨⟨⟨⟨eC, en⟩, del⟩, ht⟩, ok⟩, ni⟩ := q
      subst eC en
      obtain ⟨nm, bs, mro, ns, qn, hd, sn, sub, ab, col, dl⟩ := cd
      dsimp only at hm del ok ni
      subst hm del
      have hsl : sl = #[k0, k1, k2, k3, some (.builtin "ValueError.__new__"), k5] := by
        obtain ⟨l⟩ := sl
        simp only at hs
        rw [hs]
      subst hsl
      have N1 : h.Ns ns (h.nsMap ns) := .of_isNs (PySem.W.isNs_of_in X ok)
      refine ⟨bm, ns, nm, qn, bs, hd, sn, sub, ab, col, dd, k0, k1, k2, k3, k5, _, X _ _ ho, N1, qFi X N1 ni, PySem.W.tail_of_in X ht⟩
    · cases q
  · cases q
section
variable {X : Cx} {pins : List (Addr × Obj)} {σ : L2.St} {H : Hp} {s : Shared}
theorem qI7 {e : Addr} {φ : Heap → Prop} (I : Inv X pins σ (upd H e (.ext φ)) s) (h0 : H e = none) (hs : X.s₀.heap.get? e = none) : Inv X pins σ H s := by
  have B := I.base
  have nn : ∀ b u, upd H e (.ext φ) b = some u → (∀ ψ, u ≠ .ext ψ) → H b = some u := fun b u z n => by
    by_cases hb : b = e
    · subst hb
      rw [qB] at z
      cases z
      exact absurd rfl (n φ)
    · rwa [qd hb] at z
  have n0 : ∀ b, upd H e (.ext φ) b = none → H b = none := fun b z => by
    by_cases hb : b = e
    · rw [hb, qB] at z; cases z
    · rwa [qd hb] at z
  refine ⟨I.ok, I.os, I.bare, ⟨B.keep, B.slot, fun b o w z hx => n0 _ (B.free b o w z hx), B.there, fun b xs w => nn _ _ (B.tups b xs w) (fun _ z => nomatch z), fun b o u w => nn _ _ (B.frzs b o u w) (fun _ z => nomatch z), fun b ps w => ?_⟩, I.loc, I.cell, n0 _ I.free, fun y c z => n0 _ (I.freeC y c z), fun p hp => ?_, fun b u w => ?_, I.len⟩
  · obtain ⟨more, z⟩ := B.tbls b ps w
    exact ⟨more, nn _ _ z (fun _ z => nomatch z)⟩
  · obtain ⟨w1, w2, w3⟩ := I.pin p hp
    exact ⟨w1, n0 _ w2, w3⟩
  · have hb : b ≠ e := fun z => by rw [z, h0] at w; cases w
    refine (I.hok b u (by rw [qd hb]; exact w)).stay (fun _ _ _ z => z) (fun c z => nn _ _ z (fun _ z => nomatch z)) fun c xs z => nn _ _ z (fun _ z => nomatch z)
end
theorem qGd {X : Cx} {pins : List (Addr × Obj)} {σ : L2.St} {H : Hp} {s : Shared} {dx : Addr} {fs : List (Str × V)} (I : Inv X pins σ H s) (h0 : H dx = none) (hs0 : X.s₀.heap.get? dx = none) (hp : ∀ p ∈ X.pn ++ pins, p.1 ≠ dx)
    (hl : dx ≠ X.env.locals) (hc : ∀ y c, X.env.cells.lookup y = some c → c ≠ dx) (ok : ∃ mA, s.heap.Ns1 dx mA ∧ ∀ f, RelO (fs.lookup f) (mA f)) : Inv X pins σ (upd H dx (.xd fs)) s := by
  have B := I.base
  have ne : ∀ b o, X.s₀.heap.get? b = some o → b ≠ dx := fun b o w z => by rw [z, hs0] at w; cases w
  refine ⟨I.ok, I.os, I.bare, ⟨B.keep, B.slot, fun b o w z hx => ?_, B.there, fun b xs w => ?_, fun b o u w => ?_, fun b ps w => ?_⟩, I.loc, I.cell, ?_, fun y c e => ?_, fun p hp' => ?_, fun b u w => ?_, I.len⟩
  · rw [qd (ne b o w)]; exact B.free b o w z hx
  · have z := B.tups b xs w
    rw [qd (qf z h0)]; exact z
  · have z := B.frzs b o u w
    rw [qd (qf z h0)]; exact z
  · obtain ⟨more, z⟩ := B.tbls b ps w
    exact ⟨more, by rw [qd (qf z h0)]; exact z⟩
  · rw [qd (Ne.symm hl)]; exact I.free
  · rw [qd (hc y c e)]; exact I.freeC y c e
  · obtain ⟨w1, w2, w3⟩ := I.pin p hp'
    rw [qd (hp p hp')]
    exact ⟨w1, w2, w3⟩
  · by_cases hb : b = dx
    · subst hb
      rw [qB] at w
      cases w
      exact ok
    · rw [qd hb] at w
      exact (I.hok b u w).stay (fun _ _ _ z => z) (fun c z => by rw [qd (qf z h0)]; exact z) fun c xs z => by rw [qd (qf z h0)]; exact z
def qNu (K : PySem.W.Frag) (ta tv : TE) (f : Str) : TS := fun D σ H => tv σ H fun y H1 => ta σ H1 fun x H2 => ∃ a C B, x = .ref a ∧ H2 a = some (v6 a (.ref C)) ∧ exOver K C B = true ∧ PySem.W.hasDictIn K C = true ∧
  PySem.W.findIn K (.ref C) "__setattr__" = some (some (.builtin "object.__setattr__")) ∧ PySem.W.takerIn K C f = some none ∧ ∀ dx, H2 dx = none → D.nx σ (upd (upd H2 a (wJ a (.ref C, some dx))) dx (.xd [(f, y)]))
theorem qK4 {X : Cx} {o value : Expr} {f : Str} {pos pos' : Pos} {ta tv : TE} (ha : PE X o ta) (hv : PE X value tv) (hs : swapsWith value (some (.Attribute o f pos')) pos.line X.env = pure false := by rfl) :
    PS X (.Assign [.Attribute o f pos'] value pos) (qNu X.K ta tv f) := by
  intro pins s σ H D I h
  refine plainObj_wpAny_Assign_Attribute (thn (hv pins s σ H _ I h) fun u s1 ⟨y, H1, I1, ry, q⟩ => thn (ha pins s1 σ H1 _ I1 q) fun ov s2 ⟨x, H2, I2, rx, a, C, B, ex, ea, o1, o2, o3, o4, q2⟩ => ?_) hs
  subst ex
  obtain rfl : ov = Value.ref a := rx
  obtain ⟨⟨vs, sl, he, hv1⟩, _, _⟩ := I2.hok a _ ea
  have hf : H2 s2.heap.objs.size = none := I2.hok.fresh (Nat.le_refl _)
  refine qKz I2.kIn he o3 o1 o4 o2 fun h' tk he' hn k => ⟨σ, _, ?_, q2 _ hf⟩
  have I3 : Inv X pins σ (upd H2 a (wJ a (.ref C, some s2.heap.objs.size))) { s2 with heap := h', toks := tk } := by
    refine I2.write (x := a) (e := a) (by rw [ea]; exact True.intro) (.inl rfl) k ⟨_, he'⟩ ?_
    refine ⟨⟨vs, sl, he', hv1⟩, ⟨_, he'⟩, fun h1 h2 z k => ?_⟩
    obtain ⟨vs', sl', z, z2⟩ := z
    exact ⟨vs', sl', k _ z, z2⟩
  have na : s2.heap.objs.size ≠ a := fun z => by rw [z, ea] at hf; cases hf
  refine qGd I3 (by rw [qd na]; exact hf) ?_ (fun p hp => Nat.ne_of_lt (Heap.lt_size (I2.pin p hp).1)) (Nat.ne_of_gt I2.lt) (fun y c e => ?_) ⟨_, hn, fun g => ?_⟩
  · cases w : X.s₀.heap.get? s2.heap.objs.size with
    | none => rfl
    | some o => exact absurd (Nat.lt_of_lt_of_le (Heap.lt_size w) I2.sz) (Nat.lt_irrefl _)
  · obtain ⟨v, o, ho, _⟩ := I2.cell y c e
    exact Nat.ne_of_lt (Heap.lt_size ho)
  · by_cases hg : g = f
    · subst hg
      simp [List.lookup]
      exact ry
    · have e1 : ([(f, y)] : List (Str × V)).lookup g = none := by
        rw [List.lookup_cons]
        have : (g == f) = false := beq_eq_false_iff_ne.mpr hg
        rw [this]
        rfl
      rw [e1, if_neg hg]
      trivial
def qEh (C : Addr) (f : Str) : Sp := fun vs H Q _ => ∃ (e : Addr) (v : V), vs = [.ref e, v] ∧ H e = some (v6 e (.ref C)) ∧ ∀ dx, H dx = none → Q .non (upd (upd H e (wJ e (.ref C, some dx))) dx (.xd [(f, v)]))
def qKm (C : Addr) (fn : Str) (Ex : Value → Option Addr → Hp → Prop) (t : TA) : TS := fun _ σ H => t σ H fun vs H1 => ∃ v, vs = [v] ∧ ∀ dx, H1 dx = none → Ex (.ref C) (some dx) (upd H1 dx (.xd [(fn, v)]))
theorem qHb {X : Cx} {Ex : Value → Option Addr → Hp → Prop} {fn : Str} {k : Nat} {x : Str} {C B f : Addr} {fd : FuncData} {ps : List Str} {np cpos pos : Pos} {e₀ : Expr} {rest : List Expr} {t : TA} (M : XMk X.K C B f)
    (F : FnOk X.prog X.w X.K X.mg X.base CX0 k f fd ps (qEh C fn)) (hb : Binds X.K fd ps []) (hr : Room (k + 1) X.A) (hcm : X.calm = true) (hg : Gl X x) (hm : X.mg x = some (.ref C)) (ha : PA (X.wish (XE X Ex)) (e₀ :: rest) t)
    (he : starEach (e₀ :: rest) X.env = (false, eval e₀ X.env) :: starEach rest X.env := by rfl) (hpl : (backTo cpos (starEach rest X.env)).any (·.1) = false := by rfl) (hex : X.ex = [] := by rfl) (hdb : (x == ("__debug__" : Str)) = false := by decide) :
    PS (X.wish (XE X Ex)) (.Raise (some (.Call (.Name x np) (e₀ :: rest) [] cpos)) none pos) (qKm C fn Ex t) := by
  intro pins s σ H D I h
  obtain ⟨tl, N, nm, q, bs, hdct, sn, sub, ab, col, dd, k0, k1, k2, k3, k5, mN, hC, hN, hni, T⟩ := qIq (K := X.K) I.ok.mod.kin M.ex
  have hfn : PySem.W.typeIn X.K (.ref f) = some (.type "function") := beq_iff_eq.mp M.fn
  have hfo : ∃ oI : Obj, X.base.get? f = some oI ∧ oI.cls = .type "function" := by
    replace hfn : (X.K.lookup f).map (·.cls) = some (.type "function") := hfn
    cases hl : X.K.lookup f with
    | none => rw [hl] at hfn; cases hfn
    | some o =>
      rw [hl] at hfn
      exact ⟨o, I.ok.mod.kin _ _ hl, by simpa using hfn⟩
  obtain ⟨oI, hfI, hfc⟩ := hfo
  refine qD4 (bm := tl) (C := C) (N := N) (nm := nm) (q := q) (bs := bs) (hdct := hdct) (sn := sn) (sub := sub) (ab := ab) (col := col) (dd := dd) (k5 := k5) (k0 := k0) (k1 := k1) (k2 := k2) (k3 := k3)
    PySem.F.excBase_ValueError (mN := mN) (fI := f) (oI := oI) (T.hasType PySem.F.excBase_ValueError.hasBase) (I.ok.hd hcm) (by rw [he]; show (false || (backTo cpos (starEach rest X.env)).any (·.1)) = false; rw [hpl]; rfl) hni hfc (kM I hg hm ⟨rfl, ?_⟩ hdb)
  have z := ha cpos pins s σ H _ I h
  rw [show (X.wish (XE X Ex)).env = X.env from rfl] at z
  rw [he] at z ⊢
  refine Calls.evalArgs_plain (wpAny_mono z (fun us s2 w => ?_) fun _ _ y => y)
  obtain ⟨vs, H1, I1, r1, v, rfl, ex⟩ := w
  have I1' := I1.unwish
  have hl1 : us.length = 1 := r1.length.symm
  refine ⟨rfl, by rw [hl1, sizeLine_eq]; decide, I1.bk _ _ hC, hN.keeps I1.bk, T.keeps I1.bk, I1.bk _ _ hfI, fun h' e hmk hsz hes => ?_⟩
  obtain ⟨tt, q1, q2, q3⟩ := hmk.there
  have hle : s2.heap.objs.size ≤ e := by rw [hes]; exact Nat.le_succ _
  have e0 : H1 e = none := I1'.hok.fresh hle
  have I2 : Inv X pins σ (upd H1 e (v6 e (.ref C))) { s2 with heap := h' } := I1'.laid (t' := s2.toks) hmk.keeps hle ⟨⟨_, _, q1, rfl⟩, ⟨_, q1⟩, fun h1 h2 z k => by
    obtain ⟨vs', sl', z, z2⟩ := z
    exact ⟨vs', sl', k _ z, z2⟩⟩
  have r2 : Vals [V.ref e, v] (Value.ref e :: us) := .cons rfl r1
  have hsp : qEh C fn [V.ref e, v] (upd H1 e (v6 e (.ref C))) (fun u H2 => u = .non ∧ ∃ dx, H1 dx = none ∧ dx ≠ e ∧ H2 = upd (upd H1 dx (.xd [(fn, v)])) e (wJ e (.ref C, some dx))) E0 := ⟨e, v, rfl, qB, fun dx hdx => ⟨rfl, dx, ?_⟩⟩
  rotate_left
  · have hne : dx ≠ e := fun z => by rw [z, qB] at hdx; cases hdx
    refine ⟨by rwa [qd hne] at hdx, hne, ?_⟩
    funext b
    by_cases hb : b = e
    · subst hb
      rw [qB, qd (Ne.symm hne), qB]
    · rw [qd hb (o := wJ e (.ref C, some dx)) (H := upd H1 dx (.xd [(fn, v)]))]
      by_cases hb2 : b = dx
      · subst hb2
        rw [qB, qB]
      · rw [qd hb2, qd hb, qd hb, qd hb2]
  have hl : ((Value.ref e :: us) ++ []).length = ps.length := by
    have := F.len _ _ _ _ hsp
    rw [List.append_nil, List.length_cons, hl1]
    simpa using this
  have hbb := hb _ (Value.ref e :: us) I2.kIn hl
  rw [List.append_nil] at hbb
  refine wpAny_call (codeAny_mono (F.run _ X.stack _ _ ⟨Value.ref e :: us, []⟩ (Value.ref e :: us) _ _ E0 (hr.make C us []) (I2.env0.make C us []) hbb r2 hsp) fun r s' hq' => ?_)
  cases r with
  | error e => exact False.elim hq'
  | ok fl =>
    cases fl with
    | ret u =>
      obtain ⟨v', H', I3, rv, ev, dx, hdx, hne, rfl⟩ := I2.after hq'
      subst ev
      cases rv
      obtain ⟨⟨vs', sl', g1, g2⟩, _, _⟩ := I3.hok e _ qB
      have e0' : (upd H1 dx (.xd [(fn, v)])) e = none := by rw [qd (Ne.symm hne)]; exact e0
      have hs0 : X.s₀.heap.get? e = none := by
        cases w : X.s₀.heap.get? e with
        | none => rfl
        | some o =>
          obtain ⟨o', w'⟩ := I1'.base.there e o w (by rw [hex]; intro y; cases y)
          rw [hmk.new] at w'; cases w'
      refine ⟨rfl, I3.bk _ _ hC, ⟨some dx, vs', sl', g1, g2⟩, e, (.ref C, some dx), σ, upd H1 dx (.xd [(fn, v)]), rfl, (qI7 I3 e0' hs0).pins_of (pins' := []) fun p hp => (nomatch hp), ⟨⟨hs0, e0', fun p hp z => ?_⟩, none, ⟨vs', sl', g1, g2⟩, fun T e' => nomatch e'⟩, ex dx hdx⟩
      have q' := (I1'.pin p (List.mem_append_left _ hp)).1
      rw [z, hmk.new] at q'; cases q'
    | next => exact False.elim hq'
    | brk => exact False.elim hq'
    | cont => exact False.elim hq'
end L3
set_option maxHeartbeats 4000000
set_option maxRecDepth 100000
namespace L3
open PySem PySem.Spec PySem.Calls PyProof.Rows PySem.W
section
variable {prog : Program} {w : World} {A : Around} {E : Value → Shared → Prop} {K : Frag} {h : Heap} {g : Array GenState} {d : Drawn} {t : Nat} {os : OsState} {a D : Addr} {ox o : Obj} {name : Str} {v : Value}
end
end L3
namespace L3
open PySem PySem.Spec PyProof.Rows L2
end L3
set_option maxHeartbeats 4000000
set_option maxRecDepth 100000
namespace L3
open PySem PySem.Spec PyProof.Rows L2
inductive PHs (X : Cx) : List ExceptHandler → List (Addr × Option Nat × TS) → Prop where
  | nil : PHs X [] []
  | cons {x : Str} {np hpos : Pos} {nm : Option Str} {i : Option Nat} {b₀ : Stmt} {suite : List Stmt} {C : Addr} {ts : TS} {hs : List ExceptHandler} {cs : List (Addr × Option Nat × TS)} (hcl : qEs X nm i) (hg : Gl X x) (hm : X.mg x = some (.ref C))
      (h : ∀ l ea, PSs (hdX (pnX X l) ea).nox (b₀ :: suite) ts) (r : PHs X hs cs) (hdb : (x == ("__debug__" : Str)) = false := by decide) : PHs X (.ExceptHandler (some (.Name x np)) nm (b₀ :: suite) hpos :: hs) ((C, i, ts) :: cs)
def qJt (K : PySem.W.Frag) (D : qH7) (ea : Addr) (B : EC) (σ' : L2.St) (H' : Hp) : List (Addr × Option Nat × TS) → Prop
  | [] => False
  | (C, i, ts) :: cs => ∃ b, PySem.W.exmOne K B.1 (.ref C) = some b ∧ if b = true then ts (qF7 D i) (qLx i ea σ') (upd H' ea (kr ea B)) else qJt K D ea B σ' H' cs
def qNi (K : PySem.W.Frag) (Ex : Value → Option Addr → Hp → Prop) (cs : List (Addr × Option Nat × TS)) (tb : TS) : TS := fun D σ H => tb D σ H ∧ ∀ (ea : Addr) (B : EC) (σ' : L2.St) (H' : Hp), Ex B.1 B.2 H' → H' ea = none → σ'.length = σ.length → qJt K D ea B σ' H' cs
theorem qKi {X : Cx} {body : List Stmt} {h₀ : ExceptHandler} {hs : List ExceptHandler} {cs : List (Addr × Option Nat × TS)} {pos : Pos} {tb : TS} (Ex : Value → Option Addr → Hp → Prop) (hN : X.N.Nodup)
    (hb : ∀ l, PSs ((pnX X l).wish (XE (pnX X l) Ex)) body tb) (hh : PHs X (h₀ :: hs) cs)
    (hstk : X.stack = X.env :: X.outer := by rfl) (hfr : X.env.frame = some X.env.locals := by rfl) (hex : X.ex = [] := by rfl) :
    PS X (.Try body (h₀ :: hs) [] [] pos) (qNi X.K Ex cs tb) := by
  rintro pins s σ H D I ⟨h1, h2⟩
  have I0 := qJx I
  refine wpAny_Try_except (wpAny_mono (hb (X.pn ++ pins) [] s σ H D (I0.wish _) h1) (fun f s1 q => ?_) fun e s1 q => ?_)
  · have q := q.unwish
    cases f with
    | next =>
      obtain ⟨σ', H', J, z⟩ := q
      exact wpAny_execs_nil ⟨σ', H', xc J, z⟩
    | brk =>
      obtain ⟨σ', H', J, z⟩ := q
      exact ⟨σ', H', xc J, z⟩
    | cont =>
      obtain ⟨σ', H', J, z⟩ := q
      exact ⟨σ', H', xc J, z⟩
    | ret u =>
      obtain ⟨v, σ', H', J, r, z⟩ := q
      exact ⟨v, σ', H', xc J, r, z⟩
  · obtain ⟨ea, B, σ', H', rfl, I1, ⟨n1, hd, r, n3⟩, ex⟩ := q
    have hlen : σ'.length = σ.length := I1.len.trans I.len.symm
    have ht := h2 ea B σ' H' ex n1.2.1 hlen
    have fr : X.A.frames = some (X.env :: X.outer) := by rw [← hstk]; exact I.ok.frames
    have ff : s1.heap.FunFrames X.base (X.env :: X.outer) := by
      have z := I1.stack
      rw [show (pnX X (X.pn ++ pins)).stack = X.env :: X.outer from hstk] at z
      exact z
    refine qEl fr ff hfr r fun h' N' => ?_
    have N' : Noted (frs X.stack) ea hd B s1.heap h' := by rw [hstk]; exact N'
    obtain ⟨I2, n1, hd2, r2, n3⟩ := xT I1 hex r n1 n3 N'
    clear h2
    generalize h₀ :: hs = hl0 at hh
    induction hh with
    | nil => exact False.elim ht
    | @cons x np hpos nm i b₀ suite C ts hs cs hcl hg hm hs' r' hdb ih =>
      obtain ⟨b, hx, ht⟩ := ht
      refine wpAny_handleBy_cons (codeAny_handlers_test (kM (X := hdX (pnX X (X.pn ++ pins)) ea) (qAe I2) hg hm ?_ hdb)) (by intro z; cases z)
      have LT : PySem.W.Looks (model X.prog X.w) h' (typeOf (.ref ea)) B.1 := by
        obtain ⟨vs, sl, qe, _⟩ := r2
        exact (PySem.W.Looks.ld qe).andThen .now
      refine (PySem.W.exm_one (M := model X.prog X.w) I2.kIn LT hx).here ?_
      cases b with
      | false =>
        rw [if_neg (by decide)] at ht
        exact ih ht
      | true =>
        rw [if_pos rfl] at ht
        show codeAny _ _ _ _ _
        obtain ⟨T, rfl, r3⟩ : ∃ T, hd2 = some T ∧ zh h' ea B (some T) := by
          obtain ⟨T, _, _⟩ := N'.ent
          cases hd2 with
          | some T => exact ⟨T, rfl, r2⟩
          | none =>
            obtain ⟨T, _, rT⟩ := N'.ent
            obtain ⟨vs, sl, q1, q2⟩ := r2
            obtain ⟨vs', sl', q1', q2', _⟩ := rT
            rw [q1] at q1'
            cases q1'
            rw [q2] at q2'
            cases q2'
        have run : ∀ (s4 : Shared) (σ4 : L2.St) (Q : Flow → Shared → Prop) (E : Value → Shared → Prop), Inv (hdX (pnX X (X.pn ++ pins)) ea) [] σ4 (upd H' ea (kr ea B)) s4 → ts (qF7 D i) σ4 (upd H' ea (kr ea B)) →
            (∀ f s5, SP (hdX (pnX X (X.pn ++ pins)) ea) [] (qF7 D i) f s5 → Q f s5) → wpAny (model X.prog X.w) (X.A.mark (some (.ref ea))) (execs (b₀ :: suite) X.env) Q E s4 := fun s4 σ4 Q E I4 z k =>
          wpAny_mono (hs' (X.pn ++ pins) ea [] s4 σ4 _ _ (I4.wish _) z) (fun f s5 q => k f s5 q.unwish) fun _ _ z => z.elim
        have hdn : (pnX X (X.pn ++ pins)).calm = true → (pnX X (X.pn ++ pins)).A.handled = none := I2.ok.hd
        cases hcl with
        | none =>
          refine codeAny_handlers_suite (zt r3 fun h3 N3 => ?_)
          obtain ⟨I3, n1, hd3, r4, n3⟩ := xT I2 hex r3 n1 n3 (N3 _)
          refine run _ _ _ _ (qAe (kf I3 hex n1 r4)) ht fun f s5 q => ?_
          cases f with
          | next => obtain ⟨σ5, H5, J, z⟩ := q; exact ⟨σ5, H5, xc (kE J hdn), z⟩
          | brk => obtain ⟨σ5, H5, J, z⟩ := q; exact ⟨σ5, H5, xc (kE J hdn), z⟩
          | cont => obtain ⟨σ5, H5, J, z⟩ := q; exact ⟨σ5, H5, xc (kE J hdn), z⟩
          | ret u => obtain ⟨v, σ5, H5, J, rv, z⟩ := q; exact ⟨v, σ5, H5, xc (kE J hdn), rv, z⟩
        | some hi hl =>
          refine codeAny_handlers_suite_as (zt r3 fun h3 N3 => ?_)
          obtain ⟨I3, n1, hd3, r4, n3⟩ := xT I2 hex r3 n1 n3 (N3 _)
          refine zd (X := hdX (pnX X (X.pn ++ pins)) ea) (v := .ref ea) (qAe (kf I3 hex n1 r4)) hN hi (.inl hl) rfl (fun s4 I4 => ?_) (.inr hl)
          refine run _ _ _ _ I4 ht fun f s5 q => ?_
          cases f with
          | next => obtain ⟨σ5, H5, J, z⟩ := q; exact xU (X := pnX X (X.pn ++ pins)) (kE J hdn) hN hi hl fun s6 J6 => ⟨_, H5, xc J6, z⟩
          | brk => obtain ⟨σ5, H5, J, z⟩ := q; exact xU (X := pnX X (X.pn ++ pins)) (kE J hdn) hN hi hl fun s6 J6 => ⟨_, H5, xc J6, z⟩
          | cont => obtain ⟨σ5, H5, J, z⟩ := q; exact xU (X := pnX X (X.pn ++ pins)) (kE J hdn) hN hi hl fun s6 J6 => ⟨_, H5, xc J6, z⟩
          | ret u => obtain ⟨v, σ5, H5, J, rv, z⟩ := q; exact xU (X := pnX X (X.pn ++ pins)) (kE J hdn) hN hi hl fun s6 J6 => ⟨v, _, H5, xc J6, rv, z⟩
end L3
set_option maxHeartbeats 4000000
namespace L3
open PySem PySem.Spec PyProof.Rows L2
section
variable {X : Cx}
theorem qEq {bs : List Bool} {its : List Value} {P : Program} {w : World} {A : Around} (r : Vals (bs.map V.bl) its) : TruthOf P w A (fun i v => its.toArray[i]? = some v) (fun i => (bs[i]?).getD false) := by
  intro i v s Q E hv hq
  have hv' : its[i]? = some v := by simpa using hv
  have hl := r.length
  have hi : i < bs.length := by
    have := (List.getElem?_eq_some_iff.mp hv').1
    rw [List.length_map] at hl
    omega
  obtain ⟨u, e1, q1⟩ := r.get (i := i) (x := .bl bs[i]) (by rw [List.getElem?_map, List.getElem?_eq_getElem hi]; rfl)
  rw [hv'] at e1
  cases e1
  cases q1
  have e : (bs[i]?).getD false = bs[i] := by rw [List.getElem?_eq_getElem hi]; rfl
  have hq' : Q ((bs[i]?).getD false) s := hq
  rw [e] at hq'
  exact wpAny_truthy_bool hq'
theorem qHx (bs : List Bool) : (List.range bs.length).all (fun i => (bs[i]?).getD false) = bs.all id := by
  rw [Bool.eq_iff_iff, List.all_eq_true, List.all_eq_true]
  constructor
  · intro h x hx
    obtain ⟨i, hi, e⟩ := List.mem_iff_getElem.mp hx
    have := h i (by simpa using hi)
    rw [List.getElem?_eq_getElem hi, e] at this
    exact this
  · intro h i hi
    have hi : i < bs.length := by simpa using hi
    rw [List.getElem?_eq_getElem hi]
    exact h _ (List.getElem_mem hi)
theorem qGz (bs : List Bool) : (List.range bs.length).any (fun i => (bs[i]?).getD false) = bs.any id := by
  rw [Bool.eq_iff_iff, List.any_eq_true, List.any_eq_true]
  constructor
  · rintro ⟨i, hi, h⟩
    have hi : i < bs.length := by simpa using hi
    rw [List.getElem?_eq_getElem hi] at h
    exact ⟨_, List.getElem_mem hi, h⟩
  · rintro ⟨x, hx, h⟩
    obtain ⟨i, hi, e⟩ := List.mem_iff_getElem.mp hx
    exact ⟨i, by simpa using hi, by rw [List.getElem?_eq_getElem hi, e]; exact h⟩
theorem qHu (hc : X.calm = true) : CallR X (.builtin "all") (fun xs H Q => ∃ (p : Addr) (bs : List Bool), xs = [.ref p] ∧ SqL X.K H p (bs.map V.bl) ∧ Q (.bl (bs.all id)) H) := by
  intro pins s σ H xs us Q I r h
  obtain ⟨p, bs, rfl, hq, q⟩ := h
  obtain ⟨u, rfl, rx⟩ := qEe r
  cases rx
  obtain ⟨its, rv, pl, hz⟩ := I.list hq
  have hp : p ≠ s.heap.objs.size := by
    obtain ⟨o, n, e, _⟩ := pl
    exact Nat.ne_of_lt (Heap.lt_size e)
  have hh : X.A.in1.handled = none := I.ok.hd hc
  have hl : its.toArray.size = bs.length := by rw [List.size_toArray, ← rv.length, List.length_map]
  refine call_all_walk (wpAny_pyIter_list pl.isList ?_)
  refine ⟨s.heap.objs.size, _, _, _, _, _, _, rfl, Walks.list hh _ p hp its.toArray, ⟨⟨_, Heap.get?_push_size _ rfl, rfl, rfl⟩, pl.isList.at fun o e => Heap.get?_push_of_some _ e⟩, qEq rv, fun h' tk hk => ?_⟩
  rw [hl, qHx]
  refine ⟨.bl _, H, I.kept fun b o e => hk b o (fun z => ?_) (Heap.get?_push_of_some _ e), rfl, q⟩
  have z' : b = s.heap.objs.size := by simpa using z
  exact absurd (Heap.lt_size e) (by rw [z']; exact Nat.lt_irrefl _)
theorem qGy (hc : X.calm = true) : CallR X (.builtin "any") (fun xs H Q => ∃ (p : Addr) (bs : List Bool), xs = [.ref p] ∧ SqL X.K H p (bs.map V.bl) ∧ Q (.bl (bs.any id)) H) := by
  intro pins s σ H xs us Q I r h
  obtain ⟨p, bs, rfl, hq, q⟩ := h
  obtain ⟨u, rfl, rx⟩ := qEe r
  cases rx
  obtain ⟨its, rv, pl, hz⟩ := I.list hq
  have hp : p ≠ s.heap.objs.size := by
    obtain ⟨o, n, e, _⟩ := pl
    exact Nat.ne_of_lt (Heap.lt_size e)
  have hh : X.A.in1.handled = none := I.ok.hd hc
  have hl : its.toArray.size = bs.length := by rw [List.size_toArray, ← rv.length, List.length_map]
  refine call_any_walk (wpAny_pyIter_list pl.isList ?_)
  refine ⟨s.heap.objs.size, _, _, _, _, _, _, rfl, Walks.list hh _ p hp its.toArray, ⟨⟨_, Heap.get?_push_size _ rfl, rfl, rfl⟩, pl.isList.at fun o e => Heap.get?_push_of_some _ e⟩, qEq rv, fun h' tk hk => ?_⟩
  rw [hl, qGz]
  refine ⟨.bl _, H, I.kept fun b o e => hk b o (fun z => ?_) (Heap.get?_push_of_some _ e), rfl, q⟩
  have z' : b = s.heap.objs.size := by simpa using z
  exact absurd (Heap.lt_size e) (by rw [z']; exact Nat.lt_irrefl _)
theorem qLy : OpR X (compareOp .In) (fun x y H Q => ∃ (a b : Str), x = .str a ∧ y = .str b ∧ Q (.bl (!(Builtin.Str.occurrences b a 0 b.length 1).isEmpty)) H) := by
  intro pins s σ H x y v u Q I rx ry h
  obtain ⟨a, b, rfl, rfl, q⟩ := h
  obtain ⟨t, rfl⟩ := rx
  obtain ⟨t', rfl⟩ := ry
  exact P.in_str ⟨.bl _, H, I, rfl, q⟩
def Its (z : Str) : It := ⟨fun i _ => i < z.cps.size, fun i H x H' => H' = H ∧ ∃ c, z.cps[i]? = some c ∧ x = .str ⟨#[c]⟩, fun i _ => z.cps.size ≤ i⟩
theorem qGv {P : Program} {w : World} {K : PySem.W.Frag} {tg : Expr} (it : Addr) (z : Str) (t : Tok) (ty : String) (hty : ty = "str_ascii_iterator" ∨ ty = "str_iterator") :
    qMa P w K tg (Its z) [it] it (fun i h => h.IsStrIter it ty z t i ∧ i ≤ z.cps.size) where
  mem := by simp
  obj := fun i h st b hb => by
    have e : b = it := by simpa using hb
    subst e
    obtain ⟨⟨o, e, c, d⟩, _⟩ := st
    exact ⟨o, e, fun v z => by rw [d] at z; cases z⟩
  keep := fun i h h' st k => ⟨let ⟨o, ho, r⟩ := st.1; ⟨o, k it (by simp) o ho, r⟩, st.2⟩
  item := by
    intro X hP hw hK hc i pins s σ H E I hf st hg
    subst hP hw hK
    have hi : i < z.cps.size := hg
    have hx : z.cps[i]? = some z.cps[i] := by simp [hi]
    obtain ⟨f0, f1, f2, f3, f4, f5⟩ := hf it (by simp)
    have fin : ∀ h', h'.IsStrIter it ty z t (i + 1) → Heap.SameBut it s.heap h' → ∃ u, some (Value.str ⟨#[z.cps[i]]⟩ s.toks) = some u ∧ wpAny (model X.prog X.w) X.A (letOwnedTupleGo tg (.ref it) u) (fun _ s2 => ∃ x H', Inv X pins σ H' s2 ∧ RelV x u ∧ (Its z).yld i H x H' ∧ (s2.heap.IsStrIter it ty z t (i + 1) ∧ i + 1 ≤ z.cps.size) ∧ ∀ b ∈ [it], H' b = none) E { s with heap := h', toks := s.toks + 1 } := fun h' st' sb => by
      have I1 : Inv X pins σ H { s with heap := h', toks := s.toks + 1 } := I.turned (t' := s.toks + 1) (fun b o hb e => (sb.2 b hb).trans e) f0 f1 f3 f4 f5
      obtain ⟨o, e, c, d⟩ := id st'
      refine ⟨_, rfl, qK1 (s := { s with heap := h', toks := s.toks + 1 }) e c d (by rcases hty with rfl | rfl <;> decide) ⟨.str ⟨#[z.cps[i]]⟩, H, I1, ⟨_, rfl⟩, ⟨rfl, _, hx, rfl⟩, ⟨st', hi⟩, fun b hb => (hf b hb).1⟩⟩
    rcases hty with rfl | rfl
    · exact wpAny_pyNext_ascii_item st.1 hx fin
    · exact wpAny_pyNext_wide_item st.1 hx fin
  done := by
    intro X hP hw hK hc i pins s σ H E I hf st hg
    subst hP hw hK
    have hi : z.cps.size ≤ i := hg
    have hx : z.cps[i]? = none := by simp [hi]
    obtain ⟨f0, f1, f2, f3, f4, f5⟩ := hf it (by simp)
    rcases hty with rfl | rfl
    · exact wpAny_pyNext_ascii_end (I.ok.hd hc) st.1 hx fun h' eb => ⟨rfl, I.turned (t' := s.toks) (fun b o hb e => eb b o hb e) f0 f1 f3 f4 f5⟩
    · exact wpAny_pyNext_wide_end (I.ok.hd hc) st.1 hx fun h' eb => ⟨rfl, I.turned (t' := s.toks) (fun b o hb e => eb b o hb e) f0 f1 f3 f4 f5⟩
  self := fun _ _ _ _ _ st h => by
    rcases hty with rfl | rfl
    · exact wpAny_pyIter_striter_ascii st.1 h
    · exact wpAny_pyIter_striter_wide st.1 h
def qO2 (tl : TE) : TI := fun σ H R => tl σ H fun x H1 => ∃ z, x = .str z ∧ R (Its z) H1
theorem qMh {tg l : Expr} {tl : TE} (hl : PE X l tl) : PI X tg l (qO2 tl) := by
  intro pins s σ H R I h
  refine thn (hl pins s σ H _ I h) fun v s1 ⟨x, H1, I1, r1, q1⟩ => ?_
  obtain ⟨z, e, q⟩ := q1
  subst e
  obtain ⟨t, rfl⟩ := r1
  have key : ∀ ty : String, (ty = "str_ascii_iterator" ∨ ty = "str_iterator") → PIE X pins σ tg R (.ref s1.heap.objs.size) { s1 with heap := s1.heap.push { cls := .type ty, data := .fields #[.str z t, .int 0 0] } } := fun ty hty => by
    refine ⟨s1.heap.objs.size, [s1.heap.objs.size], _, _, H1, rfl, I1.kept (t' := s1.toks) fun b o e => Heap.get?_push_of_some _ e, qGv _ z t ty hty, ⟨⟨_, Heap.get?_push_size _ rfl, rfl, rfl⟩, Nat.zero_le _⟩, fun b hb => ?_, q⟩
    have e : b = s1.heap.objs.size := by simpa using hb
    subst e
    exact I1.fpOk (Nat.le_refl _) (I1.hok.fresh (Nat.le_refl _))
  cases ha : z.cps.all (· < 128)
  · exact wpAny_pyIter_wide ha (key _ (.inr rfl))
  · exact wpAny_pyIter_ascii ha (key _ (.inl rfl))
theorem qI5 {z : Str} {js : List Nat} {te : TE} {σ : L2.St} {H : Hp} {Q : VK} (Pv : Nat → List V → Hp → Prop) (h0 : Pv 0 [] H) (hl : ∀ i acc H, i ≤ z.cps.size → Pv i acc H → acc.length < sizeLine)
    (hs : ∀ i c acc H, i < z.cps.size → z.cps[i]? = some c → Pv i acc H → te (some (.str ⟨#[c]⟩) :: kO js σ) H fun v H' => Nxt z.cps.size i (Pv (i + 1) (acc ++ [v]) H')) (hd : ∀ acc H, Pv z.cps.size acc H → ∀ D, H D = none → Q (.ref D) (upd H D (.lst acc))) : qA8 js te σ Q (Its z) H := by
  refine ⟨fun i m acc H => m = z.cps.size - i ∧ i ≤ z.cps.size ∧ Pv i acc H, ⟨z.cps.size, by simp, Nat.zero_le _, h0⟩, ?_⟩
  rintro i m acc H2 ⟨rfl, hi, p⟩
  refine ⟨hl i acc H2 hi p, ?_⟩
  by_cases hlt : i < z.cps.size
  · refine .inr ⟨hlt, fun x H3 y => ?_⟩
    obtain ⟨e, c, hc, rfl⟩ := y
    subst e
    exact hs i c acc _ hlt hc p
  · have e : i = z.cps.size := by omega
    subst e
    exact .inl ⟨Nat.le_refl _, hd acc H2 p⟩
end
theorem xg {X : Cx} {K : PySem.W.Frag} (h : X.K = K) : CallR X (.builtin "isinstance") (fun xs H Q => ∃ e D od c b, xs = [.ref e, c] ∧ H e = some (kr e (.ref D, od)) ∧ OwnD H od ∧ ExcK K D ∧
    ((∃ n, c = .ty n ∧ PySem.W.kitOne K (.ref D) (.type n) = some b) ∨ ∃ a, c = .ref a ∧ PySem.W.kitOne K (.ref D) (.ref a) = some b) ∧ Q (.bl b) H) := h ▸ qC7
end L3
namespace L3
open PySem PySem.Spec PyProof.Rows L2
end L3
set_option maxHeartbeats 4000000
namespace L3
open PySem PySem.Spec PyProof.Rows L2
section
variable {X : Cx}
end
end L3
set_option maxHeartbeats 4000000
namespace L3
open PySem PySem.Spec PyProof.Rows L2
inductive D where
  | leaf (v : V)
  | tup (xs : List D)
  | lst (xs : List D)
mutual
def Rep (K : PySem.W.Frag) (H : Hp) : D → V → Prop
  | .leaf v, x => x = v ∧ xY v = true
  | .tup ds, x => ∃ p xs, x = .ref p ∧ SqT K H p xs ∧ Reps K H ds xs
  | .lst ds, x => ∃ p xs, x = .ref p ∧ SqL K H p xs ∧ Reps K H ds xs
def Reps (K : PySem.W.Frag) (H : Hp) : List D → List V → Prop
  | [], [] => True
  | d :: ds, x :: xs => Rep K H d x ∧ Reps K H ds xs
  | _, _ => False
end
mutual
def eqD : D → D → Bool
  | .leaf v, .leaf w => eqV v w
  | .tup xs, .tup ys => kI xs ys
  | .lst xs, .lst ys => kI xs ys
  | _, _ => false
def kI : List D → List D → Bool
  | [], [] => true
  | x :: xs, y :: ys => eqD x y && kI xs ys
  | _, _ => false
end
mutual
def dep : D → Nat
  | .leaf _ => 0
  | .tup xs => vz xs + 1
  | .lst xs => vz xs + 1
def vz : List D → Nat
  | [] => 0
  | x :: xs => max (dep x) (vz xs)
end
theorem Reps.length {K : PySem.W.Frag} {H : Hp} : ∀ {ds : List D} {xs : List V}, Reps K H ds xs → ds.length = xs.length
  | [], [], _ => rfl
  | _ :: _, _ :: _, h => by
    unfold Reps at h
    rw [List.length_cons, List.length_cons, h.2.length]
  | [], _ :: _, h => by unfold Reps at h; exact h.elim
  | _ :: _, [], h => by unfold Reps at h; exact h.elim
theorem qIk {v : V} (h : xY v = true) : eqV v v = true := by
  cases v <;> simp_all [xY, eqV]
theorem qA4 : ∀ {xs ys : List D}, kI xs ys = true → xs.length = ys.length
  | [], [], _ => rfl
  | x :: xs, y :: ys, h => by
    unfold kI at h
    rw [Bool.and_eq_true] at h
    rw [List.length_cons, List.length_cons, qA4 h.2]
  | [], _ :: _, h => by simp [kI] at h
  | _ :: _, [], h => by simp [kI] at h
def itE (xs ys : List D) (j : Nat) : Bool := match xs[j]?, ys[j]? with
  | some a, some b => eqD a b
  | _, _ => false
theorem qFa : ∀ (xs ys : List D), ((List.range (min xs.length ys.length)).all (itE xs ys) && xs.length == ys.length) = kI xs ys
  | [], [] => by simp [kI]
  | [], y :: ys => by simp [kI]
  | x :: xs, [] => by simp [kI]
  | x :: xs, y :: ys => by
    have ih := qFa xs ys
    have e : min (x :: xs).length (y :: ys).length = min xs.length ys.length + 1 := by simp only [List.length_cons]; omega
    rw [e, List.range_succ_eq_map, List.all_cons, List.all_map]
    have e2 : (itE (x :: xs) (y :: ys)) ∘ Nat.succ = itE xs ys := by
      funext j
      simp [itE]
    have e3 : itE (x :: xs) (y :: ys) 0 = eqD x y := by simp [itE]
    have e4 : ((x :: xs).length == (y :: ys).length) = (xs.length == ys.length) := by
      rw [Bool.eq_iff_iff]; simp
    rw [e2, e3, e4, Bool.and_assoc, ih]
    conv => rhs; unfold kI
theorem qHs {xs ys : List D} (h : xs.length = ys.length) : (List.range xs.length).all (itE xs ys) = kI xs ys := by
  have := qFa xs ys
  rw [← h, Nat.min_self] at this
  simpa using this
section
variable {X : Cx} {pins : List (Addr × Obj)} {σ : L2.St} {H : Hp} {s : Shared}
mutual
theorem qBs (I : Inv X pins σ H s) : ∀ (d e : D) {x : V}, Rep X.K H d x → Rep X.K H e x → eqD d e = true
  | .leaf v, .leaf w, x, h1, h2 => by
    unfold Rep at h1 h2
    obtain ⟨rfl, f⟩ := h1
    obtain ⟨rfl, _⟩ := h2
    unfold eqD
    exact qIk f
  | .leaf v, .tup ds, x, h1, h2 => by
    unfold Rep at h1 h2
    obtain ⟨rfl, f⟩ := h1
    obtain ⟨p, xs, rfl, _⟩ := h2
    cases f
  | .leaf v, .lst ds, x, h1, h2 => by
    unfold Rep at h1 h2
    obtain ⟨rfl, f⟩ := h1
    obtain ⟨p, xs, rfl, _⟩ := h2
    cases f
  | .tup ds, .leaf w, x, h1, h2 => by
    unfold Rep at h1 h2
    obtain ⟨rfl, f⟩ := h2
    obtain ⟨p, xs, rfl, _⟩ := h1
    cases f
  | .lst ds, .leaf w, x, h1, h2 => by
    unfold Rep at h1 h2
    obtain ⟨rfl, f⟩ := h2
    obtain ⟨p, xs, rfl, _⟩ := h1
    cases f
  | .tup ds, .tup es, x, h1, h2 => by
    unfold Rep at h1 h2
    obtain ⟨p, xs, rfl, t1, r1⟩ := h1
    obtain ⟨q, ys, e, t2, r2⟩ := h2
    cases e
    rw [I.tuple_inj t1 t2] at r1
    unfold eqD
    exact wB I ds es r1 r2
  | .lst ds, .lst es, x, h1, h2 => by
    unfold Rep at h1 h2
    obtain ⟨p, xs, rfl, t1, r1⟩ := h1
    obtain ⟨q, ys, e, t2, r2⟩ := h2
    cases e
    rw [I.list_inj t1 t2] at r1
    unfold eqD
    exact wB I ds es r1 r2
  | .tup ds, .lst es, x, h1, h2 => by
    unfold Rep at h1 h2
    obtain ⟨p, xs, rfl, t1, r1⟩ := h1
    obtain ⟨q, ys, e, t2, r2⟩ := h2
    cases e
    obtain ⟨_, _, i1, _⟩ := I.tuple t1
    obtain ⟨_, _, i2, _⟩ := I.list t2
    exact (SeqAt.ne_of_list_tuple i2.isList i1 rfl).elim
  | .lst ds, .tup es, x, h1, h2 => by
    unfold Rep at h1 h2
    obtain ⟨p, xs, rfl, t1, r1⟩ := h1
    obtain ⟨q, ys, e, t2, r2⟩ := h2
    cases e
    obtain ⟨_, _, i1, _⟩ := I.list t1
    obtain ⟨_, _, i2, _⟩ := I.tuple t2
    exact (SeqAt.ne_of_list_tuple i1.isList i2 rfl).elim
theorem wB (I : Inv X pins σ H s) : ∀ (ds es : List D) {xs : List V}, Reps X.K H ds xs → Reps X.K H es xs → kI ds es = true
  | [], [], _, _, _ => by simp [kI]
  | d :: ds, e :: es, [], h1, _ => by unfold Reps at h1; exact h1.elim
  | d :: ds, e :: es, x :: xs, h1, h2 => by
    unfold Reps at h1 h2
    unfold kI
    rw [qBs I d e h1.1 h2.1, wB I ds es h1.2 h2.2]
    rfl
  | [], e :: es, [], _, h2 => by unfold Reps at h2; exact h2.elim
  | [], e :: es, _ :: _, h1, _ => by unfold Reps at h1; exact h1.elim
  | d :: ds, [], [], h1, _ => by unfold Reps at h1; exact h1.elim
  | d :: ds, [], _ :: _, _, h2 => by unfold Reps at h2; exact h2.elim
end
theorem zx {A : Around} {x : V} {u : Value} {p : Addr} {its : Array Value} (f : xY x = true) (r : RelV x u) (hu : A.units < cLine) (h : s.heap.IsTuple p its ∨ s.heap.IsList p its) : SeqAt.EqAt A s u (.ref p) false ∧ SeqAt.EqAt A s (.ref p) u false := by
  cases x with
  | non => cases r; rcases h with h | h <;> exact ⟨by first | exact SeqAt.EqAt.none_tuple h hu | exact SeqAt.EqAt.none_list h hu, by first | exact SeqAt.EqAt.tuple_none h hu | exact SeqAt.EqAt.list_none h hu⟩
  | bl b => cases r; rcases h with h | h <;> exact ⟨by first | exact SeqAt.EqAt.bool_tuple _ h hu | exact SeqAt.EqAt.bool_list _ h hu, by first | exact SeqAt.EqAt.tuple_bool _ h hu | exact SeqAt.EqAt.list_bool _ h hu⟩
  | int i => obtain ⟨t, rfl⟩ := r; rcases h with h | h <;> exact ⟨by first | exact SeqAt.EqAt.int_tuple _ _ h hu | exact SeqAt.EqAt.int_list _ _ h hu, by first | exact SeqAt.EqAt.tuple_int _ _ h hu | exact SeqAt.EqAt.list_int _ _ h hu⟩
  | str i => obtain ⟨t, rfl⟩ := r; rcases h with h | h <;> exact ⟨by first | exact SeqAt.EqAt.str_tuple _ _ h hu | exact SeqAt.EqAt.str_list _ _ h hu, by first | exact SeqAt.EqAt.tuple_str _ _ h hu | exact SeqAt.EqAt.list_str _ _ h hu⟩
  | _ => cases f
theorem Reps.get {K : PySem.W.Frag} {H : Hp} : ∀ {ds : List D} {xs : List V}, Reps K H ds xs → ∀ (j : Nat) (d : D), ds[j]? = some d → ∃ x, xs[j]? = some x ∧ Rep K H d x
  | [], [], _, j, d, e => by simp at e
  | a :: ds, x :: xs, h, 0, d, e => by
    unfold Reps at h
    have : a = d := by simpa using e
    subst this
    exact ⟨x, rfl, h.1⟩
  | a :: ds, x :: xs, h, j + 1, d, e => by
    unfold Reps at h
    exact h.2.get j d (by simpa using e)
  | [], _ :: _, h, _, _, _ => by unfold Reps at h; exact h.elim
  | _ :: _, [], h, _, _, _ => by unfold Reps at h; exact h.elim
theorem qA1 : ∀ {ds : List D} {j : Nat} {d : D}, ds[j]? = some d → dep d ≤ vz ds
  | a :: ds, 0, d, e => by
    have : a = d := by simpa using e
    subst this
    unfold vz
    exact Nat.le_max_left _ _
  | a :: ds, j + 1, d, e => by
    have := qA1 (ds := ds) (j := j) (d := d) (by simpa using e)
    unfold vz
    exact Nat.le_trans this (Nat.le_max_right _ _)
  | [], _, _, e => by simp at e
theorem qH0 {A : Around} {ds es : List D} {xs ys : List V} {us ws : List Value} (r1 : Reps X.K H ds xs) (r2 : Reps X.K H es ys) (v1 : Vals xs us) (v2 : Vals ys ws)
    (ih : ∀ d e x y u w, d ∈ ds → Rep X.K H d x → Rep X.K H e y → RelV x u → RelV y w → SeqAt.EqAt A s u w (eqD d e)) :
    ∀ j (h1 : j < us.toArray.size) (h2 : j < ws.toArray.size), SeqAt.EqAt A s us.toArray[j] ws.toArray[j] (itE ds es j) := by
  intro j h1 h2
  have l1 := v1.length
  have l2 := v2.length
  have m1 := r1.length
  have m2 := r2.length
  rw [List.size_toArray] at h1 h2
  have g1 : ds[j]? = some ds[j] := List.getElem?_eq_getElem (by omega)
  have g2 : es[j]? = some es[j] := List.getElem?_eq_getElem (by omega)
  obtain ⟨x, ex, rx⟩ := r1.get j _ g1
  obtain ⟨y, ey, ry⟩ := r2.get j _ g2
  obtain ⟨u, eu, qu⟩ := v1.get ex
  obtain ⟨w, ew, qw⟩ := v2.get ey
  have c1 : us.toArray[j] = u := by
    have := (List.getElem?_eq_some_iff.mp eu).2
    simpa using this
  have c2 : ws.toArray[j] = w := by
    have := (List.getElem?_eq_some_iff.mp ew).2
    simpa using this
  have e : itE ds es j = eqD ds[j] es[j] := by unfold itE; rw [g1, g2]
  rw [c1, c2, e]
  exact ih _ _ _ _ _ _ (List.getElem_mem _) rx ry qu qw
theorem qJv (I : Inv X pins σ H s) : ∀ (n : Nat) (A : Around) (d e : D) (x y : V) (u w : Value), dep d ≤ n → A.units + n < cLine → Rep X.K H d x → Rep X.K H e y → RelV x u → RelV y w → SeqAt.EqAt A s u w (eqD d e) := by
  intro n
  induction n with
  | zero =>
    intro A d e x y u w hd hu r1 r2 q1 q2
    cases d with
    | leaf v =>
      unfold Rep at r1
      obtain ⟨rfl, f1⟩ := r1
      cases e with
      | leaf v' =>
        unfold Rep at r2
        obtain ⟨rfl, f2⟩ := r2
        unfold eqD
        exact qCf q1 q2 f1 f2
      | tup es =>
        unfold Rep at r2
        obtain ⟨p, ys, rfl, t, _⟩ := r2
        cases q2
        obtain ⟨_, _, i, _⟩ := I.tuple t
        unfold eqD
        exact (zx f1 q1 hu (.inl i)).1
      | lst es =>
        unfold Rep at r2
        obtain ⟨p, ys, rfl, t, _⟩ := r2
        cases q2
        obtain ⟨_, _, i, _⟩ := I.list t
        unfold eqD
        exact (zx f1 q1 hu (.inr i.isList)).1
    | tup ds => unfold dep at hd; omega
    | lst ds => unfold dep at hd; omega
  | succ n ih =>
    intro A d e x y u w hd hu r1 r2 q1 q2
    have hu0 : A.units < cLine := by omega
    have hu1 : A.in1.units + n < cLine := by show A.units + 1 + n < cLine; omega
    cases d with
    | leaf v =>
      unfold Rep at r1
      obtain ⟨rfl, f1⟩ := r1
      cases e with
      | leaf v' =>
        unfold Rep at r2
        obtain ⟨rfl, f2⟩ := r2
        unfold eqD
        exact qCf q1 q2 f1 f2
      | tup es =>
        unfold Rep at r2
        obtain ⟨p, ys, rfl, t, _⟩ := r2
        cases q2
        obtain ⟨_, _, i, _⟩ := I.tuple t
        unfold eqD
        exact (zx f1 q1 hu0 (.inl i)).1
      | lst es =>
        unfold Rep at r2
        obtain ⟨p, ys, rfl, t, _⟩ := r2
        cases q2
        obtain ⟨_, _, i, _⟩ := I.list t
        unfold eqD
        exact (zx f1 q1 hu0 (.inr i.isList)).1
    | tup ds =>
      have r1' := r1
      unfold Rep at r1
      obtain ⟨p, xs, rfl, t1, s1⟩ := r1
      cases q1
      obtain ⟨us, v1, i1, _⟩ := I.tuple t1
      cases e with
      | leaf v' =>
        unfold Rep at r2
        obtain ⟨rfl, f2⟩ := r2
        unfold eqD
        exact (zx f2 q2 hu0 (.inl i1)).2
      | lst es =>
        unfold Rep at r2
        obtain ⟨q, ys, rfl, t2, _⟩ := r2
        cases q2
        obtain ⟨_, _, i2, _⟩ := I.list t2
        unfold eqD
        exact SeqAt.EqAt.tuple_list i1 i2.isList hu0
      | tup es =>
        have r2' := r2
        unfold Rep at r2
        obtain ⟨q, ys, rfl, t2, s2⟩ := r2
        cases q2
        by_cases pq : p = q
        · subst pq
          rw [qBs I _ _ r1' r2']
          exact SeqAt.EqAt.same _
        obtain ⟨ws, v2, i2, _⟩ := I.tuple t2
        have hdd : vz ds ≤ n := by unfold dep at hd; omega
        have := SeqAt.EqAt.of_refs pq (SeqAt.RcAt.tuples i1 i2 hu0 (qH0 s1 s2 v1 v2 fun d e x y u w hm ra rb qa qb => by
          obtain ⟨j, hj, ej⟩ := List.mem_iff_getElem.mp hm
          have hde : dep d ≤ vz ds := qA1 (j := j) (by rw [List.getElem?_eq_getElem hj, ej])
          exact ih A.in1 d e x y u w (by omega) hu1 ra rb qa qb))
        rw [List.size_toArray, List.size_toArray, ← v1.length, ← v2.length, ← s1.length, ← s2.length, qFa] at this
        unfold eqD
        exact this
    | lst ds =>
      have r1' := r1
      unfold Rep at r1
      obtain ⟨p, xs, rfl, t1, s1⟩ := r1
      cases q1
      obtain ⟨us, v1, i1, _⟩ := I.list t1
      cases e with
      | leaf v' =>
        unfold Rep at r2
        obtain ⟨rfl, f2⟩ := r2
        unfold eqD
        exact (zx f2 q2 hu0 (.inr i1.isList)).2
      | tup es =>
        unfold Rep at r2
        obtain ⟨q, ys, rfl, t2, _⟩ := r2
        cases q2
        obtain ⟨_, _, i2, _⟩ := I.tuple t2
        unfold eqD
        exact SeqAt.EqAt.list_tuple i1.isList i2 hu0
      | lst es =>
        have r2' := r2
        unfold Rep at r2
        obtain ⟨q, ys, rfl, t2, s2⟩ := r2
        cases q2
        by_cases pq : p = q
        · subst pq
          rw [qBs I _ _ r1' r2']
          exact SeqAt.EqAt.same _
        obtain ⟨ws, v2, i2, _⟩ := I.list t2
        have hdd : vz ds ≤ n := by unfold dep at hd; omega
        unfold eqD
        by_cases hl : ds.length = es.length
        · have hsz : us.toArray.size = ws.toArray.size := by rw [List.size_toArray, List.size_toArray, ← v1.length, ← v2.length, ← s1.length, ← s2.length]; exact hl
          have := SeqAt.EqAt.of_refs pq (SeqAt.RcAt.lists i1.isList i2.isList hsz hu0 (qH0 s1 s2 v1 v2 fun d e x y u w hm ra rb qa qb => by
            obtain ⟨j, hj, ej⟩ := List.mem_iff_getElem.mp hm
            have hde : dep d ≤ vz ds := qA1 (j := j) (by rw [List.getElem?_eq_getElem hj, ej])
            exact ih A.in1 d e x y u w (by omega) hu1 ra rb qa qb))
          rw [List.size_toArray, ← v1.length, ← s1.length, qHs hl] at this
          exact this
        · have hsz : (us.toArray.size != ws.toArray.size) = true := by
            rw [List.size_toArray, List.size_toArray, ← v1.length, ← v2.length, ← s1.length, ← s2.length]
            simpa using hl
          have e : kI ds es = false := by
            rw [Bool.eq_false_iff]
            intro z
            exact hl (qA4 z)
          rw [e]
          exact SeqAt.EqAt.of_refs pq (SeqAt.RcAt.lists_lengths i1.isList i2.isList hsz hu0)
def kin : D → D → Bool
  | .tup _, .tup _ => true
  | .lst _, .lst _ => true
  | _, _ => false
def qMz (K : PySem.W.Frag) (neg : Bool) : R2 := fun x y H Q => ∃ d e : D, Rep K H d x ∧ Rep K H e y ∧ kin d e = true ∧ dep d ≤ 60 ∧ Q (.bl (if neg then !eqD d e else eqD d e)) H
theorem qAi {A : Around} (I : Inv X pins σ H s) (hu : A.units + 64 < cLine) {ds es : List D} {xs ys : List V} {us ws : List Value} (hd : vz ds ≤ 60) (s1 : Reps X.K H ds xs) (s2 : Reps X.K H es ys) (v1 : Vals xs us) (v2 : Vals ys ws) :
    ∀ j (h1 : j < us.toArray.size) (h2 : j < ws.toArray.size), SeqAt.EqAt A.in1 s us.toArray[j] ws.toArray[j] (itE ds es j) :=
  qH0 s1 s2 v1 v2 fun d e x y u w hm ra rb qa qb => by
    obtain ⟨j, hj, ej⟩ := List.mem_iff_getElem.mp hm
    have hde : dep d ≤ vz ds := qA1 (j := j) (by rw [List.getElem?_eq_getElem hj, ej])
    exact qJv I 60 A.in1 d e x y u w (by omega) (by show A.units + 1 + 60 < cLine; omega) ra rb qa qb
theorem qG2 (hu : X.A.units + 64 < cLine) : OpR X (compareOp .Eq) (qMz X.K false) := by
  intro pins s σ H x y v u Q I rx ry h
  obtain ⟨d, e, r1, r2, hk, hd, q⟩ := h
  have hu0 : X.A.units < cLine := by omega
  cases d with
  | leaf a => cases e <;> cases hk
  | tup ds =>
    cases e with
    | leaf b => cases hk
    | lst es => cases hk
    | tup es =>
      unfold Rep at r1 r2
      obtain ⟨p, xs, rfl, t1, s1⟩ := r1
      obtain ⟨p', ys, rfl, t2, s2⟩ := r2
      cases rx; cases ry
      obtain ⟨us, v1, i1, _⟩ := I.tuple t1
      obtain ⟨ws, v2, i2, _⟩ := I.tuple t2
      refine SeqAt.eq_tupleAt i1 i2 hu0 (qAi I hu (by unfold dep at hd; omega) s1 s2 v1 v2) ?_
      rw [List.size_toArray, List.size_toArray, ← v1.length, ← v2.length, ← s1.length, ← s2.length, qFa]
      refine ⟨.bl _, H, I, rfl, ?_⟩
      unfold eqD at q
      exact q
  | lst ds =>
    cases e with
    | leaf b => cases hk
    | tup es => cases hk
    | lst es =>
      unfold Rep at r1 r2
      obtain ⟨p, xs, rfl, t1, s1⟩ := r1
      obtain ⟨p', ys, rfl, t2, s2⟩ := r2
      cases rx; cases ry
      obtain ⟨us, v1, i1, _⟩ := I.list t1
      obtain ⟨ws, v2, i2, _⟩ := I.list t2
      unfold eqD at q
      by_cases hl : ds.length = es.length
      · have hsz : us.toArray.size = ws.toArray.size := by rw [List.size_toArray, List.size_toArray, ← v1.length, ← v2.length, ← s1.length, ← s2.length]; exact hl
        refine SeqAt.eq_listAt i1.isList i2.isList hsz hu0 (qAi I hu (by unfold dep at hd; omega) s1 s2 v1 v2) ?_
        rw [List.size_toArray, ← v1.length, ← s1.length, qHs hl]
        exact ⟨.bl _, H, I, rfl, q⟩
      · have hsz : (us.toArray.size != ws.toArray.size) = true := by
          rw [List.size_toArray, List.size_toArray, ← v1.length, ← v2.length, ← s1.length, ← s2.length]
          simpa using hl
        have e : kI ds es = false := by
          rw [Bool.eq_false_iff]
          intro z
          exact hl (qA4 z)
        rw [e] at q
        exact SeqAt.eq_list_lengthsAt i1.isList i2.isList hsz hu0 ⟨.bl _, H, I, rfl, q⟩
end
mutual
theorem Rep.same {K : PySem.W.Frag} {H H' : Hp} (e : Same H H') : ∀ (d : D) {x : V}, Rep K H d x → Rep K H' d x
  | .leaf v, x, h => by unfold Rep at h ⊢; exact h
  | .tup ds, x, h => by
    unfold Rep at h ⊢
    obtain ⟨p, xs, h1, h2, h3⟩ := h
    exact ⟨p, xs, h1, L3.Same.tup e h2, Reps.same e ds h3⟩
  | .lst ds, x, h => by
    unfold Rep at h ⊢
    obtain ⟨p, xs, h1, h2, h3⟩ := h
    exact ⟨p, xs, h1, e.seq h2, Reps.same e ds h3⟩
theorem Reps.same {K : PySem.W.Frag} {H H' : Hp} (e : Same H H') : ∀ (ds : List D) {xs : List V}, Reps K H ds xs → Reps K H' ds xs
  | [], [], h => by unfold Reps; trivial
  | d :: ds, x :: xs, h => by
    unfold Reps at h ⊢
    exact ⟨Rep.same e d h.1, Reps.same e ds h.2⟩
  | [], _ :: _, h => by unfold Reps at h; exact h.elim
  | _ :: _, [], h => by unfold Reps at h; exact h.elim
end
end L3
set_option maxHeartbeats 4000000
namespace L3
open PySem PySem.Spec PyProof.Rows L2
def qE2 (js : List Nat) (tc : TT) (te : TE) (σ : L2.St) (Q : VK) (J : It) (H1 : Hp) : Prop := ∃ W : Nat → Nat → List V → Hp → Prop, (∃ m, W 0 m [] H1) ∧ ∀ i m acc H2, W i m acc H2 →
  acc.length < sizeLine ∧ ((J.stop i H2 ∧ ∀ D, H2 D = none → Q (.ref D) (upd H2 D (.lst acc))) ∨
    (J.go i H2 ∧ ∀ x H3, J.yld i H2 x H3 → tc (some x :: kO js σ) H3 fun ok H4 => if ok = true then te (some x :: kO js σ) H4 fun v H5 => ∃ m', m' < m ∧ W (i + 1) m' (acc ++ [v]) H5 else ∃ m', m' < m ∧ W (i + 1) m' acc H4))
def qJ2 (js : List Nat) (wi : TI) (tc : TT) (te : TE) : TE := fun σ H Q => wi σ H (qE2 js tc te σ Q)
theorem qGa {X : Cx} {elt iter cnd : Expr} {x : Str} {px : Pos} {scope : Scope} {cl : List (Str × Addr)} {pos : Pos} {wi : TI} {tc : TT} {te : TE} (ys : List Str) (js : List Nat)
    (hcm : X.calm = true) (hi : PI X (.Name x px) iter wi) (hc : ∀ C s H fp, PT (jB X scope cl C (x :: ys) s H fp).nox cnd tc) (he : ∀ C s H fp, PE (jB X scope cl C (x :: ys) s H fp).nox elt te)
    (hclos : closureFor scope X.env = pure cl := by rfl)
    (hcl : cl.map (fun p => X.env.cells.lookup p.1) = cl.map (fun p => some p.2) := by rfl)
    (hcell : (scope.names.all fun p => p.2 != .cell) = true := by rfl) (hkind : scope.kind = .function := by rfl)
    (hnames : (scope.names.all fun p => p.2 != .local || scope.names.lookup p.1 == some .local) = true := by rfl)
    (hx : scope.names.lookup x = some .local := by rfl)
    (hhas : ((relabel scope X.env).names.all fun p => (p.2 != .cell && p.2 != .free) || (cl.lookup p.1).isSome) = true := by rfl)
    (hnd : (x :: ys).Nodup := by decide)
    (hjs : js.map (fun j => X.N[j]?) = ys.map some := by rfl)
    (hys : (ys.all fun y => ((relabel scope X.env).names.lookup y == some .cell || (relabel scope X.env).names.lookup y == some .free) && (X.env.scope.names.lookup y == some .cell || X.env.scope.names.lookup y == some .free)) = true := by rfl)
    (hs : ∀ x, foldedSetIterable iter X.env x = pure x := by intro _; rfl)
    {pins : List (Addr × Obj)} {s : Shared} {σ : L2.St} {H : Hp} (R : V → Hp → Prop) (use : Option (Value → Sem Unit)) (Q : Value → Shared → Prop) (I : Inv X pins σ H s) (h : qJ2 js wi tc te σ H R)
    (fin : ∀ (v : V) (u : Value) (H' : Hp) (s' : Shared) (C : Addr), Inv X pins σ H' s' → RelV v u → R v H' → (∃ m, s'.heap.Ns C m) → H' C = none → C ≠ X.env.locals → X.s₀.heap.objs.size ≤ C → (∀ y c, X.env.cells.lookup y = some c → c ≠ C) → (∀ p ∈ X.pn ++ pins, p.1 ≠ C) →
      compPost (model X.prog X.w) X.A X.xe use Q u C (.ok .next) s') :
    wpAny (model X.prog X.w) X.A (comprehension (.ListComp elt [⟨.Name x px, iter, [cnd], 0⟩] scope pos) scope X.env (firstIterPos [⟨.Name x px, iter, [cnd], 0⟩] pos) (newList []) false (eval iter X.env) use) Q X.xe s := by
  have hcell' : ∀ y ∈ scope.names, y.2 ≠ .cell := fun y hy => by
    have := List.all_eq_true.mp hcell y hy
    simpa using this
  have hnm : ∀ y ∈ scope.names, y.2 = .local → scope.names.lookup y.1 = some .local := fun y hy e => by
    have := List.all_eq_true.mp hnames y hy
    rw [e] at this
    simpa using this
  have clX : ∀ y c, cl.lookup y = some c → X.env.cells.lookup y = some c := fun y c e => by
    have hm := PySem.mem_of_lookup e
    obtain ⟨k, hk, e2⟩ := List.mem_iff_getElem.mp hm
    have := congrArg (fun l => l[k]?) hcl
    simp only [List.getElem?_map, List.getElem?_eq_getElem hk, Option.map_some, e2] at this
    exact Option.some.inj this
  have has : ∀ y, ((relabel scope X.env).names.lookup y = some .cell ∨ (relabel scope X.env).names.lookup y = some .free) → ∃ c, cl.lookup y = some c := fun y hy => by
    have key : ∀ k : NameKind, (k = .cell ∨ k = .free) → (relabel scope X.env).names.lookup y = some k → ∃ c, cl.lookup y = some c := fun k hk e => by
      have := List.all_eq_true.mp hhas _ (PySem.mem_of_lookup e)
      rcases hk with rfl | rfl <;> exact Option.isSome_iff_exists.mp (by simpa using this)
    rcases hy with e | e
    · exact key _ (.inl rfl) e
    · exact key _ (.inr rfl) e
  refine wpAny_comprehension_free (use := use) rfl hs hclos hkind hnm (thn (hi pins s σ H _ I h) fun v s1 h1 => thn h1 fun itv s2 h2 => ?_)
  obtain ⟨it, fp, tn, J, H2, e, I2, T, st2, f2, W, ⟨m0, w0⟩, turn⟩ := h2
  subst e
  refine wpAny_newObj_type (wpAny_newFunctionEnv hcell' (by intro y hy; simp at hy) (fun h₁ hns hsb => ?_) hkind)
  dsimp only at hns hsb ⊢
  generalize hG : s2.heap.push { cls := .type "list", dict := none, data := .seq ([] : List Value).toArray } = G at hns hsb ⊢
  have szG : G.objs.size = s2.heap.objs.size + 1 := by rw [← hG, Heap.size_push]
  have inG : ∀ b o, s2.heap.get? b = some o → G.get? b = some o := fun b o e => hG ▸ Heap.get?_push_of_some _ e
  have ltC : ∀ b o, s2.heap.get? b = some o → b ≠ G.objs.size := fun b o e => by rw [szG]; exact Nat.ne_of_lt (Nat.lt_succ_of_lt (Heap.lt_size e))
  have ltD : ∀ b o, s2.heap.get? b = some o → b ≠ s2.heap.objs.size := fun b o e => Nat.ne_of_lt (Heap.lt_size e)
  have DC : s2.heap.objs.size ≠ G.objs.size := by rw [szG]; omega
  have old : ∀ b o, s2.heap.get? b = some o → h₁.get? b = some o := fun b o e => hsb.extBut b o (ltC b o e) (Heap.get?_push_of_some _ (inG b o e))
  have hacc : h₁.PlainList s2.heap.objs.size #[] := ⟨_, hsb.extBut _ _ DC (Heap.get?_push_of_some _ (hG ▸ Heap.get?_push_size _ rfl))⟩
  have fpO : ∀ b ∈ fp, ∃ o, s2.heap.get? b = some o := fun b hb => let ⟨o, e, _⟩ := T.obj 0 _ st2 b hb; ⟨o, e⟩
  have stkO : ∀ b ∈ frs X.stack, ∃ o, s2.heap.get? b = some o := fun b hb => by
    obtain ⟨_, o, ho, _⟩ := I2.stack.mem hb
    exact ⟨o, ho⟩
  have freshH : ∀ a, s2.heap.objs.size ≤ a → H2 a = none := fun a ha => I2.hok.fresh ha
  have stkFp : ∀ b ∈ fp, b ∉ frs X.stack := fun b hb z => by
    rcases List.mem_cons.mp (I2.stkSub b z) with q | q
    · exact (f2 b hb).2.1 q
    · exact (f2 b hb).2.2.1 q
  have okX : (jB X scope cl G.objs.size (x :: ys) s2 H2 fp).Ok := {
    mod := I2.ok.mod
    kind := hkind
    glob := I2.ok.glob
    blt := I2.ok.blt
    above := by show s2.heap.objs.size ≤ G.objs.size; rw [szG]; omega
    inj := fun y z c e1 e2 => I2.ok.inj y z c (clX y c e1) (clX z c e2)
    has := fun y hy => has y hy
    cab := fun y c e _ => absurd (show false = true from e) Bool.false_ne_true
    hd := I2.ok.hd
    frames := I2.ok.frames
    stk := .inl rfl
    exf := fun b hb => by
      obtain ⟨o, e⟩ := fpO b hb
      exact ⟨ltC b o e, fun y c e1 => (f2 b hb).2.2.2.2.1 y c (clX y c e1)⟩
    bs := I2.bs
    bsz := Nat.le_trans I2.ok.bsz I2.sz
    noex := fun b o e hb => by
      rcases (f2 b hb).2.2.2.1 with q | q
      · exact I2.ok.noex b o e q
      · exact Nat.lt_irrefl _ (Nat.lt_of_lt_of_le (Nat.lt_of_lt_of_le (Heap.lt_size e) I2.ok.bsz) q)
    exfs := stkFp
    funs := I2.stack
    frf := I2.stkFree }
  have lenY : js.length = ys.length := by have := congrArg List.length hjs; simpa using this
  have I0 : Inv (jB X scope cl G.objs.size (x :: ys) s2 H2 fp) [] (none :: kO js σ) H2 { s2 with heap := h₁, toks := s2.toks + ([] : List (Str × Value)).length } := by
    refine ⟨okX, rfl, I2.bare, Un.kept old, ⟨_, hns, fun k y v e1 e2 e3 => ?_⟩, fun y c e => ?_, freshH _ (by show s2.heap.objs.size ≤ G.objs.size; rw [szG]; omega), fun y c e => I2.freeC y c (clX y c e), fun p hp => absurd (show p ∈ ([] : List (Addr × Obj)) from hp) (by simp), I2.hok.kept old, ?_⟩
    · cases k with
      | zero => cases e2
      | succ k =>
        have e1' : ys[k]? = some y := e1
        have e2' : (kO js σ)[k]? = some (some v) := e2
        unfold kO at e2'
        rw [List.getElem?_map] at e2'
        cases ej : js[k]? with
        | none => rw [ej] at e2'; cases e2'
        | some j =>
          rw [ej] at e2'
          have e4 : (σ[j]?).join = some v := Option.some.inj e2'
          have e5 : σ[j]? = some (some v) := by
            cases q : σ[j]? with
            | none => rw [q] at e4; cases e4
            | some o => rw [q] at e4; exact congrArg some e4
          have e6 : X.N[j]? = some y := by
            have := congrArg (fun l => l[k]?) hjs
            simp only [List.getElem?_map, ej, e1', Option.map_some] at this
            exact Option.some.inj this
          have hy := List.all_eq_true.mp hys y (List.mem_of_getElem? e1')
          simp only [Bool.and_eq_true, Bool.or_eq_true, beq_iff_eq] at hy
          obtain ⟨ky, ko⟩ := hy
          obtain ⟨m, hn, hl⟩ := I2.loc
          obtain ⟨u, r, lk⟩ := hl j y v e6 e5 (.inr ko)
          refine ⟨u, r, .inr ⟨ky, ?_⟩⟩
          rcases lk with ⟨kl, _⟩ | ⟨_, c, ec, hc⟩
          · have kl' : X.env.scope.names.lookup y = some .local := kl
            rw [kl'] at ko
            rcases ko with z | z <;> cases z
          · obtain ⟨c', ec'⟩ := has y ky
            have := clX y c' ec'
            rw [ec] at this
            cases this
            obtain ⟨o, ho, hd⟩ := hc
            exact ⟨c, ec', o, old c o ho, hd⟩
    · obtain ⟨v, o, ho, hd⟩ := I2.cell y c (clX y c e)
      exact ⟨v, o, old c o ho, hd⟩
    · show (none :: kO js σ).length = (x :: ys).length
      simp [kO, lenY]
  have loop : ∀ s3 : Shared, s3 = { s2 with heap := h₁, toks := s2.toks + ([] : List (Str × Value)).length } →
      codeAny (model X.prog X.w) X.A (.compLoop (.ListComp elt [⟨.Name x px, iter, [cnd], 0⟩] scope pos) 0 (.ref it) (.ref s2.heap.objs.size) (compEnvC scope cl G.objs.size X.env))
        (compPost (model X.prog X.w) X.A X.xe use Q (.ref s2.heap.objs.size) G.objs.size) s3 := by
    rintro s3 rfl
    have stat : ∀ {H' : Hp} (o : Obj), (∀ b ∈ fp, H' b = none) → ∀ b ∈ fp, qId (jB X scope cl G.objs.size (x :: ys) s2 H2 fp) [(s2.heap.objs.size, o)] H' b := fun {H'} o hn b hb => by
      obtain ⟨ob, eb⟩ := fpO b hb
      refine ⟨hn b hb, ltC b ob eb, stkFp b hb, .inl hb, fun y c e1 => (f2 b hb).2.2.2.2.1 y c (clX y c e1), fun p hp => ?_⟩
      have hp' : p = (s2.heap.objs.size, o) := by
        have : p ∈ [(s2.heap.objs.size, o)] := hp
        simpa using this
      rw [hp']
      exact Ne.symm (ltD b ob eb)
    refine codeAny_compLoop_tests (fun n s' => ∃ i acc its H3, Inv (jB X scope cl G.objs.size (x :: ys) s2 H2 fp) [] (none :: kO js σ) H3 s' ∧ tn i s'.heap ∧ (∀ b ∈ fp, H3 b = none) ∧ s'.heap.PlainList s2.heap.objs.size its.toArray ∧ Vals acc its ∧ H3 s2.heap.objs.size = none ∧ W i n acc H3)
      ?_ m0 ⟨0, [], [], H2, I0, T.keep _ _ _ st2 fun b _ o e => old b o e, fun b hb => (f2 b hb).1, hacc, .nil, freshH _ (Nat.le_refl _), w0⟩
    rintro n s3 ⟨i, acc, its, H3, I3, st3, fr3, ⟨nn, pl3⟩, va3, hD3, w3⟩
    obtain ⟨hlen, cs⟩ := turn i n acc H3 w3
    have hal : acc.length = its.length := va3.length
    have nD : s2.heap.objs.size ∉ frs X.stack := fun z => by
      obtain ⟨o, e⟩ := stkO _ z
      exact ltD _ o e rfl
    have I3p : Inv (jB X scope cl G.objs.size (x :: ys) s2 H2 fp) [(s2.heap.objs.size, { cls := .type "list", data := .seq its.toArray nn })] (none :: kO js σ) H3 s3 := I3.pins_of fun p hp => by
      have e : p = (s2.heap.objs.size, { cls := .type "list", data := .seq its.toArray nn }) := by simpa using hp
      subst e
      exact ⟨pl3, hD3, DC, nD, fun v z => nomatch z⟩
    rcases cs with ⟨stop, q⟩ | ⟨go, step⟩
    · refine thn (T.done (jB X scope cl G.objs.size (x :: ys) s2 H2 fp) rfl rfl rfl hcm i _ s3 _ H3 _ I3p (stat _ fr3) st3 stop) fun r s4 hr => ?_
      obtain ⟨hr, I4⟩ := hr
      subst hr
      have pl4 := (I4.pin (s2.heap.objs.size, { cls := .type "list", data := .seq its.toArray nn }) (by simp)).1
      obtain ⟨m, hn, _⟩ := I4.loc
      have B := I4.base
      have un' : Un (frs X.stack) fp H2 (upd H3 s2.heap.objs.size (.lst acc)) s2.heap s4.heap := by
        refine ⟨fun b o e n hb hx => B.keep b o e n hb hx, fun b o e n hb hx => B.slot b o e n hb hx, fun b o e n hx => ?_, fun b o e hx => B.there b o e hx, fun b xs e => ?_, fun b o u e => ?_, fun b ps e => ?_⟩
        · rw [qd (ltD b o e)]
          exact B.free b o e n hx
        · have z := B.tups b xs e
          rw [qd (qf z hD3)]
          exact z
        · have z := B.frzs b o u e
          rw [qd (qf z hD3)]
          exact z
        · obtain ⟨more, z⟩ := B.tbls b ps e
          exact ⟨more, by rw [qd (qf z hD3)]; exact z⟩
      have freeC4 : H3 G.objs.size = none := I4.free
      have hok' : HOk X.prog X.w (upd H3 s2.heap.objs.size (.lst acc)) s4.heap := fun b u e => by
        by_cases hb : b = s2.heap.objs.size
        · subst hb
          rw [qB] at e
          cases e
          exact ⟨Nat.le_of_lt hlen, its, nn, va3, pl4⟩
        · rw [qd hb] at e
          exact (I4.hok b u e).stay (fun c v hc z => z) (fun c z => by rw [qd (qf z hD3)]; exact z) fun c xs z => by rw [qd (qf z hD3)]; exact z
      have hch : ∀ b ∈ fp, (b ∈ X.ex ∨ X.s₀.heap.objs.size ≤ b) ∧ b ≠ X.env.locals ∧ (∀ y c, X.env.cells.lookup y = some c → c ≠ b) ∧ ∀ p ∈ X.pn ++ pins, p.1 ≠ b := fun b hb => by
        obtain ⟨_, z1, _, z3, z4, z5⟩ := f2 b hb
        exact ⟨z3, z1, z4, z5⟩
      have I5 := I2.call' (s' := s4) (ch := fp) I4.os un' hok' I4.bare hch
      refine fin (.ref s2.heap.objs.size) _ _ s4 G.objs.size I5 rfl (q _ hD3) ⟨m, hn⟩ ?_ ?_ ?_ (fun y c e => ?_) fun p hp => ?_
      · rw [qd (Ne.symm DC)]; exact freeC4
      · rw [szG]; exact Nat.ne_of_gt (Nat.lt_succ_of_lt I2.lt)
      · rw [szG]; exact Nat.le_succ_of_le I2.sz
      · obtain ⟨v, o, ho, _⟩ := I2.cell y c e
        exact ltC c o ho
      · exact ltC p.1 p.2 (I2.pin p hp).1
    · refine thn (T.item (jB X scope cl G.objs.size (x :: ys) s2 H2 fp) rfl rfl rfl hcm i _ s3 _ H3 _ I3p (stat _ fr3) st3 go) fun r s4 hr => ?_
      obtain ⟨u, hr, h4⟩ := hr
      subst hr
      show wpAny (model X.prog X.w) X.A (letOwnedTupleGo (.Name x px) (.ref it) u >>= fun _ => assign (.Name x px) (compEnvC scope cl G.objs.size X.env) u) _ _ s4
      refine wpAny_bind (thn h4 fun _ s5 h5 => ?_)
      obtain ⟨v, H5, I5, r5, y5, st5, fr5⟩ := h5
      have I5' := I5.pinned (stat _ fr5) (T.obj _ _ st5)
      refine wpAny_assign_Name (zd (i := 0) I5' hnd rfl (.inl (lookup_relabel_local hx)) r5 (fun s6 I6 => ?_) (.inr (lookup_relabel_local hx)))
      have I6' : Inv (jB X scope cl G.objs.size (x :: ys) s2 H2 fp).nox _ _ H5 s6 := I6.wish _
      have back : ∀ (H7 : Hp) (s7 : Shared) (σ7 : L2.St) (h' : Heap) (acc' : List V) (its' : List Value) (m' : Nat), Inv (jB X scope cl G.objs.size (x :: ys) s2 H2 fp) ([(s2.heap.objs.size, { cls := .type "list", data := .seq its.toArray nn })] ++ qCc fp s5.heap) (some v :: kO js σ) H7 s7 →
          Heap.SameBut s2.heap.objs.size s7.heap h' → h'.PlainList s2.heap.objs.size its'.toArray → Vals acc' its' → m' < n → W (i + 1) m' acc' H7 →
          ∃ m, m < n ∧ ∃ i acc its H3, Inv (jB X scope cl G.objs.size (x :: ys) s2 H2 fp) [] (none :: kO js σ) H3 { s7 with heap := h' } ∧ tn i h' ∧ (∀ b ∈ fp, H3 b = none) ∧ h'.PlainList s2.heap.objs.size its.toArray ∧ Vals acc its ∧ H3 s2.heap.objs.size = none ∧ W i m acc H3 := by
        intro H7 s7 _ h' acc' its' m' I7 hsb' hp' va' hm' w7
        have pinD := I7.pin (s2.heap.objs.size, { cls := .type "list", data := .seq its.toArray nn }) (by simp)
        have pf : ∀ b ∈ fp, ∀ o, s5.heap.get? b = some o → s7.heap.get? b = some o ∧ H7 b = none := fun b hb o e => by
          have z := I7.pin (b, o) (List.mem_append_right _ (List.mem_append_right _ (zz hb e)))
          exact ⟨z.1, z.2.1⟩
        have I8 : Inv (jB X scope cl G.objs.size (x :: ys) s2 H2 fp) [] (none :: kO js σ) H7 { s7 with heap := h' } := by
          have I7u : Inv (jB X scope cl G.objs.size (x :: ys) s2 H2 fp) [] (none :: kO js σ) H7 s7 := (I7.pins_of (pins' := []) fun p hp => absurd hp (by simp)).weak (by simp) fun k v e => by
            cases k with
            | zero => cases e
            | succ k => exact e
          refine I7u.turned (t' := s7.toks) (it := s2.heap.objs.size) (fun b o hb e => hsb'.extBut b o hb e) pinD.2.1 DC (.inr (Nat.le_refl _)) (fun y c e => ?_) fun p hp => absurd (show p ∈ ([] : List (Addr × Obj)) from hp) (by simp)
          obtain ⟨v, o, ho, _⟩ := I2.cell y c (clX y c e)
          exact ltD c o ho
        refine ⟨m', hm', i + 1, acc', its', H7, I8, ?_, fun b hb => ?_, hp', va', pinD.2.1, w7⟩
        · refine T.keep _ _ _ st5 fun b hb o e => hsb'.extBut b o ?_ (pf b hb o e).1
          obtain ⟨ob, eb⟩ := fpO b hb
          exact ltD b ob eb
        · obtain ⟨o, e, _⟩ := T.obj _ _ st5 b hb
          exact (pf b hb o e).2
      simp only [List.forIn_cons, List.forIn_nil, if_true]
      refine wpAny_bind (wpAny_bind (wpAny_mono (hc G.objs.size s2 H2 fp _ s6 _ H5 _ I6' (step v H5 y5)) (fun ok s6a h6 => ?_) fun _ _ z => z.elim))
      obtain ⟨H6, I6a, q6⟩ := h6
      refine wpAny_pure (wpAny_pure ?_)
      cases ok with
      | false =>
        rw [if_neg (by decide)] at q6 ⊢
        obtain ⟨m', hm', w7⟩ := q6
        have I7 := I6a.unwish
        have pinD := I7.pin (s2.heap.objs.size, { cls := .type "list", data := .seq its.toArray nn }) (by simp)
        exact back H6 s6a (none :: kO js σ) s6a.heap acc its m' I7 (Heap.SameBut.refl _ _) ⟨nn, pinD.1⟩ va3 hm' w7
      | true =>
        rw [if_pos rfl] at q6 ⊢
        refine wpAny_mono (he G.objs.size s2 H2 fp _ s6a _ H6 _ I6a q6) (fun y s7 h7 => ?_) fun _ _ z => z.elim
        obtain ⟨v7, H7, I7, r7, m', hm', w7⟩ := h7
        have I7 := I7.unwish
        have pinD := I7.pin (s2.heap.objs.size, { cls := .type "list", data := .seq its.toArray nn }) (by simp)
        refine wpAny_list_append_plain (items := its.toArray) ⟨nn, pinD.1⟩ (fun h' hp' hsb' => ?_) (by rw [List.size_toArray, ← hal]; exact Nat.le_of_lt hlen)
        have e8 : its.toArray.push y = (its ++ [y]).toArray := by simp
        rw [e8] at hp'
        exact back H7 s7 (none :: kO js σ) h' (acc ++ [v7]) (its ++ [y]) m' I7 hsb' hp' (va3.append (.cons r7 .nil)) hm' w7
  exact codeAny_compStart_list (loop _ rfl) (T.self _ 0 _ _ _ (T.keep _ _ _ st2 fun b _ o e => old b o e) (loop _ rfl))
theorem qJd {X : Cx} {elt iter cnd : Expr} {x : Str} {px : Pos} {scope : Scope} {cl : List (Str × Addr)} {pos : Pos} {wi : TI} {tc : TT} {te : TE} (ys : List Str) (js : List Nat)
    (hcm : X.calm = true) (hi : PI X (.Name x px) iter wi) (hc : ∀ C s H fp, PT (jB X scope cl C (x :: ys) s H fp).nox cnd tc) (he : ∀ C s H fp, PE (jB X scope cl C (x :: ys) s H fp).nox elt te)
    (hclos : closureFor scope X.env = pure cl := by rfl)
    (hcl : cl.map (fun p => X.env.cells.lookup p.1) = cl.map (fun p => some p.2) := by rfl)
    (hcell : (scope.names.all fun p => p.2 != .cell) = true := by rfl) (hkind : scope.kind = .function := by rfl)
    (hnames : (scope.names.all fun p => p.2 != .local || scope.names.lookup p.1 == some .local) = true := by rfl)
    (hx : scope.names.lookup x = some .local := by rfl)
    (hhas : ((relabel scope X.env).names.all fun p => (p.2 != .cell && p.2 != .free) || (cl.lookup p.1).isSome) = true := by rfl)
    (hnd : (x :: ys).Nodup := by decide)
    (hjs : js.map (fun j => X.N[j]?) = ys.map some := by rfl)
    (hys : (ys.all fun y => ((relabel scope X.env).names.lookup y == some .cell || (relabel scope X.env).names.lookup y == some .free) && (X.env.scope.names.lookup y == some .cell || X.env.scope.names.lookup y == some .free)) = true := by rfl)
    (hs : ∀ x, foldedSetIterable iter X.env x = pure x := by intro _; rfl) : PE X (.ListComp elt [⟨.Name x px, iter, [cnd], 0⟩] scope pos) (qJ2 js wi tc te) := by
  intro pins s σ H Q I h
  rw [eval_ListComp]
  refine qGa ys js hcm hi hc he hclos hcl hcell hkind hnames hx hhas hnd hjs hys hs Q none (EP X pins σ Q) I h fun v u H' s' C I' r q hm h0 h1 h2 h3 h4 => ?_
  obtain ⟨m, hm⟩ := hm
  exact ⟨m, hm, fun h' hsb => ⟨v, H', qA0 I' hsb h0 h1 h2 h3 h4, r, q⟩⟩
theorem qFt {K : PySem.W.Frag} {a : Addr} {xs : List V} {js : List Nat} {tc : TT} {te : TE} {σ : L2.St} {H : Hp} {Q : VK} (Pv : Nat → List V → Hp → Prop) (h0 : Pv 0 [] H) (hl : ∀ i acc H, i ≤ xs.length → Pv i acc H → SqL K H a xs ∧ acc.length < sizeLine)
    (hs : ∀ i x acc H, i < xs.length → xs[i]? = some x → Pv i acc H → tc (some x :: kO js σ) H fun ok H' => if ok = true then te (some x :: kO js σ) H' fun v H'' => Nxt xs.length i (Pv (i + 1) (acc ++ [v]) H'') else Nxt xs.length i (Pv (i + 1) acc H')) (hd : ∀ acc H, Pv xs.length acc H → ∀ D, H D = none → Q (.ref D) (upd H D (.lst acc))) : qE2 js tc te σ Q (Itl K a) H := by
  refine ⟨fun i m acc H => m = xs.length - i ∧ i ≤ xs.length ∧ Pv i acc H, ⟨xs.length, by simp, Nat.zero_le _, h0⟩, ?_⟩
  rintro i m acc H2 ⟨rfl, hi, p⟩
  obtain ⟨q, hz⟩ := hl i acc H2 hi p
  refine ⟨hz, ?_⟩
  by_cases hlt : i < xs.length
  · refine .inr ⟨⟨xs, xs[i], q, by simp [hlt]⟩, fun x H3 y => ?_⟩
    obtain ⟨e, y⟩ := y
    subst e
    exact hs i x acc _ hlt (y xs q) p
  · have e : i = xs.length := by omega
    subst e
    exact .inl ⟨⟨xs, q, Nat.le_refl _⟩, hd acc H2 p⟩
end L3
set_option maxHeartbeats 4000000
namespace L3
open PySem PySem.Spec PyProof.Rows L2
end L3
set_option maxHeartbeats 4000000
namespace L3
open PySem PySem.Spec PyProof.Rows L2
theorem qKr {X : Cx} {pins : List (Addr × Obj)} {σ : L2.St} {H : Hp} {s : Shared} {h' : Heap} {t' : Nat} {ch : List Addr} (I : Inv X pins σ H s) (hf : ∀ b ∈ ch, qId X pins H b)
    (k : ∀ b o, b ∉ ch → s.heap.get? b = some o → h'.get? b = some o) : Inv X pins σ H { s with heap := h', toks := t' } := by
  have nit : ∀ b u, H b = some u → b ∉ ch := fun b u e z => by rw [(hf b z).1] at e; cases e
  refine I.step (g' := s.gens) (d' := s.drawn) (ch := ch) (fun b hb => ?_) (fun b o _ _ hc e _ => k b o hc e) (fun b o _ _ hc e _ => ⟨o.slots, k b o hc e⟩) (fun _ _ _ _ n => n)
    (fun b o hc e => ⟨o, k b o hc e⟩) (fun _ _ e => e) (fun _ _ _ e => e) (fun b ps e => ⟨#[], by rw [e]; simp⟩) (fun m hm => ?_) (fun b u e => ?_) I.bare
  · obtain ⟨_, f1, _, f3, f4, f5⟩ := hf b hb
    exact ⟨f3, f1, f4, f5⟩
  · obtain ⟨o, es, ep, ho, r⟩ := hm
    exact ⟨o, es, ep, k _ o (fun z => (hf _ z).2.1 rfl) ho, r⟩
  · refine (I.hok b u e).stay (fun c v hc q => k c v ?_ q) (fun _ q => q) fun _ _ q => q
    rcases hc with z | z
    · rw [z]; exact nit b u e
    · exact nit c _ z
theorem qL5 {X : Cx} {pins : List (Addr × Obj)} {σ : L2.St} {H : Hp} {s : Shared} {h' : Heap} {t' : Nat} {ch : List Addr} {xs : List V} {us : Array Value} (I : Inv X pins σ H s) (hf : ∀ b ∈ ch, qId X pins H b) (hlt : ∀ b ∈ ch, b < s.heap.objs.size)
    (k : ∀ b o, b ∉ ch → s.heap.get? b = some o → h'.get? b = some o) (hT : h'.get? s.heap.objs.size = some { cls := .type "tuple", data := .seq us }) (r : Vals xs us.toList) (hz : xs.length ≤ sizeLine) :
    Inv X pins σ (upd H s.heap.objs.size (.tup xs)) { s with heap := h', toks := t' } ∧ ∀ b ∈ ch, upd H s.heap.objs.size (.tup xs) b = none := by
  have hn : ∀ b ∈ ch, upd H s.heap.objs.size (.tup xs) b = none := fun b hb => by
    rw [qd (Nat.ne_of_lt (hlt b hb))]; exact (hf b hb).1
  have I1 : Inv X pins σ (upd H s.heap.objs.size (.tup xs)) { s with heap := s.heap.push { cls := .type "tuple", data := .seq us }, toks := t' } :=
    I.laid (t' := t') (fun b o e => Heap.get?_push_of_some _ e) (Nat.le_refl _) ⟨hz, us.toList, r, ⟨_, Heap.get?_push_size _ rfl, rfl, _, rfl⟩⟩
  have I2 := qKr (h' := h') (t' := t') (ch := ch) I1 (fun b hb => ⟨hn b hb, (hf b hb).2⟩) (fun b o hb e => ?_)
  · exact ⟨I2, hn⟩
  rcases Heap.get?_push_cases e with ⟨e1, e2⟩ | e1
  · rw [e1, e2]; exact hT
  · exact k b o hb e1
def Ite (K : PySem.W.Frag) (a : Addr) : It :=
  ⟨fun i H => ∃ xs x, SqL K H a xs ∧ xs[i]? = some x, fun i H x H' => ∃ p v, H p = none ∧ x = .ref p ∧ (∀ xs, SqL K H a xs → xs[i]? = some v) ∧ H' = upd H p (.tup [.int i, v]), fun i H => ∃ xs, SqL K H a xs ∧ xs.length ≤ i⟩
theorem qIc {P : Program} {w : World} {K : PySem.W.Frag} {elts : List Expr} {k1 : Nat} {pos : Pos} (a e it : Addr) (hne : e ≠ it) :
    qMa P w K (.Tuple elts k1 pos) (Ite K a) [e, it] e (fun i h => (∃ old, IsEnum h e it (i : Nat) old) ∧ h.IsListIter it a i) where
  mem := by simp
  obj := fun i h st b hb => by
    obtain ⟨⟨old, he⟩, o, ho, c, d⟩ := st
    rcases List.mem_cons.mp hb with rfl | hb
    · exact ⟨_, he, fun v z => by cases z⟩
    · have e : b = it := by simpa using hb
      subst e
      exact ⟨o, ho, fun v z => by rw [d] at z; cases z⟩
  keep := fun i h h' st k => by
    obtain ⟨⟨old, he⟩, hi⟩ := st
    exact ⟨⟨old, k e (by simp) _ he⟩, hi.at fun o q => k it (by simp) o q⟩
  item := by
    intro X hP hw hK hc i pins s σ H E I hf st hg
    subst hP hw hK
    obtain ⟨⟨old, he⟩, hit⟩ := st
    obtain ⟨xs, x, hq, hx⟩ := hg
    obtain ⟨its, rv, p, hz⟩ := I.list hq
    obtain ⟨u, hu, ru⟩ := rv.get hx
    refine wpAny_pyNext_enum_item he hit p.isList (x := u) (by simpa using hu) hne fun h' heo hit' hT hsz hk => ?_
    refine ⟨_, rfl, wpAny_letOwnedTupleGo_enum heo fun h'' he'' hs'' => ?_⟩
    have hel : e < s.heap.objs.size := Heap.lt_size he
    have hil : it < s.heap.objs.size := by obtain ⟨_, q, _⟩ := hit; exact Heap.lt_size q
    have T := qL5 (h' := h'') (t' := s.toks + 1) (ch := [e, it]) (xs := [.int i, x]) (us := #[.int i s.toks, u]) I hf (fun b hb => by
        rcases List.mem_cons.mp hb with rfl | hb
        · exact hel
        · have z : b = it := by simpa using hb
          subst z; exact hil)
      (fun b o hb q => (hs''.2 b (fun z => hb (by simp [z]))).trans (hk b o (fun z => hb (by simp [z])) (fun z => hb (by simp [z])) q))
      ((hs''.2 _ (Nat.ne_of_gt hel)).trans hT) (.cons ⟨_, rfl⟩ (.cons ru .nil)) (by show 2 ≤ sizeLine; decide)
    refine ⟨.ref s.heap.objs.size, _, T.1, rfl, ⟨_, x, I.hok.fresh (Nat.le_refl _), rfl, fun ys hy => by rw [I.list_inj hy hq]; exact hx, rfl⟩, ⟨⟨u, by simpa using he''⟩, hit'.at fun o q => (hs''.2 it hne.symm).trans q⟩, T.2⟩
  done := by
    intro X hP hw hK hc i pins s σ H E I hf st hg
    subst hP hw hK
    obtain ⟨⟨old, he⟩, hit⟩ := st
    obtain ⟨xs, hq, hx⟩ := hg
    obtain ⟨its, rv, p, hz⟩ := I.list hq
    obtain ⟨f0, f1, f2, f3, f4, f5⟩ := hf it (by simp)
    have hl := rv.length
    exact wpAny_pyNext_enum_end (I.ok.hd hc) he hit p.isList (by simp; omega) fun h' eb => ⟨rfl, I.turned (t' := s.toks) (fun b o hb e => eb b o hb e) f0 f1 f3 f4 f5⟩
  self := fun _ _ _ _ _ st h => by
    obtain ⟨⟨old, he⟩, _⟩ := st
    exact wpAny_pyIter_enum he h
def qNm (K : PySem.W.Frag) (t : TA) : TI := fun σ H R => t σ H fun vs H1 => ∃ a, vs = [.ref a] ∧ (∃ xs, SqL K H1 a xs) ∧ R (Ite K a) H1
theorem qJ5 {X : Cx} {l : Expr} {tl : TA} {elts : List Expr} {k1 : Nat} {tpos p pos : Pos} (hg : Gl X "enumerate") (hm : X.mg "enumerate" = none) (hl : PA X [l] tl) (hs : starEach [l] X.env = [(false, eval l X.env)] := by rfl) :
    PI X (.Tuple elts k1 tpos) (.Call (.Name "enumerate" p) [l] [] pos) (qNm X.K tl) := by
  intro pins s σ H R I h
  refine Call_ (qEw I hg hm boot_enumerate (PyProof.Rows.callWith_type1 (thn (hl pos pins s σ H _ I h) fun us s1 ⟨vs, H1, I1, r1, q1⟩ => ?_) hs rfl))
  obtain ⟨a, e, ⟨xs, hq⟩, q⟩ := q1
  subst e
  cases r1 with
  | cons r rr =>
    cases rr
    cases r
    obtain ⟨its, rv, pl, hz⟩ := I1.list hq
    refine call_enumerate_list pl.isList fun h' he hit hsz hk => ?_
    refine wpAny_pyIter_enum he ?_
    refine ⟨s1.heap.objs.size + 1, [s1.heap.objs.size + 1, s1.heap.objs.size], _, _, H1, rfl, I1.kept (t' := s1.toks) fun b o e => hk b o e, qIc a _ _ (Nat.succ_ne_self _), ⟨⟨_, he⟩, hit⟩, fun b hb => ?_, q⟩
    rcases List.mem_cons.mp hb with rfl | hb
    · exact I1.fpOk (Nat.le_succ _) (I1.hok.fresh (Nat.le_succ _))
    · have e : b = s1.heap.objs.size := by simpa using hb
      subst e
      exact I1.fpOk (Nat.le_refl _) (I1.hok.fresh (Nat.le_refl _))
theorem qJa {K : PySem.W.Frag} {a : Addr} {xs : List V} {g : TG} {tb : TS} {D : qH7} {σ : L2.St} {H : Hp} (Pv : Nat → L2.St → Hp → Prop) (h0 : Pv 0 σ H) (hl : ∀ i σ H, i ≤ xs.length → Pv i σ H → SqL K H a xs)
    (hs : ∀ i x σ H p, xs[i]? = some x → Pv i σ H → H p = none → g (.ref p) σ (upd H p (.tup [.int i, x])) fun σ2 H2 => tb { D with nx := Pv (i + 1), ct := Pv (i + 1), bk := D.nx } σ2 H2) (hd : ∀ σ H, Pv xs.length σ H → D.nx σ H) :
    ∃ W : Nat → Nat → L2.St → Hp → Prop, (∃ m, W 0 m σ H) ∧ ∀ i m σ H, W i m σ H →
      ((Ite K a).stop i H ∧ D.nx σ H) ∨ ((Ite K a).go i H ∧ ∃ N : L2.St → Hp → Prop, (∀ σ' H', N σ' H' → ∃ m', m' < m ∧ W (i + 1) m' σ' H') ∧ ∀ x H', (Ite K a).yld i H x H' → g x σ H' fun σ2 H2 => tb { D with nx := N, ct := N, bk := D.nx } σ2 H2) := by
  refine ⟨fun i m σ H => m = xs.length - i ∧ i ≤ xs.length ∧ Pv i σ H, ⟨xs.length, by simp, Nat.zero_le _, h0⟩, ?_⟩
  rintro i m σ H ⟨rfl, hi, p⟩
  have q := hl i σ H hi p
  by_cases hlt : i < xs.length
  · refine .inr ⟨⟨xs, xs[i], q, by simp [hlt]⟩, Pv (i + 1), fun σ' H' p' => ⟨xs.length - (i + 1), by omega, rfl, hlt, p'⟩, fun x H' y => ?_⟩
    obtain ⟨z, v, hz, rfl, y, rfl⟩ := y
    exact hs i v σ _ z (y xs q) p hz
  · have e : i = xs.length := by omega
    subst e
    exact .inl ⟨⟨xs, q, Nat.le_refl _⟩, hd σ H p⟩
theorem qHm : ∀ {ns : List Int} {us : List Value}, Vals (ns.map V.int) us → ∃ xs : List (Int × Tok), us.toArray = intItems xs.toArray ∧ xs.map (·.1) = ns
  | [], us, r => by cases r; exact ⟨[], by simp [intItems], rfl⟩
  | n :: ns, us, r => by
    rw [List.map_cons] at r
    cases r with
    | cons h t =>
      obtain ⟨xs, e1, e2⟩ := qHm t
      obtain ⟨tk, rfl⟩ := h
      refine ⟨(n, tk) :: xs, ?_, by rw [List.map_cons, e2]⟩
      have e3 := congrArg Array.toList e1
      simp only [intItems, List.map_toArray] at e3 ⊢
      rw [e3]
      rfl
theorem qHz {X : Cx} (hc : X.calm = true) : CallR X (.builtin "sum") (fun xs H Q => ∃ (p : Addr) (ns : List Int), xs = [.ref p] ∧ SqL X.K H p (ns.map V.int) ∧ Q (.int ns.sum) H) := by
  intro pins s σ H xs us Q I r h
  obtain ⟨p, ns, rfl, hq, q⟩ := h
  obtain ⟨u, rfl, rx⟩ := qEe r
  cases rx
  obtain ⟨its, rv, pl, hz⟩ := I.list hq
  obtain ⟨ys, e1, e2⟩ := qHm rv
  have pl' := pl.isList
  rw [e1] at pl'
  refine sum_intListG (I.ok.hd hc) pl' fun h' tk t' hk => ?_
  rw [preSum_eq, List.take_of_length_le (by simp)]
  have e3 : ys.toArray.toList.map (·.1) = ns := by simpa using e2
  rw [e3]
  exact ⟨.int ns.sum, H, I.kept fun b o e => hk b o e, ⟨_, rfl⟩, q⟩
def qOq (t : TT) : TT := fun σ H Q => ∃ R : Bool → Hp → Prop, t σ H R ∧ ∀ b H', R b H' → Q b H'
theorem qL3 {X : Cx} {e : Expr} {t : TT} (h : PT X e t) : PT X e (qOq t) := by
  rintro pins s σ H Q I ⟨R, ht, hR⟩
  exact thn (h pins s σ H R I ht) fun b s' ⟨H', I', r⟩ => ⟨H', I', hR b H' r⟩
end L3
set_option maxHeartbeats 4000000
namespace L3
open PySem PySem.Spec PyProof.Rows L2
end L3
set_option maxHeartbeats 4000000
namespace L3
open PySem PySem.Spec PyProof.Rows L2
theorem KV.get {κ : Type} {kvs : List (κ × V)} {vs : List (κ × Value)} (r : KV kvs vs) {i : Nat} {k : κ} {v : V} (h : kvs[i]? = some (k, v)) : ∃ u, vs[i]? = some (k, u) ∧ RelV v u := by
  induction r generalizing i with
  | nil => simp at h
  | @cons p q ps qs hpq _ ih =>
    cases i with
    | zero =>
      have e : p = (k, v) := by simpa using h
      subst e
      obtain ⟨k', u⟩ := q
      have e : k = k' := hpq.1
      subst e
      exact ⟨u, rfl, hpq.2⟩
    | succ i => exact ih (by simpa using h)
section
variable {P : Program} {w : World} {K : PySem.W.Frag}
end
end L3
set_option maxHeartbeats 4000000
namespace L3
open PySem PySem.Spec PyProof.Rows L2
def EqIn (P : Program) (w : World) (A : Around) (s : Shared) (y x : Value) : Prop := ∀ (E : Value → Shared → Prop) (Q : Bool → Shared → Prop), Q true s → wpAny (model P w) A (eqBool y x) Q E s
theorem EqIn.rc {P : Program} {w : World} {A : Around} {s : Shared} {l b : Addr} (h : ∀ (E : Value → Shared → Prop) (Q : Value → Shared → Prop), Q (.bool true) s → wpAny (model P w) A (richCompare .Eq (.ref l) (.ref b)) Q E s) : EqIn P w A s (.ref l) (.ref b) := by
  by_cases e : l = b
  · subst e
    exact fun E Q hq => SeqAt.EqAt.same _ P w E Q hq
  · intro E Q hq
    unfold eqBool
    refine wpAny_holding (wpAny_ite_split (fun z => ?_) (fun _ => ?_))
    · have := eq_of_beq z
      injection this with this
      exact absurd this e
    · exact wpAny_bind (h E _ (wpAny_truthy_bool hq))
def DEq (K : PySem.W.Frag) (H : Hp) (a b : Addr) : Prop := ∃ ka kb : List (Key × V), Rd H a (.dK ka) ∧ Rd H b (.dK kb) ∧ ka.length = kb.length ∧ ∀ p ∈ ka, ∃ v d, qDf kb p.1 = some v ∧ Rep K H d p.2 ∧ Rep K H d v ∧ eqD d d = true ∧ dep d ≤ 50
section
variable {X : Cx} {pins : List (Addr × Obj)} {σ : L2.St} {H : Hp} {s : Shared}
theorem qKq (I : Inv X pins σ H s) {A : Around} (hu : A.units + 50 < cLine) {kb : List (Key × V)} {vb : List (Key × Value)} (rb : KV kb vb) : ∀ {ka : List (Key × V)} {va : List (Key × Value)}, KV ka va →
    (∀ p ∈ ka, ∃ v d, qDf kb p.1 = some v ∧ Rep X.K H d p.2 ∧ Rep X.K H d v ∧ eqD d d = true ∧ dep d ≤ 50) → PySem.W.KeqHits A s vb va true := by
  intro ka va r
  unfold KV at r
  induction r with
  | nil => exact fun _ => .nil
  | @cons p q ps qs h t ih =>
    intro hp
    obtain ⟨h1, h2⟩ := h
    obtain ⟨v, d, e, r1, r2, g, hd⟩ := hp p (by simp)
    have rv := rb.val p.1
    rw [e] at rv
    cases w : valueAt vb p.1 with
    | none => rw [w] at rv; exact (show False from rv).elim
    | some y =>
      rw [w] at rv
      have rv : RelV v y := rv
      have ea := qJv I 50 A d d p.2 v q.2 y hd hu r1 r2 h2 rv
      rw [g] at ea
      have hq : q = (p.1, q.2) := by rw [h1]
      have k := PySem.W.KeqHits.hit (A := A) (s := s) (kb := vb) (k := p.1) (v := q.2) (e := true) w ea (ih fun x hx => hp x (by simp [hx]))
      rw [hq]
      exact k
theorem DEq.at (I : Inv X pins σ H s) {A : Around} (hu : A.units + 51 < cLine) {a b : Addr} (h : DEq X.K H a b) : EqIn X.prog X.w A s (.ref a) (.ref b) := by
  obtain ⟨ka, kb, ra, rb, hl, hh⟩ := h
  obtain ⟨_, na, va, qa, da⟩ := qFm I.hok ra
  obtain ⟨_, nb, vb, qb, db⟩ := qFm I.hok rb
  refine EqIn.rc fun E Q hq => ?_
  refine PySem.W.keq_eq (r := true) na nb da db (by omega) (fun _ => qKq I (by show A.units + 1 + 50 < cLine; omega) qb qa hh) ?_
  have e : (va.length == vb.length) = true := by rw [← qa.length, ← qb.length, hl]; simp
  rw [e]
  exact hq
end
theorem qBc {X : Cx} {K : PySem.W.Frag} (h : X.K = K) : CallR X (.type "list") (fun xs H Q => ∃ p ys, xs = [.ref p] ∧ (SqL K H p ys ∨ SqT K H p ys) ∧ ∀ l, H l = none → Q (.ref l) (upd H l (.lst ys))) := h ▸ zA
end L3
set_option maxHeartbeats 4000000
set_option maxRecDepth 100000
namespace L3
open PySem PySem.Spec PyProof.Rows L2
theorem qJl {K : PySem.W.Frag} {a : Addr} {xs : List V} {js : List Nat} {te : TE} {σ : L2.St} {H : Hp} {Q : VK} (Pv : Nat → List V → Hp → Prop) (h0 : Pv 0 [] H) (hl : ∀ i acc H, i ≤ xs.length → Pv i acc H → SqT K H a xs ∧ acc.length < sizeLine)
    (hs : ∀ i x acc H, i < xs.length → xs[i]? = some x → Pv i acc H → te (some x :: kO js σ) H fun v H' => Nxt xs.length i (Pv (i + 1) (acc ++ [v]) H')) (hd : ∀ acc H, Pv xs.length acc H → ∀ D, H D = none → Q (.ref D) (upd H D (.lst acc))) : qA8 js te σ Q (Itt K a) H := by
  refine ⟨fun i m acc H => m = xs.length - i ∧ i ≤ xs.length ∧ Pv i acc H, ⟨xs.length, by simp, Nat.zero_le _, h0⟩, ?_⟩
  rintro i m acc H2 ⟨rfl, hi, p⟩
  obtain ⟨q, hz⟩ := hl i acc H2 hi p
  refine ⟨hz, ?_⟩
  by_cases hlt : i < xs.length
  · refine .inr ⟨⟨xs, xs[i], q, by simp [hlt]⟩, fun x H3 y => ?_⟩
    obtain ⟨e, y⟩ := y
    subst e
    exact hs i x acc _ hlt (y xs q) p
  · have e : i = xs.length := by omega
    subst e
    exact .inl ⟨⟨xs, q, Nat.le_refl _⟩, hd acc H2 p⟩
theorem KV.keys {kvs : List (Key × V)} {vs : List (Key × Value)} (r : KV kvs vs) : vs.map (·.1) = kvs.map (·.1) := by
  induction r with
  | nil => rfl
  | cons h _ ih => rw [List.map_cons, List.map_cons, ih, h.1]
end L3
set_option maxHeartbeats 4000000
namespace L3
open PySem PySem.Spec PyProof.Rows L2
end L3
set_option maxHeartbeats 4000000
namespace L3
open PySem PySem.Spec PyProof.Rows L2
end L3
set_option maxHeartbeats 4000000
namespace L3
open PySem PySem.Spec PyProof.Rows L2
variable {X : Cx}
end L3
set_option maxHeartbeats 4000000
namespace L3
open PySem PySem.Spec PyProof.Rows L2 PySem.NumText PySem.Builtin.Str
def qMy (l : List Nat) : List Nat := if l.head? = some 45 then l.tail else l
def qOs (c : Nat) : Bool := !(occurrences "0123456789" ⟨#[c]⟩ 0 ("0123456789" : Str).length 1).isEmpty
structure Fig (l : List Nat) : Prop where
  ne : qMy l ≠ []
  len : (qMy l).length ≤ 60
  all : (qMy l).all qOs = true
end L3
set_option maxHeartbeats 4000000
namespace L3
open PySem PySem.Spec PyProof.Rows L2 PySem.NumText PySem.Builtin.Str
inductive qIl (l : List Nat) : List Str → Prop where
  | none (h : l = []) : qIl l []
  | one {p : Str} (h : l = p.cps.toList) (hf : 47 ∉ l) : qIl l [p]
  | two {p q : Str} (h : l = p.cps.toList ++ 47 :: q.cps.toList) (hp : 47 ∉ p.cps.toList) (hq : 47 ∉ q.cps.toList) : qIl l [p, q]
  | more {p q r : Str} {t : List Str} (rest : List Nat) (h : l = p.cps.toList ++ 47 :: rest) (hp : 47 ∉ p.cps.toList) (hq : 47 ∈ rest) : qIl l (p :: q :: r :: t)
end L3
set_option maxHeartbeats 4000000
namespace L3
open PySem PySem.Spec PyProof.Rows L2
def XES (X : Cx) (Ex : Value → Option Addr → L2.St → Hp → Prop) : Value → Shared → Prop := fun e s' => ∃ ea C σ H', e = .ref ea ∧ Inv X [] σ H' s' ∧ qJk X.s₀.heap H' X.pn s'.heap ea C ∧ Ex C.1 C.2 σ H'
def qLn (sp : Sp) (Ex : Value → Option Addr → L2.St → Hp → Prop) (t : TA) : TE := fun σ H Q => t σ H fun vs H1 => sp (vs ++ []) H1 Q fun C od H' => Ex C od σ H'
theorem qMk {X : Cx} {Ex : Value → Option Addr → L2.St → Hp → Prop} (hex : X.ex = []) {pins : List (Addr × Obj)} {σ : L2.St} {H : Hp} {s : Shared} {e : Value} {s' : Shared} (I : Inv (X.wish (XES X Ex)) pins σ H s)
    (h : CXR X.prog X.w X.stack H s (fun C od H' => Ex C od σ H') e s') : XES X Ex e s' := by
  obtain ⟨ea, C, H', rfl, os, bare, un, hok, ⟨n1, hd, r, n3⟩, q⟩ := h
  have I0 := I.unwish
  have I1 : Inv X pins σ H' s' := I0.call' (ch := []) os un hok bare fun b z => nomatch z
  have old : ∀ b, s.heap.get? b = none → X.s₀.heap.get? b = none := fun b z => by
    cases w : X.s₀.heap.get? b with
    | none => rfl
    | some o =>
      obtain ⟨o', w'⟩ := I0.base.there b o w (by rw [hex]; intro y; cases y)
      rw [z] at w'; cases w'
  have pn : ∀ b, s.heap.get? b = none → ∀ p ∈ X.pn, p.1 ≠ b := fun b z p hp w => by
    have q := (I0.pin p (List.mem_append_left _ hp)).1
    rw [w, z] at q; cases q
  exact ⟨ea, C, σ, H', rfl, I1.pins_of (pins' := []) fun p hp => (nomatch hp), ⟨⟨old _ n1.1, n1.2.1, pn _ n1.1⟩, hd, r, fun T e => ⟨old _ (n3 T e).1, (n3 T e).2.1, pn _ (n3 T e).1⟩⟩, q⟩
theorem qIx {X : Cx} {Ex : Value → Option Addr → L2.St → Hp → Prop} {k j : Nat} {x : Str} {st : Stmt} {ps : List Str} {f : Addr} {fd : FuncData} {sp : Sp} {e : Expr} {es : List Expr} {t : TA} {p pos : Pos} (D : Def X.K X.mg x st ps f fd) (F : FnOk X.prog X.w X.K X.mg X.base (CXR X.prog X.w) j f fd ps sp) (hr : Room k X.A) (hg : Gl X x)
    (ha : PA (X.wish (XES X Ex)) (e :: es) t) (hj : j ≤ k := by decide) (hex : X.ex = [] := by rfl)
    (hdb : (x == ("__debug__" : Str)) = false := by decide) (he : starEach (e :: es) X.env = (false, eval e X.env) :: starEach es X.env := by rfl) (hpl : (backTo pos (starEach es X.env)).any (·.1) = false := by rfl) :
    PE (X.wish (XES X Ex)) (.Call (.Name x p) (e :: es) [] pos) (qLn sp Ex t) := by
  intro pins s σ H Q I h
  refine wpAny_Call_Name_kw (kM I hg D.m ?_ hdb)
  refine PySem.W.callWith_K (h₀ := X.base) I.ok.mod.kin D.F.kp (thn (ha pos pins s σ H _ I h) fun us s1 ⟨vs, H1, I1, r, q⟩ => ⟨I1.kIn, ?_⟩) he hpl
  have r2 : Vals (vs ++ []) (us ++ []) := r.append .nil
  have hl : (us ++ []).length = ps.length := by rw [← r2.length]; exact F.len _ _ _ _ q
  refine wpAny_call (codeAny_mono (F.run X.A X.stack s1 H1 ⟨us, []⟩ (us ++ []) (vs ++ []) Q _ (hr.mono hj) I1.env0 (D.b s1 us I1.kIn hl) r2 q) fun r s' hq => ?_)
  cases r with
  | error e => exact qMk hex I1 hq
  | ok fl =>
    cases fl with
    | ret u => exact I1.after hq
    | next => exact False.elim hq
    | brk => exact False.elim hq
    | cont => exact False.elim hq
def qN1 (K : PySem.W.Frag) (Ex : Value → Option Addr → L2.St → Hp → Prop) (C : Addr) (i : Option Nat) (tb ts : TS) : TS := fun D σ H => tb D σ H ∧ ∀ (ea : Addr) (B : EC) (σ' : L2.St) (H' : Hp), Ex B.1 B.2 σ' H' → H' ea = none → σ'.length = σ.length →
  PySem.W.exmOne K B.1 (.ref C) = some true ∧ ts (qF7 D i) (qLx i ea σ') (upd H' ea (kr ea B))
theorem qLh {X : Cx} {body : List Stmt} {b₀ : Stmt} {suite : List Stmt} {x : Str} {C : Addr} {nm : Option Str} {i : Option Nat} {np hpos pos : Pos} {tb ts : TS} (Ex : Value → Option Addr → L2.St → Hp → Prop)
    (hcl : qEs X nm i) (hN : X.N.Nodup) (hg : Gl X x) (hm : X.mg x = some (.ref C))
    (hb : ∀ l, PSs ((pnX X l).wish (XES (pnX X l) Ex)) body tb) (hs : ∀ l ea, PSs (hdX (pnX X l) ea).nox (b₀ :: suite) ts)
    (hstk : X.stack = X.env :: X.outer := by rfl) (hfr : X.env.frame = some X.env.locals := by rfl) (hex : X.ex = [] := by rfl) (hdb : (x == ("__debug__" : Str)) = false := by decide) :
    PS X (.Try body [.ExceptHandler (some (.Name x np)) nm (b₀ :: suite) hpos] [] [] pos) (qN1 X.K Ex C i tb ts) := by
  rintro pins s σ H D I ⟨h1, h2⟩
  have I0 := qJx I
  refine wpAny_Try_except (wpAny_mono (hb (X.pn ++ pins) [] s σ H D (I0.wish _) h1) (fun f s1 q => ?_) fun e s1 q => ?_)
  · have q := q.unwish
    cases f with
    | next =>
      obtain ⟨σ', H', J, z⟩ := q
      exact wpAny_execs_nil ⟨σ', H', xc J, z⟩
    | brk =>
      obtain ⟨σ', H', J, z⟩ := q
      exact ⟨σ', H', xc J, z⟩
    | cont =>
      obtain ⟨σ', H', J, z⟩ := q
      exact ⟨σ', H', xc J, z⟩
    | ret u =>
      obtain ⟨v, σ', H', J, r, z⟩ := q
      exact ⟨v, σ', H', xc J, r, z⟩
  · obtain ⟨ea, B, σ', H', rfl, I1, ⟨n1, hd, r, n3⟩, ex⟩ := q
    have hlen : σ'.length = σ.length := I1.len.trans I.len.symm
    obtain ⟨hx, ht⟩ := h2 ea B σ' H' ex n1.2.1 hlen
    have fr : X.A.frames = some (X.env :: X.outer) := by rw [← hstk]; exact I.ok.frames
    have ff : s1.heap.FunFrames X.base (X.env :: X.outer) := by
      have z := I1.stack
      rw [show (pnX X (X.pn ++ pins)).stack = X.env :: X.outer from hstk] at z
      exact z
    refine qEl fr ff hfr r fun h' N' => ?_
    have N' : Noted (frs X.stack) ea hd B s1.heap h' := by rw [hstk]; exact N'
    obtain ⟨I2, n1, hd2, r2, n3⟩ := xT I1 hex r n1 n3 N'
    refine wpAny_handleBy_cons (codeAny_handlers_test (kM (X := hdX (pnX X (X.pn ++ pins)) ea) (qAe I2) hg hm ?_ hdb)) (by intro z; cases z)
    have LT : PySem.W.Looks (model X.prog X.w) h' (typeOf (.ref ea)) B.1 := by
      obtain ⟨vs, sl, qe, _⟩ := r2
      exact (PySem.W.Looks.ld qe).andThen .now
    refine (PySem.W.exm_one (M := model X.prog X.w) I2.kIn LT hx).here ?_
    show codeAny _ _ _ _ _
    obtain ⟨T, rfl, r3⟩ : ∃ T, hd2 = some T ∧ zh h' ea B (some T) := by
      obtain ⟨T, _, _⟩ := N'.ent
      cases hd2 with
      | some T => exact ⟨T, rfl, r2⟩
      | none =>
        obtain ⟨T, _, rT⟩ := N'.ent
        obtain ⟨vs, sl, q1, q2⟩ := r2
        obtain ⟨vs', sl', q1', q2', _⟩ := rT
        rw [q1] at q1'
        cases q1'
        rw [q2] at q2'
        cases q2'
    have run : ∀ (s4 : Shared) (σ4 : L2.St) (Q : Flow → Shared → Prop) (E : Value → Shared → Prop), Inv (hdX (pnX X (X.pn ++ pins)) ea) [] σ4 (upd H' ea (kr ea B)) s4 → ts (qF7 D i) σ4 (upd H' ea (kr ea B)) →
        (∀ f s5, SP (hdX (pnX X (X.pn ++ pins)) ea) [] (qF7 D i) f s5 → Q f s5) → wpAny (model X.prog X.w) (X.A.mark (some (.ref ea))) (execs (b₀ :: suite) X.env) Q E s4 := fun s4 σ4 Q E I4 z k =>
      wpAny_mono (hs (X.pn ++ pins) ea [] s4 σ4 _ _ (I4.wish _) z) (fun f s5 q => k f s5 q.unwish) fun _ _ z => z.elim
    have hdn : (pnX X (X.pn ++ pins)).calm = true → (pnX X (X.pn ++ pins)).A.handled = none := I2.ok.hd
    cases hcl with
    | none =>
      refine codeAny_handlers_suite (zt r3 fun h3 N3 => ?_)
      obtain ⟨I3, n1, hd3, r4, n3⟩ := xT I2 hex r3 n1 n3 (N3 _)
      refine run _ _ _ _ (qAe (kf I3 hex n1 r4)) ht fun f s5 q => ?_
      cases f with
      | next => obtain ⟨σ5, H5, J, z⟩ := q; exact ⟨σ5, H5, xc (kE J hdn), z⟩
      | brk => obtain ⟨σ5, H5, J, z⟩ := q; exact ⟨σ5, H5, xc (kE J hdn), z⟩
      | cont => obtain ⟨σ5, H5, J, z⟩ := q; exact ⟨σ5, H5, xc (kE J hdn), z⟩
      | ret u => obtain ⟨v, σ5, H5, J, rv, z⟩ := q; exact ⟨v, σ5, H5, xc (kE J hdn), rv, z⟩
    | some hi hl =>
      refine codeAny_handlers_suite_as (zt r3 fun h3 N3 => ?_)
      obtain ⟨I3, n1, hd3, r4, n3⟩ := xT I2 hex r3 n1 n3 (N3 _)
      refine zd (X := hdX (pnX X (X.pn ++ pins)) ea) (v := .ref ea) (qAe (kf I3 hex n1 r4)) hN hi (.inl hl) rfl (fun s4 I4 => ?_) (.inr hl)
      refine run _ _ _ _ I4 ht fun f s5 q => ?_
      cases f with
      | next => obtain ⟨σ5, H5, J, z⟩ := q; exact xU (X := pnX X (X.pn ++ pins)) (kE J hdn) hN hi hl fun s6 J6 => ⟨_, H5, xc J6, z⟩
      | brk => obtain ⟨σ5, H5, J, z⟩ := q; exact xU (X := pnX X (X.pn ++ pins)) (kE J hdn) hN hi hl fun s6 J6 => ⟨_, H5, xc J6, z⟩
      | cont => obtain ⟨σ5, H5, J, z⟩ := q; exact xU (X := pnX X (X.pn ++ pins)) (kE J hdn) hN hi hl fun s6 J6 => ⟨_, H5, xc J6, z⟩
      | ret u => obtain ⟨v, σ5, H5, J, rv, z⟩ := q; exact xU (X := pnX X (X.pn ++ pins)) (kE J hdn) hN hi hl fun s6 J6 => ⟨v, _, H5, xc J6, rv, z⟩
end L3
set_option maxHeartbeats 4000000
set_option maxRecDepth 100000
namespace Lw
open PySem L2 L3 Mt
seal L2.PSs L2.PS L2.PE L2.PA L2.PT L2.PW L2.PC L2.PI L2.PG L2.PGs L2.PO
def top (i : Nat) : Stmt := PySem.Challenge.pw_reelcut_k48_deeds_refused.main.body.getD i (.Pass ⟨0, 0, 0, 0⟩)
abbrev xm : Stmt := top 8
abbrev q9 : Stmt := top 9
abbrev jk : Stmt := top 10
abbrev xn : Stmt := top 11
abbrev z0 : Stmt := top 12
abbrev zL : Stmt := top 13
abbrev xt : Stmt := top 14
abbrev xh : Stmt := top 15
abbrev xJ : Stmt := top 16
abbrev xq : Stmt := top 17
abbrev zP : Stmt := top 23
abbrev jJ : Stmt := top 24
abbrev xr : Stmt := top 25
abbrev jx : Stmt := top 26
abbrev xp : Stmt := top 27
abbrev j2 : Stmt := top 28
abbrev xO : Stmt := top 29
abbrev zM : Stmt := top 30
abbrev jK : Stmt := top 31
abbrev xK : Stmt := top 32
abbrev xG : Stmt := top 33
abbrev xE : Stmt := top 35
abbrev jG : Stmt := top 36
abbrev jy : Stmt := top 37
abbrev xl : Stmt := top 38
abbrev xI : Stmt := top 39
abbrev zQ : Stmt := top 40
abbrev zO : Stmt := top 41
abbrev jm : Stmt := top 42
abbrev jW : Stmt := top 43
abbrev jL : Stmt := top 44
abbrev qv : Stmt := top 45
abbrev jf : Stmt := top 46
abbrev xR : Stmt := top 47
abbrev jF : Stmt := top 48
abbrev jz : Stmt := top 50
abbrev jj : Stmt := top 51
abbrev xQ : Stmt := top 52
abbrev jQ : Stmt := top 53
abbrev jq : Stmt := top 54
abbrev zR : Stmt := top 55
abbrev jg : Stmt := top 58
abbrev xj : Stmt := top 59
abbrev ju : Stmt := top 60
abbrev qz : Stmt := top 61
abbrev jU : Stmt := top 62
abbrev zN : Stmt := top 63
abbrev ji : Stmt := top 64
abbrev xB : Stmt := top 65
abbrev xL : Stmt := top 66
abbrev zS : Stmt := top 67
abbrev qq : Stmt := top 68
abbrev jv : Stmt := top 69
abbrev z9 : Stmt := top 70
abbrev j1 : Stmt := top 76
abbrev zI : Stmt := top 77
abbrev jX : Stmt := top 78
abbrev jA : Stmt := top 79
abbrev jH : Stmt := top 80
abbrev jh : Stmt := top 81
abbrev jl : Stmt := top 82
abbrev jY : Stmt := top 83
abbrev jp : Stmt := top 84
abbrev xk : Stmt := top 85
abbrev zy : Stmt := top 86
abbrev vF : Stmt := top 87
abbrev zH : Stmt := top 88
abbrev z8 : Stmt := top 89
abbrev zJ : Stmt := top 90
abbrev xH : Stmt := top 91
abbrev jV : Stmt := top 93
abbrev j0 : Stmt := top 94
abbrev xF : Stmt := top 95
abbrev xw : Stmt := top 96
abbrev jI : Stmt := top 97
abbrev qx : Stmt := top 98
abbrev xo : Stmt := top 99
abbrev jw : Stmt := top 100
abbrev qBn : Stmt := top 101
theorem wK : qQ ["x"] ["x"] (qF xm) := ⟨rfl, rfl, rfl, by decide +kernel, rfl, by decide +kernel, by decide +kernel⟩
theorem sc_common_divisor : qQ ["one", "other", "rest"] ["one", "other"] (qF q9) := ⟨rfl, rfl, rfl, by decide +kernel, rfl, by decide +kernel, by decide +kernel⟩
theorem wm : qQ ["x"] ["x"] (qF jk) := ⟨rfl, rfl, rfl, by decide +kernel, rfl, by decide +kernel, by decide +kernel⟩
theorem sc_fraction : qQ ["top", "bottom", "divisor"] ["top", "bottom"] (qF xn) := ⟨rfl, rfl, rfl, by decide +kernel, rfl, by decide +kernel, by decide +kernel⟩
theorem qHk : qQ ["one", "other"] ["one", "other"] (qF z0) := ⟨rfl, rfl, rfl, by decide +kernel, rfl, by decide +kernel, by decide +kernel⟩
theorem qFw : qQ ["one", "other"] ["one", "other"] (qF zL) := ⟨rfl, rfl, rfl, by decide +kernel, rfl, by decide +kernel, by decide +kernel⟩
theorem qDm : qQ ["one", "other"] ["one", "other"] (qF xt) := ⟨rfl, rfl, rfl, by decide +kernel, rfl, by decide +kernel, by decide +kernel⟩
theorem qDr : qQ ["one", "other"] ["one", "other"] (qF xh) := ⟨rfl, rfl, rfl, by decide +kernel, rfl, by decide +kernel, by decide +kernel⟩
theorem qCp : qQ ["one", "other"] ["one", "other"] (qF xJ) := ⟨rfl, rfl, rfl, by decide +kernel, rfl, by decide +kernel, by decide +kernel⟩
theorem qDj : qQ ["one"] ["one"] (qF xq) := ⟨rfl, rfl, rfl, by decide +kernel, rfl, by decide +kernel, by decide +kernel⟩
theorem qF9 : qQ ["thing"] ["thing"] (qF zP) := ⟨rfl, rfl, rfl, by decide +kernel, rfl, by decide +kernel, by decide +kernel⟩
theorem vw : qQ ["item"] ["item"] (qF jJ) := ⟨rfl, rfl, rfl, by decide +kernel, rfl, by decide +kernel, by decide +kernel⟩
theorem qEi : qQ ["clip", "k"] ["clip", "k"] (qF xr) := ⟨rfl, rfl, rfl, by decide +kernel, rfl, by decide +kernel, by decide +kernel⟩
theorem qBm : qQ ["clip", "k"] ["clip", "k"] (qF jx) := ⟨rfl, rfl, rfl, by decide +kernel, rfl, by decide +kernel, by decide +kernel⟩
theorem qD9 : qQ ["picture", "many"] ["picture", "many"] (qF xp) := ⟨rfl, rfl, rfl, by decide +kernel, rfl, by decide +kernel, by decide +kernel⟩
theorem sc_check_clip : qQ ["item", "reels", "many"] ["item", "reels"] (qF j2) := ⟨rfl, rfl, rfl, by decide +kernel, rfl, by decide +kernel, by decide +kernel⟩
theorem qCx : qQ ["clip", "low", "high"] ["clip", "low", "high"] (qF xO) := ⟨rfl, rfl, rfl, by decide +kernel, rfl, by decide +kernel, by decide +kernel⟩
theorem qFx : qQ ["one", "other"] ["one", "other"] (qF zM) := ⟨rfl, rfl, rfl, by decide +kernel, rfl, by decide +kernel, by decide +kernel⟩
theorem sc_moments_there : qQ ["first", "step", "many", "room"] ["first", "step", "many"] (qF jK) := ⟨rfl, rfl, rfl, by decide +kernel, rfl, by decide +kernel, by decide +kernel⟩
theorem qDc : qQ ["clip", "reels"] ["clip", "reels"] (qF xK) := ⟨rfl, rfl, rfl, by decide +kernel, rfl, by decide +kernel, by decide +kernel⟩
theorem qC0 : qQ ["clip", "reels"] ["clip", "reels"] (qF xG) := ⟨rfl, rfl, rfl, by decide +kernel, rfl, by decide +kernel, by decide +kernel⟩
theorem qCu : qQ ["thing"] ["thing"] (qF xE) := ⟨rfl, rfl, rfl, by decide +kernel, rfl, by decide +kernel, by decide +kernel⟩
theorem vf : qQ ["item"] ["item"] (qF jG) := ⟨rfl, rfl, rfl, by decide +kernel, rfl, by decide +kernel, by decide +kernel⟩
theorem qBg : qQ ["item"] ["item"] (qF jy) := ⟨rfl, rfl, rfl, by decide +kernel, rfl, by decide +kernel, by decide +kernel⟩
theorem sc_one_form : qQ ["some", "track", "waiting", "item"] ["some"] (qF xl) := ⟨rfl, rfl, rfl, by decide +kernel, rfl, by decide +kernel, by decide +kernel⟩
theorem qCn : qQ ["track"] ["track"] (qF xI) := ⟨rfl, rfl, rfl, by decide +kernel, rfl, by decide +kernel, by decide +kernel⟩
theorem sc_item_at : qQ ["track", "moment", "begin", "place", "item", "end"] ["track", "moment"] (qF zQ) := ⟨rfl, rfl, rfl, by decide +kernel, rfl, by decide +kernel, by decide +kernel⟩
theorem qFf : qQ ["track", "place"] ["track", "place"] (qF zO) := ⟨rfl, rfl, rfl, by decide +kernel, rfl, by decide +kernel, by decide +kernel⟩
theorem wx : qQ ["track", "place"] ["track", "place"] (qF jm) := ⟨rfl, rfl, rfl, by decide +kernel, rfl, by decide +kernel, by decide +kernel⟩
theorem wR : qQ ["track", "place"] ["track", "place"] (qF jW) := ⟨rfl, rfl, rfl, by decide +kernel, rfl, by decide +kernel, by decide +kernel⟩
theorem sc_neighbours_at : qQ ["track", "moment", "found"] ["track", "moment"] (qF jL) := ⟨rfl, rfl, rfl, by decide +kernel, rfl, by decide +kernel, by decide +kernel⟩
theorem sc_clips_at_border : qQ ["track", "moment", "places"] ["track", "moment"] (qF qv) := ⟨rfl, rfl, rfl, by decide +kernel, rfl, by decide +kernel, by decide +kernel⟩
theorem sc_lies_within : qQ ["track", "moment", "found"] ["track", "moment"] (qF jf) := ⟨rfl, rfl, rfl, by decide +kernel, rfl, by decide +kernel, by decide +kernel⟩
theorem qCm : qQ ["item", "low", "high"] ["item", "low", "high"] (qF xR) := ⟨rfl, rfl, rfl, by decide +kernel, rfl, by decide +kernel, by decide +kernel⟩
theorem sc_part_of_track : qQ ["track", "low", "high", "parts", "begin", "item", "end", "first", "last"] ["track", "low", "high"] (qF jF) := ⟨rfl, rfl, rfl, by decide +kernel, rfl, by decide +kernel, by decide +kernel⟩
theorem qBh : qQ ["length"] ["length"] (qF jz) := ⟨rfl, rfl, rfl, by decide +kernel, rfl, by decide +kernel, by decide +kernel⟩
theorem qAa : qQ ["length"] ["length"] (qF jj) := ⟨rfl, rfl, rfl, by decide +kernel, rfl, by decide +kernel, by decide +kernel⟩
theorem sc_mix_spans : qQ ["track", "spans", "border", "item"] ["track"] (qF xQ) := ⟨rfl, rfl, rfl, by decide +kernel, rfl, by decide +kernel, by decide +kernel⟩
theorem qAb : qQ ["table", "number", "moment"] ["table", "number", "moment"] (qF jg) := ⟨rfl, rfl, rfl, by decide +kernel, rfl, by decide +kernel, by decide +kernel⟩
theorem qEk : qQ ["by"] ["by"] (qF xj) := ⟨rfl, rfl, rfl, by decide +kernel, rfl, by decide +kernel, by decide +kernel⟩
theorem sc_clip_there : qQ ["track", "moment", "found"] ["track", "moment"] (qF ju) := ⟨rfl, rfl, rfl, by decide +kernel, rfl, by decide +kernel, by decide +kernel⟩
theorem sc_clip_and_sides : qQ ["track", "moment", "found", "left", "right"] ["track", "moment"] (qF qz) := ⟨rfl, rfl, rfl, by decide +kernel, rfl, by decide +kernel, by decide +kernel⟩
theorem wF : qQ ["track", "deed"] ["track", "deed"] (qF jU) := ⟨rfl, rfl, rfl, by decide +kernel, rfl, by decide +kernel, by decide +kernel⟩
theorem qFn : qQ ["track", "place"] ["track", "place"] (qF zN) := ⟨rfl, rfl, rfl, by decide +kernel, rfl, by decide +kernel, by decide +kernel⟩
theorem wu : qQ ["most", "by"] ["most", "by"] (qF ji) := ⟨rfl, rfl, rfl, by decide +kernel, rfl, by decide +kernel, by decide +kernel⟩
theorem qB7 : qQ ["clip", "by", "reels"] ["clip", "by", "reels"] (qF xB) := ⟨rfl, rfl, rfl, by decide +kernel, rfl, by decide +kernel, by decide +kernel⟩
theorem qCo : qQ ["left", "right", "by", "reels"] ["left", "right", "by", "reels"] (qF xL) := ⟨rfl, rfl, rfl, by decide +kernel, rfl, by decide +kernel, by decide +kernel⟩
theorem sc_slipped : qQ ["track", "place", "by", "reels", "clip", "changed"] ["track", "place", "by", "reels"] (qF zS) := ⟨rfl, rfl, rfl, by decide +kernel, rfl, by decide +kernel, by decide +kernel⟩
theorem sc_with_rolled_ends : qQ ["track", "first", "last", "by", "reels", "left", "right", "changed"] ["track", "first", "last", "by", "reels"] (qF qq) := ⟨rfl, rfl, rfl, by decide +kernel, rfl, by decide +kernel, by decide +kernel⟩
theorem sc_table_with : qQ ["table", "number", "track", "tracks"] ["table", "number", "track"] (qF jv) := ⟨rfl, rfl, rfl, by decide +kernel, rfl, by decide +kernel, by decide +kernel⟩
theorem sc_rolled : qQ ["table", "deed", "reels", "track", "places"] ["table", "deed", "reels"] (qF z9) := ⟨rfl, rfl, rfl, by decide +kernel, rfl, by decide +kernel, by decide +kernel⟩
theorem qBb : qQ ["deed"] ["deed"] (qF j1) := ⟨rfl, rfl, rfl, by decide +kernel, rfl, by decide +kernel, by decide +kernel⟩
theorem qFq : qQ ["deed"] ["deed"] (qF zI) := ⟨rfl, rfl, rfl, by decide +kernel, rfl, by decide +kernel, by decide +kernel⟩
theorem wN : qQ ["deed"] ["deed"] (qF jX) := ⟨rfl, rfl, rfl, by decide +kernel, rfl, by decide +kernel, by decide +kernel⟩
theorem vG : qQ ["table", "deed"] ["table", "deed"] (qF jA) := ⟨rfl, rfl, rfl, by decide +kernel, rfl, by decide +kernel, by decide +kernel⟩
theorem vj : qQ ["deed"] ["deed"] (qF jH) := ⟨rfl, rfl, rfl, by decide +kernel, rfl, by decide +kernel, by decide +kernel⟩
theorem sc_touches_mix : qQ ["track", "low", "high", "span"] ["track", "low", "high"] (qF jh) := ⟨rfl, rfl, rfl, by decide +kernel, rfl, by decide +kernel, by decide +kernel⟩
theorem sc_check_mixes : qQ ["table", "deed", "stretch", "number"] ["table", "deed"] (qF jl) := ⟨rfl, rfl, rfl, by decide +kernel, rfl, by decide +kernel, by decide +kernel⟩
theorem wI : qQ ["table", "deed", "reels"] ["table", "deed", "reels"] (qF jY) := ⟨rfl, rfl, rfl, by decide +kernel, rfl, by decide +kernel, by decide +kernel⟩
theorem sc_can_heal : qQ ["track", "places", "one", "other"] ["track", "places"] (qF xk) := ⟨rfl, rfl, rfl, by decide +kernel, rfl, by decide +kernel, by decide +kernel⟩
theorem sc_healed : qQ ["table", "deed", "track", "places", "one", "whole"] ["table", "deed"] (qF zy) := ⟨rfl, rfl, rfl, by decide +kernel, rfl, by decide +kernel, by decide +kernel⟩
theorem sc_mixed : qQ ["table", "deed", "reels", "track", "places", "most"] ["table", "deed", "reels"] (qF vF) := ⟨rfl, rfl, rfl, by decide +kernel, rfl, by decide +kernel, by decide +kernel⟩
theorem sc_unmixed : qQ ["table", "deed", "track", "places"] ["table", "deed"] (qF zH) := ⟨rfl, rfl, rfl, by decide +kernel, rfl, by decide +kernel, by decide +kernel⟩
theorem sc_relaid : qQ ["track", "low", "high", "laid", "filling"] ["track", "low", "high", "laid"] (qF z8) := ⟨rfl, rfl, rfl, by decide +kernel, rfl, by decide +kernel, by decide +kernel⟩
theorem sc_changed : qQ ["table", "deed", "stretch", "told", "number", "laid"] ["table", "deed"] (qF zJ) := ⟨rfl, rfl, rfl, by decide +kernel, rfl, by decide +kernel, by decide +kernel⟩
theorem qBx : qQ ["table", "deed", "reels"] ["table", "deed", "reels"] (qF xH) := ⟨rfl, rfl, rfl, by decide +kernel, rfl, by decide +kernel, by decide +kernel⟩
theorem we : qQ ["_law_script", "_law_k"] ["_law_script", "_law_k"] (qF jV) := ⟨rfl, rfl, rfl, by decide +kernel, rfl, by decide +kernel, by decide +kernel⟩
theorem sc__law_table : qQ ["_law_far_here", "_law_first"] ["_law_far_here"] (qF j0) := ⟨rfl, rfl, rfl, by decide +kernel, rfl, by decide +kernel, by decide +kernel⟩
theorem sc__law_word : qQ ["_law_table_here", "_law_deed", "_law_word_here"] ["_law_table_here", "_law_deed"] (qF xF) := ⟨rfl, rfl, rfl, by decide +kernel, rfl, by decide +kernel, by decide +kernel⟩
theorem sc__law_any : qQ ["_law_table_here", "_law_deed", "_law_word_here", "_law_kinds", "e", "_law_due"] ["_law_table_here", "_law_deed", "_law_word_here"] (qF xw) := ⟨rfl, rfl, rfl, by decide +kernel, rfl, by decide +kernel, by decide +kernel⟩
theorem sc__law_bad_item : qQ ["_law_cell", "_law_some"] ["_law_cell"] (qF jI) := ⟨rfl, rfl, rfl, by decide +kernel, rfl, by decide +kernel, by decide +kernel⟩
theorem km : qQ ["_law_cell"] ["_law_cell"] (qF qx) := ⟨rfl, rfl, rfl, by decide +kernel, rfl, by decide +kernel, by decide +kernel⟩
theorem sc__law_far : qQ ["_law_far_here", "_law_cell", "_law_some"] ["_law_far_here", "_law_cell"] (qF xo) := ⟨rfl, rfl, rfl, by decide +kernel, rfl, by decide +kernel, by decide +kernel⟩
theorem sc__law_items : qQ ["_law_far_here", "_law_cell", "_law_clip", "_law_bad", "_law_some"] ["_law_far_here", "_law_cell"] (qF jw) := ⟨rfl, rfl, rfl, by decide +kernel, rfl, by decide +kernel, by decide +kernel⟩
theorem sc_law : qQ ["_law_script", "_law_far_here", "_law_cell", "_law_table_here", "_law_copy", "_law_deed", "_law_word_here"] ["_law_script"] (qF qBn) := ⟨rfl, rfl, rfl, by decide +kernel, rfl, by decide +kernel, by decide +kernel⟩
abbrev z6 : Stmt := qJ8 (top 6) 0
theorem qG9 : qQ ["self", "most"] ["self", "most"] (qF z6) := ⟨rfl, rfl, rfl, by decide +kernel, rfl, by decide +kernel, by decide +kernel⟩
set_option genInjectivity false
set_option genSizeOf false
structure Ads where
  a_is_whole : Addr
  f_is_whole : FuncData
  a_common_divisor : Addr
  f_common_divisor : FuncData
  a_is_fraction : Addr
  f_is_fraction : FuncData
  a_fraction : Addr
  f_fraction : FuncData
  a_sum_of : Addr
  f_sum_of : FuncData
  a_less_by : Addr
  f_less_by : FuncData
  a_times_of : Addr
  f_times_of : FuncData
  a_quotient : Addr
  f_quotient : FuncData
  a_is_before : Addr
  f_is_before : FuncData
  a_floor_of : Addr
  f_floor_of : FuncData
  a_is_name : Addr
  f_is_name : FuncData
  a_has_clip_form : Addr
  f_has_clip_form : FuncData
  a_place_at : Addr
  f_place_at : FuncData
  a_picture_at : Addr
  f_picture_at : FuncData
  a_is_there : Addr
  f_is_there : FuncData
  a_check_clip : Addr
  f_check_clip : FuncData
  a_clip_part : Addr
  f_clip_part : FuncData
  a_goes_on : Addr
  f_goes_on : FuncData
  a_moments_there : Addr
  f_moments_there : FuncData
  a_head_room : Addr
  f_head_room : FuncData
  a_tail_room : Addr
  f_tail_room : FuncData
  a_is_length : Addr
  f_is_length : FuncData
  a_has_nest_form : Addr
  f_has_nest_form : FuncData
  a_moments_of : Addr
  f_moments_of : FuncData
  a_one_form : Addr
  f_one_form : FuncData
  a_length_of : Addr
  f_length_of : FuncData
  a_item_at : Addr
  f_item_at : FuncData
  a_kind_at : Addr
  f_kind_at : FuncData
  a_place_ahead : Addr
  f_place_ahead : FuncData
  a_place_behind : Addr
  f_place_behind : FuncData
  a_neighbours_at : Addr
  f_neighbours_at : FuncData
  a_clips_at_border : Addr
  f_clips_at_border : FuncData
  a_lies_within : Addr
  f_lies_within : FuncData
  a_item_part : Addr
  f_item_part : FuncData
  a_part_of_track : Addr
  f_part_of_track : FuncData
  a_part_ahead : Addr
  f_part_ahead : FuncData
  a_part_behind : Addr
  f_part_behind : FuncData
  a_mix_spans : Addr
  f_mix_spans : FuncData
  a_taken_at_begin : Addr
  f_taken_at_begin : FuncData
  a_taken_at_end : Addr
  f_taken_at_end : FuncData
  a_most_mix : Addr
  f_most_mix : FuncData
  a_check_place : Addr
  f_check_place : FuncData
  a_check_by : Addr
  f_check_by : FuncData
  a_clip_there : Addr
  f_clip_there : FuncData
  a_clip_and_sides : Addr
  f_clip_and_sides : FuncData
  a_places_named : Addr
  f_places_named : FuncData
  a_has_mix : Addr
  f_has_mix : FuncData
  a_check_short : Addr
  f_check_short : FuncData
  a_most_slip : Addr
  f_most_slip : FuncData
  a_most_roll : Addr
  f_most_roll : FuncData
  a_slipped : Addr
  f_slipped : FuncData
  a_with_rolled_ends : Addr
  f_with_rolled_ends : FuncData
  a_table_with : Addr
  f_table_with : FuncData
  a_rolled : Addr
  f_rolled : FuncData
  a_stretch_of : Addr
  f_stretch_of : FuncData
  a_laid_by : Addr
  f_laid_by : FuncData
  a_laid_on_tied : Addr
  f_laid_on_tied : FuncData
  a_tracks_changed : Addr
  f_tracks_changed : FuncData
  a_check_numbers : Addr
  f_check_numbers : FuncData
  a_touches_mix : Addr
  f_touches_mix : FuncData
  a_check_mixes : Addr
  f_check_mixes : FuncData
  a_check_change : Addr
  f_check_change : FuncData
  a_nest_goes_on : Addr
  f_nest_goes_on : FuncData
  a_can_heal : Addr
  f_can_heal : FuncData
  a_healed : Addr
  f_healed : FuncData
  a_mixed : Addr
  f_mixed : FuncData
  a_unmixed : Addr
  f_unmixed : FuncData
  a_relaid : Addr
  f_relaid : FuncData
  a_changed : Addr
  f_changed : FuncData
  a_deed_done : Addr
  f_deed_done : FuncData
  a__law_cell_at : Addr
  f__law_cell_at : FuncData
  a__law_table : Addr
  f__law_table : FuncData
  a__law_word : Addr
  f__law_word : FuncData
  a__law_any : Addr
  f__law_any : FuncData
  a__law_bad_item : Addr
  f__law_bad_item : FuncData
  a__law_bad_moment : Addr
  f__law_bad_moment : FuncData
  a__law_far : Addr
  f__law_far : FuncData
  a__law_items : Addr
  f__law_items : FuncData
  a_law : Addr
  f_law : FuncData
  k_CutError : Addr
  k_NoNumber : Addr
  k_NoClip : Addr
  k_NoPlace : Addr
  k_Mixed : Addr
  k_Short : Addr
  t_LETTERS : Tok
  t_LONGEST_NAME : Tok
  t_MOST_ROOM : Tok
  n_NOUGHT : Addr
  t_MOST_BY : Tok
  n_ROLLS : Addr
  n_LAYS : Addr
  n_PUSHES : Addr
  n_CHANGES : Addr
  fi_Short : Addr
  gi_Short : FuncData
structure Tx (K : PySem.W.Frag) (mg : Str → Option Value) (a : Ads) : Prop where
  d_is_whole : L3.Def K mg "is_whole" xm ["x"] a.a_is_whole a.f_is_whole
  d_common_divisor : L3.Def K mg "common_divisor" q9 ["one", "other"] a.a_common_divisor a.f_common_divisor
  d_is_fraction : L3.Def K mg "is_fraction" jk ["x"] a.a_is_fraction a.f_is_fraction
  d_fraction : L3.Def K mg "fraction" xn ["top", "bottom"] a.a_fraction a.f_fraction
  d_sum_of : L3.Def K mg "sum_of" z0 ["one", "other"] a.a_sum_of a.f_sum_of
  d_less_by : L3.Def K mg "less_by" zL ["one", "other"] a.a_less_by a.f_less_by
  d_times_of : L3.Def K mg "times_of" xt ["one", "other"] a.a_times_of a.f_times_of
  d_quotient : L3.Def K mg "quotient" xh ["one", "other"] a.a_quotient a.f_quotient
  d_is_before : L3.Def K mg "is_before" xJ ["one", "other"] a.a_is_before a.f_is_before
  d_floor_of : L3.Def K mg "floor_of" xq ["one"] a.a_floor_of a.f_floor_of
  d_is_name : L3.Def K mg "is_name" zP ["thing"] a.a_is_name a.f_is_name
  d_has_clip_form : L3.Def K mg "has_clip_form" jJ ["item"] a.a_has_clip_form a.f_has_clip_form
  d_place_at : L3.Def K mg "place_at" xr ["clip", "k"] a.a_place_at a.f_place_at
  d_picture_at : L3.Def K mg "picture_at" jx ["clip", "k"] a.a_picture_at a.f_picture_at
  d_is_there : L3.Def K mg "is_there" xp ["picture", "many"] a.a_is_there a.f_is_there
  d_check_clip : L3.Def K mg "check_clip" j2 ["item", "reels"] a.a_check_clip a.f_check_clip
  d_clip_part : L3.Def K mg "clip_part" xO ["clip", "low", "high"] a.a_clip_part a.f_clip_part
  d_goes_on : L3.Def K mg "goes_on" zM ["one", "other"] a.a_goes_on a.f_goes_on
  d_moments_there : L3.Def K mg "moments_there" jK ["first", "step", "many"] a.a_moments_there a.f_moments_there
  d_head_room : L3.Def K mg "head_room" xK ["clip", "reels"] a.a_head_room a.f_head_room
  d_tail_room : L3.Def K mg "tail_room" xG ["clip", "reels"] a.a_tail_room a.f_tail_room
  d_is_length : L3.Def K mg "is_length" xE ["thing"] a.a_is_length a.f_is_length
  d_has_nest_form : L3.Def K mg "has_nest_form" jG ["item"] a.a_has_nest_form a.f_has_nest_form
  d_moments_of : L3.Def K mg "moments_of" jy ["item"] a.a_moments_of a.f_moments_of
  d_one_form : L3.Def K mg "one_form" xl ["some"] a.a_one_form a.f_one_form
  d_length_of : L3.Def K mg "length_of" xI ["track"] a.a_length_of a.f_length_of
  d_item_at : L3.Def K mg "item_at" zQ ["track", "moment"] a.a_item_at a.f_item_at
  d_kind_at : L3.Def K mg "kind_at" zO ["track", "place"] a.a_kind_at a.f_kind_at
  d_place_ahead : L3.Def K mg "place_ahead" jm ["track", "place"] a.a_place_ahead a.f_place_ahead
  d_place_behind : L3.Def K mg "place_behind" jW ["track", "place"] a.a_place_behind a.f_place_behind
  d_neighbours_at : L3.Def K mg "neighbours_at" jL ["track", "moment"] a.a_neighbours_at a.f_neighbours_at
  d_clips_at_border : L3.Def K mg "clips_at_border" qv ["track", "moment"] a.a_clips_at_border a.f_clips_at_border
  d_lies_within : L3.Def K mg "lies_within" jf ["track", "moment"] a.a_lies_within a.f_lies_within
  d_item_part : L3.Def K mg "item_part" xR ["item", "low", "high"] a.a_item_part a.f_item_part
  d_part_of_track : L3.Def K mg "part_of_track" jF ["track", "low", "high"] a.a_part_of_track a.f_part_of_track
  d_part_ahead : L3.Def K mg "part_ahead" jz ["length"] a.a_part_ahead a.f_part_ahead
  d_part_behind : L3.Def K mg "part_behind" jj ["length"] a.a_part_behind a.f_part_behind
  d_mix_spans : L3.Def K mg "mix_spans" xQ ["track"] a.a_mix_spans a.f_mix_spans
  d_taken_at_begin : L3.Def K mg "taken_at_begin" jQ ["track", "place"] a.a_taken_at_begin a.f_taken_at_begin
  d_taken_at_end : L3.Def K mg "taken_at_end" jq ["track", "place"] a.a_taken_at_end a.f_taken_at_end
  d_most_mix : L3.Def K mg "most_mix" zR ["track", "moment", "reels"] a.a_most_mix a.f_most_mix
  d_check_place : L3.Def K mg "check_place" jg ["table", "number", "moment"] a.a_check_place a.f_check_place
  d_check_by : L3.Def K mg "check_by" xj ["by"] a.a_check_by a.f_check_by
  d_clip_there : L3.Def K mg "clip_there" ju ["track", "moment"] a.a_clip_there a.f_clip_there
  d_clip_and_sides : L3.Def K mg "clip_and_sides" qz ["track", "moment"] a.a_clip_and_sides a.f_clip_and_sides
  d_places_named : L3.Def K mg "places_named" jU ["track", "deed"] a.a_places_named a.f_places_named
  d_has_mix : L3.Def K mg "has_mix" zN ["track", "place"] a.a_has_mix a.f_has_mix
  d_check_short : L3.Def K mg "check_short" ji ["most", "by"] a.a_check_short a.f_check_short
  d_most_slip : L3.Def K mg "most_slip" xB ["clip", "by", "reels"] a.a_most_slip a.f_most_slip
  d_most_roll : L3.Def K mg "most_roll" xL ["left", "right", "by", "reels"] a.a_most_roll a.f_most_roll
  d_slipped : L3.Def K mg "slipped" zS ["track", "place", "by", "reels"] a.a_slipped a.f_slipped
  d_with_rolled_ends : L3.Def K mg "with_rolled_ends" qq ["track", "first", "last", "by", "reels"] a.a_with_rolled_ends a.f_with_rolled_ends
  d_table_with : L3.Def K mg "table_with" jv ["table", "number", "track"] a.a_table_with a.f_table_with
  d_rolled : L3.Def K mg "rolled" z9 ["table", "deed", "reels"] a.a_rolled a.f_rolled
  d_stretch_of : L3.Def K mg "stretch_of" j1 ["deed"] a.a_stretch_of a.f_stretch_of
  d_laid_by : L3.Def K mg "laid_by" zI ["deed"] a.a_laid_by a.f_laid_by
  d_laid_on_tied : L3.Def K mg "laid_on_tied" jX ["deed"] a.a_laid_on_tied a.f_laid_on_tied
  d_tracks_changed : L3.Def K mg "tracks_changed" jA ["table", "deed"] a.a_tracks_changed a.f_tracks_changed
  d_check_numbers : L3.Def K mg "check_numbers" jH ["deed"] a.a_check_numbers a.f_check_numbers
  d_touches_mix : L3.Def K mg "touches_mix" jh ["track", "low", "high"] a.a_touches_mix a.f_touches_mix
  d_check_mixes : L3.Def K mg "check_mixes" jl ["table", "deed"] a.a_check_mixes a.f_check_mixes
  d_check_change : L3.Def K mg "check_change" jY ["table", "deed", "reels"] a.a_check_change a.f_check_change
  d_nest_goes_on : L3.Def K mg "nest_goes_on" jp ["one", "other"] a.a_nest_goes_on a.f_nest_goes_on
  d_can_heal : L3.Def K mg "can_heal" xk ["track", "places"] a.a_can_heal a.f_can_heal
  d_healed : L3.Def K mg "healed" zy ["table", "deed"] a.a_healed a.f_healed
  d_mixed : L3.Def K mg "mixed" vF ["table", "deed", "reels"] a.a_mixed a.f_mixed
  d_unmixed : L3.Def K mg "unmixed" zH ["table", "deed"] a.a_unmixed a.f_unmixed
  d_relaid : L3.Def K mg "relaid" z8 ["track", "low", "high", "laid"] a.a_relaid a.f_relaid
  d_changed : L3.Def K mg "changed" zJ ["table", "deed"] a.a_changed a.f_changed
  d_deed_done : L3.Def K mg "deed_done" xH ["table", "deed", "reels"] a.a_deed_done a.f_deed_done
  d__law_cell_at : L3.Def K mg "_law_cell_at" jV ["_law_script", "_law_k"] a.a__law_cell_at a.f__law_cell_at
  d__law_table : L3.Def K mg "_law_table" j0 ["_law_far_here"] a.a__law_table a.f__law_table
  d__law_word : L3.Def K mg "_law_word" xF ["_law_table_here", "_law_deed"] a.a__law_word a.f__law_word
  d__law_any : L3.Def K mg "_law_any" xw ["_law_table_here", "_law_deed", "_law_word_here"] a.a__law_any a.f__law_any
  d__law_bad_item : L3.Def K mg "_law_bad_item" jI ["_law_cell"] a.a__law_bad_item a.f__law_bad_item
  d__law_bad_moment : L3.Def K mg "_law_bad_moment" qx ["_law_cell"] a.a__law_bad_moment a.f__law_bad_moment
  d__law_far : L3.Def K mg "_law_far" xo ["_law_far_here", "_law_cell"] a.a__law_far a.f__law_far
  d__law_items : L3.Def K mg "_law_items" jw ["_law_far_here", "_law_cell"] a.a__law_items a.f__law_items
  d_law : L3.Def K mg "law" qBn ["_law_script"] a.a_law a.f_law
  c_CutError : mg "CutError" = some (.ref a.k_CutError)
  c_NoNumber : mg "NoNumber" = some (.ref a.k_NoNumber)
  c_NoClip : mg "NoClip" = some (.ref a.k_NoClip)
  c_NoPlace : mg "NoPlace" = some (.ref a.k_NoPlace)
  c_Mixed : mg "Mixed" = some (.ref a.k_Mixed)
  c_Short : mg "Short" = some (.ref a.k_Short)
  b_isinstance : mg "isinstance" = none
  b_int : mg "int" = none
  b_bool : mg "bool" = none
  b_abs : mg "abs" = none
  b_tuple : mg "tuple" = none
  b_len : mg "len" = none
  b_all : mg "all" = none
  b_str : mg "str" = none
  b_min : mg "min" = none
  b_sum : mg "sum" = none
  b_enumerate : mg "enumerate" = none
  b_max : mg "max" = none
  b_list : mg "list" = none
  b_any : mg "any" = none
  g_LETTERS : mg "LETTERS" = some (.str "abcdefghijklmnopqrstuvwxyz" a.t_LETTERS)
  g_LONGEST_NAME : mg "LONGEST_NAME" = some (.int 8 a.t_LONGEST_NAME)
  g_MOST_ROOM : mg "MOST_ROOM" = some (.int 1000000 a.t_MOST_ROOM)
  g_NOUGHT : mg "NOUGHT" = some (.ref a.n_NOUGHT)
  sq_NOUGHT : ∀ H, SqT K H a.n_NOUGHT [.int 0, .int 1]
  g_MOST_BY : mg "MOST_BY" = some (.int 1000000 a.t_MOST_BY)
  g_ROLLS : mg "ROLLS" = some (.ref a.n_ROLLS)
  sq_ROLLS : ∀ H, SqT K H a.n_ROLLS [.str "roll", .str "slip", .str "slide"]
  g_LAYS : mg "LAYS" = some (.ref a.n_LAYS)
  sq_LAYS : ∀ H, SqT K H a.n_LAYS [.str "lay_in", .str "lay_over"]
  g_PUSHES : mg "PUSHES" = some (.ref a.n_PUSHES)
  sq_PUSHES : ∀ H, SqT K H a.n_PUSHES [.str "lay_in", .str "open", .str "close"]
  g_CHANGES : mg "CHANGES" = some (.ref a.n_CHANGES)
  sq_CHANGES : ∀ H, SqT K H a.n_CHANGES [.str "cut", .str "lay_in", .str "open", .str "close", .str "lift", .str "lay_over"]
  x_NoClip : L3.OwnX K a.k_NoClip
  x_NoPlace : L3.OwnX K a.k_NoPlace
  x_Mixed : L3.OwnX K a.k_Mixed
  e_NoPlace : L3.ExcK K a.k_NoPlace
  e_NoClip : L3.ExcK K a.k_NoClip
  e_Mixed : L3.ExcK K a.k_Mixed
  e_Short : L3.ExcK K a.k_Short
  xPP : PySem.W.exmOne K (.ref a.k_NoPlace) (.ref a.k_NoPlace) = some true
  xCP : PySem.W.exmOne K (.ref a.k_NoClip) (.ref a.k_NoPlace) = some false
  xCC : PySem.W.exmOne K (.ref a.k_NoClip) (.ref a.k_NoClip) = some true
  xMP : PySem.W.exmOne K (.ref a.k_Mixed) (.ref a.k_NoPlace) = some false
  xMC : PySem.W.exmOne K (.ref a.k_Mixed) (.ref a.k_NoClip) = some false
  xMM : PySem.W.exmOne K (.ref a.k_Mixed) (.ref a.k_Mixed) = some true
  xSP : PySem.W.exmOne K (.ref a.k_Short) (.ref a.k_NoPlace) = some false
  xSC : PySem.W.exmOne K (.ref a.k_Short) (.ref a.k_NoClip) = some false
  xSM : PySem.W.exmOne K (.ref a.k_Short) (.ref a.k_Mixed) = some false
  xSS : PySem.W.exmOne K (.ref a.k_Short) (.ref a.k_Short) = some true
  xP : PySem.W.exmOne K (.ref a.k_NoPlace) (.ref a.k_CutError) = some true
  xC : PySem.W.exmOne K (.ref a.k_NoClip) (.ref a.k_CutError) = some true
  xM : PySem.W.exmOne K (.ref a.k_Mixed) (.ref a.k_CutError) = some true
  xS : PySem.W.exmOne K (.ref a.k_Short) (.ref a.k_CutError) = some true
  pP : PySem.W.kitOne K (.ref a.k_NoPlace) (.ref a.k_NoPlace) = some true
  pC : PySem.W.kitOne K (.ref a.k_NoPlace) (.ref a.k_NoClip) = some false
  pM : PySem.W.kitOne K (.ref a.k_NoPlace) (.ref a.k_Mixed) = some false
  pS : PySem.W.kitOne K (.ref a.k_NoPlace) (.ref a.k_Short) = some false
  cP : PySem.W.kitOne K (.ref a.k_NoClip) (.ref a.k_NoPlace) = some false
  cC : PySem.W.kitOne K (.ref a.k_NoClip) (.ref a.k_NoClip) = some true
  cM : PySem.W.kitOne K (.ref a.k_NoClip) (.ref a.k_Mixed) = some false
  cS : PySem.W.kitOne K (.ref a.k_NoClip) (.ref a.k_Short) = some false
  mP : PySem.W.kitOne K (.ref a.k_Mixed) (.ref a.k_NoPlace) = some false
  mC : PySem.W.kitOne K (.ref a.k_Mixed) (.ref a.k_NoClip) = some false
  mM : PySem.W.kitOne K (.ref a.k_Mixed) (.ref a.k_Mixed) = some true
  mS : PySem.W.kitOne K (.ref a.k_Mixed) (.ref a.k_Short) = some false
  sP : PySem.W.kitOne K (.ref a.k_Short) (.ref a.k_NoPlace) = some false
  sC : PySem.W.kitOne K (.ref a.k_Short) (.ref a.k_NoClip) = some false
  sM : PySem.W.kitOne K (.ref a.k_Short) (.ref a.k_Mixed) = some false
  sS : PySem.W.kitOne K (.ref a.k_Short) (.ref a.k_Short) = some true
  i_Short : Fun K "__init__" "Short.__init__" z6 a.fi_Short a.gi_Short
  ib_Short : Binds K a.gi_Short ["self", "most"] []
  m_Short : L3.XMk K a.k_Short a.k_CutError a.fi_Short
  tk_Short : PySem.W.takerIn K a.k_Short "most" = some none
def qJb (K : PySem.W.Frag) : Sp := fun vs H Q _ => ∃ (a : Addr) (ns : List Int), vs = [.ref a] ∧ SqL K H a (ns.map V.int) ∧ ns.length ≤ 63 ∧ ∀ H', Q (.bl true) H'
def qLg (H : Hp) (Q : VK) (p q : Int) : Prop := ∀ z, H z = none → Q (.ref z) (upd H z (.tup [.int p, .int q]))
theorem jT {CX : CXT} {P : Program} {w : World} {K : PySem.W.Frag} {mg : Str → Option Value} {base : Heap} {ns : List Str} {n : Str} {sc : Scope} {ad : Addr} {cdv : Value} {A : Around} {outer : List Env} {s : Shared} {H : Hp} {E : XK} : (qIe CX P w K mg base ns n sc ad cdv A outer s H E).K = K := rfl
theorem qi {CX : CXT} {P : Program} {w : World} {K : PySem.W.Frag} {mg : Str → Option Value} {base : Heap} {ns : List Str} {n : Str} {sc : Scope} {ad : Addr} {cdv : Value} {A : Around} {outer : List Env} {s : Shared} {H : Hp} {E : XK} : (qIe CX P w K mg base ns n sc ad cdv A outer s H E).nox.K = K := rfl
theorem sL0 : (0 : Nat) ≤ sizeLine := by decide
theorem sL1 : (1 : Nat) ≤ sizeLine := by decide
theorem sL2 : (2 : Nat) ≤ sizeLine := by decide
theorem sL3 : (3 : Nat) ≤ sizeLine := by decide
theorem sL4 : (4 : Nat) ≤ sizeLine := by decide
theorem sL5 : (5 : Nat) ≤ sizeLine := by decide
theorem glt {α : Type} {xs : List α} {i : Nat} {x : α} (h : xs[i]? = some x) : i < xs.length := (List.getElem?_eq_some_iff.mp h).1
theorem qZ {K : PySem.W.Frag} {σ : St} {H : Hp} {p : Addr} {xs : List V} {i : Int} {v : V} {Q : VK} {j : Nat} (e : σ[j]? = some (some (.ref p))) (h : SqT K H p xs) (a : atI xs i = some v) (q : Q v H) : tOp (qNb K) (qM8 j) (tC (.int i)) σ H Q := ⟨.ref p, e, p, xs, i, v, rfl, rfl, h, a, q⟩
section
variable {P : Program} {w : World} {K : W.Frag} {mg : Str → Option Value} {base : Heap} {a : Ads}
def qEf : Sp := fun vs H Q _ => ∃ i : Int, vs = [.int i] ∧ Q (.bl true) H
theorem wZ (T : Tx K mg a) : FnOk P w K mg base CX0 1 a.a_is_whole a.f_is_whole ["x"] qEf := by
  refine T.d_is_whole.F.ok wK (fun vs H Q E h => ?_) (fun cdv A outer s H vs Q E hr h => ?_)
  · obtain ⟨i, rfl, _⟩ := h
    rfl
  obtain ⟨i, rfl, q⟩ := h
  refine ⟨_, (qH (qP (zo (qh jc rfl T.b_isinstance rfl (qA (pv 0) (qA (qCb rfl T.b_int rfl) qE))) (zl (qJr (qh jc rfl T.b_isinstance rfl (qA (pv 0) (qA (qCb rfl T.b_bool rfl) qE)))))))), ?_⟩
  try dsimp only [jT, qi]
  refine ⟨_, rfl, _, _, _, true, rfl, .int i, ⟨_, .inl ⟨rfl, rfl⟩⟩, true, rfl, qr ?_⟩
  refine ⟨_, rfl, _, _, _, false, rfl, .int i, ⟨_, .inl ⟨rfl, by kernel_rfl⟩⟩, false, rfl, ?_⟩
  exact q
def vJ : Sp := fun vs H Q _ => ∃ i j : Int, vs = [.int i, .int j] ∧ Q (.int ((Int.gcd i j : Nat) : Int)) H
theorem zK (T : Tx K mg a) : FnOk P w K mg base CX0 1 a.a_common_divisor a.f_common_divisor ["one", "other"] vJ := by
  refine T.d_common_divisor.F.ok sc_common_divisor (fun vs H Q E h => ?_) (fun cdv A outer s H vs Q E hr h => ?_)
  · obtain ⟨i, j, rfl, _⟩ := h
    rfl
  obtain ⟨i, j, rfl, q⟩ := h
  refine ⟨_, (qG (qJj PassesOwn.never (qR kA (pv 1) qD (qX _)) (qG (qU (i := 2) sc_common_divisor.nd rfl (Or.inl rfl) (qS kK (pv 0) (pv 1)))
      (qG (qU (i := 0) sc_common_divisor.nd rfl (Or.inl rfl) (pv 1))
      (qH (qU (i := 1) sc_common_divisor.nd rfl (Or.inl rfl) (pv 2))))))
      (qH (qP (qh qBe rfl T.b_abs rfl (qA (pv 0) qE))))), ?_⟩
  try dsimp only [jT, qi]
  refine qIr (fun σ H' => H' = H ∧ ∃ (x y : Int) (v : Option V), σ = [some (.int x), some (.int y), v] ∧ Int.gcd x y = Int.gcd i j)
    (fun σ _ => match σ with | [_, some (.int y), _] => y.natAbs | _ => 0) ⟨rfl, i, j, none, rfl, rfl⟩ ?_ ?_
  · rintro σ H1 ⟨rfl, x, y, v, rfl, e⟩
    refine ⟨_, rfl, rfl, _, rfl, ?_⟩
    refine x9 (fun c => ?_) (fun c => ?_)
    · have hy : y ≠ 0 := by simpa using c
      refine ⟨_, rfl, _, rfl, _, _, rfl, rfl, hy, _, rfl, _, rfl, ⟨rfl, y, x.fmod y, _, rfl, ?_⟩, ?_⟩
      · rw [qIu]; exact e
      · exact qKs x y hy
    · have hy : y = 0 := by simpa using c
      subst hy
      refine ⟨_, rfl, x, rfl, ?_⟩
      have e2 : (if x < 0 then -x else x) = ((Int.gcd i j : Nat) : Int) := by
        rw [← e, Int.gcd_zero_right]
        split <;> omega
      rw [e2]
      exact q
  · rintro σ H1 Q1 Q2 hq h
    obtain ⟨v, e, s, k, hk, z⟩ := h
    exact ⟨v, e, s, k, hk, hq _ _ z⟩
theorem qIi {t b : Int} (h : b ≠ 0) (hb : b.natAbs < 2 ^ 8000) : CDivB t (sg t b) ∧ CDivB b (sg t b) := by
  have h1 := qM3 (t := t) h
  have h2 : (sg t b).natAbs < 2 ^ 8000 := by
    rw [qFc]
    exact Nat.lt_of_le_of_lt (Nat.le_of_dvd (by omega) (Int.gcd_dvd_natAbs_right ..)) hb
  exact ⟨⟨h1, h2⟩, ⟨h1, h2⟩⟩
def qEa : Sp := fun vs H Q _ => ∃ t b : Int, vs = [.int t, .int b] ∧ b ≠ 0 ∧ b.natAbs < 2 ^ 8000 ∧ qLg H Q (x8 t b) (xD t b)
theorem xN (T : Tx K mg a) : FnOk P w K mg base CX0 2 a.a_fraction a.f_fraction ["top", "bottom"] qEa := by
  refine T.d_fraction.F.ok sc_fraction (fun vs H Q E h => ?_) (fun cdv A outer s H vs Q E hr h => ?_)
  · obtain ⟨t, b, rfl, _⟩ := h
    rfl
  obtain ⟨t, b, rfl, hb, hs, q⟩ := h
  refine ⟨_, (qG (qj (PW.pt (xA (jP (jD (qM T.d_is_whole (wZ T) hr rfl (qA (pv 0) qE)))) (jS (jP (jD (qM T.d_is_whole (wZ T) hr rfl (qA (pv 1) qE))))))) zp qV)
      (qG (qj (qR j4 (pv 1) qD (qX _)) zp qV)
      (qG (qU (i := 2) sc_fraction.nd rfl (Or.inl rfl) (qM T.d_common_divisor (zK T) hr rfl (qA (pv 0) (qA (pv 1) qE))))
      (qG (qj (qR kt (pv 1) qD (qX _)) (qH (qU (i := 2) sc_fraction.nd rfl (Or.inl rfl) (vd zk (pv 2)))) qV)
      (qH (qP (qK (qA (qS zZ (pv 0) (pv 2)) (qA (qS zZ (pv 1) (pv 2)) qE))))))))), ?_⟩
  try dsimp only [jT, qi]
  refine ⟨_, rfl, t, rfl, true, rfl, qm ?_⟩
  refine ⟨_, rfl, b, rfl, true, rfl, qm ?_⟩
  refine ⟨_, rfl, rfl, _, rfl, ?_⟩
  refine x9 (fun c => absurd (by simpa using c) hb) (fun _ => ?_)
  refine ⟨_, rfl, _, rfl, t, b, rfl, ?_⟩
  refine ⟨_, rfl, _, _, rfl, rfl, _, rfl, ?_⟩
  obtain ⟨d1, d2⟩ := qIi (t := t) hb hs
  refine x9 (fun c => ?_) (fun c => ?_)
  · have c' : b < 0 := by simpa using c
    have e : -((Int.gcd t b : Nat) : Int) = sg t b := by unfold sg; rw [if_pos c']
    have q' : qLg H Q (t.fdiv (-((Int.gcd t b : Nat) : Int))) (b.fdiv (-((Int.gcd t b : Nat) : Int))) := by rw [e]; exact q
    exact ⟨_, rfl, _, rfl, _, rfl, _, rfl, _, _, rfl, rfl, (by rw [e]; exact d1), _, rfl, _, rfl, _, _, rfl, rfl, (by rw [e]; exact d2), sL2, q'⟩
  · have c' : ¬ b < 0 := by simpa using c
    have e : ((Int.gcd t b : Nat) : Int) = sg t b := by unfold sg; rw [if_neg c']
    have q' : qLg H Q (t.fdiv ((Int.gcd t b : Nat) : Int)) (b.fdiv ((Int.gcd t b : Nat) : Int)) := by rw [e]; exact q
    exact ⟨_, rfl, _, rfl, _, _, rfl, rfl, (by rw [e]; exact d1), _, rfl, _, rfl, _, _, rfl, rfl, (by rw [e]; exact d2), sL2, q'⟩
def Pr (K : W.Frag) (H : Hp) (v : V) (p q : Int) : Prop := ∃ z, v = .ref z ∧ SqT K H z [.int p, .int q]
theorem Pr.same {H H' : Hp} {v : V} {p q : Int} (e : Same H H') (h : Pr K H v p q) : Pr K H' v p q := let ⟨z, h1, h2⟩ := h; ⟨z, h1, L3.Same.tup e h2⟩
def Sm (i : Int) : Prop := i.natAbs < 2 ^ 3000
theorem Sm.mul {i j : Int} (h1 : Sm i) (h2 : Sm j) : CMulB i j := by
  unfold Sm at h1 h2
  have : (2 : Nat) ^ 3000 ≤ 2 ^ 60000 := Nat.pow_le_pow_right (by decide) (by decide)
  exact .inr ⟨by omega, by omega⟩
theorem Sm.prod {i j : Int} (h1 : Sm i) (h2 : Sm j) : (i * j).natAbs < 2 ^ 8000 := by
  unfold Sm at h1 h2
  rw [Int.natAbs_mul]
  have h3 : i.natAbs * j.natAbs < 2 ^ 3000 * 2 ^ 3000 := Nat.mul_lt_mul'' h1 h2
  rw [← Nat.pow_add] at h3
  exact Nat.lt_of_lt_of_le h3 (Nat.pow_le_pow_right (by decide) (by decide))
theorem at0 {x y : V} : atI [x, y] 0 = some x := rfl
theorem at1 {x y : V} : atI [x, y] 1 = some y := rfl
def qH4 (K : W.Frag) : Sp := fun vs H Q _ => ∃ (x y : V) (p q r s : Int), vs = [x, y] ∧ Pr K H x p q ∧ Pr K H y r s ∧ q ≠ 0 ∧ s ≠ 0 ∧ Sm p ∧ Sm q ∧ Sm r ∧ Sm s ∧ qLg H Q (x8 (p * s + r * q) (q * s)) (xD (p * s + r * q) (q * s))
theorem qHr (T : Tx K mg a) : FnOk P w K mg base CX0 3 a.a_sum_of a.f_sum_of ["one", "other"] (qH4 K) := by
  refine T.d_sum_of.F.ok qHk (fun vs H Q E h => ?_) (fun cdv A outer s H vs Q E hr h => ?_)
  · obtain ⟨x, y, p, q, r, s, rfl, _⟩ := h
    rfl
  obtain ⟨x, y, p, q, r, s', rfl, ⟨z1, rfl, h1⟩, ⟨z2, rfl, h2⟩, hq, hs, bp, bq, br, bs, k⟩ := h
  refine ⟨_, (qH (qP (qM T.d_fraction (xN T) hr rfl (qA (qS qc (qS xX (qL qJ (pv 0) qD (fun _ _ => rfl)) (qL qJ (pv 1) qD (fun _ _ => rfl))) (qS xX (qL qJ (pv 1) qD (fun _ _ => rfl)) (qL qJ (pv 0) qD (fun _ _ => rfl)))) (qA (qS xX (qL qJ (pv 0) qD (fun _ _ => rfl)) (qL qJ (pv 1) qD (fun _ _ => rfl))) qE))))), ?_⟩
  try dsimp only [jT, qi]
  refine (qZ rfl h1 at0 (qZ rfl h2 at1 ⟨_, _, rfl, rfl, bp.mul bs, ?_⟩))
  refine (qZ rfl h2 at0 (qZ rfl h1 at1 ⟨_, _, rfl, rfl, br.mul bq, _, _, rfl, rfl, ?_⟩))
  refine (qZ rfl h1 at1 (qZ rfl h2 at1 ⟨_, _, rfl, rfl, bq.mul bs, ?_⟩))
  exact ⟨_, _, rfl, Int.mul_ne_zero hq hs, bq.prod bs, k⟩
def qD1 (K : W.Frag) : Sp := fun vs H Q _ => ∃ (x : V) (p q : Int), vs = [x] ∧ Pr K H x p q ∧ q ≠ 0 ∧ q.natAbs < 2 ^ 8000 ∧ Q (.int (p.fdiv q)) H
theorem zW (T : Tx K mg a) : FnOk P w K mg base CX0 1 a.a_floor_of a.f_floor_of ["one"] (qD1 K) := by
  refine T.d_floor_of.F.ok qDj (fun vs H Q E h => ?_) (fun cdv A outer s H vs Q E hr h => ?_)
  · obtain ⟨x, p, q, rfl, _⟩ := h
    rfl
  obtain ⟨x, p, q, rfl, ⟨z1, rfl, h1⟩, hq, bq, k⟩ := h
  refine ⟨_, (qH (qP (qS zZ (qL qJ (pv 0) qD (fun _ _ => rfl)) (qL qJ (pv 0) qD (fun _ _ => rfl))))), ?_⟩
  try dsimp only [jT, qi]
  exact (qZ rfl h1 at0 (qZ rfl h1 at1 ⟨_, _, rfl, rfl, ⟨hq, bq⟩, k⟩))
theorem nz {j : Int} (h : j ≠ 0 := by decide) : j ≠ 0 := h
theorem cdB {i j : Int} (h0 : j ≠ 0) (h : j.natAbs < 18446744073709551616) : CDivB i j :=
  ⟨h0, Nat.lt_of_lt_of_le h (Nat.le_trans (by decide : 18446744073709551616 ≤ 2 ^ 64) (Nat.pow_le_pow_right (by decide) (by decide)))⟩
theorem fm (i : Int) {j : Int} (h : 0 < j) : 0 ≤ i.fmod j ∧ i.fmod j < j := ⟨Int.fmod_nonneg_of_pos i h, Int.fmod_lt_of_pos i h⟩
theorem cpw {n : Nat} (h : n ≤ 1000000) : qOb 10 (n : Int) := ⟨by omega, by omega, by decide⟩
def Good (n : Nat) (p q : Int) : Prop := 0 < q ∧ Int.gcd p q = 1 ∧ p.natAbs < 2 ^ n ∧ q.natAbs < 2 ^ n
theorem Good.mono {n m : Nat} {p q : Int} (h : Good n p q) (l : n ≤ m) : Good m p q := ⟨h.1, h.2.1, Nat.lt_of_lt_of_le h.2.2.1 (Nat.pow_le_pow_right (by decide) l), Nat.lt_of_lt_of_le h.2.2.2 (Nat.pow_le_pow_right (by decide) l)⟩
theorem Sm.of200 {i : Int} (h : i.natAbs < 2 ^ 200) : Sm i := Nat.lt_of_lt_of_le h (Nat.pow_le_pow_right (by decide) (by decide))
def qEd (K : W.Frag) : Sp := fun vs H Q _ => ∃ (x y : V) (p q r s : Int), vs = [x, y] ∧ Pr K H x p q ∧ Pr K H y r s ∧ q ≠ 0 ∧ s ≠ 0 ∧ Sm p ∧ Sm q ∧ Sm r ∧ Sm s ∧ qLg H Q (x8 (p * r) (q * s)) (xD (p * r) (q * s))
theorem qDs (T : Tx K mg a) : FnOk P w K mg base CX0 3 a.a_times_of a.f_times_of ["one", "other"] (qEd K) := by
  refine T.d_times_of.F.ok qDm (fun vs H Q E h => ?_) (fun cdv A outer s H vs Q E hr h => ?_)
  · obtain ⟨x, y, p, q, r, s, rfl, _⟩ := h
    rfl
  obtain ⟨x, y, p, q, r, s', rfl, ⟨z1, rfl, h1⟩, ⟨z2, rfl, h2⟩, hq, hs, bp, bq, br, bs, k⟩ := h
  refine ⟨_, (qH (qP (qM T.d_fraction (xN T) hr rfl (qA (qS xX (qL qJ (pv 0) qD (fun _ _ => rfl)) (qL qJ (pv 1) qD (fun _ _ => rfl))) (qA (qS xX (qL qJ (pv 0) qD (fun _ _ => rfl)) (qL qJ (pv 1) qD (fun _ _ => rfl))) qE))))), ?_⟩
  try dsimp only [jT, qi]
  refine (qZ rfl h1 at0 (qZ rfl h2 at0 ⟨_, _, rfl, rfl, bp.mul br, ?_⟩))
  refine (qZ rfl h1 at1 (qZ rfl h2 at1 ⟨_, _, rfl, rfl, bq.mul bs, ?_⟩))
  exact ⟨_, _, rfl, Int.mul_ne_zero hq hs, bq.prod bs, k⟩
def qF5 (K : W.Frag) : Sp := fun vs H Q _ => ∃ (x y : V) (p q r s : Int), vs = [x, y] ∧ Pr K H x p q ∧ Pr K H y r s ∧ q ≠ 0 ∧ s ≠ 0 ∧ Sm p ∧ Sm q ∧ Sm r ∧ Sm s ∧ qLg H Q (x8 (p * s - r * q) (q * s)) (xD (p * s - r * q) (q * s))
theorem vL (T : Tx K mg a) : FnOk P w K mg base CX0 3 a.a_less_by a.f_less_by ["one", "other"] (qF5 K) := by
  refine T.d_less_by.F.ok qFw (fun vs H Q E h => ?_) (fun cdv A outer s H vs Q E hr h => ?_)
  · obtain ⟨x, y, p, q, r, s, rfl, _⟩ := h
    rfl
  obtain ⟨x, y, p, q, r, s', rfl, ⟨z1, rfl, h1⟩, ⟨z2, rfl, h2⟩, hq, hs, bp, bq, br, bs, k⟩ := h
  refine ⟨_, (qH (qP (qM T.d_fraction (xN T) hr rfl (qA (qS j6 (qS xX (qL qJ (pv 0) qD (fun _ _ => rfl)) (qL qJ (pv 1) qD (fun _ _ => rfl))) (qS xX (qL qJ (pv 1) qD (fun _ _ => rfl)) (qL qJ (pv 0) qD (fun _ _ => rfl)))) (qA (qS xX (qL qJ (pv 0) qD (fun _ _ => rfl)) (qL qJ (pv 1) qD (fun _ _ => rfl))) qE))))), ?_⟩
  try dsimp only [jT, qi]
  refine (qZ rfl h1 at0 (qZ rfl h2 at1 ⟨_, _, rfl, rfl, bp.mul bs, ?_⟩))
  refine (qZ rfl h2 at0 (qZ rfl h1 at1 ⟨_, _, rfl, rfl, br.mul bq, _, _, rfl, rfl, ?_⟩))
  refine (qZ rfl h1 at1 (qZ rfl h2 at1 ⟨_, _, rfl, rfl, bq.mul bs, ?_⟩))
  exact ⟨_, _, rfl, Int.mul_ne_zero hq hs, bq.prod bs, k⟩
def qD8 (K : W.Frag) : Sp := fun vs H Q _ => ∃ (x y : V) (p q r s : Int), vs = [x, y] ∧ Pr K H x p q ∧ Pr K H y r s ∧ q ≠ 0 ∧ r ≠ 0 ∧ Sm p ∧ Sm q ∧ Sm r ∧ Sm s ∧ qLg H Q (x8 (p * s) (q * r)) (xD (p * s) (q * r))
theorem wa (T : Tx K mg a) : FnOk P w K mg base CX0 3 a.a_quotient a.f_quotient ["one", "other"] (qD8 K) := by
  refine T.d_quotient.F.ok qDr (fun vs H Q E h => ?_) (fun cdv A outer s H vs Q E hr h => ?_)
  · obtain ⟨x, y, p, q, r, s, rfl, _⟩ := h
    rfl
  obtain ⟨x, y, p, q, r, s', rfl, ⟨z1, rfl, h1⟩, ⟨z2, rfl, h2⟩, hq, hr', bp, bq, br, bs, k⟩ := h
  refine ⟨_, (qH (qP (qM T.d_fraction (xN T) hr rfl (qA (qS xX (qL qJ (pv 0) qD (fun _ _ => rfl)) (qL qJ (pv 1) qD (fun _ _ => rfl))) (qA (qS xX (qL qJ (pv 0) qD (fun _ _ => rfl)) (qL qJ (pv 1) qD (fun _ _ => rfl))) qE))))), ?_⟩
  try dsimp only [jT, qi]
  refine (qZ rfl h1 at0 (qZ rfl h2 at1 ⟨_, _, rfl, rfl, bp.mul bs, ?_⟩))
  refine (qZ rfl h1 at1 (qZ rfl h2 at0 ⟨_, _, rfl, rfl, bq.mul br, ?_⟩))
  exact ⟨_, _, rfl, Int.mul_ne_zero hq hr', bq.prod br, k⟩
inductive NoW (H : Hp) : V → Prop where
  | non : NoW H .non
  | bl (b : Bool) : NoW H (.bl b)
  | str (z : Str) : NoW H (.str z)
  | lst {a : Addr} {xs : List V} (e : H a = some (.lst xs)) : NoW H (.ref a)
  | tup {a : Addr} {xs : List V} (e : H a = some (.tup xs)) : NoW H (.ref a)
theorem NoW.same {H H' : Hp} {x : V} (s : Same H H') : NoW H x → NoW H' x
  | .non => .non
  | .bl b => .bl b
  | .str z => .str z
  | .lst e => .lst (s _ _ e)
  | .tup e => .tup (s _ _ e)
def WhB (H : Hp) (x : V) (b : Bool) : Prop := (∃ i : Int, x = .int i ∧ b = true) ∨ (NoW H x ∧ b = false)
theorem WhB.int {H : Hp} (i : Int) : WhB H (.int i) true := .inl ⟨i, rfl, rfl⟩
theorem WhB.no {H : Hp} {x : V} (h : NoW H x) : WhB H x false := .inr ⟨h, rfl⟩
theorem WhB.ty {H : Hp} {x : V} {b : Bool} (h : WhB H x b) : ∃ t i c, qAo K H x t ∧ W.kitOne K t (.type "int") = some i ∧ W.kitOne K t (.type "bool") = some c ∧ b = (i && !c) := by
  rcases h with ⟨i, rfl, rfl⟩ | ⟨h, rfl⟩
  · exact ⟨_, true, false, .int i, by kernel_rfl, by kernel_rfl, rfl⟩
  · cases h with
    | non => exact ⟨_, false, false, .non, by kernel_rfl, by kernel_rfl, rfl⟩
    | bl b => exact ⟨_, true, true, .bl b, by kernel_rfl, by kernel_rfl, rfl⟩
    | str z => exact ⟨_, false, false, .str z, by kernel_rfl, by kernel_rfl, rfl⟩
    | lst e => exact ⟨_, false, false, .lst e, by kernel_rfl, by kernel_rfl, rfl⟩
    | tup e => exact ⟨_, false, false, .tup e, by kernel_rfl, by kernel_rfl, rfl⟩
def qAx : Sp := fun vs H Q _ => ∃ (x : V) (b : Bool), vs = [x] ∧ WhB H x b ∧ Q (.bl b) H
theorem qt (T : Tx K mg a) : FnOk P w K mg base CX0 1 a.a_is_whole a.f_is_whole ["x"] qAx := by
  refine T.d_is_whole.F.ok wK (fun vs H Q E h => ?_) (fun cdv A outer s H vs Q E hr h => ?_)
  · obtain ⟨x, b, rfl, _⟩ := h
    rfl
  obtain ⟨x, b, rfl, hx, q⟩ := h
  refine ⟨_, (qH (qP (zo (qh jc rfl T.b_isinstance rfl (qA (pv 0) (qA (qCb rfl T.b_int rfl) qE))) (zl (qJr (qh jc rfl T.b_isinstance rfl (qA (pv 0) (qA (qCb rfl T.b_bool rfl) qE)))))))), ?_⟩
  try dsimp only [jT, qi]
  obtain ⟨t, i, c, ty, e1, e2, rfl⟩ := hx.ty (K := K)
  refine ⟨_, rfl, _, _, _, i, rfl, ty, ⟨_, .inl ⟨rfl, e1⟩⟩, i, rfl, ?_⟩
  cases i with
  | false => exact qm q
  | true => exact qr ⟨_, rfl, _, _, _, c, rfl, ty, ⟨_, .inl ⟨rfl, e2⟩⟩, c, rfl, q⟩
inductive FrB (K : W.Frag) (H : Hp) : V → Bool → Prop where
  | no {x : V} {t : Value} (ty : qAo K H x t) (e : W.kitOne K t (.type "tuple") = some false) : FrB K H x false
  | len {z : Addr} {xs : List V} (e : H z = some (.tup xs)) (h : xs.length ≠ 2) : FrB K H (.ref z) false
  | one {z : Addr} {x y : V} (e : H z = some (.tup [x, y])) (h : NoW H x) : FrB K H (.ref z) false
  | two {z : Addr} {i : Int} {y : V} (e : H z = some (.tup [.int i, y])) (h : NoW H y) : FrB K H (.ref z) false
  | nums {z : Addr} {p q : Int} (e : H z = some (.tup [.int p, .int q])) : FrB K H (.ref z) (decide (1 ≤ q) && decide (Int.gcd p q = 1))
def wn (K : W.Frag) : Sp := fun vs H Q _ => ∃ (x : V) (b : Bool), vs = [x] ∧ FrB K H x b ∧ Q (.bl b) H
theorem kG (T : Tx K mg a) : FnOk P w K mg base CX0 2 a.a_is_fraction a.f_is_fraction ["x"] (wn K) := by
  refine T.d_is_fraction.F.ok wm (fun vs H Q E h => ?_) (fun cdv A outer s H vs Q E hr h => ?_)
  · obtain ⟨x, b, rfl, _⟩ := h
    rfl
  obtain ⟨x, b, rfl, hx, k⟩ := h
  refine ⟨_, (qG (qj (PW.pt (xA (jP (jD (qh jc rfl T.b_isinstance rfl (qA (pv 0) (qA (qCb rfl T.b_tuple rfl) qE))))) (jS (qR kA (qh j3 rfl T.b_len rfl (qA (pv 0) qE)) qD (qX _))))) (qH (qP kC)) qV)
      (qG (qj (PW.pt (xA (jP (jD (qM T.d_is_whole (qt T) hr rfl (qA (qL qJ (pv 0) qD (fun _ _ => rfl)) qE)))) (jS (jP (jD (qM T.d_is_whole (qt T) hr rfl (qA (qL qJ (pv 0) qD (fun _ _ => rfl)) qE))))))) (qH (qP kC)) qV)
      (qH (qP (zo (jO qDh (qL qJ (pv 0) qD (fun _ _ => rfl)) qD (qX _)) (zl (jO j4 (qM T.d_common_divisor (zK T) hr rfl (qA (qL qJ (pv 0) qD (fun _ _ => rfl)) (qA (qL qJ (pv 0) qD (fun _ _ => rfl)) qE))) qD (qX _)))))))), ?_⟩
  try dsimp only [jT, qi]
  cases hx with
  | no ty e => exact ⟨_, rfl, _, _, _, false, rfl, ty, ⟨_, .inl ⟨rfl, e⟩⟩, false, rfl, qr (qr k)⟩
  | @len z xs e h =>
    refine ⟨_, rfl, _, _, _, true, rfl, .tup e, ⟨_, .inl ⟨rfl, by kernel_rfl⟩⟩, true, rfl, qm ?_⟩
    refine ⟨_, rfl, _, _, rfl, .inr (SqT.of e), rfl, _, rfl, ?_⟩
    have d : (!decide (V.int (xs.length : Int) = V.int 2)) = true := by
      have : ¬ (V.int (xs.length : Int) = V.int 2) := fun z => h (by injection z with z; omega)
      simp [this]
    rw [d]
    exact qr k
  | @one z x y e h =>
    refine ⟨_, rfl, _, _, _, true, rfl, .tup e, ⟨_, .inl ⟨rfl, by kernel_rfl⟩⟩, true, rfl, qm ?_⟩
    refine ⟨_, rfl, _, _, rfl, .inr (SqT.of e), rfl, _, rfl, qm ?_⟩
    exact (qZ rfl (SqT.of e) at0 ⟨x, false, rfl, .no h, false, rfl, qr (qr k)⟩)
  | @two z i y e h =>
    refine ⟨_, rfl, _, _, _, true, rfl, .tup e, ⟨_, .inl ⟨rfl, by kernel_rfl⟩⟩, true, rfl, qm ?_⟩
    refine ⟨_, rfl, _, _, rfl, .inr (SqT.of e), rfl, _, rfl, qm ?_⟩
    refine (qZ rfl (SqT.of e) at0 ⟨_, true, rfl, .int i, true, rfl, qm ?_⟩)
    exact (qZ rfl (SqT.of e) at1 ⟨y, false, rfl, .no h, false, rfl, qr k⟩)
  | @nums z p q e =>
    refine ⟨_, rfl, _, _, _, true, rfl, .tup e, ⟨_, .inl ⟨rfl, by kernel_rfl⟩⟩, true, rfl, qm ?_⟩
    refine ⟨_, rfl, _, _, rfl, .inr (SqT.of e), rfl, _, rfl, qm ?_⟩
    refine (qZ rfl (SqT.of e) at0 ⟨_, true, rfl, .int p, true, rfl, qm ?_⟩)
    refine (qZ rfl (SqT.of e) at1 ⟨_, true, rfl, .int q, true, rfl, qm ?_⟩)
    refine (qZ rfl (SqT.of e) at1 ⟨_, _, rfl, rfl, decide (1 ≤ q), rfl, ?_⟩)
    by_cases hq : 1 ≤ q
    · rw [decide_eq_true hq] at k ⊢
      refine qr (qZ rfl (SqT.of e) at0 (qZ rfl (SqT.of e) at1 ⟨p, q, rfl, rfl, ?_⟩))
      have d : decide (V.int ((Int.gcd p q : Nat) : Int) = V.int 1) = (true && decide (Int.gcd p q = 1)) := by
        rw [Bool.true_and, Bool.eq_iff_iff, decide_eq_true_eq, decide_eq_true_eq]
        constructor
        · intro z; injection z with z; omega
        · intro z; rw [z]; rfl
      rw [d]
      exact k
    · rw [decide_eq_false hq] at k ⊢
      exact qm k
def qCy (K : W.Frag) : Sp := fun vs H Q _ => ∃ (x y : V) (p q r s : Int), vs = [x, y] ∧ Pr K H x p q ∧ Pr K H y r s ∧ Sm p ∧ Sm q ∧ Sm r ∧ Sm s ∧ Q (.bl (decide (p * s < r * q))) H
theorem qCk (T : Tx K mg a) : FnOk P w K mg base CX0 1 a.a_is_before a.f_is_before ["one", "other"] (qCy K) := by
  refine T.d_is_before.F.ok qCp (fun vs H Q E h => ?_) (fun cdv A outer s H vs Q E hr h => ?_)
  · obtain ⟨x, y, p, q, r, s, rfl, _⟩ := h
    rfl
  obtain ⟨x, y, p, q, r, s', rfl, ⟨z1, rfl, h1⟩, ⟨z2, rfl, h2⟩, bp, bq, br, bs, k⟩ := h
  refine ⟨_, (qH (qP (jO kt (qS xX (qL qJ (pv 0) qD (fun _ _ => rfl)) (qL qJ (pv 1) qD (fun _ _ => rfl))) (qS xX (qL qJ (pv 1) qD (fun _ _ => rfl)) (qL qJ (pv 0) qD (fun _ _ => rfl))) (qX _)))), ?_⟩
  try dsimp only [jT, qi]
  refine (qZ rfl h1 at0 (qZ rfl h2 at1 ⟨_, _, rfl, rfl, bp.mul bs, ?_⟩))
  exact (qZ rfl h2 at0 (qZ rfl h1 at1 ⟨_, _, rfl, rfl, br.mul bq, _, _, rfl, rfl, k⟩))
structure Cp (K : W.Frag) (H : Hp) (v : V) (n : Str) (p q r s len : Int) : Prop where
  ex : ∃ z z1 z2, v = .ref z ∧ SqT K H z [.str "clip", .str n, .ref z1, .ref z2, .int len] ∧ SqT K H z1 [.int p, .int q] ∧ SqT K H z2 [.int r, .int s]
theorem Cp.same {H H' : Hp} {v : V} {n : Str} {p q r s len : Int} (e : Same H H') (h : Cp K H v n p q r s len) : Cp K H' v n p q r s len :=
  let ⟨z, z1, z2, h1, h2, h3, h4⟩ := h.ex; ⟨z, z1, z2, h1, L3.Same.tup e h2, L3.Same.tup e h3, L3.Same.tup e h4⟩
theorem qG3 {x0 x1 x2 x3 x4 : V} : atI [x0, x1, x2, x3, x4] 2 = some x2 := rfl
theorem qCa {x0 x1 x2 x3 x4 : V} : atI [x0, x1, x2, x3, x4] 3 = some x3 := rfl
theorem qIh {p q r s k : Int} (hq : 0 < q) (hs : 0 < s) :
    x8 (p * xD (k * r) (1 * s) + x8 (k * r) (1 * s) * q) (q * xD (k * r) (1 * s)) = x8 (p * s + k * r * q) (q * s) ∧
    xD (p * xD (k * r) (1 * s) + x8 (k * r) (1 * s) * q) (q * xD (k * r) (1 * s)) = xD (p * s + k * r * q) (q * s) := by
  rw [Int.one_mul]
  have c := kQ (k * r) s
  have n0 := zD (t := k * r) (b := s) (by omega)
  generalize x8 (k * r) s = m at c ⊢
  generalize xD (k * r) s = n at c n0 ⊢
  have b1 : q * s ≠ 0 := Int.mul_ne_zero (by omega) (by omega)
  have b2 : q * n ≠ 0 := Int.mul_ne_zero (by omega) (by omega)
  refine qEx b2 (zD b1) (qHw b1) ?_
  have e := kQ (p * s + k * r * q) (q * s)
  generalize x8 (p * s + k * r * q) (q * s) = u at e ⊢
  generalize xD (p * s + k * r * q) (q * s) = v at e ⊢
  have h : (u * (q * n)) * s = ((p * n + m * q) * v) * s := by
    calc (u * (q * n)) * s = (u * (q * s)) * n := by rw [Int.mul_assoc, Int.mul_assoc, Int.mul_assoc, Int.mul_assoc, Int.mul_comm n s]
      _ = ((p * s + k * r * q) * v) * n := by rw [e]
      _ = (p * n * s + (k * r * n) * q) * v := by
        have h1 : (p * s + k * r * q) * v * n = (p * s + k * r * q) * n * v := by rw [Int.mul_assoc, Int.mul_comm v n, ← Int.mul_assoc]
        have h2 : (p * s + k * r * q) * n = p * n * s + k * r * n * q := by
          rw [Int.add_mul, Int.mul_assoc p s n, Int.mul_comm s n, ← Int.mul_assoc, Int.mul_assoc (k * r) q n, Int.mul_comm q n, ← Int.mul_assoc]
        rw [h1, h2]
      _ = (p * n * s + (m * s) * q) * v := by rw [← c]
      _ = ((p * n + m * q) * v) * s := by
        have h3 : p * n * s + m * s * q = (p * n + m * q) * s := by rw [Int.add_mul, Int.mul_assoc m s q, Int.mul_comm s q, ← Int.mul_assoc]
        rw [h3, Int.mul_assoc, Int.mul_comm s v, ← Int.mul_assoc]
  exact Int.eq_of_mul_eq_mul_right (by omega) h
def Sm2 (i : Int) : Prop := i.natAbs < 2 ^ 700
theorem Sm2.sm {i : Int} (h : Sm2 i) : Sm i := Nat.lt_of_lt_of_le h (Nat.pow_le_pow_right (by decide) (by decide))
theorem jd {i j : Int} {n m : Nat} (h1 : i.natAbs < 2 ^ n) (h2 : j.natAbs < 2 ^ m) : (i * j).natAbs < 2 ^ (n + m) := by
  rw [Int.natAbs_mul, Nat.pow_add]
  exact Nat.mul_lt_mul'' h1 h2
def qEn (K : W.Frag) : Sp := fun vs H Q _ => ∃ (v : V) (n : Str) (p q r s len k : Int), vs = [v, .int k] ∧ Cp K H v n p q r s len ∧ 0 < q ∧ 0 < s ∧ Sm2 p ∧ Sm2 q ∧ Sm2 r ∧ Sm2 s ∧ Sm2 k ∧
  ∀ z H', Same H H' → H' z = some (.tup [.int (x8 (p * s + k * r * q) (q * s)), .int (xD (p * s + k * r * q) (q * s))]) → Q (.ref z) H'
theorem xz (T : Tx K mg a) : FnOk P w K mg base CX0 4 a.a_place_at a.f_place_at ["clip", "k"] (qEn K) := by
  refine T.d_place_at.F.ok qEi (fun vs H Q E h => ?_) (fun cdv A outer s H vs Q E hr h => ?_)
  · obtain ⟨v, n, p, q, r, s, len, k, rfl, _⟩ := h
    rfl
  obtain ⟨v, n, p, q, r, s', len, k, rfl, ⟨z, z1, z2, rfl, hc, h1, h2⟩, hq, hs, bp, bq, br, bs, bk, kk⟩ := h
  refine ⟨_, (qH (qP (qM T.d_sum_of (qHr T) hr rfl (qA (qL qJ (pv 0) qD (fun _ _ => rfl)) (qA (qM T.d_times_of (qDs T) hr rfl (qA (qM T.d_fraction (xN T) hr rfl (qA (pv 1) (qA qD qE))) (qA (qL qJ (pv 0) qD (fun _ _ => rfl)) qE))) qE))))), ?_⟩
  try dsimp only [jT, qi]
  refine ⟨_, rfl, z, _, _, _, rfl, rfl, hc, qG3, _, rfl, k, 1, rfl, by decide, Nat.lt_of_lt_of_le (m := 2 ^ 1) (by decide) (Nat.pow_le_pow_right (by decide) (by decide)), fun y hy => ?_⟩
  have s1 := qC hy (.tup [.int (x8 k 1), .int (xD k 1)])
  obtain ⟨l1, l2⟩ := qE6 (p := k) (q := 1) (by decide) (Int.gcd_one_right ..)
  refine ⟨_, rfl, z, _, _, _, rfl, rfl, L3.Same.tup s1 hc, qCa, ?_⟩
  have one : Sm 1 := Nat.lt_of_lt_of_le (m := 2 ^ 1) (by decide) (Nat.pow_le_pow_right (by decide) (by decide))
  refine ⟨_, _, k, 1, r, s', rfl, ⟨y, rfl, ?_⟩, ⟨z2, rfl, L3.Same.tup s1 h2⟩, by decide, by omega, bk.sm, one, br.sm, bs.sm, fun x hx => ?_⟩
  · have e : SqT K (upd H y (.tup [.int (x8 k 1), .int (xD k 1)])) y [.int (x8 k 1), .int (xD k 1)] := SqT.of qB
    rw [l1, l2] at e ⊢
    exact e
  have s2 := s1.trans (qC hx (.tup [.int (x8 (k * r) (1 * s')), .int (xD (k * r) (1 * s'))]))
  have b1 : (1 * s') ≠ 0 := by omega
  have n0 := zD (t := k * r) b1
  have bm : Sm (x8 (k * r) (1 * s')) := by
    refine Nat.lt_of_le_of_lt (qAr b1) (Nat.lt_of_lt_of_le (jd bk br) (Nat.pow_le_pow_right (by decide) (by decide)))
  have bn : Sm (xD (k * r) (1 * s')) := by
    refine Nat.lt_of_le_of_lt (zw b1) ?_
    rw [Int.one_mul]
    exact bs.sm
  refine ⟨_, _, p, q, _, _, rfl, ⟨z1, rfl, L3.Same.tup s2 h1⟩, ⟨x, rfl, SqT.of qB⟩, by omega, by omega, bp.sm, bq.sm, bm, bn, fun u hu => ?_⟩
  obtain ⟨e1, e2⟩ := qIh (p := p) (r := r) (k := k) hq hs
  refine kk u _ (s2.trans (qC hu _)) ?_
  rw [qB, e1, e2]
theorem wS {t b : Int} (hb : 0 < b) : (x8 t b).fdiv (xD t b) = t.fdiv b := by
  have e1 := qIm t b
  have e2 := qHo t b
  have sp : 0 < sg t b := by
    have g := vN (t := t) (b := b) (by omega)
    unfold sg
    rw [if_neg (by omega)]
    omega
  have q0 := zD (t := t) (b := b) (by omega)
  obtain ⟨h1, h2⟩ := x5 (p := x8 t b) q0
  obtain ⟨h3, h4⟩ := x5 (p := t) hb
  generalize (x8 t b).fdiv (xD t b) = f at h1 h2 ⊢
  generalize t.fdiv b = g at h3 h4 ⊢
  generalize x8 t b = u at e1 h1 h2
  generalize xD t b = v at e2 h1 h2 q0
  generalize sg t b = w at e1 e2 sp
  subst e1 e2
  have k1 : g * v ≤ u := by
    rw [← Int.mul_assoc] at h3
    exact Int.le_of_mul_le_mul_right h3 sp
  have k2 : u < (g + 1) * v := by
    rw [← Int.mul_assoc] at h4
    exact Int.lt_of_mul_lt_mul_right h4 (by omega)
  have k3 : f < g + 1 := Int.lt_of_mul_lt_mul_right (a := v) (by omega) (by omega)
  have k4 : g < f + 1 := Int.lt_of_mul_lt_mul_right (a := v) (by omega) (by omega)
  omega
def qBo (K : W.Frag) : Sp := fun vs H Q _ => ∃ (v : V) (n : Str) (p q r s len k : Int), vs = [v, .int k] ∧ Cp K H v n p q r s len ∧ 0 < q ∧ 0 < s ∧ Sm2 p ∧ Sm2 q ∧ Sm2 r ∧ Sm2 s ∧ Sm2 k ∧
  ∀ H', Same H H' → Q (.int ((p * s + k * r * q).fdiv (q * s))) H'
theorem kn (T : Tx K mg a) : FnOk P w K mg base CX0 5 a.a_picture_at a.f_picture_at ["clip", "k"] (qBo K) := by
  refine T.d_picture_at.F.ok qBm (fun vs H Q E h => ?_) (fun cdv A outer s H vs Q E hr h => ?_)
  · obtain ⟨v, n, p, q, r, s, len, k, rfl, _⟩ := h
    rfl
  obtain ⟨v, n, p, q, r, s', len, k, rfl, hc, hq, hs, bp, bq, br, bs, bk, kk⟩ := h
  refine ⟨_, (qH (qP (qM T.d_floor_of (zW T) hr rfl (qA (qM T.d_place_at (xz T) hr rfl (qA (pv 0) (qA (pv 1) qE))) qE)))), ?_⟩
  try dsimp only [jT, qi]
  refine ⟨_, rfl, _, rfl, v, n, p, q, r, s', len, k, rfl, hc, hq, hs, bp, bq, br, bs, bk, fun z H' sH hz => ?_⟩
  have b1 : q * s' ≠ 0 := Int.mul_ne_zero (by omega) (by omega)
  refine ⟨_, _, _, rfl, ⟨z, rfl, SqT.of hz⟩, ?_, ?_, ?_⟩
  · have := zD (t := p * s' + k * r * q) b1; omega
  · exact Nat.lt_of_le_of_lt (zw b1) (Nat.lt_of_lt_of_le (jd bq bs) (Nat.pow_le_pow_right (by decide) (by decide)))
  · rw [wS (Int.mul_pos hq hs)]
    exact kk H' sH
theorem qBy {x0 x1 x2 x3 x4 : V} : atI [x0, x1, x2, x3, x4] 0 = some x0 := rfl
theorem vt {x0 x1 x2 x3 x4 : V} : atI [x0, x1, x2, x3, x4] 1 = some x1 := rfl
theorem wT {x0 x1 x2 x3 x4 : V} : atI [x0, x1, x2, x3, x4] 4 = some x4 := rfl
theorem eq2 (a b c d : Int) : qA6 [.int a, .int b] [.int c, .int d] = (a == c && b == d) := by
  simp [qA6, eqV, List.range_succ]
structure Bn (n : Nat) (p q r s : Int) : Prop where
  q0 : 0 < q
  s0 : 0 < s
  bp : p.natAbs < 2 ^ n
  bq : q.natAbs < 2 ^ n
  br : r.natAbs < 2 ^ n
  bs : s.natAbs < 2 ^ n
theorem ke {i : Int} {n m : Nat} (h : i.natAbs < 2 ^ n) (l : n ≤ m := by decide) : i.natAbs < 2 ^ m := Nat.lt_of_lt_of_le h (Nat.pow_le_pow_right (by decide) l)
theorem Bn.mono {n m : Nat} {p q r s : Int} (h : Bn n p q r s) (l : n ≤ m := by decide) : Bn m p q r s := ⟨h.q0, h.s0, ke h.bp l, ke h.bq l, ke h.br l, ke h.bs l⟩
theorem Bn.part {p q r s k : Int} (h : Bn 110 p q r s) (hk : k.natAbs < 2 ^ 30) : Bn 340 (plP p q r s k) (plQ p q r s k) r s := by
  obtain ⟨hq, hs, bp, bq, br, bs⟩ := h
  refine ⟨qMe hq hs, hs, Nat.lt_of_le_of_lt (qKf hq hs) ?_, Nat.lt_of_le_of_lt (qLi hq hs) (ke (jd bq bs)), ke br, ke bs⟩
  have h1 := jd bp bs
  have h2 := jd (jd hk br) bq
  have e : (2 : Nat) ^ (110 + 110) + 2 ^ (30 + 110 + 110) ≤ 2 ^ 340 := by decide
  omega
theorem qIz {i : Int} {n : Nat} (h : i.natAbs < 2 ^ n) (l : n ≤ 8000 := by decide) : i.natAbs < 2 ^ 8000 := ke h l
def wV (K : W.Frag) : Sp := fun vs H Q _ => ∃ (z : Addr) (ns : List Int) (i : Int), vs = [.ref z, .int i] ∧ SqL K H z (ns.map V.int) ∧ ns.length ≤ 63 ∧ 0 ≤ i ∧ ∀ c : Int, Q (.int c) H
theorem xy (T : Tx K mg a) : FnOk P w K mg base CX0 1 a.a__law_cell_at a.f__law_cell_at ["_law_script", "_law_k"] (wV K) := by
  refine T.d__law_cell_at.F.ok we (fun vs H Q E h => ?_) (fun cdv A outer s H vs Q E hr h => ?_)
  · obtain ⟨z, ns, i, rfl, _⟩ := h
    rfl
  obtain ⟨z, ns, i, rfl, hS, hl, h0, k⟩ := h
  refine ⟨_, (qG (qj (qR kt (pv 1) (qh j3 rfl T.b_len rfl (qA (pv 0) qE)) (qX _)) (qH (qP (qL jb (pv 0) (pv 1) (fun _ _ => rfl)))) qV)
      (qH (qP qD))), ?_⟩
  try dsimp only [jT, qi]
  have hml : (ns.map V.int).length = ns.length := List.length_map _
  refine ⟨_, rfl, _, rfl, z, _, rfl, .inl hS, _, _, rfl, rfl, _, rfl, ?_⟩
  refine x9 (fun c => ?_) (fun _ => ?_)
  · have c' : i < ((ns.map V.int).length : Int) := of_decide_eq_true c
    rw [hml] at c'
    have hi : i.toNat < ns.length := by omega
    have e : i = ((i.toNat : Nat) : Int) := by omega
    have hat : atI (ns.map V.int) ((i.toNat : Nat) : Int) = some (.int ns[i.toNat]) := jn (by rw [List.getElem?_map, List.getElem?_eq_getElem hi]; rfl)
    rw [← e] at hat
    exact ⟨_, rfl, _, rfl, z, _, _, .int ns[i.toNat], rfl, rfl, hS, hat, k _⟩
  · exact k 0
def thB (i m : Int) : Bool := decide (0 ≤ i) && decide (i < m)
theorem qD0 {N D m : Int} (hD : 0 < D) : thB (N.fdiv D) m = true ↔ InR N D m := by
  rw [qLj hD]
  simp [thB]
def qDg : Sp := fun vs H Q _ => ∃ i m : Int, vs = [.int i, .int m] ∧ Q (.bl (thB i m)) H
theorem kJ (T : Tx K mg a) : FnOk P w K mg base CX0 1 a.a_is_there a.f_is_there ["picture", "many"] qDg := by
  refine T.d_is_there.F.ok qD9 (fun vs H Q E h => ?_) (fun cdv A outer s H vs Q E hr h => ?_)
  · obtain ⟨i, m, rfl, _⟩ := h
    rfl
  obtain ⟨i, m, rfl, q⟩ := h
  refine ⟨_, (qH (qP (zo (jO qIp qD (pv 0) (qX _)) (zl (jO kt (pv 0) (pv 1) (qX _)))))), ?_⟩
  try dsimp only [jT, qi]
  refine ⟨_, rfl, _, _, rfl, rfl, _, rfl, ?_⟩
  unfold thB at q
  by_cases h0 : 0 ≤ i
  · rw [decide_eq_true h0] at q ⊢
    exact qr ⟨_, rfl, _, rfl, _, _, rfl, rfl, q⟩
  · rw [decide_eq_false h0] at q ⊢
    exact qm q
def qNs (c : Nat) : Bool := !(Builtin.Str.occurrences "abcdefghijklmnopqrstuvwxyz" ⟨#[c]⟩ 0 ("abcdefghijklmnopqrstuvwxyz" : Str).length 1).isEmpty
def wj (z : Str) : Bool := decide (1 ≤ z.length ∧ z.length ≤ 8) && z.cps.toList.all qNs
theorem qBd {c d : Int} (hd : 0 < d) (g : Int.gcd c d = 1) : x8 (0 * d - c * 1) (1 * d) = -c ∧ xD (0 * d - c * 1) (1 * d) = d := by
  refine qEx (by omega) hd (by rw [Int.neg_gcd]; exact g) ?_
  grind
def vn (K : W.Frag) : Sp := fun vs H Q _ => ∃ (x y : V) (A B c d m : Int), vs = [x, y, .int m] ∧ Pr K H x A B ∧ Pr K H y c d ∧ 0 < B ∧ 0 < d ∧ Int.gcd c d = 1 ∧ A.natAbs < 2 ^ 700 ∧ B.natAbs < 2 ^ 700 ∧ c.natAbs < 2 ^ 700 ∧ d.natAbs < 2 ^ 700 ∧ m.natAbs < 2 ^ 700 ∧
  ∀ H', Same H H' → Q (.int (qC3 (A * d) (c * B) (B * d) m)) H'
theorem zg (T : Tx K mg a) : FnOk P w K mg base CX0 4 a.a_moments_there a.f_moments_there ["first", "step", "many"] (vn K) := by
  refine T.d_moments_there.F.ok sc_moments_there (fun vs H Q E h => ?_) (fun cdv A outer s H vs Q E hr h => ?_)
  · obtain ⟨x, y, A, B, c, d, m, rfl, _⟩ := h
    rfl
  obtain ⟨x, y, A', B, c, d, m, rfl, ⟨z1, rfl, h1⟩, ⟨z2, rfl, h2⟩, hB, hd, hg, bA, bB, bc, bd, bm, kk⟩ := h
  have hu := hr.units0
  refine ⟨_, (qG (qj (qR (qJ3 hu) (pv 1) (ja (v := .ref a.n_NOUGHT) rfl T.g_NOUGHT rfl) (qX _)) (qH (qP (ja (v := .int 1000000) rfl T.g_MOST_ROOM ⟨_, rfl⟩))) qV)
      (qG (qj (jP (jD (qM T.d_is_there (kJ T) hr rfl (qA (qM T.d_floor_of (zW T) hr rfl (qA (pv 0) qE)) (qA (pv 2) qE))))) (qH (qP qD)) qV)
      (qG (vE (qj (jD (qM T.d_is_before (qCk T) hr rfl (qA (pv 1) (qA (ja (v := .ref a.n_NOUGHT) rfl T.g_NOUGHT rfl) qE)))) (qH (qU (i := 3) sc_moments_there.nd rfl (Or.inl rfl) (qS qc (qM T.d_floor_of (zW T) hr rfl (qA (qM T.d_quotient (wa T) hr rfl (qA (pv 0) (qA (qM T.d_less_by (vL T) hr rfl (qA (ja (v := .ref a.n_NOUGHT) rfl T.g_NOUGHT rfl) (qA (pv 1) qE))) qE))) qE)) qD))) (qH (qU (i := 3) sc_moments_there.nd rfl (Or.inl rfl) (vd zk (qM T.d_floor_of (zW T) hr rfl (qA (qM T.d_quotient (wa T) hr rfl (qA (qM T.d_less_by (vL T) hr rfl (qA (pv 0) (qA (qM T.d_fraction (xN T) hr rfl (qA (pv 2) (qA qD qE))) qE))) (qA (pv 1) qE))) qE)))))))
      (qH (qP (qh (kY rfl) rfl T.b_min rfl (qA (pv 3) (qA (ja (v := .int 1000000) rfl T.g_MOST_ROOM ⟨_, rfl⟩) qE)))))))), ?_⟩
  try dsimp only [jT, qi]
  have S : ∀ {i : Int}, i.natAbs < 2 ^ 700 → Sm i := fun h => ke h
  have one : Sm 1 := Sm.of200 (by decide)
  have nul : Sm 0 := Sm.of200 (by decide)
  have hBd := Int.mul_pos hB hd
  have H1 : ∀ {H' : Hp}, Same H H' → SqT K H' z1 [.int A', .int B] := fun e => L3.Same.tup e h1
  have H2 : ∀ {H' : Hp}, Same H H' → SqT K H' z2 [.int c, .int d] := fun e => L3.Same.tup e h2
  refine ⟨_, rfl, _, _, _, _, rfl, rfl, h2, T.sq_NOUGHT _, rfl, rfl, _, rfl, ?_⟩
  rw [if_neg (by decide : ¬ (false = true)), eq2]
  by_cases hc : c = 0
  · have d1 : d = 1 := by
      subst hc
      rw [Int.gcd_zero_left] at hg
      omega
    rw [show (c == 0 && d == 1) = true by simp [hc, d1]]
    refine qr ?_
    have := kk H (Same.refl _)
    unfold qC3 at this
    rw [if_pos (by rw [hc, Int.zero_mul])] at this
    exact this
  rw [show (c == 0 && d == 1) = false by simp [hc]]
  refine qm ?_
  have hcB : ¬ (c * B = 0) := Int.mul_ne_zero hc (by omega)
  have ef : A'.fdiv B = (A' * d).fdiv (B * d) := qAh hB hBd (by grind)
  refine ⟨_, rfl, _, A', B, rfl, ⟨z1, rfl, h1⟩, by omega, qIz bB, _, rfl, _, _, rfl, _, rfl, ?_⟩
  by_cases ht : 0 ≤ A'.fdiv B ∧ A'.fdiv B < m
  rotate_left
  · rw [show thB (A'.fdiv B) m = false by unfold thB; rw [Bool.eq_false_iff]; simpa using ht]
    refine qr ?_
    have := kk H (Same.refl _)
    unfold qC3 at this
    rw [if_neg hcB, if_pos (by rw [← ef]; exact ht)] at this
    exact this
  rw [show thB (A'.fdiv B) m = true by simp [thB, ht]]
  refine qm ?_
  have res : ∀ H', Same H H' → Q (.int (if 1000000 < (if c * B < 0 then (A' * d).fdiv (-(c * B)) + 1 else -((A' * d - m * (B * d)).fdiv (c * B))) then 1000000 else (if c * B < 0 then (A' * d).fdiv (-(c * B)) + 1 else -((A' * d - m * (B * d)).fdiv (c * B))))) H' := fun H' e => by
    have := kk H' e
    unfold qC3 at this
    rw [if_neg hcB, if_neg (by rw [← ef]; simpa using ht)] at this
    exact this
  generalize hgg : (if c * B < 0 then (A' * d).fdiv (-(c * B)) + 1 else -((A' * d - m * (B * d)).fdiv (c * B))) = g at res
  refine ⟨fun σ' H' => σ' = [some (.ref z1), some (.ref z2), some (.int m), some (.int g)] ∧ Same H H', ?_, ?_⟩
  · refine ⟨_, rfl, _, _, c, d, 0, 1, rfl, ⟨z2, rfl, h2⟩, ⟨_, rfl, T.sq_NOUGHT _⟩, S bc, S bd, nul, one, _, rfl, ?_⟩
    by_cases hn : c * 1 < 0 * d
    · rw [decide_eq_true hn]
      refine qr ?_
      have c0 : c < 0 := by omega
      refine ⟨_, rfl, _, rfl, _, _, 0, 1, c, d, rfl, ⟨_, rfl, T.sq_NOUGHT _⟩, ⟨z2, rfl, h2⟩, by decide, by omega, nul, one, S bc, S bd, fun u hu' => ?_⟩
      rw [(qBd hd hg).1, (qBd hd hg).2]
      have w1 := qC hu' (.tup [.int (-c), .int d])
      have bnc : (-c).natAbs < 2 ^ 700 := by rw [Int.natAbs_neg]; exact bc
      have hpos : 0 < B * (-c) := Int.mul_pos hB (by omega)
      refine ⟨_, _, A', B, -c, d, rfl, ⟨z1, rfl, H1 w1⟩, ⟨u, rfl, SqT.of qB⟩, by omega, by omega, S bA, S bB, S bnc, S bd, fun v hv => ?_⟩
      have w2 := w1.trans (qC hv (.tup [.int (x8 (A' * d) (B * (-c))), .int (xD (A' * d) (B * (-c)))]))
      have lq := zD (t := A' * d) (b := B * (-c)) (by omega)
      refine ⟨_, _, _, rfl, ⟨v, rfl, SqT.of qB⟩, by omega, Nat.lt_of_le_of_lt (zw (by omega)) (qIz (jd bB bnc)), ?_⟩
      rw [wS hpos]
      refine ⟨_, _, rfl, rfl, ?_, w2⟩
      have e : g = (A' * d).fdiv (B * -c) + 1 := by
        rw [← hgg, if_pos (by have := Int.mul_neg_of_neg_of_pos c0 hB; exact this)]
        rw [show -(c * B) = B * -c by grind]
      rw [e]
      rfl
    · rw [decide_eq_false hn]
      refine qm ?_
      have c0 : 0 < c := by omega
      obtain ⟨l1, l2⟩ := qE6 (p := m) (q := 1) (by decide) (Int.gcd_one_right ..)
      refine ⟨_, rfl, _, rfl, m, 1, rfl, by decide, qIz (n := 1) (by decide), fun u hu' => ?_⟩
      rw [l1, l2]
      have w1 := qC hu' (.tup [.int m, .int 1])
      refine ⟨_, _, A', B, m, 1, rfl, ⟨z1, rfl, H1 w1⟩, ⟨u, rfl, SqT.of qB⟩, by omega, by decide, S bA, S bB, S bm, one, fun v hv => ?_⟩
      have hb1 : B * 1 ≠ 0 := by omega
      have cr := kQ (A' * 1 - m * B) (B * 1)
      have lq := zD (t := A' * 1 - m * B) hb1
      have aP := qAr (t := A' * 1 - m * B) hb1
      have aQ := zw (t := A' * 1 - m * B) hb1
      have w2 := w1.trans (qC hv (.tup [.int (x8 (A' * 1 - m * B) (B * 1)), .int (xD (A' * 1 - m * B) (B * 1))]))
      have ev := qB (H := upd H u (.tup [.int m, .int 1])) (a := v) (o := .tup [.int (x8 (A' * 1 - m * B) (B * 1)), .int (xD (A' * 1 - m * B) (B * 1))])
      generalize upd (upd H u (.tup [.int m, .int 1])) v (.tup [.int (x8 (A' * 1 - m * B) (B * 1)), .int (xD (A' * 1 - m * B) (B * 1))]) = H3 at w2 ev ⊢
      generalize x8 (A' * 1 - m * B) (B * 1) = P' at cr aP ev ⊢
      generalize xD (A' * 1 - m * B) (B * 1) = Q' at cr aQ lq ev ⊢
      have sP : Sm P' := by
        have t := jd bm bB
        have : (A' * 1 - m * B).natAbs < 2 ^ 1500 := by
          have e : (2 : Nat) ^ 700 + 2 ^ (700 + 700) ≤ 2 ^ 1500 := by decide
          omega
        exact Nat.lt_of_le_of_lt aP (ke this)
      have bQ : Q'.natAbs < 2 ^ 700 := by rw [Int.mul_one] at aQ; omega
      refine ⟨_, rfl, _, _, P', Q', c, d, rfl, ⟨v, rfl, SqT.of ev⟩, ⟨z2, rfl, H2 w2⟩, by omega, hc, sP, S bQ, S bc, S bd, fun x hx => ?_⟩
      have hpos : 0 < Q' * c := Int.mul_pos lq c0
      have w3 := w2.trans (qC hx (.tup [.int (x8 (P' * d) (Q' * c)), .int (xD (P' * d) (Q' * c))]))
      have lq2 := zD (t := P' * d) (b := Q' * c) (by omega)
      refine ⟨_, _, _, rfl, ⟨x, rfl, SqT.of qB⟩, by omega, Nat.lt_of_le_of_lt (zw (by omega)) (qIz (jd bQ bc)), ?_⟩
      rw [wS hpos]
      refine ⟨_, rfl, ?_, w3⟩
      have e : g = -(P' * d).fdiv (Q' * c) := by
        have hcB' := Int.mul_pos c0 hB
        rw [← hgg, if_neg (by omega)]
        rw [qAh hcB' hpos (by grind : (A' * d - m * (B * d)) * (Q' * c) = P' * d * (c * B))]
      rw [e]
      rfl
  rintro σ' H' ⟨rfl, sH⟩
  exact ⟨_, rfl, _, _, rfl, res H' sH⟩
theorem qK0 {H H' : Hp} (e : Same H H') {a : Addr} {u : HO} (h : Rd H a u) : Rd H' a u := by
  rcases h with h | ⟨o, h⟩
  · exact .inl (e _ _ h)
  · exact .inr ⟨o, e _ _ h⟩
def Reel (H : Hp) (rd : Addr) (n : Str) (m : Int) : Prop := ∃ kvs, Rd H rd (.dK kvs) ∧ qDf kvs (Sum.inr n) = some (.int m)
theorem Reel.same {H H' : Hp} {rd : Addr} {n : Str} {m : Int} (e : Same H H') (h : Reel H rd n m) : Reel H' rd n m := let ⟨k, h1, h2⟩ := h; ⟨k, qK0 e h1, h2⟩
theorem Reel.get {H : Hp} {rd : Addr} {n : Str} {m : Int} (h : Reel H rd n m) : DGet H rd (.str n) (some (.int m)) := let ⟨k, h1, h2⟩ := h; .inl ⟨k, Sum.inr n, h1, rfl, h2.symm⟩
def Vk (p q r s k : Int) : Int := p * s + k * r * q
structure Ch (H : Hp) (z : Addr) (n : Str) (p q r s len : Int) : Prop where
  ex : ∃ z1 z2, H z = some (.tup [.str "clip", .str n, .ref z1, .ref z2, .int len]) ∧ H z1 = some (.tup [.int p, .int q]) ∧ H z2 = some (.tup [.int r, .int s])
theorem Ch.same {H H' : Hp} {z : Addr} {n : Str} {p q r s len : Int} (e : Same H H') (h : Ch H z n p q r s len) : Ch H' z n p q r s len := let ⟨z1, z2, h1, h2, h3⟩ := h.ex; ⟨z1, z2, e _ _ h1, e _ _ h2, e _ _ h3⟩
theorem Ch.cp {H : Hp} {z : Addr} {n : Str} {p q r s len : Int} (h : Ch H z n p q r s len) : Cp K H (.ref z) n p q r s len := let ⟨z1, z2, h1, h2, h3⟩ := h.ex; ⟨z, z1, z2, rfl, SqT.of h1, SqT.of h2, SqT.of h3⟩
def qCv (K : W.Frag) : Sp := fun vs H Q _ => ∃ (v : V) (n : Str) (p q r s len m : Int) (rd : Addr), vs = [v, .ref rd] ∧ Cp K H v n p q r s len ∧ Good 110 p q ∧ Good 110 r s ∧ Reel H rd n m ∧ m.natAbs < 2 ^ 700 ∧
  ∀ H', Same H H' → Q (.int (qC3 (plP p q r s (-1) * s) (-1 * r * plQ p q r s (-1)) (plQ p q r s (-1) * s) m)) H'
theorem vS (T : Tx K mg a) : FnOk P w K mg base CX0 5 a.a_head_room a.f_head_room ["clip", "reels"] (qCv K) := by
  refine T.d_head_room.F.ok qDc (fun vs H Q E h => ?_) (fun cdv A outer s H vs Q E hr h => ?_)
  · obtain ⟨v, n, p, q, r, s, len, m, rd, rfl, _⟩ := h
    rfl
  obtain ⟨v, n, p, q, r, s', len, m, rd, rfl, hc, g1, g2, hrd, bm, kk⟩ := h
  have hu1 := qHv hr
  refine ⟨_, (qH (qP (qM T.d_moments_there (zg T) hr rfl (qA (qM T.d_place_at (xz T) hr rfl (qA (pv 0) (qA (vd zk qD) qE))) (qA (qM T.d_less_by (vL T) hr rfl (qA (ja (v := .ref a.n_NOUGHT) rfl T.g_NOUGHT rfl) (qA (qL qJ (pv 0) qD (fun _ _ => rfl)) qE))) (qA (qDk hu1 (pv 1) (qL qJ (pv 0) qD (fun _ _ => rfl)) (fun _ _ => rfl)) qE)))))), ?_⟩
  try dsimp only [jT, qi]
  have hb : Bn 110 p q r s' := ⟨g1.1, g2.1, g1.2.2.1, g1.2.2.2, g2.2.2.1, g2.2.2.2⟩
  have hb7 := hb.mono (m := 700)
  have hp := (hb.part (k := -1) (by decide)).mono (m := 700)
  refine ⟨_, rfl, _, rfl, v, n, p, q, r, s', len, -1, rfl, hc, hb7.q0, hb7.s0, hb7.bp, hb7.bq, hb7.br, hb7.bs, ke (n := 30) (by decide), fun y H1 s1 e1 => ?_⟩
  obtain ⟨z, z1, z2, e, h0, h1, h2⟩ := (hc.same s1).ex
  subst e
  have S : ∀ {i : Int}, i.natAbs < 2 ^ 700 → Sm i := fun h => ke h
  refine (qZ rfl h0 qCa ?_)
  refine ⟨_, _, 0, 1, r, s', rfl, ⟨_, rfl, T.sq_NOUGHT _⟩, ⟨z2, rfl, h2⟩, by decide, by have := hb.s0; omega, Sm.of200 (by decide), Sm.of200 (by decide), S hb7.br, S hb7.bs, fun u hu' => ?_⟩
  rw [(qBd hb.s0 g2.2.1).1, (qBd hb.s0 g2.2.1).2]
  have w1 := qC hu' (.tup [.int (-r), .int s'])
  refine ⟨_, rfl, _, rfl, z, _, _, _, rfl, rfl, L3.Same.tup w1 h0, vt, rd, _, rfl, (hrd.same (s1.trans w1)).get, ?_⟩
  refine ⟨_, _, _, _, -r, s', m, rfl, ⟨y, rfl, SqT.of (w1 _ _ e1)⟩, ⟨u, rfl, SqT.of qB⟩, hp.q0, hb.s0, by rw [Int.neg_gcd]; exact g2.2.1, hp.bp, hp.bq, by rw [Int.natAbs_neg]; exact hb7.br, hb7.bs, bm, fun H' sH => ?_⟩
  have := kk H' (s1.trans (w1.trans sH))
  rw [show -1 * r * plQ p q r s' (-1) = -r * plQ p q r s' (-1) by grind] at this
  exact this
def qB5 (K : W.Frag) : Sp := fun vs H Q _ => ∃ (v : V) (n : Str) (p q r s len m : Int) (rd : Addr), vs = [v, .ref rd] ∧ Cp K H v n p q r s len ∧ Good 110 p q ∧ Good 110 r s ∧ len.natAbs < 2 ^ 30 ∧ Reel H rd n m ∧ m.natAbs < 2 ^ 700 ∧
  ∀ H', Same H H' → Q (.int (qC3 (plP p q r s len * s) (1 * r * plQ p q r s len) (plQ p q r s len * s) m)) H'
theorem vQ (T : Tx K mg a) : FnOk P w K mg base CX0 5 a.a_tail_room a.f_tail_room ["clip", "reels"] (qB5 K) := by
  refine T.d_tail_room.F.ok qC0 (fun vs H Q E h => ?_) (fun cdv A outer s H vs Q E hr h => ?_)
  · obtain ⟨v, n, p, q, r, s, len, m, rd, rfl, _⟩ := h
    rfl
  obtain ⟨v, n, p, q, r, s', len, m, rd, rfl, hc, g1, g2, bl, hrd, bm, kk⟩ := h
  have hu1 := qHv hr
  refine ⟨_, (qH (qP (qM T.d_moments_there (zg T) hr rfl (qA (qM T.d_place_at (xz T) hr rfl (qA (pv 0) (qA (qL qJ (pv 0) qD (fun _ _ => rfl)) qE))) (qA (qL qJ (pv 0) qD (fun _ _ => rfl)) (qA (qDk hu1 (pv 1) (qL qJ (pv 0) qD (fun _ _ => rfl)) (fun _ _ => rfl)) qE)))))), ?_⟩
  try dsimp only [jT, qi]
  have hb : Bn 110 p q r s' := ⟨g1.1, g2.1, g1.2.2.1, g1.2.2.2, g2.2.2.1, g2.2.2.2⟩
  have hb7 := hb.mono (m := 700)
  have hp := (hb.part (k := len) bl).mono (m := 700)
  have hc0 := hc
  obtain ⟨z, z1, z2, e, h0, h1, h2⟩ := hc0.ex
  subst e
  refine ⟨_, rfl, qZ rfl h0 wT ⟨_, n, p, q, r, s', len, len, rfl, hc, hb7.q0, hb7.s0, hb7.bp, hb7.bq, hb7.br, hb7.bs, ke bl, fun y H1 s1 e1 => ?_⟩⟩
  refine ⟨_, rfl, z, _, _, _, rfl, rfl, L3.Same.tup s1 h0, qCa, ?_⟩
  refine ⟨_, rfl, _, rfl, z, _, _, _, rfl, rfl, L3.Same.tup s1 h0, vt, rd, _, rfl, (hrd.same s1).get, ?_⟩
  refine ⟨_, _, _, _, r, s', m, rfl, ⟨y, rfl, SqT.of e1⟩, ⟨z2, rfl, L3.Same.tup s1 h2⟩, hp.q0, hb.s0, g2.2.1, hp.bp, hp.bq, hb7.br, hb7.bs, bm, fun H' sH => ?_⟩
  have := kk H' (s1.trans sH)
  rw [Int.one_mul] at this
  exact this
inductive Im where
  | clip (n : Str) (p q r s l : Int)
  | nest (n : Str) (b l : Int)
  | gap (l : Int)
  | mix (l : Int)
def Im.d : Im → D
  | .clip n p q r s l => .tup [.leaf (.str "clip"), .leaf (.str n), .tup [.leaf (.int p), .leaf (.int q)], .tup [.leaf (.int r), .leaf (.int s)], .leaf (.int l)]
  | .nest n b l => .tup [.leaf (.str "nest"), .leaf (.str n), .leaf (.int b), .leaf (.int l)]
  | .gap l => .tup [.leaf (.str "gap"), .leaf (.int l)]
  | .mix l => .tup [.leaf (.str "mix"), .leaf (.int l)]
def Im.wd : Im → Str
  | .clip .. => "clip"
  | .nest .. => "nest"
  | .gap _ => "gap"
  | .mix _ => "mix"
def Im.l : Im → Int
  | .clip _ _ _ _ _ l => l
  | .nest _ _ l => l
  | .gap l => l
  | .mix l => l
def TS (H H' : Hp) : Prop := ∀ b xs, H b = some (.tup xs) → H' b = some (.tup xs)
theorem TS.refl (H : Hp) : TS H H := fun _ _ h => h
theorem TS.trans {H H1 H2 : Hp} (a : TS H H1) (b : TS H1 H2) : TS H H2 := fun c o h => b c o (a c o h)
theorem qk {H H' : Hp} (e : Same H H') : TS H H' := fun _ _ h => e _ _ h
theorem zE {H : Hp} {l : Addr} {xs : List V} {o : HO} (h : H l = some (.lst xs)) : TS H (upd H l o) := fun b ys hb => by
  rw [qd (qNe hb h (by intro z; cases z))]; exact hb
theorem jR {H H' : Hp} {y : Addr} {o : HO} (e : Same H H') (h : H y = none) : Same H (upd H' y o) := fun b u hb => by
  rw [qd (qf hb h)]; exact e b u hb
def IsI (H : Hp) : Im → V → Prop
  | .clip n p q r s l, v => ∃ z x y : Addr, v = .ref z ∧ H z = some (.tup [.str "clip", .str n, .ref x, .ref y, .int l]) ∧ H x = some (.tup [.int p, .int q]) ∧ H y = some (.tup [.int r, .int s])
  | .nest n b l, v => ∃ z : Addr, v = .ref z ∧ H z = some (.tup [.str "nest", .str n, .int b, .int l])
  | .gap l, v => ∃ z : Addr, v = .ref z ∧ H z = some (.tup [.str "gap", .int l])
  | .mix l, v => ∃ z : Addr, v = .ref z ∧ H z = some (.tup [.str "mix", .int l])
theorem isG {H : Hp} {z : Addr} {l : Int} (h : H z = some (.tup [.str "gap", .int l])) : IsI H (.gap l) (.ref z) := ⟨z, rfl, h⟩
theorem isN {H : Hp} {z : Addr} {n : Str} {b l : Int} (h : H z = some (.tup [.str "nest", .str n, .int b, .int l])) : IsI H (.nest n b l) (.ref z) := ⟨z, rfl, h⟩
theorem IsI.ts {H H' : Hp} (e : TS H H') : ∀ {m : Im} {v : V}, IsI H m v → IsI H' m v
  | .clip .., _, ⟨z, x, y, h, hz, hx, hy⟩ => ⟨z, x, y, h, e _ _ hz, e _ _ hx, e _ _ hy⟩
  | .nest .., _, ⟨z, h, hz⟩ => ⟨z, h, e _ _ hz⟩
  | .gap _, _, ⟨z, h, hz⟩ => ⟨z, h, e _ _ hz⟩
  | .mix _, _, ⟨z, h, hz⟩ => ⟨z, h, e _ _ hz⟩
theorem IsI.opn {H : Hp} {m : Im} {v : V} (h : IsI H m v) : ∃ (z : Addr) (xs : List V), v = .ref z ∧ H z = some (.tup xs) ∧ atI xs 0 = some (.str m.wd) ∧ atI xs (-1) = some (.int m.l) := by
  cases m with
  | clip n p q r s l => obtain ⟨z, x, y, h, hz, _⟩ := h; exact ⟨z, _, h, hz, rfl, rfl⟩
  | nest n b l => obtain ⟨z, h, hz⟩ := h; exact ⟨z, _, h, hz, rfl, rfl⟩
  | gap l => obtain ⟨z, h, hz⟩ := h; exact ⟨z, _, h, hz, rfl, rfl⟩
  | mix l => obtain ⟨z, h, hz⟩ := h; exact ⟨z, _, h, hz, rfl, rfl⟩
theorem v9 {H : Hp} : ∀ {xs : List V}, xs.all xY = true → Reps K H (xs.map D.leaf) xs
  | [], _ => by simp [Reps]
  | x :: xs, h => by
    rw [List.all_cons, Bool.and_eq_true] at h
    rw [List.map_cons]; unfold Reps Rep
    exact ⟨⟨rfl, h.1⟩, v9 h.2⟩
theorem kZ {H : Hp} {z : Addr} {xs : List V} (hz : H z = some (.tup xs)) (h : xs.all xY = true) : Rep K H (.tup (xs.map D.leaf)) (.ref z) := by
  unfold Rep
  exact ⟨z, xs, rfl, SqT.of hz, v9 h⟩
theorem IsI.rep {H : Hp} : ∀ {m : Im} {v : V}, IsI H m v → Rep K H m.d v
  | .clip n p q r s l, _, ⟨z, x, y, h, hz, hx, hy⟩ => by
    subst h
    have h1 : Rep K H (.tup [.leaf (.int p), .leaf (.int q)]) (.ref x) := kZ hx rfl
    have h2 : Rep K H (.tup [.leaf (.int r), .leaf (.int s)]) (.ref y) := kZ hy rfl
    unfold Im.d Rep
    refine ⟨z, _, rfl, SqT.of hz, ?_⟩
    unfold Reps Reps Reps Reps Reps Reps
    refine ⟨?_, ?_, h1, h2, ?_, trivial⟩
    · unfold Rep; exact ⟨rfl, rfl⟩
    · unfold Rep; exact ⟨rfl, rfl⟩
    · unfold Rep; exact ⟨rfl, rfl⟩
  | .nest n b l, _, ⟨z, h, hz⟩ => by subst h; exact kZ hz rfl
  | .gap l, _, ⟨z, h, hz⟩ => by subst h; exact kZ hz rfl
  | .mix l, _, ⟨z, h, hz⟩ => by subst h; exact kZ hz rfl
theorem qI1 (m : Im) : eqD m.d m.d = true := by
  cases m <;> simp [Im.d, eqD, kI, eqV]
theorem qMu (m : Im) : dep m.d ≤ 2 := by
  cases m <;> simp [Im.d, dep, vz]
def IsIs (H : Hp) : List Im → List V → Prop
  | [], [] => True
  | m :: ms, v :: vs => IsI H m v ∧ IsIs H ms vs
  | _, _ => False
theorem IsIs.len {H : Hp} : ∀ {ms : List Im} {vs : List V}, IsIs H ms vs → vs.length = ms.length
  | [], [], _ => rfl
  | _ :: _, _ :: _, h => by rw [List.length_cons, List.length_cons, IsIs.len h.2]
  | [], _ :: _, h => h.elim
  | _ :: _, [], h => h.elim
theorem IsIs.ts {H H' : Hp} (e : TS H H') : ∀ {ms : List Im} {vs : List V}, IsIs H ms vs → IsIs H' ms vs
  | [], [], _ => trivial
  | _ :: _, _ :: _, h => ⟨IsI.ts e h.1, IsIs.ts e h.2⟩
  | [], _ :: _, h => h.elim
  | _ :: _, [], h => h.elim
theorem IsIs.get {H : Hp} : ∀ {ms : List Im} {vs : List V} {i : Nat} {v : V}, IsIs H ms vs → vs[i]? = some v → ∃ m, ms[i]? = some m ∧ IsI H m v
  | [], [], _, _, _, h => by simp at h
  | m :: _, x :: _, 0, v, h, e => by
    have e' : x = v := by simpa using e
    subst e'
    exact ⟨m, rfl, h.1⟩
  | _ :: ms, _ :: vs, i + 1, v, h, e => by
    obtain ⟨m, h1, h2⟩ := IsIs.get (i := i) h.2 (by simpa using e)
    exact ⟨m, by simpa using h1, h2⟩
  | [], _ :: _, _, _, h, _ => h.elim
  | _ :: _, [], _, _, h, _ => h.elim
theorem IsIs.get' {H : Hp} {ms : List Im} {vs : List V} {i : Nat} {m : Im} (h : IsIs H ms vs) (e : ms[i]? = some m) : ∃ v, vs[i]? = some v ∧ IsI H m v := by
  have hi : i < vs.length := by rw [h.len]; exact (glt e)
  have ev : vs[i]? = some vs[i] := List.getElem?_eq_getElem hi
  obtain ⟨m', h1, h2⟩ := h.get ev
  rw [e] at h1
  cases h1
  exact ⟨_, ev, h2⟩
theorem IsIs.app {H : Hp} : ∀ {ms : List Im} {vs : List V} {ms' : List Im} {vs' : List V}, IsIs H ms vs → IsIs H ms' vs' → IsIs H (ms ++ ms') (vs ++ vs')
  | [], [], _, _, _, h' => h'
  | _ :: _, _ :: _, _, _, h, h' => ⟨h.1, h.2.app h'⟩
  | [], _ :: _, _, _, h, _ => h.elim
  | _ :: _, [], _, _, h, _ => h.elim
theorem IsIs.one {H : Hp} {m : Im} {v : V} (h : IsI H m v) : IsIs H [m] [v] := ⟨h, trivial⟩
theorem IsIs.rep {H : Hp} : ∀ {ms : List Im} {vs : List V}, IsIs H ms vs → Reps K H (ms.map Im.d) vs
  | [], [], _ => by unfold List.map Reps; trivial
  | _ :: _, _ :: _, h => by unfold List.map Reps; exact ⟨h.1.rep, h.2.rep⟩
  | [], _ :: _, h => h.elim
  | _ :: _, [], h => h.elim
theorem qC1 : ∀ ms : List Im, kI (ms.map Im.d) (ms.map Im.d) = true
  | [] => by simp [kI]
  | m :: ms => by unfold List.map kI; rw [qI1, qC1 ms]; rfl
theorem qJu : ∀ ms : List Im, vz (ms.map Im.d) ≤ 2
  | [] => by simp [vz]
  | m :: ms => by
    have h1 := qMu m
    have h2 := qJu ms
    unfold List.map vz
    omega
def Tr (H : Hp) (z : Addr) (ms : List Im) : Prop := ∃ vs, H z = some (.lst vs) ∧ IsIs H ms vs
theorem Tr.same {H H' : Hp} {z : Addr} {ms : List Im} (e : Same H H') (h : Tr H z ms) : Tr H' z ms := let ⟨vs, h1, h2⟩ := h; ⟨vs, e _ _ h1, h2.ts (qk e)⟩
theorem Tr.rep {H : Hp} {z : Addr} {ms : List Im} (h : Tr H z ms) : Rep K H (.lst (ms.map Im.d)) (.ref z) := by
  obtain ⟨vs, h1, h2⟩ := h
  unfold Rep
  exact ⟨z, vs, rfl, SqL.of h1, h2.rep⟩
theorem qJi {H : Hp} {x : Addr} {ns : List Int} (h : H x = some (.lst (ns.map V.int))) : Rep K H (.lst ((ns.map V.int).map D.leaf)) (.ref x) := by
  unfold Rep
  exact ⟨x, _, rfl, SqL.of h, v9 (by rw [List.all_map, List.all_eq_true]; intro _ _; rfl)⟩
theorem qEu : ∀ ns : List Int, kI ((ns.map V.int).map D.leaf) ((ns.map V.int).map D.leaf) = true
  | [] => by simp [kI]
  | n :: ns => by
    have ih := qEu ns
    simp only [List.map_cons]
    unfold kI
    rw [ih]
    simp [eqD, eqV]
theorem wA : ∀ vs : List V, vz (vs.map D.leaf) = 0
  | [] => by simp [vz]
  | n :: ns => by
    have ih := wA ns
    simp only [List.map_cons]
    unfold vz
    rw [ih]
    simp [dep]
theorem IsIs.dl {H : Hp} : ∀ {ms : List Im} {vs : List V}, IsIs H ms vs → IsIs H ms.dropLast vs.dropLast
  | [], [], _ => trivial
  | [_], [_], _ => trivial
  | _ :: _ :: _, _ :: _ :: _, h => ⟨h.1, IsIs.dl h.2⟩
  | [], _ :: _, h => h.elim
  | _ :: _, [], h => h.elim
  | [_], _ :: _ :: _, h => h.2.elim
  | _ :: _ :: _, [_], h => h.2.elim
theorem IsIs.last {H : Hp} {ms : List Im} {vs : List V} (h : IsIs H ms vs) (hne : ms ≠ []) : ∃ v m, vs[vs.length - 1]? = some v ∧ ms.getLast? = some m ∧ m ∈ ms ∧ IsI H m v := by
  have hl : 0 < ms.length := List.length_pos_iff.mpr hne
  have hi : vs.length - 1 < vs.length := by rw [h.len]; omega
  have ev : vs[vs.length - 1]? = some vs[vs.length - 1] := List.getElem?_eq_getElem hi
  obtain ⟨m, h1, h2⟩ := h.get ev
  refine ⟨_, m, ev, ?_, List.mem_of_getElem? h1, h2⟩
  rw [h.len] at h1
  rw [List.getLast?_eq_getElem?]
  exact h1
theorem qNp {m : Im} (h : m.wd = "gap") : ∃ l, m = .gap l := by
  cases m with
  | gap l => exact ⟨l, rfl⟩
  | clip => exact absurd (show ("clip" : Str) = "gap" from h) (by decide +kernel)
  | nest => exact absurd (show ("nest" : Str) = "gap" from h) (by decide +kernel)
  | mix => exact absurd (show ("mix" : Str) = "gap" from h) (by decide +kernel)
def qCe : Int → List Im → List Im
  | _, [] => []
  | w, .gap l :: ms => qCe (w + l) ms
  | w, .clip n p q r s l :: ms => if 0 < w then .gap w :: .clip n p q r s l :: qCe 0 ms else .clip n p q r s l :: qCe 0 ms
  | w, .nest n b l :: ms => if 0 < w then .gap w :: .nest n b l :: qCe 0 ms else .nest n b l :: qCe 0 ms
  | w, .mix l :: ms => if 0 < w then .gap w :: .mix l :: qCe 0 ms else .mix l :: qCe 0 ms
theorem qFs {m : Im} (h : m.wd ≠ "gap") (w : Int) (ms : List Im) : qCe w (m :: ms) = if 0 < w then .gap w :: m :: qCe 0 ms else m :: qCe 0 ms := by
  cases m with
  | gap l => exact absurd rfl h
  | _ => rw [qCe]
def qDl : Sp := fun vs H Q _ => ∃ (z : Addr) (ms : List Im), vs = [.ref z] ∧ Tr H z ms ∧ ms.length ≤ 300 ∧ ∀ (y : Addr) (H' : Hp), Same H H' → H y = none → Tr H' y (qCe 0 ms) → Q (.ref y) H'
theorem qDu (T : Tx K mg a) : FnOk P w K mg base CX0 1 a.a_one_form a.f_one_form ["some"] qDl := by
  refine T.d_one_form.F.ok sc_one_form (fun vs H Q E h => ?_) (fun cdv A outer s H vs Q E hr h => ?_)
  · obtain ⟨z, ms, rfl, _⟩ := h
    rfl
  obtain ⟨z, ms, rfl, ⟨xs, hz, his⟩, hl, kk⟩ := h
  refine ⟨_, (qG (qU (i := 1) sc_one_form.nd rfl (Or.inl rfl) (ql qE))
      (qG (qU (i := 2) sc_one_form.nd rfl (Or.inl rfl) qD)
      (qG (vT PassesOwn.never rfl (xW (pv 0)) (zF (i := 3) sc_one_form.nd rfl (Or.inl rfl)) (qH (qj (qR j4 (qL qJ (pv 3) qD (fun _ _ => rfl)) qI (qX _)) (qH (qU (i := 2) sc_one_form.nd rfl (Or.inl rfl) (qS qc (pv 2) (qL qJ (pv 3) qD (fun _ _ => rfl))))) (qG (qj (qR qAu (pv 2) qD (qX _)) (qH (jN (qDd F.plainAttrs_list F.slot_list_append F.type_list_append xV (pv 1) (qA (qK (qA qI (qA (pv 2) qE))) qE)))) qV)
      (qG (qU (i := 2) sc_one_form.nd rfl (Or.inl rfl) qD)
      (qH (jN (qDd F.plainAttrs_list F.slot_list_append F.type_list_append xV (pv 1) (qA (pv 3) qE)))))))))
      (qH (qP (pv 1)))))), ?_⟩
  try dsimp only [jT, qi]
  refine ⟨sL0, fun y hy => ?_⟩
  refine ⟨_, rfl, z, rfl, ⟨_, SqL.of ((qC hy _) _ _ hz)⟩, zV (K := K) (a := z) (xs := xs) (fun i σ H' => ∃ (w : Int) (as : List Im) (o : Option V) (vs : List V), σ = [some (.ref z), some (.ref y), some (.int w), o] ∧ H' y = some (.lst vs) ∧ IsIs H' as vs ∧ as.length ≤ 2 * i ∧ as ++ qCe w (ms.drop i) = qCe 0 ms ∧ Same H H')
    ⟨0, [], none, [], rfl, qB, trivial, by simp, rfl, qC hy _⟩ ?_ ?_ ?_⟩
  · rintro i σ H' hi ⟨w, as, o, vs, rfl, _, _, _, _, e⟩
    exact SqL.of (e _ _ hz)
  · rintro i x σ H' hx ⟨w, as, o, vs, rfl, hv, hiv, hal, hap, e⟩
    obtain ⟨m, hm, hIx⟩ := his.get hx
    have hI := hIx.ts (qk e)
    have hi : i < ms.length := (glt hm)
    have hd : ms.drop i = m :: ms.drop (i + 1) := by
      rw [List.drop_eq_getElem_cons hi]
      rw [List.getElem?_eq_getElem hi] at hm
      cases hm
      rfl
    have hvl : vs.length ≤ 2 * i := by rw [hiv.len]; exact hal
    obtain ⟨zi, xi, rfl, hzi, h0, h1⟩ := hI.opn
    refine ⟨_, rfl, zi, xi, _, _, rfl, rfl, SqT.of hzi, h0, rfl, _, rfl, x9 (fun c => ?_) (fun c => ?_)⟩
    · obtain ⟨l, rfl⟩ := qNp (by simpa using c)
      obtain ⟨z2, e2, hz2⟩ := hI
      cases e2
      refine ⟨_, rfl, qZ rfl (SqT.of hz2) at1 ⟨_, _, rfl, rfl, w + l, as, _, vs, rfl, hv, hiv, by omega, ?_, e⟩⟩
      rw [hd, qCe] at hap
      exact hap
    · have hne : m.wd ≠ "gap" := by simpa using c
      rw [hd, qFs hne] at hap
      refine ⟨_, rfl, _, _, rfl, rfl, _, rfl, x9 (fun c => ?_) (fun c => ?_)⟩
      · have c' : 0 < w := by simpa using c
        rw [if_pos c'] at hap
        refine ⟨_, rfl, .inl ⟨rfl, _, SqL.of hv⟩, _, rfl, sL2, fun g hg => ?_⟩
        have w1 := qC hg (.tup [.str "gap", .int w])
        refine ⟨y, _, _, rfl, rfl, w1 _ _ hv, qW (by omega), ?_⟩
        have t2 : TS (upd H' g (.tup [.str "gap", .int w])) (upd (upd H' g (.tup [.str "gap", .int w])) y (.lst (vs ++ [.ref g]))) := zE (w1 _ _ hv)
        have k2 : IsIs (upd (upd H' g (.tup [.str "gap", .int w])) y (.lst (vs ++ [.ref g]))) (as ++ [.gap w]) (vs ++ [.ref g]) := ((hiv.ts (qk w1)).app (.one (isG qB))).ts t2
        have k1 : IsI (upd (upd H' g (.tup [.str "gap", .int w])) y (.lst (vs ++ [.ref g]))) m (.ref zi) := (hI.ts (qk w1)).ts t2
        have e2 : Same H (upd (upd H' g (.tup [.str "gap", .int w])) y (.lst (vs ++ [.ref g]))) := jR (e.trans w1) hy
        have hv2 : (upd (upd H' g (.tup [.str "gap", .int w])) y (.lst (vs ++ [.ref g]))) y = some (.lst (vs ++ [.ref g])) := qB
        generalize upd (upd H' g (.tup [.str "gap", .int w])) y (.lst (vs ++ [.ref g])) = H2 at k1 k2 e2 hv2 ⊢
        refine ⟨_, rfl, .inl ⟨rfl, _, SqL.of hv2⟩, _, rfl, y, _, _, rfl, rfl, hv2, qW (by rw [List.length_append]; simp; omega), ?_⟩
        refine ⟨0, as ++ [.gap w] ++ [m], _, _, rfl, qB, (k2.app (.one k1)).ts (zE hv2), by simp; omega, ?_, jR e2 hy⟩
        rw [← hap]; simp
      · have c' : ¬ 0 < w := by simpa using c
        rw [if_neg c'] at hap
        refine ⟨_, rfl, .inl ⟨rfl, _, SqL.of hv⟩, _, rfl, y, _, _, rfl, rfl, hv, qW (by omega), ?_⟩
        refine ⟨0, as ++ [m], _, _, rfl, qB, (hiv.app (.one hI)).ts (zE hv), by simp; omega, ?_, jR e hy⟩
        rw [← hap]; simp
  · rintro σ H' ⟨w, as, o, vs, rfl, hv, hiv, _, hap, e⟩
    refine ⟨_, rfl, kk y H' e hy ⟨vs, hv, ?_⟩⟩
    rw [his.len, List.drop_length, qCe, List.append_nil] at hap
    rw [← hap]
    exact hiv
def Im.mo : Im → Int
  | .mix _ => 0
  | .clip _ _ _ _ _ l => l
  | .nest _ _ l => l
  | .gap l => l
theorem qLa {m : Im} (h : m.wd = "mix") : ∃ l, m = .mix l := by
  cases m with
  | mix l => exact ⟨l, rfl⟩
  | clip => exact absurd (show ("clip" : Str) = "mix" from h) (by decide +kernel)
  | nest => exact absurd (show ("nest" : Str) = "mix" from h) (by decide +kernel)
  | gap => exact absurd (show ("gap" : Str) = "mix" from h) (by decide +kernel)
theorem qOl {m : Im} (h : m.wd ≠ "mix") : m.mo = m.l := by
  cases m with
  | mix l => exact absurd rfl h
  | _ => rfl
theorem qLs {x y : Str} : decide (V.str x = V.str y) = decide (x = y) := by
  rw [Bool.eq_iff_iff]; simp
def qBa : Sp := fun vs H Q _ => ∃ (v : V) (m : Im), vs = [v] ∧ IsI H m v ∧ Q (.int m.mo) H
theorem je (T : Tx K mg a) : FnOk P w K mg base CX0 1 a.a_moments_of a.f_moments_of ["item"] qBa := by
  refine T.d_moments_of.F.ok qBg (fun vs H Q E h => ?_) (fun cdv A outer s H vs Q E hr h => ?_)
  · obtain ⟨v, m, rfl, _⟩ := h
    rfl
  obtain ⟨v, m, rfl, hI, kk⟩ := h
  refine ⟨_, (qH (qP (z7 (qR j4 (qL qJ (pv 0) qD (fun _ _ => rfl)) qI (qX _)) qD (qL qJ (pv 0) (vd zk qD) (fun _ _ => rfl))))), ?_⟩
  try dsimp only [jT, qi]
  obtain ⟨z, xs, rfl, hz, h0, h1⟩ := hI.opn
  refine ⟨_, rfl, z, xs, _, _, rfl, rfl, SqT.of hz, h0, rfl, _, rfl, x9 (fun c => ?_) (fun c => ?_)⟩
  · obtain ⟨l, rfl⟩ := qLa (by simpa using c)
    exact kk
  · rw [qOl (by simpa using c)] at kk
    exact ⟨_, rfl, _, rfl, z, xs, _, _, rfl, rfl, SqT.of hz, h1, kk⟩
def qCt : Sp := fun vs H Q _ => ∃ (z : Addr) (ms : List Im), vs = [.ref z] ∧ Tr H z ms ∧ ms.length ≤ 300 ∧ ∀ H', Same H H' → Q (.int (ms.map Im.mo).sum) H'
theorem vV (T : Tx K mg a) : FnOk P w K mg base CX0 3 a.a_length_of a.f_length_of ["track"] qCt := by
  refine T.d_length_of.F.ok qCn (fun vs H Q E h => ?_) (fun cdv A outer s H vs Q E hr h => ?_)
  · obtain ⟨z, ms, rfl, _⟩ := h
    rfl
  obtain ⟨z, ms, rfl, ⟨xs, hz, his⟩, hl, kk⟩ := h
  refine ⟨_, (qH (qP (qh (qHz rfl) rfl T.b_sum rfl (qA (qBi [] [] rfl (xW (pv 0)) (fun _ _ _ _ => (qM T.d_moments_of (je T) hr rfl (qA (pv 0) qE)))) qE)))), ?_⟩
  try dsimp only [jT, qi]
  refine ⟨_, rfl, z, rfl, ⟨_, SqL.of hz⟩, ki (K := K) (a := z) (xs := xs) (fun i acc H' => H' = H ∧ acc = ((ms.take i).map Im.mo).map V.int) ⟨rfl, rfl⟩ ?_ ?_ ?_⟩
  · rintro i acc H' hi ⟨rfl, rfl⟩
    exact ⟨SqL.of hz, qW (by simp; omega)⟩
  · rintro i x acc H' hi hx ⟨rfl, rfl⟩
    obtain ⟨m, hm, hI⟩ := his.get hx
    refine ⟨_, rfl, x, m, rfl, hI, Nxt.mk hi ⟨rfl, ?_⟩⟩
    rw [List.take_add_one, hm]
    simp
  · rintro acc H' ⟨rfl, rfl⟩ d hd
    refine ⟨d, (ms.map Im.mo), rfl, ?_, kk _ (qC hd _)⟩
    rw [his.len, List.take_length]
    exact SqL.of qB
def jt : Int → Nat → List Im → Int → Option (Nat × Int)
  | _, _, [], _ => none
  | b, i, m :: ms, t => if b ≤ t ∧ t < b + m.mo then some (i, t - b) else jt (b + m.mo) (i + 1) ms t
def AtR (H : Hp) (Q : VK) (r : Option (Nat × Int)) : Prop := match r with
  | none => ∀ H', Same H H' → Q .non H'
  | some (i, d) => ∀ (p : Addr) (H' : Hp), Same H H' → H' p = some (.tup [.int (i : Int), .int d]) → Q (.ref p) H'
theorem wk {α : Type} {xs : List α} {i : Nat} {x : α} (h : xs[i]? = some x) : xs.drop i = x :: xs.drop (i + 1) := by
  have hi : i < xs.length := (glt h)
  rw [List.drop_eq_getElem_cons hi]
  rw [List.getElem?_eq_getElem hi] at h
  cases h
  rfl
def qFu : Sp := fun vs H Q _ => ∃ (z : Addr) (ms : List Im) (t : Int), vs = [.ref z, .int t] ∧ Tr H z ms ∧ AtR H Q (jt 0 0 ms t)
theorem vB (T : Tx K mg a) : FnOk P w K mg base CX0 3 a.a_item_at a.f_item_at ["track", "moment"] qFu := by
  refine T.d_item_at.F.ok sc_item_at (fun vs H Q E h => ?_) (fun cdv A outer s H vs Q E hr h => ?_)
  · obtain ⟨z, ms, t, rfl, _⟩ := h
    rfl
  obtain ⟨z, ms, t, rfl, ⟨xs, hz, his⟩, kk⟩ := h
  refine ⟨_, (qG (qU (i := 2) sc_item_at.nd rfl (Or.inl rfl) qD)
      (qG (vT PassesOwn.never rfl (qJ5 rfl T.b_enumerate (qA (pv 0) qE)) (qJp rfl (v8 (zF (i := 3) sc_item_at.nd rfl (Or.inl rfl)) (v8 (zF (i := 4) sc_item_at.nd rfl (Or.inl rfl)) qG4))) (qG (qU (i := 5) sc_item_at.nd rfl (Or.inl rfl) (qS qc (pv 2) (qM T.d_moments_of (je T) hr rfl (qA (pv 4) qE))))
      (qG (qj (PW.pt (kc (qR qIp (pv 2) (pv 1) (qX _)) (zY (qR kt (pv 1) (pv 5) (qX _))))) (qH (qP (qK (qA (pv 3) (qA (qS j6 (pv 1) (pv 2)) qE))))) qV)
      (qH (qU (i := 2) sc_item_at.nd rfl (Or.inl rfl) (pv 5))))))
      (qH (qP vY)))), ?_⟩
  try dsimp only [jT, qi]
  refine ⟨_, rfl, z, rfl, ⟨_, SqL.of hz⟩, qJa (K := K) (a := z) (xs := xs) (fun i σ H' => ∃ (b : Int) (o1 o2 o3 : Option V), σ = [some (.ref z), some (.int t), some (.int b), o1, o2, o3] ∧ jt b i (ms.drop i) t = jt 0 0 ms t ∧ Same H H')
    ⟨0, none, none, none, rfl, rfl, Same.refl _⟩ ?_ ?_ ?_⟩
  · rintro i σ H' hi ⟨b, o1, o2, o3, rfl, _, e⟩
    exact SqL.of (e _ _ hz)
  · rintro i x σ H' p hx ⟨b, o1, o2, o3, rfl, hap, e⟩ hp
    obtain ⟨m, hm, hIx⟩ := his.get hx
    have w1 := qC hp (.tup [.int (i : Int), x])
    have e1 := e.trans w1
    have hI := hIx.ts (qk e1)
    rw [wk hm, jt] at hap
    refine ⟨p, _, rfl, SqT.of qB, rfl, _, _, rfl, _, _, rfl, rfl, ?_⟩
    generalize upd H' p (.tup [.int (i : Int), x]) = H1 at e1 hI ⊢
    refine ⟨_, rfl, _, rfl, x, m, rfl, hI, _, _, rfl, rfl, ?_⟩
    refine ⟨_, rfl, _, rfl, _, _, rfl, rfl, _, rfl, ?_⟩
    refine x9 (fun c1 => ?_) (fun c1 => ?_)
    · refine ⟨_, rfl, _, rfl, _, _, rfl, rfl, _, rfl, ?_⟩
      refine x9 (fun c2 => ?_) (fun c2 => ?_)
      · rw [if_pos ⟨by simpa using c1, by simpa using c2⟩] at hap
        rw [← hap] at kk
        refine ⟨_, rfl, _, rfl, _, rfl, _, _, rfl, rfl, sL2, fun q hq => ?_⟩
        exact kk q _ (e1.trans (qC hq _)) qB
      · rw [if_neg (fun c => c2 (by simpa using c.2))] at hap
        exact ⟨_, rfl, _, _, _, _, rfl, hap, e1⟩
    · rw [if_neg (fun c => c1 (by simpa using c.1))] at hap
      exact qm ⟨_, rfl, _, _, _, _, rfl, hap, e1⟩
  · rintro σ H' ⟨b, o1, o2, o3, rfl, hap, e⟩
    rw [his.len, List.drop_length, jt] at hap
    rw [← hap] at kk
    exact kk H' e
def qp (ms : List Im) (i : Int) : Str := if i < 0 then "" else match ms[i.toNat]? with
  | some m => m.wd
  | none => ""
theorem qGw {ms : List Im} {i : Nat} {m : Im} (h : ms[i]? = some m) {k : Int} (hk : k = (i : Int)) : qp ms k = m.wd := by
  subst hk
  unfold qp
  rw [if_neg (by omega)]
  have e : ((i : Int)).toNat = i := by omega
  rw [e, h]
def qF8 : Sp := fun vs H Q _ => ∃ (z : Addr) (ms : List Im) (i : Int), vs = [.ref z, .int i] ∧ Tr H z ms ∧ Q (.str (qp ms i)) H
theorem jZ (T : Tx K mg a) : FnOk P w K mg base CX0 1 a.a_kind_at a.f_kind_at ["track", "place"] qF8 := by
  refine T.d_kind_at.F.ok qFf (fun vs H Q E h => ?_) (fun cdv A outer s H vs Q E hr h => ?_)
  · obtain ⟨z, ms, i, rfl, _⟩ := h
    rfl
  obtain ⟨z, ms, i, rfl, ⟨vs, hz, his⟩, q⟩ := h
  refine ⟨_, (qG (qj (PW.pt (xA (qR kt (pv 1) qD (qX _)) (jS (qR qDh (pv 1) (qh j3 rfl T.b_len rfl (qA (pv 0) qE)) (qX _))))) (qH (qP qI)) qV)
      (qH (qP (qL qJ (qL jb (pv 0) (pv 1) (fun _ _ => rfl)) qD (fun _ _ => rfl))))), ?_⟩
  try dsimp only [jT, qi]
  have hl := his.len
  refine ⟨_, rfl, _, _, rfl, rfl, _, rfl, ?_⟩
  by_cases h0 : i < 0
  · rw [decide_eq_true h0]
    have e : qp ms i = "" := by unfold qp; rw [if_pos h0]
    rw [e] at q
    exact qr (qr q)
  rw [decide_eq_false h0]
  refine qm ⟨_, rfl, _, rfl, z, _, rfl, .inl (SqL.of hz), _, _, rfl, rfl, _, rfl, ?_⟩
  by_cases h1 : ((vs.length : Nat) : Int) ≤ i
  · rw [decide_eq_true (show i ≥ ((vs.length : Nat) : Int) from h1)]
    have e : qp ms i = "" := by
      unfold qp
      rw [if_neg h0, List.getElem?_eq_none (by omega)]
    rw [e] at q
    exact qr q
  · rw [decide_eq_false (show ¬ i ≥ ((vs.length : Nat) : Int) from h1)]
    refine qm ?_
    have hi : i.toNat < ms.length := by omega
    have hm : ms[i.toNat]? = some ms[i.toNat] := List.getElem?_eq_getElem hi
    obtain ⟨v, hv, hI⟩ := his.get' hm
    obtain ⟨zi, xi, rfl, hzi, q0, _⟩ := hI.opn
    have ei : i = ((i.toNat : Nat) : Int) := by omega
    have hat : atI vs i = some (.ref zi) := by
      rw [ei]; exact jn hv
    have e : qp ms i = ms[i.toNat].wd := qGw hm ei
    rw [e] at q
    exact ⟨_, rfl, _, rfl, z, _, _, _, rfl, rfl, SqL.of hz, hat, zi, xi, _, _, rfl, rfl, SqT.of hzi, q0, q⟩
def w8 : Sp := fun vs H Q _ => ∃ (z : Addr) (ms : List Im) (i : Int), vs = [.ref z, .int i] ∧ Tr H z ms ∧ Q (.int (if qp ms (i - 1) = "mix" then i - 2 else i - 1)) H
theorem kF (T : Tx K mg a) : FnOk P w K mg base CX0 2 a.a_place_ahead a.f_place_ahead ["track", "place"] w8 := by
  refine T.d_place_ahead.F.ok wx (fun vs H Q E h => ?_) (fun cdv A outer s H vs Q E hr h => ?_)
  · obtain ⟨z, ms, i, rfl, _⟩ := h
    rfl
  obtain ⟨z, ms, i, rfl, tT, q⟩ := h
  refine ⟨_, (qH (qP (z7 (qR j4 (qM T.d_kind_at (jZ T) hr rfl (qA (pv 0) (qA (qS j6 (pv 1) qD) qE))) qI (qX _)) (qS j6 (pv 1) qD) (qS j6 (pv 1) qD)))), ?_⟩
  try dsimp only [jT, qi]
  refine ⟨_, rfl, _, rfl, _, _, rfl, rfl, z, ms, _, rfl, tT, rfl, _, rfl, x9 (fun c => ?_) (fun c => ?_)⟩
  · rw [if_pos (by simpa using c)] at q
    exact ⟨_, rfl, _, _, rfl, rfl, q⟩
  · rw [if_neg (by simpa using c)] at q
    exact ⟨_, rfl, _, _, rfl, rfl, q⟩
def nbF (ms : List Im) (t : Int) : Option (Int × Int) := match jt 0 0 ms t with
  | some (i, d) => if d ≠ 0 ∨ (i : Int) = 0 then none else some (if qp ms ((i : Int) - 1) = "mix" then (i : Int) - 2 else (i : Int) - 1, (i : Int))
  | none => none
def cbF (ms : List Im) (t : Int) : Option (Int × Int) := match nbF ms t with
  | some (i, j) => if qp ms i = "clip" ∧ qp ms j = "clip" then some (i, j) else none
  | none => none
def PrR (H : Hp) (Q : VK) (r : Option (Int × Int)) : Prop := match r with
  | none => ∀ H', Same H H' → Q .non H'
  | some (i, j) => ∀ (p : Addr) (H' : Hp), Same H H' → H' p = some (.tup [.int i, .int j]) → Q (.ref p) H'
def vh : Sp := fun vs H Q _ => ∃ (z : Addr) (ms : List Im) (t : Int), vs = [.ref z, .int t] ∧ Tr H z ms ∧ PrR H Q (nbF ms t)
theorem zf (T : Tx K mg a) : FnOk P w K mg base CX0 4 a.a_neighbours_at a.f_neighbours_at ["track", "moment"] vh := by
  refine T.d_neighbours_at.F.ok sc_neighbours_at (fun vs H Q E h => ?_) (fun cdv A outer s H vs Q E hr h => ?_)
  · obtain ⟨z, ms, t, rfl, _⟩ := h
    rfl
  obtain ⟨z, ms, t, rfl, tT, kk⟩ := h
  refine ⟨_, (qG (qU (i := 2) sc_neighbours_at.nd rfl (Or.inl rfl) (qM T.d_item_at (vB T) hr rfl (qA (pv 0) (qA (pv 1) qE))))
      (qG (qj (PW.pt (xA (kU (vW (pv 2))) (xA (qR kA (qL qJ (pv 2) qD (fun _ _ => rfl)) qD (qX _)) (jS (qR j4 (qL qJ (pv 2) qD (fun _ _ => rfl)) qD (qX _)))))) (qH (qP vY)) qV)
      (qH (qP (qK (qA (qM T.d_place_ahead (kF T) hr rfl (qA (pv 0) (qA (qL qJ (pv 2) qD (fun _ _ => rfl)) qE))) (qA (qL qJ (pv 2) qD (fun _ _ => rfl)) qE))))))), ?_⟩
  try dsimp only [jT, qi]
  refine ⟨_, rfl, _, rfl, z, ms, _, rfl, tT, ?_⟩
  unfold nbF at kk
  cases hit : jt 0 0 ms t with
  | none =>
    rw [hit] at kk
    intro H1 e1
    exact ⟨_, rfl, _, rfl, qr (kk H1 e1)⟩
  | some x =>
    obtain ⟨i, d⟩ := x
    rw [hit] at kk
    dsimp only at kk
    intro p H1 e1 hp
    refine ⟨_, rfl, _, rfl, x9 (fun c => absurd c (by simp)) (fun _ => ?_)⟩
    refine (qZ rfl (SqT.of hp) at1 ?_)
    refine ⟨rfl, _, rfl, x9 (fun c => ?_) (fun c => ?_)⟩
    · rw [if_pos (.inl (by simpa using c))] at kk
      exact kk H1 e1
    · refine (qZ rfl (SqT.of hp) at0 ?_)
      refine ⟨rfl, _, rfl, x9 (fun c2 => ?_) (fun c2 => ?_)⟩
      · rw [if_pos (.inr (by simpa using c2))] at kk
        exact kk H1 e1
      · rw [if_neg (fun z => z.elim (fun z => c (by simpa using z)) (fun z => c2 (by simpa using z)))] at kk
        refine ⟨_, rfl, qZ rfl (SqT.of hp) at0 ⟨z, ms, _, rfl, tT.same e1, ?_⟩⟩
        refine (qZ rfl (SqT.of hp) at0 ⟨sL2, fun q hq => ?_⟩)
        exact kk q _ (e1.trans (qC hq _)) qB
def kT : Sp := fun vs H Q _ => ∃ (z : Addr) (ms : List Im) (t : Int), vs = [.ref z, .int t] ∧ Tr H z ms ∧ PrR H Q (cbF ms t)
theorem j5 (T : Tx K mg a) : FnOk P w K mg base CX0 5 a.a_clips_at_border a.f_clips_at_border ["track", "moment"] kT := by
  refine T.d_clips_at_border.F.ok sc_clips_at_border (fun vs H Q E h => ?_) (fun cdv A outer s H vs Q E hr h => ?_)
  · obtain ⟨z, ms, t, rfl, _⟩ := h
    rfl
  obtain ⟨z, ms, t, rfl, tT, kk⟩ := h
  refine ⟨_, (qG (qU (i := 2) sc_clips_at_border.nd rfl (Or.inl rfl) (qM T.d_neighbours_at (zf T) hr rfl (qA (pv 0) (qA (pv 1) qE))))
      (qG (qj (PW.pt (xA (kU (vW (pv 2))) (xA (qR kA (qM T.d_kind_at (jZ T) hr rfl (qA (pv 0) (qA (qL qJ (pv 2) qD (fun _ _ => rfl)) qE))) qI (qX _)) (jS (qR kA (qM T.d_kind_at (jZ T) hr rfl (qA (pv 0) (qA (qL qJ (pv 2) qD (fun _ _ => rfl)) qE))) qI (qX _)))))) (qH (qP vY)) qV)
      (qH (qP (pv 2))))), ?_⟩
  try dsimp only [jT, qi]
  refine ⟨_, rfl, _, rfl, z, ms, _, rfl, tT, ?_⟩
  unfold cbF at kk
  cases hit : nbF ms t with
  | none =>
    rw [hit] at kk
    intro H1 e1
    exact ⟨_, rfl, _, rfl, qr (kk H1 e1)⟩
  | some x =>
    obtain ⟨i, j⟩ := x
    rw [hit] at kk
    dsimp only at kk
    intro p H1 e1 hp
    refine ⟨_, rfl, _, rfl, x9 (fun c => absurd c (by simp)) (fun _ => ?_)⟩
    refine ⟨_, rfl, qZ rfl (SqT.of hp) at0 ⟨z, ms, _, rfl, tT.same e1, ?_⟩⟩
    refine ⟨rfl, _, rfl, x9 (fun c => ?_) (fun c => ?_)⟩
    · rw [if_neg (fun z => absurd c (by simpa using z.1))] at kk
      exact kk H1 e1
    · refine ⟨_, rfl, qZ rfl (SqT.of hp) at1 ⟨z, ms, _, rfl, tT.same e1, ?_⟩⟩
      refine ⟨rfl, _, rfl, x9 (fun c2 => ?_) (fun c2 => ?_)⟩
      · rw [if_neg (fun z => absurd c2 (by simpa using z.2))] at kk
        exact kk H1 e1
      · rw [if_pos ⟨by simpa using c, by simpa using c2⟩] at kk
        exact ⟨_, rfl, kk p H1 e1 hp⟩
def TrsAt (H : Hp) : List (List Im) → List V → Prop
  | [], [] => True
  | ms :: r, v :: vs => (∃ z : Addr, v = .ref z ∧ Tr H z ms) ∧ TrsAt H r vs
  | _, _ => False
theorem TrsAt.same {H H' : Hp} (e : Same H H') : ∀ {ts : List (List Im)} {vs : List V}, TrsAt H ts vs → TrsAt H' ts vs
  | [], [], _ => trivial
  | _ :: _, _ :: _, ⟨⟨z, h1, h2⟩, h⟩ => ⟨⟨z, h1, h2.same e⟩, TrsAt.same e h⟩
  | [], _ :: _, h => h.elim
  | _ :: _, [], h => h.elim
theorem TrsAt.len {H : Hp} : ∀ {ts : List (List Im)} {vs : List V}, TrsAt H ts vs → vs.length = ts.length
  | [], [], _ => rfl
  | _ :: _, _ :: _, h => by rw [List.length_cons, List.length_cons, TrsAt.len h.2]
  | [], _ :: _, h => h.elim
  | _ :: _, [], h => h.elim
theorem TrsAt.get {H : Hp} : ∀ {ts : List (List Im)} {vs : List V} {i : Nat} {v : V}, TrsAt H ts vs → vs[i]? = some v → ∃ (ms : List Im) (z : Addr), ts[i]? = some ms ∧ v = .ref z ∧ Tr H z ms
  | [], [], _, _, _, h => by simp at h
  | ms :: _, u :: _, 0, v, h, e => by
    have e' : u = v := by simpa using e
    subst e'
    obtain ⟨⟨z, h1, h2⟩, _⟩ := h
    exact ⟨ms, z, rfl, h1, h2⟩
  | _ :: _, _ :: _, i + 1, v, h, e => by
    obtain ⟨ms, z, h1, h2⟩ := TrsAt.get (i := i) h.2 (by simpa using e)
    exact ⟨ms, z, by simpa using h1, h2⟩
  | [], _ :: _, _, _, h, _ => h.elim
  | _ :: _, [], _, _, h, _ => h.elim
def TabAt (H : Hp) (v : V) (ts : List (List Im)) : Prop := ∃ (tt tl ti : Addr) (zs : List V), v = .ref tt ∧ H tt = some (.tup [.ref tl, .ref ti]) ∧ H tl = some (.lst zs) ∧ TrsAt H ts zs
theorem TabAt.same {H H' : Hp} (e : Same H H') {v : V} {ts : List (List Im)} (h : TabAt H v ts) : TabAt H' v ts :=
  let ⟨tt, tl, ti, zs, h1, h2, h3, h4⟩ := h; ⟨tt, tl, ti, zs, h1, e _ _ h2, e _ _ h3, h4.same e⟩
theorem qDq {H : Hp} {v : V} {n : Str} {p q r s l : Int} (h : IsI H (.clip n p q r s l) v) : Cp K H v n p q r s l := by
  obtain ⟨z, x, y, h0, hz, hx, hy⟩ := h
  exact ⟨z, x, y, h0, SqT.of hz, SqT.of hx, SqT.of hy⟩
def TabF (H : Hp) (v : V) (ts : List (List Im)) (tie : List Int) : Prop := ∃ (tt tl ti : Addr) (zs : List V), v = .ref tt ∧ H tt = some (.tup [.ref tl, .ref ti]) ∧ H tl = some (.lst zs) ∧ TrsAt H ts zs ∧ H ti = some (.lst (tie.map V.int))
theorem TabF.tab {H : Hp} {v : V} {ts : List (List Im)} {tie : List Int} (h : TabF H v ts tie) : TabAt H v ts := let ⟨tt, tl, ti, zs, h1, h2, h3, h4, _⟩ := h; ⟨tt, tl, ti, zs, h1, h2, h3, h4⟩
theorem TabF.same {H H' : Hp} (e : Same H H') {v : V} {ts : List (List Im)} {tie : List Int} (h : TabF H v ts tie) : TabF H' v ts tie :=
  let ⟨tt, tl, ti, zs, h1, h2, h3, h4, h5⟩ := h; ⟨tt, tl, ti, zs, h1, e _ _ h2, e _ _ h3, h4.same e, e _ _ h5⟩
def qJ7 (ts : List (List Im)) (tie : List Int) : D := .tup [.lst (ts.map fun ms => .lst (ms.map Im.d)), .lst ((tie.map V.int).map D.leaf)]
theorem TrsAt.rep {H : Hp} : ∀ {ts : List (List Im)} {vs : List V}, TrsAt H ts vs → Reps K H (ts.map fun ms => .lst (ms.map Im.d)) vs
  | [], [], _ => by unfold List.map Reps; trivial
  | _ :: _, _ :: _, ⟨⟨z, h1, h2⟩, r⟩ => by unfold List.map Reps; subst h1; exact ⟨h2.rep, r.rep⟩
  | [], _ :: _, h => h.elim
  | _ :: _, [], h => h.elim
theorem TabF.rep {H : Hp} {v : V} {ts : List (List Im)} {tie : List Int} (h : TabF H v ts tie) : Rep K H (qJ7 ts tie) v := by
  obtain ⟨tt, tl, ti, zs, rfl, h2, h3, h4, h5⟩ := h
  unfold qJ7 Rep
  refine ⟨tt, _, rfl, SqT.of h2, ?_⟩
  unfold Reps Reps Reps
  refine ⟨?_, qJi h5, trivial⟩
  unfold Rep
  exact ⟨tl, zs, rfl, SqL.of h3, h4.rep⟩
theorem qE7 : ∀ ts : List (List Im), kI (ts.map fun ms => .lst (ms.map Im.d)) (ts.map fun ms => .lst (ms.map Im.d)) = true
  | [] => by simp [kI]
  | ms :: r => by
    unfold List.map kI
    rw [qE7 r]
    have : eqD (.lst (ms.map Im.d)) (.lst (ms.map Im.d)) = true := by unfold eqD; exact qC1 ms
    rw [this]; rfl
theorem qGi : ∀ ts : List (List Im), vz (ts.map fun ms => .lst (ms.map Im.d)) ≤ 3
  | [] => by simp [vz]
  | ms :: r => by
    have h1 := qGi r
    have h2 : dep (.lst (ms.map Im.d)) ≤ 3 := by have := qJu ms; unfold dep; omega
    unfold List.map vz
    omega
theorem qFb (ts : List (List Im)) (tie : List Int) : eqD (qJ7 ts tie) (qJ7 ts tie) = true ∧ dep (qJ7 ts tie) ≤ 50 := by
  constructor
  · unfold qJ7 eqD kI kI kI
    have h1 : eqD (.lst (ts.map fun ms => .lst (ms.map Im.d))) (.lst (ts.map fun ms => .lst (ms.map Im.d))) = true := by unfold eqD; exact qE7 ts
    have h2 : eqD (.lst ((tie.map V.int).map D.leaf)) (.lst ((tie.map V.int).map D.leaf)) = true := by unfold eqD; exact qEu tie
    rw [h1, h2]; rfl
  · have h1 := qGi ts
    have h2 := wA (tie.map V.int)
    unfold qJ7 dep vz vz vz dep
    omega
theorem qHy {H : Hp} : ∀ {ts : List (List Im)} {vs : List V} {ms : List Im} {z : Addr}, TrsAt H ts vs → Tr H z ms → TrsAt H (ts ++ [ms]) (vs ++ [.ref z])
  | [], [], _, z, _, h => ⟨⟨z, rfl, h⟩, trivial⟩
  | _ :: _, _ :: _, _, _, ⟨h1, h2⟩, h => ⟨h1, qHy h2 h⟩
  | [], _ :: _, _, _, h, _ => h.elim
  | _ :: _, [], _, _, h, _ => h.elim
theorem atN {xs : List V} {i : Int} {n : Nat} (h : xs.length = n) (h0 : 0 ≤ i) (h1 : i < (n : Int)) : ∃ v, atI xs i = some v ∧ v ∈ xs := by
  have hi : i.toNat < xs.length := by omega
  have e : i = ((i.toNat : Nat) : Int) := by omega
  have hat := jn (List.getElem?_eq_getElem hi)
  rw [← e] at hat
  exact ⟨_, hat, List.getElem_mem hi⟩
theorem kX {b : Bool} {A B : Prop} (h : b = false) (q : B) : if b = true then A else B := by subst h; exact q
theorem kL {b : Bool} {A B : Prop} (h : b = true) (q : A) : if b = true then A else B := by subst h; exact q
theorem qBj {H H' : Hp} (s : Same H H') {x : V} {t : Value} (h : qAo K H x t) : qAo K H' x t := by
  cases h with
  | non => exact .non
  | bl x => exact .bl x
  | int i => exact .int i
  | str z => exact .str z
  | flt x => exact .flt x
  | lst e => exact .lst (s _ _ e)
  | frz e => exact .frz (s _ _ e)
  | tup e => exact .tup (s _ _ e)
  | dK e => exact .dK (s _ _ e)
  | dT e => exact .dT (s _ _ e)
  | ins e cl ha hn htk hm => exact .ins (s _ _ e) cl ha hn htk hm
theorem FrB.same {H H' : Hp} (s : Same H H') {x : V} {b : Bool} (h : FrB K H x b) : FrB K H' x b := by
  cases h with
  | no ty e => exact .no (qBj s ty) e
  | len e h => exact .len (s _ _ e) h
  | one e h => exact .one (s _ _ e) (h.same s)
  | two e h => exact .two (s _ _ e) (h.same s)
  | nums e => exact .nums (s _ _ e)
inductive NmB (K : W.Frag) (H : Hp) : V → Bool → Prop where
  | str (z : Str) (h : z.length ≤ 1000) : NmB K H (.str z) (wj z)
  | no {x : V} {t : Value} (ty : qAo K H x t) (e : W.kitOne K t (.type "str") = some false) : NmB K H x false
def qDb (K : W.Frag) : Sp := fun vs H Q _ => ∃ (x : V) (b : Bool), vs = [x] ∧ NmB K H x b ∧ ∀ H', Same H H' → Q (.bl b) H'
theorem vZ (T : Tx K mg a) : FnOk P w K mg base CX0 1 a.a_is_name a.f_is_name ["thing"] (qDb K) := by
  refine T.d_is_name.F.ok qF9 (fun vs H Q E h => ?_) (fun cdv A outer s H vs Q E hr h => ?_)
  · obtain ⟨x, b, rfl, _⟩ := h
    rfl
  obtain ⟨x, b, rfl, hx, kk⟩ := h
  refine ⟨_, (qG (qj (jP (jD (qh jc rfl T.b_isinstance rfl (qA (pv 0) (qA (qCb rfl T.b_str rfl) qE))))) (qH (qP kC)) qV)
      (qG (qj (PW.pt (xA (qR kt (qh vX rfl T.b_len rfl (qA (pv 0) qE)) qD (qX _)) (jS (qR qAu (qh vX rfl T.b_len rfl (qA (pv 0) qE)) (ja (v := .int 8) rfl T.g_LONGEST_NAME ⟨_, rfl⟩) (qX _))))) (qH (qP kC)) qV)
      (qH (qP (qh (qHu rfl) rfl T.b_all rfl (qA (qBi [] [] rfl (qMh (pv 0)) (fun _ _ _ _ => (jO qLy (pv 0) (ja (v := .str "abcdefghijklmnopqrstuvwxyz") rfl T.g_LETTERS ⟨_, rfl⟩) rfl))) qE)))))), ?_⟩
  try dsimp only [jT, qi]
  cases hx with
  | no ty e => exact ⟨_, rfl, _, _, _, false, rfl, ty, ⟨_, .inl ⟨rfl, e⟩⟩, false, rfl, qr (kk H (Same.refl _))⟩
  | str z hz =>
    have hsz : z.length ≤ sizeLine := Nat.le_of_lt (qW hz)
    refine ⟨_, rfl, _, _, _, true, rfl, .str z, ⟨_, .inl ⟨rfl, by kernel_rfl⟩⟩, true, rfl, qm ?_⟩
    refine ⟨_, rfl, z, rfl, hsz, _, _, rfl, rfl, _, rfl, ?_⟩
    by_cases h1 : (z.length : Int) < 1
    · rw [decide_eq_true h1]
      have e : wj z = false := by unfold wj; rw [decide_eq_false (by omega)]; rfl
      have := kk H (Same.refl _)
      rw [e] at this
      exact qr (qr this)
    rw [decide_eq_false h1]
    refine qm ⟨_, rfl, z, rfl, hsz, _, _, rfl, rfl, _, rfl, ?_⟩
    by_cases h2 : (8 : Int) < (z.length : Int)
    · rw [decide_eq_true h2]
      have e : wj z = false := by unfold wj; rw [decide_eq_false (by omega)]; rfl
      have := kk H (Same.refl _)
      rw [e] at this
      exact qr this
    rw [decide_eq_false h2]
    refine qm ?_
    refine ⟨_, rfl, z, rfl, qI5 (fun i acc H' => H' = H ∧ acc = ((z.cps.toList.take i).map qNs).map V.bl) ⟨rfl, rfl⟩ ?_ ?_ ?_⟩
    · rintro i acc H' hi ⟨_, rfl⟩
      rw [List.length_map, List.length_map, List.length_take]
      exact qW (by have : z.cps.size = z.length := rfl; omega)
    · rintro i c acc H' hi hc ⟨rfl, rfl⟩
      refine ⟨_, rfl, _, _, rfl, rfl, Nxt.mk hi ⟨rfl, ?_⟩⟩
      have hc' : z.cps.toList[i]? = some c := by simpa using hc
      rw [List.take_succ, hc', List.map_append, List.map_append]
      rfl
    · rintro acc H' ⟨rfl, rfl⟩ D hD
      refine ⟨D, _, rfl, SqL.of qB, ?_⟩
      have e : ((z.cps.toList.take z.cps.size).map qNs).all id = wj z := by
        rw [List.take_of_length_le (by simp)]
        unfold wj
        rw [decide_eq_true (by omega : 1 ≤ z.length ∧ z.length ≤ 8), Bool.true_and, List.all_map]
        rfl
      rw [e]
      exact kk _ (qC hD _)
inductive LnB (H : Hp) : V → Bool → Prop where
  | int (i : Int) : LnB H (.int i) (decide (1 ≤ i))
  | no {x : V} (h : NoW H x) : LnB H x false
inductive CfB (K : W.Frag) (H : Hp) : V → Bool → Prop where
  | no {x : V} {t : Value} (ty : qAo K H x t) (e : W.kitOne K t (.type "tuple") = some false) : CfB K H x false
  | len {z : Addr} {xs : List V} (e : H z = some (.tup xs)) (h : xs.length ≠ 5) : CfB K H (.ref z) false
  | word {z : Addr} {x0 x1 x2 x3 x4 : V} (e : H z = some (.tup [x0, x1, x2, x3, x4])) (hs : qNr x0 (.str "clip") = true) (hn : x0 ≠ .str "clip") : CfB K H (.ref z) false
  | nm {z : Addr} {x1 x2 x3 x4 : V} (e : H z = some (.tup [.str "clip", x1, x2, x3, x4])) (h : NmB K H x1 false) : CfB K H (.ref z) false
  | st {z : Addr} {x1 x2 x3 x4 : V} (e : H z = some (.tup [.str "clip", x1, x2, x3, x4])) (h1 : NmB K H x1 true) (h2 : FrB K H x2 false) : CfB K H (.ref z) false
  | sp {z : Addr} {x1 x2 x3 x4 : V} (e : H z = some (.tup [.str "clip", x1, x2, x3, x4])) (h1 : NmB K H x1 true) (h2 : FrB K H x2 true) (h3 : FrB K H x3 false) : CfB K H (.ref z) false
  | ln {z : Addr} {x1 x2 x3 x4 : V} {b : Bool} (e : H z = some (.tup [.str "clip", x1, x2, x3, x4])) (h1 : NmB K H x1 true) (h2 : FrB K H x2 true) (h3 : FrB K H x3 true) (h4 : LnB H x4 b) : CfB K H (.ref z) b
theorem LnB.wh {H : Hp} {x : V} {b : Bool} (h : LnB H x b) : (∃ i : Int, x = .int i ∧ b = decide (1 ≤ i)) ∨ (NoW H x ∧ b = false) := by
  cases h with
  | int i => exact .inl ⟨i, rfl, rfl⟩
  | no h => exact .inr ⟨h, rfl⟩
def vi (K : W.Frag) : Sp := fun vs H Q _ => ∃ (v : V) (b : Bool), vs = [v] ∧ CfB K H v b ∧ ∀ H', Same H H' → Q (.bl b) H'
theorem vp (T : Tx K mg a) : FnOk P w K mg base CX0 3 a.a_has_clip_form a.f_has_clip_form ["item"] (vi K) := by
  refine T.d_has_clip_form.F.ok vw (fun vs H Q E h => ?_) (fun cdv A outer s H vs Q E hr h => ?_)
  · obtain ⟨v, b, rfl, _⟩ := h
    rfl
  obtain ⟨v, b, rfl, hv, kk⟩ := h
  refine ⟨_, (qG (qj (PW.pt (xA (jP (jD (qh jc rfl T.b_isinstance rfl (qA (pv 0) (qA (qCb rfl T.b_tuple rfl) qE))))) (jS (qR kA (qh j3 rfl T.b_len rfl (qA (pv 0) qE)) qD (qX _))))) (qH (qP kC)) qV)
      (qG (qj (PW.pt (xA (qR kA (qL qJ (pv 0) qD (fun _ _ => rfl)) qI (qX _)) (jS (jP (jD (qM T.d_is_name (vZ T) hr rfl (qA (qL qJ (pv 0) qD (fun _ _ => rfl)) qE))))))) (qH (qP kC)) qV)
      (qG (qj (PW.pt (xA (jP (jD (qM T.d_is_fraction (kG T) hr rfl (qA (qL qJ (pv 0) qD (fun _ _ => rfl)) qE)))) (jS (jP (jD (qM T.d_is_fraction (kG T) hr rfl (qA (qL qJ (pv 0) qD (fun _ _ => rfl)) qE))))))) (qH (qP kC)) qV)
      (qH (qP (zo (qM T.d_is_whole (qt T) hr rfl (qA (qL qJ (pv 0) qD (fun _ _ => rfl)) qE)) (zl (jO qDh (qL qJ (pv 0) qD (fun _ _ => rfl)) qD (qX _))))))))), ?_⟩
  try dsimp only [jT, qi]
  have five : ∀ {z : Addr} {x1 x2 x3 x4 : V} {H' : Hp}, H z = some (.tup [.str "clip", x1, x2, x3, x4]) → Same H H' → SqT K H' z [.str "clip", x1, x2, x3, x4] := fun e s => SqT.of (s _ _ e)
  cases hv with
  | no ty e => exact ⟨_, rfl, _, _, _, false, rfl, ty, ⟨_, .inl ⟨rfl, e⟩⟩, false, rfl, qr (qr (kk H (Same.refl _)))⟩
  | @len z xs e h =>
    refine ⟨_, rfl, _, _, _, true, rfl, .tup e, ⟨_, .inl ⟨rfl, by kernel_rfl⟩⟩, true, rfl, qm ?_⟩
    refine ⟨_, rfl, _, _, rfl, .inr (SqT.of e), rfl, _, rfl, ?_⟩
    have d : (!decide (V.int (xs.length : Int) = V.int 5)) = true := by
      have : ¬ (V.int (xs.length : Int) = V.int 5) := fun z => h (by injection z with z; omega)
      simp [this]
    rw [d]
    exact qr (kk H (Same.refl _))
  | @word z x0 x1 x2 x3 x4 e hs hn =>
    refine ⟨_, rfl, _, _, _, true, rfl, .tup e, ⟨_, .inl ⟨rfl, by kernel_rfl⟩⟩, true, rfl, qm ?_⟩
    refine ⟨_, rfl, _, _, rfl, .inr (SqT.of e), rfl, _, rfl, qm ?_⟩
    refine (qZ rfl (SqT.of e) qBy ⟨hs, _, rfl, ?_⟩)
    rw [show (!decide (x0 = V.str "clip")) = true by simp [hn]]
    exact qr (qr (kk H (Same.refl _)))
  | @nm z x1 x2 x3 x4 e h =>
    refine ⟨_, rfl, _, _, _, true, rfl, .tup e, ⟨_, .inl ⟨rfl, by kernel_rfl⟩⟩, true, rfl, qm ?_⟩
    refine ⟨_, rfl, _, _, rfl, .inr (SqT.of e), rfl, _, rfl, qm ?_⟩
    refine (qZ rfl (SqT.of e) qBy ⟨rfl, _, rfl, qGk rfl ?_⟩)
    exact (qZ rfl (SqT.of e) vt ⟨x1, false, rfl, h, fun H1 s1 => ⟨false, rfl, qr (kk H1 s1)⟩⟩)
  | @st z x1 x2 x3 x4 e h1 h2 =>
    refine ⟨_, rfl, _, _, _, true, rfl, .tup e, ⟨_, .inl ⟨rfl, by kernel_rfl⟩⟩, true, rfl, qm ?_⟩
    refine ⟨_, rfl, _, _, rfl, .inr (SqT.of e), rfl, _, rfl, qm ?_⟩
    refine (qZ rfl (SqT.of e) qBy ⟨rfl, _, rfl, qGk rfl ?_⟩)
    refine (qZ rfl (SqT.of e) vt ⟨x1, true, rfl, h1, fun H1 s1 => ⟨true, rfl, qm ?_⟩⟩)
    exact ⟨_, rfl, _, _, _, _, rfl, rfl, five e s1, qG3, x2, false, rfl, h2.same s1, false, rfl, qr (qr (kk H1 s1))⟩
  | @sp z x1 x2 x3 x4 e h1 h2 h3 =>
    refine ⟨_, rfl, _, _, _, true, rfl, .tup e, ⟨_, .inl ⟨rfl, by kernel_rfl⟩⟩, true, rfl, qm ?_⟩
    refine ⟨_, rfl, _, _, rfl, .inr (SqT.of e), rfl, _, rfl, qm ?_⟩
    refine (qZ rfl (SqT.of e) qBy ⟨rfl, _, rfl, qGk rfl ?_⟩)
    refine (qZ rfl (SqT.of e) vt ⟨x1, true, rfl, h1, fun H1 s1 => ⟨true, rfl, qm ?_⟩⟩)
    refine ⟨_, rfl, _, _, _, _, rfl, rfl, five e s1, qG3, x2, true, rfl, h2.same s1, true, rfl, qm ?_⟩
    exact ⟨_, rfl, _, _, _, _, rfl, rfl, five e s1, qCa, x3, false, rfl, h3.same s1, false, rfl, qr (kk H1 s1)⟩
  | @ln z x1 x2 x3 x4 b e h1 h2 h3 h4 =>
    refine ⟨_, rfl, _, _, _, true, rfl, .tup e, ⟨_, .inl ⟨rfl, by kernel_rfl⟩⟩, true, rfl, qm ?_⟩
    refine ⟨_, rfl, _, _, rfl, .inr (SqT.of e), rfl, _, rfl, qm ?_⟩
    refine (qZ rfl (SqT.of e) qBy ⟨rfl, _, rfl, qGk rfl ?_⟩)
    refine (qZ rfl (SqT.of e) vt ⟨x1, true, rfl, h1, fun H1 s1 => ⟨true, rfl, qm ?_⟩⟩)
    refine ⟨_, rfl, _, _, _, _, rfl, rfl, five e s1, qG3, x2, true, rfl, h2.same s1, true, rfl, qm ?_⟩
    refine ⟨_, rfl, _, _, _, _, rfl, rfl, five e s1, qCa, x3, true, rfl, h3.same s1, true, rfl, qm ?_⟩
    rcases h4.wh with ⟨i, rfl, rfl⟩ | ⟨h5, rfl⟩
    · refine ⟨_, rfl, _, _, _, _, rfl, rfl, five e s1, wT, _, true, rfl, .int i, true, rfl, qr ?_⟩
      exact ⟨_, rfl, _, _, _, _, rfl, rfl, five e s1, wT, _, _, rfl, rfl, kk H1 s1⟩
    · exact ⟨_, rfl, _, _, _, _, rfl, rfl, five e s1, wT, x4, false, rfl, .no (h5.same s1), false, rfl, qm (kk H1 s1)⟩
structure GF (n : Str) (p q r s len : Int) : Prop where
  hn : wj n = true
  hl : n.length ≤ 1000
  hb : Bn 700 p q r s
  gq : Int.gcd p q = 1
  gs : Int.gcd r s = 1
  l1 : 1 ≤ len
  bl : len.natAbs < 2 ^ 30
theorem Ch.form {H : Hp} {z : Addr} {n : Str} {p q r s len : Int} (h : Ch H z n p q r s len) (g : GF n p q r s len) : CfB K H (.ref z) true := by
  obtain ⟨z1, z2, e0, e1, e2⟩ := h.ex
  have d1 : (decide (1 ≤ q) && decide (Int.gcd p q = 1)) = true := by have := g.hb.q0; rw [g.gq]; simp; omega
  have d2 : (decide (1 ≤ s) && decide (Int.gcd r s = 1)) = true := by have := g.hb.s0; rw [g.gs]; simp; omega
  have d3 : decide (1 ≤ len) = true := decide_eq_true g.l1
  have f0 := NmB.str (K := K) (H := H) n g.hl
  have f1 := FrB.nums (K := K) e1
  have f2 := FrB.nums (K := K) e2
  have f3 := LnB.int (H := H) len
  rw [g.hn] at f0
  rw [d1] at f1
  rw [d2] at f2
  rw [d3] at f3
  exact .ln e0 f0 f1 f2 f3
inductive ItB (K : W.Frag) (H : Hp) : V → Addr → Bool → Prop where
  | form {v : V} {rd : Addr} (h : CfB K H v false) : ItB K H v rd false
  | reel {z rd : Addr} {kvs : List (Key × V)} {n : Str} {p q r s len : Int} (hc : Ch H z n p q r s len) (g : GF n p q r s len) (hk : H rd = some (.dK kvs)) (hv : qDf kvs (Sum.inr n) = none) : ItB K H (.ref z) rd false
  | pics {z rd : Addr} {n : Str} {p q r s len m : Int} {b : Bool} (hc : Ch H z n p q r s len) (g : GF n p q r s len) (hr : Reel H rd n m) (hb : b = true ↔ InR (Vk p q r s 0) (q * s) m ∧ InR (Vk p q r s (len - 1)) (q * s) m) : ItB K H (.ref z) rd b
def wz (K : W.Frag) (N : Addr) : Sp := fun vs H Q E => ∃ (v : V) (rd : Addr) (b : Bool), vs = [v, .ref rd] ∧ ItB K H v rd b ∧ (b = true → ∀ H', Same H H' → Q .non H') ∧ (b = false → ∀ H', Same H H' → E (.ref N) none H')
theorem ww (T : Tx K mg a) : FnOk P w K mg base (CXR P w) 6 a.a_check_clip a.f_check_clip ["item", "reels"] (wz K a.k_NoClip) := by
  refine okX T.d_check_clip.F sc_check_clip (fun vs H Q E h => ?_) (fun cdv A outer s H vs Q E hr h => ?_)
  · obtain ⟨v, rd, b, rfl, _⟩ := h
    rfl
  obtain ⟨v, rd, b, rfl, hv, kg, kb⟩ := h
  have hu1 := qHv hr
  refine ⟨_, (qG (qj (jP (jD (qM T.d_has_clip_form (vp T) hr rfl (qA (pv 0) qE)))) (qH (jE rfl rfl T.c_NoClip T.x_NoClip (qA qI qE))) qV)
      (qG (qj (kU (qHq hu1 (qL qJ (pv 0) qD (fun _ _ => rfl)) (pv 1))) (qH (jE rfl rfl T.c_NoClip T.x_NoClip (qA qI qE))) qV)
      (qG (qU (i := 2) sc_check_clip.nd rfl (Or.inl rfl) (qDk hu1 (pv 1) (qL qJ (pv 0) qD (fun _ _ => rfl)) (fun _ _ => rfl)))
      (qH (qj (PW.pt (xA (jP (jD (qM T.d_is_there (kJ T) hr rfl (qA (qM T.d_picture_at (kn T) hr rfl (qA (pv 0) (qA qD qE))) (qA (pv 2) qE))))) (jS (jP (jD (qM T.d_is_there (kJ T) hr rfl (qA (qM T.d_picture_at (kn T) hr rfl (qA (pv 0) (qA (qS j6 (qL qJ (pv 0) qD (fun _ _ => rfl)) qD) qE))) (qA (pv 2) qE)))))))) (qH (jE rfl rfl T.c_NoClip T.x_NoClip (qA qI qE))) qV))))), ?_⟩
  try dsimp only [jT, qi]
  have one : (1 : Nat) ≤ sizeLine := by decide
  cases hv with
  | form h => exact ⟨_, rfl, v, false, rfl, h, fun H1 s1 => ⟨false, rfl, qr ⟨one, kb rfl H1 s1⟩⟩⟩
  | @reel z rd kvs n p q r s' len hc g hk hv =>
    refine ⟨_, rfl, _, true, rfl, hc.form g, fun H1 s1 => ⟨true, rfl, qm ?_⟩⟩
    obtain ⟨z1, z2, e0, _, _⟩ := (hc.same s1).ex
    have t1 : SqT K H1 z [.str "clip", .str n, .ref z1, .ref z2, .int len] := SqT.of e0
    refine ⟨_, rfl, z, _, _, _, rfl, rfl, t1, vt, _, rfl, rd, none, rfl, .inl ⟨kvs, Sum.inr n, .inl (s1 _ _ hk), rfl, hv.symm⟩, _, rfl, qr ?_⟩
    exact ⟨one, kb rfl H1 s1⟩
  | @pics z rd n p q r s' len m b hc g hrd hb =>
    have hqs := Int.mul_pos g.hb.q0 g.hb.s0
    have h0 : ∀ {H' : Hp}, Same H H' → ∃ z1 z2, SqT K H' z [.str "clip", .str n, .ref z1, .ref z2, .int len] := fun e => let ⟨z1, z2, h1, _, _⟩ := (hc.same e).ex; ⟨z1, z2, SqT.of h1⟩
    refine ⟨_, rfl, _, true, rfl, hc.form g, fun H1 s1 => ⟨true, rfl, qm ?_⟩⟩
    obtain ⟨z1, z2, t1⟩ := h0 s1
    refine ⟨_, rfl, z, _, _, _, rfl, rfl, t1, vt, _, rfl, rd, _, rfl, (hrd.same s1).get, _, rfl, qm ?_⟩
    refine ⟨_, rfl, _, rfl, z, _, _, _, rfl, rfl, t1, vt, rd, _, rfl, (hrd.same s1).get, ?_⟩
    refine ⟨_, rfl, _, n, p, q, r, s', len, 0, rfl, (hc.same s1).cp, g.hb.q0, g.hb.s0, g.hb.bp, g.hb.bq, g.hb.br, g.hb.bs, ke (n := 30) (by decide), fun H2 s2 => ?_⟩
    have s2 := s1.trans s2
    refine ⟨_, rfl, _, m, rfl, _, rfl, ?_⟩
    have no : ∀ k : Int, ¬ InR (Vk p q r s' k) (q * s') m → thB ((p * s' + k * r * q).fdiv (q * s')) m = false := fun k i0 => by
      rw [Bool.eq_false_iff]
      intro z
      exact i0 ((qD0 hqs).mp z)
    by_cases i0 : InR (Vk p q r s' 0) (q * s') m
    rotate_left
    · rw [no 0 i0]
      have bf : b = false := by rw [Bool.eq_false_iff]; intro z; exact i0 (hb.mp z).1
      exact qr (qr ⟨one, kb bf H2 s2⟩)
    have e : thB ((p * s' + 0 * r * q).fdiv (q * s')) m = true := (qD0 hqs).mpr i0
    rw [e]
    refine qm ?_
    obtain ⟨z1, z2, t2⟩ := h0 s2
    have bl1 : (len - 1).natAbs < 2 ^ 700 := by
      have e : (2 : Nat) ^ 30 ≤ 2 ^ 700 := Nat.pow_le_pow_right (by decide) (by decide)
      have := g.bl
      have := g.l1
      omega
    refine ⟨_, rfl, _, rfl, z, _, _, _, rfl, rfl, t2, wT, _, _, rfl, rfl, _, n, p, q, r, s', len, len - 1, rfl, (hc.same s2).cp, g.hb.q0, g.hb.s0, g.hb.bp, g.hb.bq, g.hb.br, g.hb.bs, bl1, fun H3 s3 => ?_⟩
    have s3 := s2.trans s3
    refine ⟨_, rfl, _, m, rfl, _, rfl, ?_⟩
    by_cases i1 : InR (Vk p q r s' (len - 1)) (q * s') m
    · have e : thB ((p * s' + (len - 1) * r * q).fdiv (q * s')) m = true := (qD0 hqs).mpr i1
      rw [e]
      exact qm (kg (hb.mpr ⟨i0, i1⟩) H3 s3)
    · rw [no _ i1]
      have bf : b = false := by rw [Bool.eq_false_iff]; intro z; exact i1 (hb.mp z).2
      exact qr ⟨one, kb bf H3 s3⟩
abbrev Rls := Str → Option Int
def ReelsAt (H : Hp) (rd : Addr) (rl : Rls) : Prop := ∀ n N, rl n = some N → Reel H rd n N
theorem ReelsAt.same {H H' : Hp} {rd : Addr} {rl : Rls} (e : Same H H') (h : ReelsAt H rd rl) : ReelsAt H' rd rl := fun n N q => (h n N q).same e
theorem qA9 (T : Tx K mg a) : FnOk P w K mg base CX0 1 a.fi_Short a.gi_Short ["self", "most"] (qEh a.k_Short "most") := by
  refine T.i_Short.ok qG9 (fun vs H Q E h => ?_) (fun cdv A outer s H vs Q E hr h => ?_)
  · obtain ⟨e, v, rfl, _⟩ := h
    rfl
  obtain ⟨e, v, rfl, he, kk⟩ := h
  refine ⟨_, qH (qK4 (pv 0) (pv 1)), ?_⟩
  exact ⟨_, rfl, _, rfl, e, _, _, rfl, he, T.m_Short.ov, T.m_Short.hd, T.m_Short.sa, T.tk_Short, kk⟩
inductive Nu (H : Hp) : V → Option Int → Prop where
  | int (i : Int) : Nu H (.int i) (some i)
  | no {x : V} (h : NoW H x) : Nu H x none
theorem Nu.same {H H' : Hp} (s : Same H H') {x : V} {o : Option Int} : Nu H x o → Nu H' x o
  | .int i => .int i
  | .no h => .no (h.same s)
def vA (L : Nat) (n t : Option Int) : Bool := match n, t with
  | some i, some m => decide (0 ≤ i) && decide (i < L) && decide (0 ≤ m)
  | _, _ => false
def wU (N : Addr) : Sp := fun vs H Q E => ∃ (tz tl td : Addr) (zs : List V) (n t : V) (on ot : Option Int), vs = [.ref tz, n, t] ∧ H tz = some (.tup [.ref tl, .ref td]) ∧ H tl = some (.lst zs) ∧ Nu H n on ∧ Nu H t ot ∧
  (vA zs.length on ot = false → E (.ref N) none H) ∧ (vA zs.length on ot = true → Q .non H)
theorem zm (T : Tx K mg a) : FnOk P w K mg base (CXR P w) 2 a.a_check_place a.f_check_place ["table", "number", "moment"] (wU a.k_NoPlace) := by
  refine okX T.d_check_place.F qAb (fun vs H Q E h => ?_) (fun cdv A outer s H vs Q E hr h => ?_)
  · obtain ⟨tz, tl, td, zs, n, t, on, ot, rfl, _⟩ := h
    rfl
  obtain ⟨tz, tl, td, zs, n, t, on, ot, rfl, htz, htl, hn, ht, kb, kg⟩ := h
  refine ⟨_, (qG (qj (PW.pt (xA (jP (jD (qM T.d_is_whole (qt T) hr rfl (qA (pv 1) qE)))) (xA (qR kt (pv 1) qD (qX _)) (jS (qR qDh (pv 1) (qh j3 rfl T.b_len rfl (qA (qL qJ (pv 0) qD (fun _ _ => rfl)) qE)) (qX _)))))) (qH (jE rfl rfl T.c_NoPlace T.x_NoPlace (qA qI qE))) qV)
      (qH (qj (PW.pt (xA (jP (jD (qM T.d_is_whole (qt T) hr rfl (qA (pv 2) qE)))) (jS (qR kt (pv 2) qD (qX _))))) (qH (jE rfl rfl T.c_NoPlace T.x_NoPlace (qA qI qE))) qV))), ?_⟩
  try dsimp only [jT, qi]
  have one : (1 : Nat) ≤ sizeLine := by decide
  cases hn with
  | no h =>
    have kb := kb (by unfold vA; cases ot <;> rfl)
    exact ⟨_, rfl, n, false, rfl, .no h, false, rfl, qr (qr ⟨one, kb⟩)⟩
  | int n =>
  refine ⟨_, rfl, _, true, rfl, .int n, true, rfl, qm ?_⟩
  refine ⟨_, rfl, _, _, rfl, rfl, _, rfl, x9 (fun c => ?_) (fun c => ?_)⟩
  · have hc : n < 0 := by simpa using c
    have kb := kb (by
      unfold vA
      cases ot with
      | none => rfl
      | some m => dsimp only; rw [decide_eq_false (show ¬ 0 ≤ n by omega)]; rfl)
    exact qr ⟨one, kb⟩
  have h0 : ¬ n < 0 := by simpa using c
  refine ⟨_, rfl, qZ rfl (SqT.of htz) at0 ⟨tl, _, rfl, .inl (SqL.of htl), _, _, rfl, rfl, _, rfl, x9 (fun c => ?_) (fun c => ?_)⟩⟩
  · have hc : (zs.length : Int) ≤ n := by simpa using c
    have kb := kb (by
      unfold vA
      cases ot with
      | none => rfl
      | some m => dsimp only; rw [decide_eq_false (show ¬ n < zs.length by omega), Bool.and_false]; rfl)
    exact ⟨one, kb⟩
  have h1 : ¬ (zs.length : Int) ≤ n := by simpa using c
  cases ht with
  | no h =>
    have kb := kb rfl
    exact ⟨_, rfl, t, false, rfl, .no h, false, rfl, qr (qr ⟨one, kb⟩)⟩
  | int m =>
  refine ⟨_, rfl, _, true, rfl, .int m, true, rfl, qm ?_⟩
  have e : vA zs.length (some n) (some m) = decide (0 ≤ m) := by
    unfold vA
    dsimp only
    rw [decide_eq_true (show 0 ≤ n by omega), decide_eq_true (show n < zs.length by omega)]
    rfl
  rw [e] at kb kg
  refine ⟨_, rfl, _, _, rfl, rfl, _, rfl, x9 (fun c => ?_) (fun c => ?_)⟩
  · have hc : m < 0 := by simpa using c
    exact ⟨one, kb (decide_eq_false (by omega))⟩
  · have hc : ¬ m < 0 := by simpa using c
    exact kg (decide_eq_true (by omega))
def byB (b : Option Int) : Bool := match b with
  | some i => decide (i.natAbs ≤ 1000000)
  | none => false
def qBu (N : Addr) : Sp := fun vs H Q E => ∃ (b : V) (ob : Option Int), vs = [b] ∧ Nu H b ob ∧ (byB ob = false → E (.ref N) none H) ∧ (byB ob = true → Q .non H)
theorem qCh (T : Tx K mg a) : FnOk P w K mg base (CXR P w) 2 a.a_check_by a.f_check_by ["by"] (qBu a.k_NoPlace) := by
  refine okX T.d_check_by.F qEk (fun vs H Q E h => ?_) (fun cdv A outer s H vs Q E hr h => ?_)
  · obtain ⟨b, ob, rfl, _⟩ := h
    rfl
  obtain ⟨b, ob, rfl, hb, kb, kg⟩ := h
  refine ⟨_, (qH (qj (PW.pt (xA (jP (jD (qM T.d_is_whole (qt T) hr rfl (qA (pv 0) qE)))) (jS (qR qAu (qh qBe rfl T.b_abs rfl (qA (pv 0) qE)) (ja (v := .int 1000000) rfl T.g_MOST_BY ⟨_, rfl⟩) (qX _))))) (qH (jE rfl rfl T.c_NoPlace T.x_NoPlace (qA qI qE))) qV)), ?_⟩
  try dsimp only [jT, qi]
  have one : (1 : Nat) ≤ sizeLine := by decide
  cases hb with
  | no h => exact ⟨_, rfl, b, false, rfl, .no h, false, rfl, qr (qr ⟨one, kb rfl⟩)⟩
  | int b =>
  refine ⟨_, rfl, _, true, rfl, .int b, true, rfl, qm ?_⟩
  refine ⟨_, rfl, b, rfl, _, _, rfl, rfl, _, rfl, x9 (fun c => ?_) (fun c => ?_)⟩
  · have hc : (if b < 0 then -b else b) > 1000000 := by simpa using c
    exact ⟨one, kb (decide_eq_false (by split at hc <;> omega))⟩
  · have hc : ¬ (if b < 0 then -b else b) > 1000000 := by simpa using c
    exact kg (decide_eq_true (by split at hc <;> omega))
def hmB (ms : List Im) (i : Int) : Bool := decide (qp ms (i - 1) = "mix") || decide (qp ms (i + 1) = "mix")
def qFz : Sp := fun vs H Q _ => ∃ (z : Addr) (ms : List Im) (i : Int), vs = [.ref z, .int i] ∧ Tr H z ms ∧ Q (.bl (hmB ms i)) H
theorem qFe (T : Tx K mg a) : FnOk P w K mg base CX0 2 a.a_has_mix a.f_has_mix ["track", "place"] qFz := by
  refine T.d_has_mix.F.ok qFn (fun vs H Q E h => ?_) (fun cdv A outer s H vs Q E hr h => ?_)
  · obtain ⟨z, ms, i, rfl, _⟩ := h
    rfl
  obtain ⟨z, ms, i, rfl, tT, q⟩ := h
  refine ⟨_, (qH (qP (qLo (jO j4 (qM T.d_kind_at (jZ T) hr rfl (qA (pv 0) (qA (qS j6 (pv 1) qD) qE))) qI (qX _)) (zl (jO j4 (qM T.d_kind_at (jZ T) hr rfl (qA (pv 0) (qA (qS qc (pv 1) qD) qE))) qI (qX _)))))), ?_⟩
  try dsimp only [jT, qi]
  refine ⟨_, rfl, _, rfl, _, _, rfl, rfl, z, ms, _, rfl, tT, rfl, _, rfl, ?_⟩
  unfold hmB at q
  rw [qLs]
  by_cases h1 : qp ms (i - 1) = "mix"
  · rw [decide_eq_true h1] at q ⊢
    exact qr q
  rw [decide_eq_false h1] at q ⊢
  refine qm ⟨_, rfl, _, rfl, _, _, rfl, rfl, z, ms, _, rfl, tT, rfl, ?_⟩
  rw [qLs]
  exact q
def qDe (b : Int) : Int := if b < 0 then -b else b
def wY (S : Addr) : Sp := fun vs H Q E => ∃ m b : Int, vs = [.int m, .int b] ∧ (qDe b ≤ m → Q .non H) ∧ (¬ qDe b ≤ m → ∀ (dx : Addr) (v : V) (H' : Hp), Same H H' → H' dx = some (.xd [("most", v)]) → E (.ref S) (some dx) H')
theorem zr (T : Tx K mg a) : FnOk P w K mg base (CXR P w) 3 a.a_check_short a.f_check_short ["most", "by"] (wY a.k_Short) := by
  refine okX T.d_check_short.F wu (fun vs H Q E h => ?_) (fun cdv A outer s H vs Q E hr h => ?_)
  · obtain ⟨m, b, rfl, _⟩ := h
    rfl
  obtain ⟨m, b, rfl, kg, kb⟩ := h
  refine ⟨_, (qH (qj (qR qAu (qh qBe rfl T.b_abs rfl (qA (pv 1) qE)) (pv 0) (qX _)) (qH (qHb T.m_Short (qA9 T) T.ib_Short (hr.mono (by decide)) rfl rfl T.c_Short (qA (z7 (qR qAu (pv 1) qD (qX _)) (pv 0) (vd zk (pv 0))) qE))) qV)), ?_⟩
  try dsimp only [jT, qi]
  refine ⟨_, rfl, b, rfl, _, rfl, _, _, rfl, rfl, _, rfl, x9 (fun c => ?_) (fun c => ?_)⟩
  · have c' : ¬ qDe b ≤ m := by
      have : (if b < 0 then -b else b) > m := by simpa using c
      unfold qDe
      omega
    refine ⟨_, rfl, _, _, rfl, rfl, _, rfl, x9 (fun _ => ?_) (fun _ => ?_)⟩
    · exact ⟨_, rfl, _, rfl, fun dx hdx => kb c' dx _ _ (qC hdx _) qB⟩
    · exact ⟨_, rfl, _, rfl, _, rfl, fun dx hdx => kb c' dx _ _ (qC hdx _) qB⟩
  · refine kg ?_
    have : ¬ (if b < 0 then -b else b) > m := by simpa using c
    unfold qDe
    omega
def qCl (K : W.Frag) : Sp := fun vs H Q _ => ∃ (v : V) (n : Str) (p q r s len lo hi : Int), vs = [v, .int lo, .int hi] ∧ IsI H (.clip n p q r s len) v ∧ Bn 700 p q r s ∧ lo.natAbs < 2 ^ 700 ∧
  ∀ (u : V) (H' : Hp), Same H H' → IsI H' (.clip n (plP p q r s lo) (plQ p q r s lo) r s (hi - lo)) u → Q u H'
theorem zC (T : Tx K mg a) : FnOk P w K mg base CX0 5 a.a_clip_part a.f_clip_part ["clip", "low", "high"] (qCl K) := by
  refine T.d_clip_part.F.ok qCx (fun vs H Q E h => ?_) (fun cdv A outer s H vs Q E hr h => ?_)
  · obtain ⟨v, n, p, q, r, s, len, lo, hi, rfl, _⟩ := h
    rfl
  obtain ⟨v, n, p, q, r, s', len, lo, hi, rfl, hI, ⟨hq, hs, bp, bq, br, bs⟩, bl, kk⟩ := h
  refine ⟨_, (qH (qP (qK (qA qI (qA (qL qJ (pv 0) qD (fun _ _ => rfl)) (qA (qM T.d_place_at (xz T) hr rfl (qA (pv 0) (qA (pv 1) qE))) (qA (qL qJ (pv 0) qD (fun _ _ => rfl)) (qA (qS j6 (pv 2) (pv 1)) qE)))))))), ?_⟩
  try dsimp only [jT, qi]
  obtain ⟨z, z1, z2, rfl, h0, h1, h2⟩ := id hI
  refine (qZ rfl (SqT.of h0) vt ⟨_, rfl, _, rfl, _, n, p, q, r, s', len, lo, rfl, qDq hI, hq, hs, bp, bq, br, bs, bl, fun y H1 s1 e1 => ?_⟩)
  refine (qZ rfl (SqT.of (s1 _ _ h0)) qCa ⟨_, rfl, _, rfl, _, _, rfl, rfl, sL5, fun t ht => ?_⟩)
  have s2 := qC ht (.tup [.str "clip", .str n, .ref y, .ref z2, .int (hi - lo)])
  exact kk _ _ (s1.trans s2) ⟨t, y, z2, rfl, qB, s2 _ _ e1, s2 _ _ (s1 _ _ h2)⟩
def vk (p q r s l N : Int) : Int := qC3 (plP p q r s l * s) (1 * r * plQ p q r s l) (plQ p q r s l * s) N
def vx (p q r s N : Int) : Int := qC3 (plP p q r s (-1) * s) (-1 * r * plQ p q r s (-1)) (plQ p q r s (-1) * s) N
structure Rc (n : Str) (p q r s l : Int) (rl : Rls) (N : Int) : Prop where
  g1 : Good 110 p q
  g2 : Good 110 r s
  bl : l.natAbs < 2 ^ 30
  l1 : 1 ≤ l
  rn : rl n = some N
  bN : N.natAbs < 2 ^ 700
theorem Rc.bn {n : Str} {p q r s l N : Int} {rl : Rls} (h : Rc n p q r s l rl N) : Bn 110 p q r s := ⟨h.g1.1, h.g2.1, h.g1.2.2.1, h.g1.2.2.2, h.g2.2.2.1, h.g2.2.2.2⟩
def qFj (b tl hd l l' : Int) : Int := if 0 < b then (if l' - 1 < tl then l' - 1 else tl) else (if hd < l - 1 then hd else l - 1)
def qBt (K : W.Frag) : Sp := fun vs H Q _ => ∃ (v u : V) (b : Int) (rd : Addr) (rl : Rls) (n n' : Str) (p q r s l N p' q' r' s' l' N' : Int), vs = [v, u, .int b, .ref rd] ∧ IsI H (.clip n p q r s l) v ∧ IsI H (.clip n' p' q' r' s' l') u ∧
  Rc n p q r s l rl N ∧ Rc n' p' q' r' s' l' rl N' ∧ ReelsAt H rd rl ∧ ∀ H', Same H H' → Q (.int (qFj b (vk p q r s l N) (vx p' q' r' s' N') l l')) H'
theorem qC2 (T : Tx K mg a) : FnOk P w K mg base CX0 6 a.a_most_roll a.f_most_roll ["left", "right", "by", "reels"] (qBt K) := by
  refine T.d_most_roll.F.ok qCo (fun vs H Q E h => ?_) (fun cdv A outer s H vs Q E hr h => ?_)
  · obtain ⟨v, u, b, rd, rl, n, n', p, q, r, s, l, N, p', q', r', s', l', N', rfl, _⟩ := h
    rfl
  obtain ⟨v, u, b, rd, rl, n, n', p, q, r, s1, l, N, p', q', r', s2, l', N', rfl, hv, hu, c1, c2, hrl, kk⟩ := h
  refine ⟨_, (qG (qj (qR qAu (pv 2) qD (qX _)) (qH (qP (qh (kY rfl) rfl T.b_min rfl (qA (qM T.d_tail_room (vQ T) hr rfl (qA (pv 0) (qA (pv 3) qE))) (qA (qS j6 (qL qJ (pv 1) qD (fun _ _ => rfl)) qD) qE))))) qV)
      (qH (qP (qh (kY rfl) rfl T.b_min rfl (qA (qS j6 (qL qJ (pv 0) qD (fun _ _ => rfl)) qD) (qA (qM T.d_head_room (vS T) hr rfl (qA (pv 1) (qA (pv 3) qE))) qE)))))), ?_⟩
  try dsimp only [jT, qi]
  unfold qFj at kk
  refine ⟨_, rfl, _, _, rfl, rfl, _, rfl, x9 (fun c => ?_) (fun c => ?_)⟩
  · rw [if_pos (by simpa using c)] at kk
    obtain ⟨zu, xu, yu, rfl, hzu, _⟩ := id hu
    refine ⟨_, rfl, _, rfl, v, n, p, q, r, s1, l, N, rd, rfl, qDq hv, c1.g1, c1.g2, c1.bl, hrl _ _ c1.rn, c1.bN, fun H1 e1 => ?_⟩
    exact (qZ rfl (SqT.of (e1 _ _ hzu)) wT ⟨_, _, rfl, rfl, _, _, rfl, kk H1 e1⟩)
  · rw [if_neg (by simpa using c)] at kk
    obtain ⟨zv, xv, yv, rfl, hzv, _⟩ := id hv
    refine (qZ rfl (SqT.of hzv) wT ⟨_, _, rfl, rfl, ?_⟩)
    refine ⟨_, rfl, _, rfl, u, n', p', q', r', s2, l', N', rd, rfl, qDq hu, c2.g1, c2.g2, hrl _ _ c2.rn, c2.bN, fun H1 e1 => ?_⟩
    exact ⟨_, _, rfl, kk H1 e1⟩
theorem IsIs.set {H : Hp} : ∀ {ms : List Im} {vs : List V} {i : Nat} {m : Im} {v : V}, IsIs H ms vs → IsI H m v → IsIs H (ms.set i m) (vs.set i v)
  | [], [], _, _, _, _, _ => trivial
  | _ :: _, _ :: _, 0, _, _, h, h' => ⟨h', h.2⟩
  | _ :: _, _ :: _, _ + 1, _, _, h, h' => ⟨h.1, h.2.set h'⟩
  | [], _ :: _, _, _, _, h, _ => h.elim
  | _ :: _, [], _, _, _, h, _ => h.elim
theorem qBp {n i : Nat} (h : i < n) : ixN n (i : Int) = some i := by
  unfold ixN
  rw [if_pos (by omega), if_pos (by omega)]
  congr 1
def qM0 (ms : List Im) (i j : Nat) (b : Int) (n : Str) (p q r s l : Int) (n' : Str) (p' q' r' s' l' : Int) : List Im := (ms.set i (.clip n p q r s (l + b))).set j (.clip n' (plP p' q' r' s' b) (plQ p' q' r' s' b) r' s' (l' - b))
def kD (S : Addr) : Sp := fun vs H Q E => ∃ (z rd : Addr) (ms : List Im) (i j : Nat) (b : Int) (rl : Rls) (n n' : Str) (p q r s l N p' q' r' s' l' N' : Int), vs = [.ref z, .int (i : Int), .int (j : Int), .int b, .ref rd] ∧ Tr H z ms ∧ ms.length ≤ 300 ∧
  ms[i]? = some (.clip n p q r s l) ∧ ms[j]? = some (.clip n' p' q' r' s' l') ∧ Rc n p q r s l rl N ∧ Rc n' p' q' r' s' l' rl N' ∧ ReelsAt H rd rl ∧ b.natAbs ≤ 1000000 ∧
  (qDe b ≤ qFj b (vk p q r s l N) (vx p' q' r' s' N') l l' → ∀ (y : Addr) (H' : Hp), Same H H' → H y = none → Tr H' y (qM0 ms i j b n p q r s l n' p' q' r' s' l') → Q (.ref y) H') ∧
  (¬ qDe b ≤ qFj b (vk p q r s l N) (vx p' q' r' s' N') l l' → ∀ (dx : Addr) (v : V) (H' : Hp), Same H H' → H' dx = some (.xd [("most", v)]) → E (.ref S) (some dx) H')
theorem kB (T : Tx K mg a) : FnOk P w K mg base (CXR P w) 7 a.a_with_rolled_ends a.f_with_rolled_ends ["track", "first", "last", "by", "reels"] (kD a.k_Short) := by
  refine okX T.d_with_rolled_ends.F sc_with_rolled_ends (fun vs H Q E h => ?_) (fun cdv A outer s H vs Q E hr h => ?_)
  · obtain ⟨z, rd, ms, i, j, b, rl, n, n', p, q, r, s, l, N, p', q', r', s', l', N', rfl, _⟩ := h
    rfl
  obtain ⟨z, rd, ms, i, j, b, rl, n, n', p, q, r, s1, l, N, p', q', r', s2, l', N', rfl, tT, hln, hi, hj, c1, c2, hrl, hb, kg, kb⟩ := h
  refine ⟨_, (qG (qU (i := 5) sc_with_rolled_ends.nd rfl (Or.inl rfl) (qL jb (pv 0) (pv 1) (fun _ _ => rfl)))
      (qG (qU (i := 6) sc_with_rolled_ends.nd rfl (Or.inl rfl) (qL jb (pv 0) (pv 2) (fun _ _ => rfl)))
      (qG (jN (jo T.d_check_short (zr T) hr rfl (qA (qM T.d_most_roll (qC2 T) hr rfl (qA (pv 5) (qA (pv 6) (qA (pv 3) (qA (pv 4) qE))))) (qA (pv 3) qE))))
      (qG (qU (i := 7) sc_with_rolled_ends.nd rfl (Or.inl rfl) (kj zA rfl T.b_list rfl (qA (pv 0) qE)))
      (qG (qEp (qM T.d_clip_part (zC T) hr rfl (qA (pv 5) (qA qD (qA (qS qc (qL qJ (pv 5) qD (fun _ _ => rfl)) (pv 3)) qE)))) (qE1 (pv 7) (pv 1) v0))
      (qG (qEp (qM T.d_clip_part (zC T) hr rfl (qA (pv 6) (qA (pv 3) (qA (qL qJ (pv 6) qD (fun _ _ => rfl)) qE)))) (qE1 (pv 7) (pv 2) v0))
      (qH (qP (pv 7))))))))), ?_⟩
  try dsimp only [jT, qi]
  obtain ⟨vs, hz, his⟩ := id tT
  obtain ⟨va, hva, Ia⟩ := his.get' hi
  obtain ⟨vb, hvb, Ib⟩ := his.get' hj
  have hlv := his.len
  have li : i < vs.length := (glt hva)
  have lj : j < vs.length := (glt hvb)
  refine ⟨_, rfl, _, rfl, z, _, _, _, rfl, rfl, SqL.of hz, jn hva, ?_⟩
  refine ⟨_, rfl, _, rfl, z, _, _, _, rfl, rfl, SqL.of hz, jn hvb, ?_⟩
  refine ⟨_, rfl, _, rfl, _, rfl, _, rfl, va, vb, b, rd, rl, n, n', p, q, r, s1, l, N, p', q', r', s2, l', N', rfl, Ia, Ib, c1, c2, hrl, fun H1 e1 => ?_⟩
  refine ⟨_, rfl, _, b, rfl, fun hc => ?_, fun hc dx v H' e' hdx => kb hc dx v H' (e1.trans e') hdx⟩
  refine ⟨_, rfl, z, vs, rfl, .inl (SqL.of (e1 _ _ hz)), fun y hy => ?_⟩
  have w2 := qC hy (.lst vs)
  have e2 := e1.trans w2
  have hy0 : H y = none := by
    cases q0 : H y with
    | none => rfl
    | some o => rw [e1 _ _ q0] at hy; cases hy
  obtain ⟨za, xa, ya, rfl, hza, hxa, hya⟩ := id Ia
  have b1 := c1.bn.mono (m := 700)
  have b2 := c2.bn.mono (m := 700)
  have bb7 : b.natAbs < 2 ^ 700 := Nat.lt_of_le_of_lt hb (by decide)
  have hy2 : upd H1 y (.lst vs) y = some (.lst vs) := qB
  generalize upd H1 y (.lst vs) = H2 at w2 e2 hy2 ⊢
  refine ⟨_, rfl, qZ rfl (SqT.of (e2 _ _ hza)) wT ⟨_, rfl, _, _, rfl, rfl, _, n, p, q, r, s1, l, 0, _, rfl, Ia.ts (qk e2), b1, by decide, fun u H3 e3 I3 => ?_⟩⟩
  rw [(qGp c1.bn.q0 c1.bn.s0 c1.g1.2.1).1, (qGp c1.bn.q0 c1.bn.s0 c1.g1.2.1).2, Int.sub_zero] at I3
  refine ⟨_, rfl, _, rfl, y, vs, _, i, rfl, rfl, e3 _ _ hy2, qBp li, ?_⟩
  have e4 : Same H (upd H3 y (.lst (vs.set i u))) := jR (e2.trans e3) hy0
  have t4 : TS H3 (upd H3 y (.lst (vs.set i u))) := zE (e3 _ _ hy2)
  have hy4 : upd H3 y (.lst (vs.set i u)) y = some (.lst (vs.set i u)) := qB
  have I4 := I3.ts t4
  have is4 := (his.ts (qk e4)).set (i := i) I4
  generalize upd H3 y (.lst (vs.set i u)) = H4 at e4 hy4 I4 is4 ⊢
  obtain ⟨zb, xb, yb, rfl, hzb, hxb, hyb⟩ := id Ib
  refine ⟨_, rfl, _, rfl, qZ rfl (SqT.of (e4 _ _ hzb)) wT ⟨_, n', p', q', r', s2, l', b, _, rfl, Ib.ts (qk e4), b2, bb7, fun u' H5 e5 I5 => ?_⟩⟩
  refine ⟨_, rfl, _, rfl, y, _, _, j, rfl, rfl, e5 _ _ hy4, qBp (by rw [List.length_set]; exact lj), ?_⟩
  have e6 : Same H (upd H5 y (.lst ((vs.set i u).set j u'))) := jR (e4.trans e5) hy0
  have t6 : TS H5 (upd H5 y (.lst ((vs.set i u).set j u'))) := zE (e5 _ _ hy4)
  exact ⟨_, rfl, kg hc y _ e6 hy0 ⟨_, qB, ((is4.ts (qk e5)).ts t6).set (I5.ts t6)⟩⟩
structure NewTab (H H' : Hp) (t : Addr) (ts : List (List Im)) (tie : List Int) : Prop where
  ex : ∃ (tl ti : Addr) (zs : List V), H' t = some (.tup [.ref tl, .ref ti]) ∧ H' tl = some (.lst zs) ∧ TrsAt H' ts zs ∧ H' ti = some (.lst (tie.map V.int)) ∧ H tl = none ∧ H ti = none ∧ tl ≠ ti ∧ ∀ b, V.ref b ∈ zs → H b = none ∧ b ≠ tl ∧ b ≠ ti
theorem NewTab.tab {H H' : Hp} {t : Addr} {ts : List (List Im)} {tie : List Int} (h : NewTab H H' t ts tie) : TabF H' (.ref t) ts tie := let ⟨tl, ti, zs, h1, h2, h3, h4, _⟩ := h.ex; ⟨t, tl, ti, zs, rfl, h1, h2, h3, h4⟩
theorem TrsAt.set {H : Hp} : ∀ {ts : List (List Im)} {vs : List V} {i : Nat} {ms : List Im} {z : Addr}, TrsAt H ts vs → Tr H z ms → TrsAt H (ts.set i ms) (vs.set i (.ref z))
  | [], [], _, _, _, _, _ => trivial
  | _ :: _, _ :: _, 0, _, z, h, h' => ⟨⟨z, rfl, h'⟩, h.2⟩
  | _ :: _, _ :: _, _ + 1, _, _, h, h' => ⟨h.1, h.2.set h'⟩
  | [], _ :: _, _, _, _, h, _ => h.elim
  | _ :: _, [], _, _, _, h, _ => h.elim
theorem TrsAt.refs {H : Hp} : ∀ {ts : List (List Im)} {vs : List V} {b : Addr}, TrsAt H ts vs → V.ref b ∈ vs → ∃ xs, H b = some (.lst xs)
  | [], [], _, _, h => by simp at h
  | _ :: _, _ :: _, b, ⟨⟨z, h1, ⟨xs, h2, _⟩⟩, r⟩, h => by
    rcases List.mem_cons.mp h with h | h
    · rw [h1] at h
      cases h
      exact ⟨xs, h2⟩
    · exact TrsAt.refs r h
  | [], _ :: _, _, h, _ => h.elim
  | _ :: _, [], _, h, _ => h.elim
def qA3 : Sp := fun vs H Q _ => ∃ (tz y : Addr) (n : Nat) (ts : List (List Im)) (tie : List Int) (ms : List Im), vs = [.ref tz, .int (n : Int), .ref y] ∧ TabF H (.ref tz) ts tie ∧ Tr H y ms ∧ n < ts.length ∧ ts.length ≤ 300 ∧
  ∀ (t : Addr) (H' : Hp), Same H H' → (∀ H0 : Hp, Same H0 H → H0 y = none → NewTab H0 H' t (ts.set n ms) tie) → Q (.ref t) H'
theorem xf (T : Tx K mg a) : FnOk P w K mg base CX0 1 a.a_table_with a.f_table_with ["table", "number", "track"] qA3 := by
  refine T.d_table_with.F.ok sc_table_with (fun vs H Q E h => ?_) (fun cdv A outer s H vs Q E hr h => ?_)
  · obtain ⟨tz, y, n, ts, tie, ms, rfl, _⟩ := h
    rfl
  obtain ⟨tz, y, n, ts, tie, ms, rfl, ⟨tt, tl, ti, zs, e0, h2, h3, h4, h5⟩, hy, hn, hl, kk⟩ := h
  cases e0
  have hzl := h4.len
  refine ⟨_, (qG (qHh (i := 3) [] [] sc_table_with.nd rfl rfl rfl (xW (qL qJ (pv 0) qD (fun _ _ => rfl))) (fun _ _ _ _ => (kj (qBc (K := K) rfl) rfl T.b_list rfl (qA (pv 0) qE))))
      (qG (qEp (pv 2) (qE1 (pv 3) (pv 1) v0))
      (qH (qP (qK (qA (pv 3) (qA (kj zA rfl T.b_list rfl (qA (qL qJ (pv 0) qD (fun _ _ => rfl)) qE)) qE))))))), ?_⟩
  try dsimp only [jT, qi]
  refine (qZ rfl (SqT.of h2) at0 ⟨tl, rfl, ⟨_, SqL.of h3⟩, ki (K := K) (a := tl) (xs := zs) (fun j acc H2 => TrsAt H2 (ts.take j) acc ∧ Same H H2 ∧ ∀ b, V.ref b ∈ acc → H b = none) ⟨trivial, Same.refl _, fun b z => absurd z (by simp)⟩ ?_ ?_ ?_⟩)
  · rintro j acc H2 hj ⟨ht, e2, _⟩
    exact ⟨SqL.of (e2 _ _ h3), qW (by rw [ht.len, List.length_take]; omega)⟩
  · rintro j x acc H2 hj hx ⟨ht, e2, fr⟩
    obtain ⟨ms1, z, hms, rfl, us, hz, his⟩ := h4.get hx
    refine ⟨_, rfl, z, us, rfl, .inl (SqL.of (e2 _ _ hz)), fun l hl' => Nxt.mk hj ⟨?_, e2.trans (qC hl' _), fun b hb => ?_⟩⟩
    · have w3 := qC hl' (.lst us)
      have etk : ts.take (j + 1) = ts.take j ++ [ms1] := by rw [List.take_add_one, hms]; rfl
      rw [etk]
      exact qHy (ht.same w3) ⟨us, qB, his.ts (qk (e2.trans w3))⟩
    · rcases List.mem_append.mp hb with hb | hb
      · exact fr b hb
      · have : b = l := by simpa using hb
        subst this
        cases q0 : H b with
        | none => rfl
        | some o => rw [e2 _ _ q0] at hl'; cases hl'
  rintro acc H2 ⟨ht, e2, fr⟩ d hd
  rw [hzl, List.take_length] at ht
  have hal := ht.len
  have w3 := qC hd (.lst acc)
  have e3 := e2.trans w3
  have hd0 : H d = none := by
    cases q0 : H d with
    | none => rfl
    | some o => rw [e2 _ _ q0] at hd; cases hd
  refine ⟨_, rfl, _, rfl, _, rfl, d, acc, _, n, rfl, rfl, qB, qBp (by rw [hal]; exact hn), ?_⟩
  have uu : upd (upd H2 d (.lst acc)) d (.lst (acc.set n (.ref y))) = upd H2 d (.lst (acc.set n (.ref y))) := by
    funext b
    by_cases hb : b = d
    · rw [hb, qB, qB]
    · rw [qd hb, qd hb, qd hb]
  rw [uu]
  have w4 := qC hd (.lst (acc.set n (.ref y)))
  have e4 := e2.trans w4
  have hd4 : upd H2 d (.lst (acc.set n (.ref y))) d = some (.lst (acc.set n (.ref y))) := qB
  have ht4 : TrsAt (upd H2 d (.lst (acc.set n (.ref y)))) (ts.set n ms) (acc.set n (.ref y)) := (ht.same w4).set (hy.same e4)
  have nd : ∀ b, V.ref b ∈ acc → b ≠ d := fun b hb z => by
    obtain ⟨xs, q0⟩ := ht.refs hb
    rw [z, hd] at q0; cases q0
  have ny : y ≠ d := fun z => by
    obtain ⟨us, q0, _⟩ := id hy
    rw [z, hd0] at q0; cases q0
  generalize upd H2 d (.lst (acc.set n (.ref y))) = H4 at w4 e4 hd4 ht4 ⊢
  refine ⟨_, rfl, qZ rfl (SqT.of (e4 _ _ h2)) at1 ⟨ti, _, rfl, .inl (SqL.of (e4 _ _ h5)), fun l hl' => ?_⟩⟩
  have w5 := qC hl' (.lst (tie.map V.int))
  have e5 := e4.trans w5
  refine ⟨sL2, fun t ht' => ?_⟩
  have w6 := qC ht' (.tup [.ref d, .ref l])
  refine kk t _ (e5.trans w6) fun H0 s0 y0 => ?_
  have back : ∀ b, H b = none → H0 b = none := fun b hb => by
    cases q0 : H0 b with
    | none => rfl
    | some o => rw [s0 _ _ q0] at hb; cases hb
  have hl0 : H l = none := by
    cases q0 : H l with
    | none => rfl
    | some o => rw [e4 _ _ q0] at hl'; cases hl'
  have dl : d ≠ l := fun z => by rw [← z, hd4] at hl'; cases hl'
  refine ⟨d, l, _, qB, w6 _ _ (w5 _ _ hd4), (ht4.same w5).same w6, w6 _ _ qB, back _ hd0, back _ hl0, dl, fun b hb => ?_⟩
  obtain ⟨xs, q0⟩ := ht4.refs hb
  have bl : b ≠ l := fun z => by rw [z, hl'] at q0; cases q0
  rcases List.mem_or_eq_of_mem_set hb with hb | hb
  · exact ⟨back _ (fr b hb), nd b hb, bl⟩
  · cases hb
    exact ⟨y0, ny, bl⟩
theorem qA7 {x0 x1 x2 x3 : V} : atI [x0, x1, x2, x3] 0 = some x0 := rfl
theorem qGh {x0 x1 x2 x3 : V} : atI [x0, x1, x2, x3] 1 = some x1 := rfl
theorem qCd {x0 x1 x2 x3 : V} : atI [x0, x1, x2, x3] 2 = some x2 := rfl
theorem wy {x0 x1 x2 x3 : V} : atI [x0, x1, x2, x3] 3 = some x3 := rfl
theorem qI0 {x0 : V} : atI [x0] 0 = some x0 := rfl
def wg : Sp := fun vs H Q _ => ∃ (z : Addr) (ms : List Im) (i : Int), vs = [.ref z, .int i] ∧ Tr H z ms ∧ Q (.int (if qp ms (i + 1) = "mix" then i + 2 else i + 1)) H
theorem wM (T : Tx K mg a) : FnOk P w K mg base CX0 2 a.a_place_behind a.f_place_behind ["track", "place"] wg := by
  refine T.d_place_behind.F.ok wR (fun vs H Q E h => ?_) (fun cdv A outer s H vs Q E hr h => ?_)
  · obtain ⟨z, ms, i, rfl, _⟩ := h
    rfl
  obtain ⟨z, ms, i, rfl, tT, q⟩ := h
  refine ⟨_, (qH (qP (z7 (qR j4 (qM T.d_kind_at (jZ T) hr rfl (qA (pv 0) (qA (qS qc (pv 1) qD) qE))) qI (qX _)) (qS qc (pv 1) qD) (qS qc (pv 1) qD)))), ?_⟩
  try dsimp only [jT, qi]
  refine ⟨_, rfl, _, rfl, _, _, rfl, rfl, z, ms, _, rfl, tT, rfl, _, rfl, x9 (fun c => ?_) (fun c => ?_)⟩
  · rw [if_pos (by simpa using c)] at q
    exact ⟨_, rfl, _, _, rfl, rfl, q⟩
  · rw [if_neg (by simpa using c)] at q
    exact ⟨_, rfl, _, _, rfl, rfl, q⟩
def qB2 (K : W.Frag) : Sp := fun vs H Q _ => ∃ (v : V) (b : Int) (rd : Addr) (rl : Rls) (n : Str) (p q r s l N : Int), vs = [v, .int b, .ref rd] ∧ IsI H (.clip n p q r s l) v ∧ Rc n p q r s l rl N ∧ ReelsAt H rd rl ∧ ∀ H', Same H H' → Q (.int (if 0 < b then vk p q r s l N else vx p q r s N)) H'
theorem qC8 (T : Tx K mg a) : FnOk P w K mg base CX0 6 a.a_most_slip a.f_most_slip ["clip", "by", "reels"] (qB2 K) := by
  refine T.d_most_slip.F.ok qB7 (fun vs H Q E h => ?_) (fun cdv A outer s H vs Q E hr h => ?_)
  · obtain ⟨v, b, rd, rl, n, p, q, r, s, l, N, rfl, _⟩ := h
    rfl
  obtain ⟨v, b, rd, rl, n, p, q, r, s1, l, N, rfl, hv, c1, hrl, kk⟩ := h
  refine ⟨_, (qH (qP (z7 (qR qAu (pv 1) qD (qX _)) (qM T.d_tail_room (vQ T) hr rfl (qA (pv 0) (qA (pv 2) qE))) (qM T.d_head_room (vS T) hr rfl (qA (pv 0) (qA (pv 2) qE)))))), ?_⟩
  try dsimp only [jT, qi]
  refine ⟨_, rfl, _, _, rfl, rfl, _, rfl, x9 (fun c => ?_) (fun c => ?_)⟩
  · refine ⟨_, rfl, _, rfl, v, n, p, q, r, s1, l, N, rd, rfl, qDq hv, c1.g1, c1.g2, c1.bl, hrl _ _ c1.rn, c1.bN, fun H1 e1 => ?_⟩
    have := kk H1 e1
    rw [if_pos (by simpa using c)] at this
    exact this
  · refine ⟨_, rfl, _, rfl, v, n, p, q, r, s1, l, N, rd, rfl, qDq hv, c1.g1, c1.g2, hrl _ _ c1.rn, c1.bN, fun H1 e1 => ?_⟩
    have := kk H1 e1
    rw [if_neg (by simpa using c)] at this
    exact this
def qEg (S : Addr) : Sp := fun vs H Q E => ∃ (z rd : Addr) (ms : List Im) (i : Nat) (b : Int) (rl : Rls) (n : Str) (p q r s l N : Int), vs = [.ref z, .int (i : Int), .int b, .ref rd] ∧ Tr H z ms ∧ ms.length ≤ 300 ∧
  ms[i]? = some (.clip n p q r s l) ∧ Rc n p q r s l rl N ∧ ReelsAt H rd rl ∧ b.natAbs ≤ 1000000 ∧
  (qDe b ≤ (if 0 < b then vk p q r s l N else vx p q r s N) → ∀ (y : Addr) (H' : Hp), Same H H' → H y = none → Tr H' y (ms.set i (.clip n (plP p q r s b) (plQ p q r s b) r s l)) → Q (.ref y) H') ∧
  (¬ qDe b ≤ (if 0 < b then vk p q r s l N else vx p q r s N) → ∀ (dx : Addr) (v : V) (H' : Hp), Same H H' → H' dx = some (.xd [("most", v)]) → E (.ref S) (some dx) H')
theorem qD2 (T : Tx K mg a) : FnOk P w K mg base (CXR P w) 7 a.a_slipped a.f_slipped ["track", "place", "by", "reels"] (qEg a.k_Short) := by
  refine okX T.d_slipped.F sc_slipped (fun vs H Q E h => ?_) (fun cdv A outer s H vs Q E hr h => ?_)
  · obtain ⟨z, rd, ms, i, b, rl, n, p, q, r, s, l, N, rfl, _⟩ := h
    rfl
  obtain ⟨z, rd, ms, i, b, rl, n, p, q, r, s1, l, N, rfl, tT, hln, hi, c1, hrl, hb, kg, kb⟩ := h
  refine ⟨_, (qG (qU (i := 4) sc_slipped.nd rfl (Or.inl rfl) (qL jb (pv 0) (pv 1) (fun _ _ => rfl)))
      (qG (jN (jo T.d_check_short (zr T) hr rfl (qA (qM T.d_most_slip (qC8 T) hr rfl (qA (pv 4) (qA (pv 2) (qA (pv 3) qE)))) (qA (pv 2) qE))))
      (qG (qU (i := 5) sc_slipped.nd rfl (Or.inl rfl) (kj zA rfl T.b_list rfl (qA (pv 0) qE)))
      (qG (qEp (qM T.d_clip_part (zC T) hr rfl (qA (pv 4) (qA (pv 2) (qA (qS qc (pv 2) (qL qJ (pv 4) qD (fun _ _ => rfl))) qE)))) (qE1 (pv 5) (pv 1) v0))
      (qH (qP (pv 5))))))), ?_⟩
  try dsimp only [jT, qi]
  obtain ⟨vs, hz, his⟩ := id tT
  obtain ⟨va, hva, Ia⟩ := his.get' hi
  have hlv := his.len
  have li : i < vs.length := (glt hva)
  refine ⟨_, rfl, _, rfl, z, _, _, _, rfl, rfl, SqL.of hz, jn hva, ?_⟩
  refine ⟨_, rfl, _, rfl, _, rfl, va, b, rd, rl, n, p, q, r, s1, l, N, rfl, Ia, c1, hrl, fun H1 e1 => ?_⟩
  refine ⟨_, rfl, _, b, rfl, fun hc => ?_, fun hc dx v H' e' hdx => kb hc dx v H' (e1.trans e') hdx⟩
  refine ⟨_, rfl, z, vs, rfl, .inl (SqL.of (e1 _ _ hz)), fun y hy => ?_⟩
  have w2 := qC hy (.lst vs)
  have e2 := e1.trans w2
  have hy0 : H y = none := e1.free hy
  obtain ⟨za, xa, ya, rfl, hza, hxa, hya⟩ := id Ia
  have b1 := c1.bn.mono (m := 700)
  have bb7 : b.natAbs < 2 ^ 700 := Nat.lt_of_le_of_lt hb (by decide)
  have hy2 : upd H1 y (.lst vs) y = some (.lst vs) := qB
  generalize upd H1 y (.lst vs) = H2 at w2 e2 hy2 ⊢
  refine ⟨_, rfl, _, rfl, _, rfl, qZ rfl (SqT.of (e2 _ _ hza)) wT ⟨_, _, rfl, rfl, _, n, p, q, r, s1, l, b, _, rfl, Ia.ts (qk e2), b1, bb7, fun u H3 e3 I3 => ?_⟩⟩
  rw [show b + l - b = l by omega] at I3
  refine ⟨_, rfl, _, rfl, y, vs, _, i, rfl, rfl, e3 _ _ hy2, qBp li, ?_⟩
  have e4 : Same H (upd H3 y (.lst (vs.set i u))) := jR (e2.trans e3) hy0
  have t4 : TS H3 (upd H3 y (.lst (vs.set i u))) := zE (e3 _ _ hy2)
  exact ⟨_, rfl, kg hc y _ e4 hy0 ⟨_, qB, (his.ts (qk e4)).set (i := i) (I3.ts t4)⟩⟩
theorem two : (2 : Nat) ≤ sizeLine := by decide
def Pos (ms : List Im) : Prop := ∀ m ∈ ms, 0 < m.mo ∧ m.wd ≠ "mix"
theorem zq : (3 : Nat) ≤ sizeLine := by decide
theorem zG : (4 : Nat) ≤ sizeLine := by decide
theorem qOc : (1 : Nat) ≤ sizeLine := by decide
def paF (ms : List Im) (i : Int) : Int := if qp ms (i - 1) = "mix" then i - 2 else i - 1
def pbF (ms : List Im) (i : Int) : Int := if qp ms (i + 1) = "mix" then i + 2 else i + 1
def ctF (ms : List Im) (t : Int) : Option Nat := match jt 0 0 ms t with
  | some (i, _) => if qp ms (i : Int) = "clip" then some i else none
  | none => none
def csF (ms : List Im) (t : Int) : Option (List Int) := match ctF ms t with
  | some i => if qp ms (paF ms i) = "clip" ∧ qp ms (pbF ms i) = "clip" then some [paF ms i, (i : Int), pbF ms i] else none
  | none => none
def qMv (H : Hp) (Q : VK) (r : Option (List Int)) : Prop := match r with
  | none => ∀ H', Same H H' → Q .non H'
  | some is => ∀ (p : Addr) (H' : Hp), Same H H' → H' p = some (.tup (is.map V.int)) → Q (.ref p) H'
def plF (wd : Str) (ms : List Im) (t : Int) : Option (List Int) := if wd = "roll" then (cbF ms t).map (fun p => [p.1, p.2]) else if wd = "slip" then (ctF ms t).map (fun i => [(i : Int)]) else csF ms t
def qAt : Sp := fun vs H Q _ => ∃ (z : Addr) (ms : List Im) (t : Int), vs = [.ref z, .int t] ∧ Tr H z ms ∧ qMv H Q ((ctF ms t).map fun i => [(i : Int)])
theorem kh (T : Tx K mg a) : FnOk P w K mg base CX0 4 a.a_clip_there a.f_clip_there ["track", "moment"] qAt := by
  refine T.d_clip_there.F.ok sc_clip_there (fun vs H Q E h => ?_) (fun cdv A outer s H vs Q E hr h => ?_)
  · obtain ⟨z, ms, t, rfl, _⟩ := h
    rfl
  obtain ⟨z, ms, t, rfl, tT, kk⟩ := h
  refine ⟨_, (qG (qU (i := 2) sc_clip_there.nd rfl (Or.inl rfl) (qM T.d_item_at (vB T) hr rfl (qA (pv 0) (qA (pv 1) qE))))
      (qG (qj (PW.pt (xA (kU (vW (pv 2))) (jS (qR kA (qM T.d_kind_at (jZ T) hr rfl (qA (pv 0) (qA (qL qJ (pv 2) qD (fun _ _ => rfl)) qE))) qI (qX _))))) (qH (qP vY)) qV)
      (qH (qP (qK (qA (qL qJ (pv 2) qD (fun _ _ => rfl)) qE)))))), ?_⟩
  try dsimp only [jT, qi]
  refine ⟨_, rfl, _, rfl, z, ms, _, rfl, tT, ?_⟩
  unfold ctF at kk
  cases hit : jt 0 0 ms t with
  | none =>
    rw [hit] at kk
    intro H1 e1
    exact ⟨_, rfl, _, rfl, kL (by decide) (qr (kk H1 e1))⟩
  | some r =>
    obtain ⟨i, d⟩ := r
    rw [hit] at kk
    dsimp only at kk
    intro p H1 e1 hp
    refine ⟨_, rfl, _, rfl, x9 (fun c => absurd c (by simp)) (fun _ => ?_)⟩
    refine ⟨_, rfl, qZ rfl (SqT.of hp) at0 ⟨z, ms, _, rfl, tT.same e1, rfl, _, rfl, x9 (fun c => ?_) (fun c => ?_)⟩⟩
    · have hk : ¬ qp ms (i : Int) = "clip" := by simpa using c
      rw [if_neg hk] at kk
      exact kk H1 e1
    · have hk : qp ms (i : Int) = "clip" := by simpa using c
      rw [if_pos hk] at kk
      refine (qZ rfl (SqT.of hp) at0 ⟨sL1, fun q hq => ?_⟩)
      exact kk q _ (e1.trans (qC hq _)) qB
def vC : Sp := fun vs H Q _ => ∃ (z : Addr) (ms : List Im) (t : Int), vs = [.ref z, .int t] ∧ Tr H z ms ∧ qMv H Q (csF ms t)
theorem vK (T : Tx K mg a) : FnOk P w K mg base CX0 5 a.a_clip_and_sides a.f_clip_and_sides ["track", "moment"] vC := by
  refine T.d_clip_and_sides.F.ok sc_clip_and_sides (fun vs H Q E h => ?_) (fun cdv A outer s H vs Q E hr h => ?_)
  · obtain ⟨z, ms, t, rfl, _⟩ := h
    rfl
  obtain ⟨z, ms, t, rfl, tT, kk⟩ := h
  refine ⟨_, (qG (qU (i := 2) sc_clip_and_sides.nd rfl (Or.inl rfl) (qM T.d_clip_there (kh T) hr rfl (qA (pv 0) (qA (pv 1) qE))))
      (qG (qj (kU (vW (pv 2))) (qH (qP vY)) qV)
      (qG (qU (i := 3) sc_clip_and_sides.nd rfl (Or.inl rfl) (qM T.d_place_ahead (kF T) hr rfl (qA (pv 0) (qA (qL qJ (pv 2) qD (fun _ _ => rfl)) qE))))
      (qG (qU (i := 4) sc_clip_and_sides.nd rfl (Or.inl rfl) (qM T.d_place_behind (wM T) hr rfl (qA (pv 0) (qA (qL qJ (pv 2) qD (fun _ _ => rfl)) qE))))
      (qG (qj (PW.pt (xA (qR kA (qM T.d_kind_at (jZ T) hr rfl (qA (pv 0) (qA (pv 3) qE))) qI (qX _)) (jS (qR kA (qM T.d_kind_at (jZ T) hr rfl (qA (pv 0) (qA (pv 4) qE))) qI (qX _))))) (qH (qP vY)) qV)
      (qH (qP (qK (qA (pv 3) (qA (qL qJ (pv 2) qD (fun _ _ => rfl)) (qA (pv 4) qE))))))))))), ?_⟩
  try dsimp only [jT, qi]
  refine ⟨_, rfl, _, rfl, z, ms, _, rfl, tT, ?_⟩
  unfold csF at kk
  cases hc : ctF ms t with
  | none =>
    rw [hc] at kk
    intro H1 e1
    exact ⟨_, rfl, _, rfl, kL (by decide) (kk H1 e1)⟩
  | some i =>
    rw [hc] at kk
    dsimp only at kk
    unfold paF pbF at kk
    intro p H1 e1 hp1
    refine ⟨_, rfl, _, rfl, x9 (fun c => absurd c (by simp)) (fun _ => ?_)⟩
    refine ⟨_, rfl, qZ rfl (SqT.of hp1) qI0 ⟨z, ms, _, rfl, tT.same e1, ?_⟩⟩
    refine ⟨_, rfl, qZ rfl (SqT.of hp1) qI0 ⟨z, ms, _, rfl, tT.same e1, ?_⟩⟩
    generalize (if qp ms ((i : Int) - 1) = "mix" then (i : Int) - 2 else (i : Int) - 1) = L at kk ⊢
    generalize (if qp ms ((i : Int) + 1) = "mix" then (i : Int) + 2 else (i : Int) + 1) = R at kk ⊢
    refine ⟨_, rfl, _, rfl, z, ms, _, rfl, tT.same e1, rfl, _, rfl, x9 (fun c => ?_) (fun c => ?_)⟩
    · have hk : ¬ qp ms L = "clip" := by simpa using c
      rw [if_neg (fun z => hk z.1)] at kk
      exact qr (kk H1 e1)
    have hk1 : qp ms L = "clip" := by simpa using c
    refine ⟨_, rfl, _, rfl, z, ms, _, rfl, tT.same e1, rfl, _, rfl, x9 (fun c => ?_) (fun c => ?_)⟩
    · have hk : ¬ qp ms R = "clip" := by simpa using c
      rw [if_neg (fun z => hk z.2)] at kk
      exact kk H1 e1
    have hk2 : qp ms R = "clip" := by simpa using c
    rw [if_pos ⟨hk1, hk2⟩] at kk
    refine ⟨_, rfl, qZ rfl (SqT.of hp1) qI0 ⟨_, rfl, sL3, fun q hq => ?_⟩⟩
    exact kk q _ (e1.trans (qC hq _)) qB
def Wd3 (wd : Str) : Prop := wd = "roll" ∨ wd = "slip" ∨ wd = "slide"
def wP : Sp := fun vs H Q _ => ∃ (z dz : Addr) (ms : List Im) (n b : V) (t : Int) (wd : Str), vs = [.ref z, .ref dz] ∧ Tr H z ms ∧ H dz = some (.tup [.str wd, n, .int t, b]) ∧ Wd3 wd ∧ qMv H Q (plF wd ms t)
theorem wO (T : Tx K mg a) : FnOk P w K mg base CX0 6 a.a_places_named a.f_places_named ["track", "deed"] wP := by
  refine T.d_places_named.F.ok wF (fun vs H Q E h => ?_) (fun cdv A outer s H vs Q E hr h => ?_)
  · obtain ⟨z, dz, ms, n, b, t, wd, rfl, _⟩ := h
    rfl
  obtain ⟨z, dz, ms, n, b, t, wd, rfl, tT, hd, hw, kk⟩ := h
  refine ⟨_, (qG (qj (qR j4 (qL qJ (pv 1) qD (fun _ _ => rfl)) qI (qX _)) (qH (qP (qM T.d_clips_at_border (j5 T) hr rfl (qA (pv 0) (qA (qL qJ (pv 1) qD (fun _ _ => rfl)) qE))))) qV)
      (qG (qj (qR j4 (qL qJ (pv 1) qD (fun _ _ => rfl)) qI (qX _)) (qH (qP (qM T.d_clip_there (kh T) hr rfl (qA (pv 0) (qA (qL qJ (pv 1) qD (fun _ _ => rfl)) qE))))) qV)
      (qG (qj (qR j4 (qL qJ (pv 1) qD (fun _ _ => rfl)) qI (qX _)) (qH (qP (qM T.d_clip_and_sides (vK T) hr rfl (qA (pv 0) (qA (qL qJ (pv 1) qD (fun _ _ => rfl)) qE))))) qV)
      (qH (qP vY))))), ?_⟩
  try dsimp only [jT, qi]
  unfold plF at kk
  rcases hw with rfl | rfl | rfl
  · rw [if_pos rfl] at kk
    refine (qZ rfl (SqT.of hd) qA7 ⟨rfl, _, rfl, qr ?_⟩)
    refine ⟨_, rfl, qZ rfl (SqT.of hd) qCd ⟨z, ms, t, rfl, tT, ?_⟩⟩
    cases hc : cbF ms t with
    | none => rw [hc] at kk; exact kk
    | some r => obtain ⟨i, j⟩ := r; rw [hc] at kk; exact kk
  · rw [if_neg (by decide +kernel), if_pos rfl] at kk
    refine (qZ rfl (SqT.of hd) qA7 ⟨rfl, _, rfl, qm ?_⟩)
    refine (qZ rfl (SqT.of hd) qA7 ⟨rfl, _, rfl, qr ?_⟩)
    exact ⟨_, rfl, qZ rfl (SqT.of hd) qCd ⟨z, ms, t, rfl, tT, kk⟩⟩
  · rw [if_neg (by decide +kernel), if_neg (by decide +kernel)] at kk
    refine (qZ rfl (SqT.of hd) qA7 ⟨rfl, _, rfl, qm ?_⟩)
    refine (qZ rfl (SqT.of hd) qA7 ⟨rfl, _, rfl, qm ?_⟩)
    refine (qZ rfl (SqT.of hd) qA7 ⟨rfl, _, rfl, qr ?_⟩)
    exact ⟨_, rfl, qZ rfl (SqT.of hd) qCd ⟨z, ms, t, rfl, tT, kk⟩⟩
def mxF (ms : List Im) : Option (List Int) → Nat
  | none => 0
  | some is => if is.any (hmB ms) = true then 1 else 2
def qAp (ts : List (List Im)) (wd : Str) (n t b : Option Int) : Nat := match n, t, b with
  | some n, some t, some b => if vA ts.length (some n) (some t) = true ∧ byB (some b) = true then mxF (ts.getD n.toNat []) (plF wd (ts.getD n.toNat []) t) else 0
  | _, _, _ => 0
theorem qN7 {ts : List (List Im)} {wd : Str} {n t b : Option Int} (h : (vA ts.length n t && byB b) = false) : qAp ts wd n t b = 0 := by
  unfold qAp
  cases n with
  | none => rfl
  | some n =>
    cases t with
    | none => rfl
    | some t =>
      cases b with
      | none => rfl
      | some b =>
        dsimp only
        rw [if_neg]
        intro z
        rw [z.1, z.2] at h
        cases h
theorem wC {ms : List Im} {x : Int} (h : qp ms x = "clip") : ∃ (i : Nat) (n : Str) (p q r s l : Int), x = (i : Int) ∧ ms[i]? = some (.clip n p q r s l) := by
  unfold qp at h
  split at h
  · exact absurd h (by decide +kernel)
  · rename_i h0
    cases hm : ms[x.toNat]? with
    | none => rw [hm] at h; exact absurd h (by decide +kernel)
    | some m =>
      rw [hm] at h
      dsimp only at h
      cases m with
      | clip n p q r s l => exact ⟨x.toNat, n, p, q, r, s, l, by omega, hm⟩
      | gap => exact absurd (show ("gap" : Str) = "clip" from h) (by decide +kernel)
      | nest => exact absurd (show ("nest" : Str) = "clip" from h) (by decide +kernel)
      | mix => exact absurd (show ("mix" : Str) = "clip" from h) (by decide +kernel)
theorem qJh {wd : Str} {ms : List Im} {t : Int} {is : List Int} (hw : Wd3 wd) (h : plF wd ms t = some is) : (wd = "slip" ∧ ∃ x, is = [x] ∧ qp ms x = "clip") ∨ (wd ≠ "slip" ∧ is.length ≤ 3 ∧ ∃ x y, is.headD 0 = x ∧ is.getLastD 0 = y ∧ atI (is.map V.int) 0 = some (.int x) ∧ atI (is.map V.int) (-1) = some (.int y) ∧ qp ms x = "clip" ∧ qp ms y = "clip") := by
  unfold plF at h
  rcases hw with rfl | rfl | rfl
  · rw [if_pos rfl] at h
    refine .inr ⟨by decide +kernel, ?_⟩
    unfold cbF at h
    cases hn : nbF ms t with
    | none => rw [hn] at h; cases h
    | some r =>
      obtain ⟨i, j⟩ := r
      rw [hn] at h
      dsimp only at h
      split at h
      · rename_i c
        cases h
        exact ⟨by show 2 ≤ 3; decide, i, j, rfl, rfl, rfl, rfl, c.1, c.2⟩
      · cases h
  · rw [if_neg (by decide +kernel), if_pos rfl] at h
    refine .inl ⟨rfl, ?_⟩
    unfold ctF at h
    cases hn : jt 0 0 ms t with
    | none => rw [hn] at h; cases h
    | some r =>
      obtain ⟨i, d⟩ := r
      rw [hn] at h
      dsimp only at h
      split at h
      · rename_i c
        cases h
        exact ⟨_, rfl, c⟩
      · cases h
  · rw [if_neg (by decide +kernel), if_neg (by decide +kernel)] at h
    refine .inr ⟨by decide +kernel, ?_⟩
    unfold csF at h
    cases hn : ctF ms t with
    | none => rw [hn] at h; cases h
    | some i =>
      rw [hn] at h
      dsimp only at h
      split at h
      · rename_i c
        cases h
        exact ⟨by show 3 ≤ 3; decide, _, _, rfl, rfl, rfl, rfl, c.1, c.2⟩
      · cases h
def qAd (ms : List Im) (x : Int) : Im := (ms[x.toNat]?).getD (.gap 0)
def qI8 (rl : Rls) (m : Im) (b : Int) : Int := match m with
  | .clip n p q r s l => (match rl n with
    | some N => if 0 < b then vk p q r s l N else vx p q r s N
    | none => 0)
  | _ => 0
def qJ9 (rl : Rls) (m m' : Im) (b : Int) : Int := match m, m' with
  | .clip n p q r s l, .clip n' p' q' r' s' l' => (match rl n, rl n' with
    | some N, some N' => qFj b (vk p q r s l N) (vx p' q' r' s' N') l l'
    | _, _ => 0)
  | _, _ => 0
def qDw (rl : Rls) (ms : List Im) (wd : Str) (is : List Int) (b : Int) : Prop := qDe b ≤ if wd = "slip" then qI8 rl (qAd ms (is.headD 0)) b else qJ9 rl (qAd ms (is.headD 0)) (qAd ms (is.getLastD 0)) b
def kH (rl : Rls) (ts : List (List Im)) (wd : Str) (n t b : Option Int) : Prop := match n, t, b with
  | some n, some t, some b => qDw rl (ts.getD n.toNat []) wd ((plF wd (ts.getD n.toNat []) t).getD []) b
  | _, _, _ => False
theorem qEo {rl : Rls} {ms : List Im} {i : Nat} {n : Str} {p q r s l N b : Int} (hm : ms[i]? = some (.clip n p q r s l)) (hr : rl n = some N) : qDw rl ms "slip" [(i : Int)] b = (qDe b ≤ if 0 < b then vk p q r s l N else vx p q r s N) := by
  unfold qDw
  rw [if_pos rfl]
  show (qDe b ≤ qI8 rl (qAd ms (i : Int)) b) = _
  unfold qAd
  rw [Int.toNat_natCast, hm]
  show (qDe b ≤ qI8 rl (.clip n p q r s l) b) = _
  unfold qI8
  dsimp only
  rw [hr]
theorem qJg {rl : Rls} {ms : List Im} {wd : Str} {is : List Int} {i j : Nat} {n n' : Str} {p q r s l N p' q' r' s' l' N' b : Int} (hw : wd ≠ "slip") (h0 : is.headD 0 = (i : Int)) (h1 : is.getLastD 0 = (j : Int)) (hm : ms[i]? = some (.clip n p q r s l)) (hm' : ms[j]? = some (.clip n' p' q' r' s' l')) (hr : rl n = some N) (hr' : rl n' = some N') : qDw rl ms wd is b = (qDe b ≤ qFj b (vk p q r s l N) (vx p' q' r' s' N') l l') := by
  unfold qDw
  rw [if_neg hw, h0, h1]
  unfold qAd
  rw [Int.toNat_natCast, Int.toNat_natCast, hm, hm']
  show (qDe b ≤ qJ9 rl (.clip n p q r s l) (.clip n' p' q' r' s' l') b) = _
  unfold qJ9
  dsimp only
  rw [hr, hr']
def ItR (rl : Rls) (m : Im) : Prop := ∀ n p q r s l, m = .clip n p q r s l → ∃ N, Rc n p q r s l rl N
structure RollIn (H : Hp) (tz dz rd : Addr) (ts : List (List Im)) (tie : List Int) (wd : Str) (n t b : V) (on ot ob : Option Int) (rl : Rls) : Prop where
  tab : TabF H (.ref tz) ts tie
  deed : H dz = some (.tup [.str wd, n, t, b])
  hn : Nu H n on
  ht : Nu H t ot
  hb : Nu H b ob
  w3 : Wd3 wd
  tl : ts.length ≤ 300
  it : ∀ ms ∈ ts, ms.length ≤ 300 ∧ ∀ m ∈ ms, ItR rl m
  re : ReelsAt H rd rl
theorem RollIn.same {H H' : Hp} (e : Same H H') {tz dz rd : Addr} {ts : List (List Im)} {tie : List Int} {wd : Str} {n t b : V} {on ot ob : Option Int} {rl : Rls} (h : RollIn H tz dz rd ts tie wd n t b on ot ob rl) : RollIn H' tz dz rd ts tie wd n t b on ot ob rl :=
  ⟨h.tab.same e, e _ _ h.deed, h.hn.same e, h.ht.same e, h.hb.same e, h.w3, h.tl, h.it, h.re.same e⟩
def qAf (N M S : Addr) : Sp := fun vs H Q E => ∃ (tz dz rd : Addr) (ts : List (List Im)) (tie : List Int) (wd : Str) (n t b : V) (on ot ob : Option Int) (rl : Rls), vs = [.ref tz, .ref dz, .ref rd] ∧ RollIn H tz dz rd ts tie wd n t b on ot ob rl ∧
  (qAp ts wd on ot ob = 0 → ∀ H', Same H H' → E (.ref N) none H') ∧ (qAp ts wd on ot ob = 1 → ∀ H', Same H H' → E (.ref M) none H') ∧
  (qAp ts wd on ot ob = 2 → (kH rl ts wd on ot ob → ∀ (y : Addr) (H' : Hp), Same H H' → Q (.ref y) H') ∧ (¬ kH rl ts wd on ot ob → ∀ (dx : Addr) (v : V) (H' : Hp), Same H H' → H' dx = some (.xd [("most", v)]) → E (.ref S) (some dx) H'))
theorem qBv {N M S : Addr} {vs : List V} {H : Hp} {Q : VK} {E : XK} (h : qAf N M S vs H Q E) : vs.length = 3 := by
  obtain ⟨tz, dz, rd, ts, tie, wd, n, t, b, on, ot, ob, rl, rfl, _⟩ := h
  rfl
theorem qFr (T : Tx K mg a) : FnOk P w K mg base (CXR P w) 8 a.a_rolled a.f_rolled ["table", "deed", "reels"] (qAf a.k_NoPlace a.k_Mixed a.k_Short) := by
  refine okX T.d_rolled.F sc_rolled (fun vs H Q E h => qBv h) (fun cdv A outer s H vs Q E hr h => ?_)
  obtain ⟨tz, dz, rd, ts, tie, wd, n, t, b, on, ot, ob, rl, rfl, hI, k0, k1, k2⟩ := h
  refine ⟨_, (qG (jN (jo T.d_check_place (zm T) hr rfl (qA (pv 0) (qA (qL qJ (pv 1) qD (fun _ _ => rfl)) (qA (qL qJ (pv 1) qD (fun _ _ => rfl)) qE)))))
      (qG (jN (jo T.d_check_by (qCh T) hr rfl (qA (qL qJ (pv 1) qD (fun _ _ => rfl)) qE)))
      (qG (qU (i := 3) sc_rolled.nd rfl (Or.inr rfl) (qL jb (qL qJ (pv 0) qD (fun _ _ => rfl)) (qL qJ (pv 1) qD (fun _ _ => rfl)) (fun _ _ => rfl)))
      (qG (qU (i := 4) sc_rolled.nd rfl (Or.inl rfl) (qM T.d_places_named (wO T) hr rfl (qA (pv 3) (qA (pv 1) qE))))
      (qG (qj (kU (vW (pv 4))) (qH (jE rfl rfl T.c_NoPlace T.x_NoPlace (qA qI qE))) qV)
      (qG (qj (jD (qh (qGy rfl) rfl T.b_any rfl (qA (qBi ["track"] [3] rfl (qLt (pv 4)) (fun _ _ _ _ => (qM T.d_has_mix (qFe T) hr rfl (qA (pv 1) (qA (pv 0) qE))))) qE))) (qH (jE rfl rfl T.c_Mixed T.x_Mixed (qA qI qE))) qV)
      (qG (qj (qR j4 (qL qJ (pv 1) qD (fun _ _ => rfl)) qI (qX _)) (qH (qP (qM T.d_table_with (xf T) hr rfl (qA (pv 0) (qA (qL qJ (pv 1) qD (fun _ _ => rfl)) (qA (jo T.d_slipped (qD2 T) hr rfl (qA (pv 3) (qA (qL qJ (pv 4) qD (fun _ _ => rfl)) (qA (qL qJ (pv 1) qD (fun _ _ => rfl)) (qA (pv 2) qE))))) qE)))))) qV)
      (qH (qP (qM T.d_table_with (xf T) hr rfl (qA (pv 0) (qA (qL qJ (pv 1) qD (fun _ _ => rfl)) (qA (jo T.d_with_rolled_ends (kB T) hr rfl (qA (pv 3) (qA (qL qJ (pv 4) qD (fun _ _ => rfl)) (qA (qL qJ (pv 4) (vd zk qD) (fun _ _ => rfl)) (qA (qL qJ (pv 1) qD (fun _ _ => rfl)) (qA (pv 2) qE)))))) qE))))))))))))), ?_⟩
  try dsimp only [jT, qi]
  have one : (1 : Nat) ≤ sizeLine := by decide
  obtain ⟨tt, tl, ti, zs, e0, g2, g3, g4, g5⟩ := id hI.tab
  cases e0
  have hzl := g4.len
  have hd := hI.deed
  refine ⟨_, rfl, qZ rfl (SqT.of hd) qGh (qZ rfl (SqT.of hd) qCd ⟨tz, tl, ti, zs, n, t, on, ot, rfl, g2, g3, hI.hn, hI.ht, fun hf => ?_, fun hp1 => ?_⟩)⟩
  · rw [hzl] at hf
    exact k0 (qN7 (by rw [hf]; rfl)) H (Same.refl _)
  refine (qZ rfl (SqT.of hd) wy ⟨b, ob, rfl, hI.hb, fun hf => ?_, fun hp2 => ?_⟩)
  · exact k0 (qN7 (by rw [hf, Bool.and_false])) H (Same.refl _)
  rw [hzl] at hp1
  obtain ⟨_, _, hn, ht, hb, hw, htl, hit, hre⟩ := id hI
  clear hn ht hb
  have hn := hI.hn
  have ht := hI.ht
  have hb := hI.hb
  clear hI
  cases hn with
  | no h => unfold vA at hp1; cases ot <;> cases hp1
  | int n =>
  cases ht with
  | no h => cases hp1
  | int t =>
  cases hb with
  | no h => cases hp2
  | int b =>
  have ho : qAp ts wd (some n) (some t) (some b) = mxF (ts.getD n.toNat []) (plF wd (ts.getD n.toNat []) t) := by
    unfold qAp
    dsimp only
    rw [if_pos ⟨hp1, hp2⟩]
  rw [ho] at k0 k1 k2
  obtain ⟨nt, rfl, hnt⟩ : ∃ k : Nat, n = (k : Int) ∧ k < ts.length := by
    unfold vA at hp1
    simp only [Bool.and_eq_true, decide_eq_true_eq] at hp1
    exact ⟨n.toNat, by omega, by omega⟩
  have hbb : b.natAbs ≤ 1000000 := by unfold byB at hp2; simpa using hp2
  obtain ⟨ms, hms⟩ : ∃ ms, ts[nt]? = some ms := ⟨_, List.getElem?_eq_getElem hnt⟩
  have egd : ts.getD ((nt : Int)).toNat [] = ms := by rw [Int.toNat_natCast, List.getD_eq_getElem?_getD, hms]; rfl
  rw [egd] at k0 k1 k2
  have hro : kH rl ts wd (some (nt : Int)) (some t) (some b) = qDw rl ms wd ((plF wd ms t).getD []) b := by unfold kH; dsimp only; rw [egd]
  rw [hro] at k2
  clear ho egd hp1 hp2 hro
  obtain ⟨hml, hmi⟩ := hit ms (List.mem_of_getElem? hms)
  have ez : zs[nt]? = some zs[nt] := List.getElem?_eq_getElem (by omega)
  obtain ⟨ms1, z, hms1, ezz, tT⟩ := g4.get ez
  rw [hms] at hms1
  cases hms1
  rw [ezz] at ez
  have hT : TabF H (.ref tz) ts tie := ⟨tz, tl, ti, zs, rfl, g2, g3, g4, g5⟩
  refine (qZ rfl (SqT.of g2) at0 (qZ rfl (SqT.of hd) qGh ⟨tl, _, _, _, rfl, rfl, SqL.of g3, jn ez, ?_⟩))
  refine ⟨_, rfl, _, rfl, z, dz, ms, _, _, t, wd, rfl, tT, hd, hw, ?_⟩
  cases hpl : plF wd ms t with
  | none =>
    rw [hpl] at k0
    intro H1 e1
    exact ⟨_, rfl, _, rfl, kL (by decide) ⟨one, k0 rfl H1 e1⟩⟩
  | some is =>
  rw [hpl] at k1 k2
  rw [Option.getD_some] at k2
  intro pz H1 e1 hpz
  refine ⟨_, rfl, _, rfl, x9 (fun c => absurd c (by simp)) (fun _ => ?_)⟩
  have hends := qJh hw hpl
  have hisl : is.length ≤ 3 := by
    rcases hends with ⟨_, x, rfl, _⟩ | ⟨_, h, _⟩
    · show 1 ≤ 3; decide
    · exact h
  refine ⟨_, rfl, pz, rfl, ⟨_, SqT.of hpz⟩, qJl (K := K) (a := pz) (xs := is.map V.int) (fun j acc H2 => acc = ((is.take j).map (hmB ms)).map V.bl ∧ H2 = H1) ⟨rfl, rfl⟩ ?_ ?_ ?_⟩
  · rintro j acc H2 hj ⟨rfl, rfl⟩
    exact ⟨SqT.of hpz, by rw [List.length_map, List.length_map, List.length_take]; exact qW (by omega)⟩
  · rintro j x acc H2 hj hx ⟨rfl, rfl⟩
    obtain ⟨k, hk, rfl⟩ : ∃ k : Int, is[j]? = some k ∧ x = .int k := by
      rw [List.getElem?_map] at hx
      cases hq : is[j]? with
      | none => rw [hq] at hx; cases hx
      | some k => rw [hq] at hx; cases hx; exact ⟨k, rfl, rfl⟩
    refine ⟨_, rfl, _, rfl, z, ms, k, rfl, tT.same e1, Nxt.mk hj ⟨?_, rfl⟩⟩
    rw [List.take_add_one, hk]
    simp
  rintro acc H2 ⟨rfl, rfl⟩ d hd'
  rw [List.length_map, List.take_length]
  have w2 := qC hd' (.lst ((is.map (hmB ms)).map V.bl))
  have e2 := e1.trans w2
  have hany : (is.map (hmB ms)).any id = is.any (hmB ms) := by rw [List.any_map]; rfl
  refine ⟨d, is.map (hmB ms), rfl, SqL.of qB, ?_⟩
  rw [hany]
  have hpz2 := w2 _ _ hpz
  generalize upd H2 d (.lst ((is.map (hmB ms)).map V.bl)) = H3 at w2 e2 hpz2 ⊢
  have hd3 := e2 _ _ hd
  unfold mxF at k1 k2
  dsimp only at k1 k2
  cases hmx : is.any (hmB ms) with
  | true =>
    rw [hmx] at k1
    exact ⟨true, rfl, qr ⟨one, k1 rfl H3 e2⟩⟩
  | false =>
  rw [hmx] at k2
  obtain ⟨kq, ks⟩ := k2 rfl
  refine ⟨false, rfl, qm ?_⟩
  rcases hends with ⟨rfl, x, rfl, hx⟩ | ⟨hwn, _, x, y, hh0, hl0, hx0, hy0, hx, hy⟩
  · obtain ⟨i, nn, p, q, r, s', l, rfl, hm⟩ := wC hx
    obtain ⟨N, hc⟩ := hmi _ (List.mem_of_getElem? hm) _ _ _ _ _ _ rfl
    rw [qEo hm hc.rn] at kq ks
    refine (qZ rfl (SqT.of hd3) qA7 ⟨rfl, _, rfl, qr ?_⟩)
    refine ⟨_, rfl, qZ rfl (SqT.of hd3) qGh ?_⟩
    refine ⟨_, rfl, qZ rfl (SqT.of hpz2) qI0 (qZ rfl (SqT.of hd3) wy ⟨_, rfl, ?_⟩)⟩
    refine ⟨z, rd, ms, i, b, rl, _, _, _, _, _, _, _, rfl, tT.same e2, hml, hm, hc, hre.same e2, hbb, fun hc y H4 e4 hy tY => ?_, fun hc dx v H4 e4 hdx => ks hc dx v H4 (e2.trans e4) hdx⟩
    refine ⟨tz, y, nt, ts, tie, _, rfl, hT.same (e2.trans e4), tY, hnt, htl, fun t H5 e5 hN => ?_⟩
    exact kq hc t H5 ((e2.trans e4).trans e5)
  · obtain ⟨i, nn, p, q, r, s', l, rfl, hm⟩ := wC hx
    obtain ⟨j, nn', p', q', r', s'', l', rfl, hm'⟩ := wC hy
    obtain ⟨N, hc⟩ := hmi _ (List.mem_of_getElem? hm) _ _ _ _ _ _ rfl
    obtain ⟨N', hc'⟩ := hmi _ (List.mem_of_getElem? hm') _ _ _ _ _ _ rfl
    rw [qJg hwn hh0 hl0 hm hm' hc.rn hc'.rn] at kq ks
    have dw : decide (V.str wd = V.str "slip") = false := by
      rw [qLs]; exact decide_eq_false hwn
    refine (qZ rfl (SqT.of hd3) qA7 ⟨rfl, _, rfl, kX dw ?_⟩)
    refine ⟨_, rfl, qZ rfl (SqT.of hd3) qGh ?_⟩
    refine ⟨_, rfl, _, rfl, pz, _, _, _, rfl, rfl, SqT.of hpz2, hx0, _, rfl, 1, rfl, pz, _, _, _, rfl, rfl, SqT.of hpz2, hy0, qZ rfl (SqT.of hd3) wy ⟨_, rfl, ?_⟩⟩
    refine ⟨z, rd, ms, i, j, b, rl, _, _, _, _, _, _, _, _, _, _, _, _, _, _, rfl, tT.same e2, hml, hm, hm', hc, hc', hre.same e2, hbb, fun hc y H4 e4 hy tY => ?_, fun hc dx v H4 e4 hdx => ks hc dx v H4 (e2.trans e4) hdx⟩
    refine ⟨tz, y, nt, ts, tie, _, rfl, hT.same (e2.trans e4), tY, hnt, htl, fun t H5 e5 hN => ?_⟩
    exact kq hc t H5 ((e2.trans e4).trans e5)
theorem qL0 {w : Str} : inV (.str w) [.str "clip", .str "nest"] = (decide (w = "clip") || decide (w = "nest")) := by
  unfold inV
  rw [Bool.eq_iff_iff]
  simp [eqV]
  constructor
  · rintro (h | h)
    · exact .inl h.symm
    · exact .inr h.symm
  · rintro (h | h)
    · exact .inl h.symm
    · exact .inr h.symm
def ze (ms : List Im) (t : Int) : Bool := match jt 0 0 ms t with
  | some (i, d) => decide (d > 0) && (decide (qp ms (i : Int) = "clip") || decide (qp ms (i : Int) = "nest"))
  | none => false
def wl : Sp := fun vs H Q _ => ∃ (z : Addr) (ms : List Im) (t : Int), vs = [.ref z, .int t] ∧ Tr H z ms ∧ ∀ H', Same H H' → Q (.bl (ze ms t)) H'
theorem wv (T : Tx K mg a) : FnOk P w K mg base CX0 4 a.a_lies_within a.f_lies_within ["track", "moment"] wl := by
  refine T.d_lies_within.F.ok sc_lies_within (fun vs H Q E h => ?_) (fun cdv A outer s H vs Q E hr h => ?_)
  · obtain ⟨z, ms, t, rfl, _⟩ := h
    rfl
  obtain ⟨z, ms, t, rfl, tT, kk⟩ := h
  refine ⟨_, (qG (qU (i := 2) sc_lies_within.nd rfl (Or.inl rfl) (qM T.d_item_at (vB T) hr rfl (qA (pv 0) (qA (pv 1) qE))))
      (qH (qP (zo (qLq (qK8 (pv 2))) (zo (jO qAu (qL qJ (pv 2) qD (fun _ _ => rfl)) qD (qX _)) (zl (jO xx (qM T.d_kind_at (jZ T) hr rfl (qA (pv 0) (qA (qL qJ (pv 2) qD (fun _ _ => rfl)) qE))) (qK (qA qI (qA qI qE))) rfl))))))), ?_⟩
  try dsimp only [jT, qi]
  refine ⟨_, rfl, _, rfl, z, ms, _, rfl, tT, ?_⟩
  unfold ze at kk
  cases hit : jt 0 0 ms t with
  | none =>
    rw [hit] at kk
    intro H1 e1
    exact ⟨_, rfl, _, rfl, qm (kk H1 e1)⟩
  | some x =>
    obtain ⟨i, d⟩ := x
    rw [hit] at kk
    dsimp only at kk
    intro p H1 e1 hp
    refine ⟨_, rfl, _, rfl, qr ?_⟩
    refine (qZ rfl (SqT.of hp) at1 ⟨_, _, rfl, rfl, _, rfl, x9 (fun c => ?_) (fun c => ?_)⟩)
    · have hd : d > 0 := by simpa using c
      rw [decide_eq_true hd, Bool.true_and] at kk
      refine ⟨_, rfl, qZ rfl (SqT.of hp) at0 ⟨z, ms, _, rfl, tT.same e1, sL2, fun q hq => ?_⟩⟩
      have := kk _ (e1.trans (qC hq (.tup [.str "clip", .str "nest"])))
      rw [← qL0] at this
      exact ⟨q, _, rfl, .inr (SqT.of qB), rfl, rfl, this⟩
    · have hd : ¬ d > 0 := by simpa using c
      rw [decide_eq_false hd, Bool.false_and] at kk
      exact kk H1 e1
def qK9 : Im → Int → Int → Im
  | .clip n p q r s _, lo, hi => .clip n (plP p q r s lo) (plQ p q r s lo) r s (hi - lo)
  | .nest n b _, lo, hi => .nest n (b + lo) (hi - lo)
  | .gap _, lo, hi => .gap (hi - lo)
  | .mix _, lo, hi => .gap (hi - lo)
def ImB (m : Im) : Prop := match m with
  | .clip _ p q r s _ => Bn 700 p q r s
  | _ => True
def qC6 : Sp := fun vs H Q _ => ∃ (v : V) (m : Im) (lo hi : Int), vs = [v, .int lo, .int hi] ∧ IsI H m v ∧ ImB m ∧ lo.natAbs < 2 ^ 700 ∧ m.wd ≠ "mix" ∧ ∀ (u : V) (H' : Hp), Same H H' → IsI H' (qK9 m lo hi) u → Q u H'
theorem qCq (T : Tx K mg a) : FnOk P w K mg base CX0 6 a.a_item_part a.f_item_part ["item", "low", "high"] qC6 := by
  refine T.d_item_part.F.ok qCm (fun vs H Q E h => ?_) (fun cdv A outer s H vs Q E hr h => ?_)
  · obtain ⟨v, m, lo, hi, rfl, _⟩ := h
    rfl
  obtain ⟨v, m, lo, hi, rfl, hI, hB, bl, hnm, kk⟩ := h
  refine ⟨_, (qG (qj (qR j4 (qL qJ (pv 0) qD (fun _ _ => rfl)) qI (qX _)) (qH (qP (qM T.d_clip_part (zC T) hr rfl (qA (pv 0) (qA (pv 1) (qA (pv 2) qE)))))) qV)
      (qG (qj (qR j4 (qL qJ (pv 0) qD (fun _ _ => rfl)) qI (qX _)) (qH (qP (qK (qA qI (qA (qL qJ (pv 0) qD (fun _ _ => rfl)) (qA (qS qc (qL qJ (pv 0) qD (fun _ _ => rfl)) (pv 1)) (qA (qS j6 (pv 2) (pv 1)) qE))))))) qV)
      (qH (qP (qK (qA qI (qA (qS j6 (pv 2) (pv 1)) qE))))))), ?_⟩
  try dsimp only [jT, qi]
  cases m with
  | mix l => exact absurd rfl hnm
  | clip n p q r s1 l =>
    obtain ⟨z, x, y, rfl, hz, hx, hy⟩ := id hI
    refine (qZ rfl (SqT.of hz) qBy ⟨rfl, _, rfl, qr ?_⟩)
    exact ⟨_, rfl, _, rfl, _, rfl, _, n, p, q, r, s1, l, lo, hi, rfl, hI, hB, bl, kk⟩
  | nest n b l =>
    obtain ⟨z, rfl, hz⟩ := id hI
    have a0 : atI [V.str "nest", .str n, .int b, .int l] 0 = some (.str "nest") := rfl
    have a1 : atI [V.str "nest", .str n, .int b, .int l] 1 = some (.str n) := rfl
    have a2 : atI [V.str "nest", .str n, .int b, .int l] 2 = some (.int b) := rfl
    refine (qZ rfl (SqT.of hz) a0 ⟨rfl, _, rfl, qm ?_⟩)
    refine (qZ rfl (SqT.of hz) a0 ⟨rfl, _, rfl, qr ?_⟩)
    refine (qZ rfl (SqT.of hz) a1 (qZ rfl (SqT.of hz) a2 ⟨_, rfl, _, _, rfl, rfl, _, rfl, _, rfl, _, _, rfl, rfl, sL4, fun t ht => ?_⟩))
    exact kk _ _ (qC ht _) (isN qB)
  | gap l =>
    obtain ⟨z, rfl, hz⟩ := id hI
    refine (qZ rfl (SqT.of hz) at0 ⟨rfl, _, rfl, qm ?_⟩)
    refine (qZ rfl (SqT.of hz) at0 ⟨rfl, _, rfl, qm ?_⟩)
    refine ⟨_, rfl, _, rfl, _, _, rfl, rfl, sL2, fun t ht => ?_⟩
    exact kk _ _ (qC ht _) (isG qB)
def qGe (i j : Int) : Int := if j > i then j else i
def qLl (i j : Int) : Int := if j < i then j else i
def kN (lo hi : Int) : Int → List Im → List Im
  | _, [] => []
  | b, m :: r => (if m.wd = "mix" then (if lo < b ∧ b < hi then [m] else []) else if qGe lo b < qLl hi (b + m.mo) then [qK9 m (qGe lo b - b) (qLl hi (b + m.mo) - b)] else []) ++ kN lo hi (b + m.mo) r
theorem wE (lo hi : Int) : ∀ (b : Int) (ms : List Im), (kN lo hi b ms).length ≤ ms.length
  | _, [] => by simp [kN]
  | b, m :: r => by
    have := wE lo hi (b + m.mo) r
    rw [kN, List.length_append, List.length_cons]
    split <;> split <;> simp <;> omega
def MsB (ms : List Im) : Prop := (∀ m ∈ ms, ImB m ∧ 0 ≤ m.mo) ∧ ms.length ≤ 300
def vq : Sp := fun vs H Q _ => ∃ (z : Addr) (ms : List Im) (lo hi : Int), vs = [.ref z, .int lo, .int hi] ∧ Tr H z ms ∧ MsB ms ∧ 0 ≤ lo ∧ lo ≤ 2 ^ 500 ∧ ∀ (y : Addr) (H' : Hp), Same H H' → H y = none → Tr H' y (kN lo hi 0 ms) → Q (.ref y) H'
theorem zj (T : Tx K mg a) : FnOk P w K mg base CX0 7 a.a_part_of_track a.f_part_of_track ["track", "low", "high"] vq := by
  refine T.d_part_of_track.F.ok sc_part_of_track (fun vs H Q E h => ?_) (fun cdv A outer s H vs Q E hr h => ?_)
  · obtain ⟨z, ms, lo, hi, rfl, _⟩ := h
    rfl
  obtain ⟨z, ms, lo, hi, rfl, ⟨vs, hz, his⟩, ⟨hB, hln⟩, h0, h1, kk⟩ := h
  refine ⟨_, (qG (qU (i := 3) sc_part_of_track.nd rfl (Or.inl rfl) (ql qE))
      (qG (qU (i := 4) sc_part_of_track.nd rfl (Or.inl rfl) qD)
      (qG (vT PassesOwn.never rfl (xW (pv 0)) (zF (i := 5) sc_part_of_track.nd rfl (Or.inl rfl)) (qG (qU (i := 6) sc_part_of_track.nd rfl (Or.inl rfl) (qS qc (pv 4) (qM T.d_moments_of (je T) hr rfl (qA (pv 5) qE))))
      (qG (qU (i := 7) sc_part_of_track.nd rfl (Or.inl rfl) (qh (qB3 rfl) rfl T.b_max rfl (qA (pv 1) (qA (pv 4) qE))))
      (qG (qU (i := 8) sc_part_of_track.nd rfl (Or.inl rfl) (qh (kY rfl) rfl T.b_min rfl (qA (pv 2) (qA (pv 6) qE))))
      (qG (qj (qR j4 (qL qJ (pv 5) qD (fun _ _ => rfl)) qI (qX _)) (qH (qj (PW.pt (kc (qR kt (pv 1) (pv 4) (qX _)) (zY (qR kt (pv 4) (pv 2) (qX _))))) (qH (jN (qDd F.plainAttrs_list F.slot_list_append F.type_list_append xV (pv 3) (qA (pv 5) qE)))) qV)) (qH (qj (qR kt (pv 7) (pv 8) (qX _)) (qH (jN (qDd F.plainAttrs_list F.slot_list_append F.type_list_append xV (pv 3) (qA (qM T.d_item_part (qCq T) hr rfl (qA (pv 5) (qA (qS j6 (pv 7) (pv 4)) (qA (qS j6 (pv 8) (pv 4)) qE)))) qE)))) qV)))
      (qH (qU (i := 4) sc_part_of_track.nd rfl (Or.inl rfl) (pv 6))))))))
      (qH (qP (pv 3)))))), ?_⟩
  try dsimp only [jT, qi]
  refine ⟨sL0, fun y hy => ?_⟩
  have w0 := qC hy (.lst [])
  have hvl := his.len
  refine ⟨_, rfl, z, rfl, ⟨_, SqL.of (w0 _ _ hz)⟩, zV (K := K) (a := z) (xs := vs) (fun i σ H' => ∃ (o1 o2 o3 o4 : Option V) (b : Int) (ps : List Im), σ = [some (.ref z), some (.int lo), some (.int hi), some (.ref y), some (.int b), o1, o2, o3, o4] ∧ Tr H' y ps ∧ ps ++ kN lo hi b (ms.drop i) = kN lo hi 0 ms ∧ ps.length ≤ i ∧ 0 ≤ b ∧ Same H H')
    ⟨none, none, none, none, 0, [], rfl, ⟨[], qB, trivial⟩, rfl, Nat.le_refl _, by decide, w0⟩ ?_ ?_ ?_⟩
  · rintro i σ H' hi' ⟨o1, o2, o3, o4, b, ps, rfl, _, _, _, _, e⟩
    exact SqL.of (e _ _ hz)
  · rintro i x σ H' hx ⟨o1, o2, o3, o4, b, ps, rfl, tP, hap, hpl, b0, e⟩
    obtain ⟨m, hm, hIx⟩ := his.get hx
    have hI := hIx.ts (qk e)
    have hin : i < ms.length := (glt hm)
    obtain ⟨hBm, hmo⟩ := hB m (List.mem_of_getElem? hm)
    obtain ⟨us, hyu, hisP⟩ := tP
    have hul := hisP.len
    rw [wk hm, kN] at hap
    refine ⟨_, rfl, _, rfl, x, m, rfl, hI, _, _, rfl, rfl, ?_⟩
    refine ⟨_, rfl, _, rfl, _, _, rfl, ?_⟩
    refine ⟨_, rfl, _, rfl, _, _, rfl, ?_⟩
    dsimp only
    change qN4 _ _ _ _ _
    obtain ⟨zi, xi, rfl, hzi, a0, _⟩ := hI.opn
    have skip : ∀ (q : List Im), ps ++ ([] ++ q) = ps ++ q := fun q => by simp
    refine ⟨_, rfl, zi, xi, _, _, rfl, rfl, SqT.of hzi, a0, rfl, _, rfl, x9 (fun c => ?_) (fun c => ?_)⟩
    · have hw : m.wd = "mix" := by simpa using c
      rw [if_pos hw] at hap
      refine ⟨_, rfl, _, rfl, _, _, rfl, rfl, _, rfl, x9 (fun c1 => ?_) (fun c1 => ?_)⟩
      · refine ⟨_, rfl, _, rfl, _, _, rfl, rfl, _, rfl, x9 (fun c2 => ?_) (fun c2 => ?_)⟩
        · rw [if_pos ⟨by simpa using c1, by simpa using c2⟩] at hap
          refine ⟨_, rfl, .inl ⟨rfl, _, SqL.of hyu⟩, _, rfl, y, _, _, rfl, rfl, hyu, qW (by omega), ?_⟩
          exact ⟨_, rfl, _, _, _, _, _, ps ++ [m], rfl, ⟨_, qB, (hisP.app (.one hI)).ts (zE hyu)⟩, by rw [List.append_assoc]; exact hap, by rw [List.length_append]; show ps.length + 1 ≤ i + 1; omega, by omega, jR e hy⟩
        · rw [if_neg (fun z => c2 (by simpa using z.2)), skip] at hap
          exact ⟨_, rfl, _, _, _, _, _, ps, rfl, ⟨_, hyu, hisP⟩, hap, by omega, by omega, e⟩
      · rw [if_neg (fun z => c1 (by simpa using z.1)), skip] at hap
        exact qm ⟨_, rfl, _, _, _, _, _, ps, rfl, ⟨_, hyu, hisP⟩, hap, by omega, by omega, e⟩
    · have hw : m.wd ≠ "mix" := by simpa using c
      rw [if_neg hw] at hap
      refine ⟨_, rfl, _, rfl, _, _, rfl, rfl, _, rfl, x9 (fun c1 => ?_) (fun c1 => ?_)⟩
      · rw [if_pos (of_decide_eq_true (show decide (qGe lo b < qLl hi (b + m.mo)) = true from c1))] at hap
        refine ⟨_, rfl, .inl ⟨rfl, _, SqL.of hyu⟩, _, rfl, _, rfl, _, rfl, _, _, rfl, rfl, _, rfl, _, rfl, _, _, rfl, rfl, _, m, qGe lo b - b, qLl hi (b + m.mo) - b, rfl, hI, hBm, ?_, hw, fun u H5 e5 hI5 => ?_⟩
        · have : (qGe lo b - b).natAbs ≤ (2 ^ 500 : Nat) := by
            have h1' : lo.natAbs ≤ 2 ^ 500 := by
              have := Int.natAbs_of_nonneg h0
              have h1'' : ((lo.natAbs : Nat) : Int) ≤ ((2 ^ 500 : Nat) : Int) := by rw [this]; exact_mod_cast h1
              exact_mod_cast h1''
            refine Nat.le_trans ?_ h1'
            unfold qGe
            split <;> omega
          exact Nat.lt_of_le_of_lt this (Nat.pow_lt_pow_right (by decide) (by decide))
        refine ⟨y, _, _, rfl, rfl, e5 _ _ hyu, qW (by omega), ?_⟩
        exact ⟨_, rfl, _, _, _, _, _, ps ++ [qK9 m (qGe lo b - b) (qLl hi (b + m.mo) - b)], rfl, ⟨_, qB, ((hisP.ts (qk e5)).app (.one hI5)).ts (zE (e5 _ _ hyu))⟩, by rw [List.append_assoc]; exact hap, by rw [List.length_append]; show ps.length + 1 ≤ i + 1; omega, by omega, jR (e.trans e5) hy⟩
      · rw [if_neg (fun z => c1 (show decide (qGe lo b < qLl hi (b + m.mo)) = true from decide_eq_true z)), skip] at hap
        exact ⟨_, rfl, _, _, _, _, _, ps, rfl, ⟨_, hyu, hisP⟩, hap, by omega, by omega, e⟩
  · rintro σ H' ⟨o1, o2, o3, o4, b, ps, rfl, tP, hap, hpl, b0, e⟩
    rw [hvl, List.drop_length, kN, List.append_nil] at hap
    rw [hap] at tP
    exact ⟨_, rfl, kk y H' e hy tP⟩
inductive Dk where
  | cut (t : Int)
  | hel (t : Int)
  | opn (t l : Int)
  | cls (t u : Int)
  | lft (t u : Int)
  | lin (t : Int) (m : Im)
  | lov (t : Int) (m : Im)
def Dk.wd : Dk → Str
  | .cut _ => "cut"
  | .hel _ => "heal"
  | .opn .. => "open"
  | .cls .. => "close"
  | .lft .. => "lift"
  | .lin .. => "lay_in"
  | .lov .. => "lay_over"
def Dk.t : Dk → Int
  | .cut t => t
  | .hel t => t
  | .opn t _ => t
  | .cls t _ => t
  | .lft t _ => t
  | .lin t _ => t
  | .lov t _ => t
def Dk.hi : Dk → Int
  | .cut t => t
  | .hel t => t
  | .opn t _ => t
  | .cls _ u => u
  | .lft _ u => u
  | .lin t _ => t
  | .lov t m => t + m.mo
def Dk.laid : Dk → List Im
  | .opn _ l => [.gap l]
  | .lft t u => [.gap (u - t)]
  | .lin _ m => [m]
  | .lov _ m => [m]
  | _ => []
def Dk.push : Dk → Bool
  | .opn .. => true
  | .cls .. => true
  | .lin .. => true
  | _ => false
def DAt (H : Hp) (dz : Addr) (n : Int) : Dk → Prop
  | .cut t => H dz = some (.tup [.str "cut", .int n, .int t])
  | .hel t => H dz = some (.tup [.str "heal", .int n, .int t])
  | .opn t l => H dz = some (.tup [.str "open", .int n, .int t, .int l])
  | .cls t u => H dz = some (.tup [.str "close", .int n, .int t, .int u])
  | .lft t u => H dz = some (.tup [.str "lift", .int n, .int t, .int u])
  | .lin t m => ∃ v, H dz = some (.tup [.str "lay_in", .int n, .int t, v]) ∧ IsI H m v
  | .lov t m => ∃ v, H dz = some (.tup [.str "lay_over", .int n, .int t, v]) ∧ IsI H m v
theorem DAt.same {H H' : Hp} {dz : Addr} {n : Int} {d : Dk} (e : Same H H') (h : DAt H dz n d) : DAt H' dz n d := by
  cases d with
  | lin t m => obtain ⟨v, h1, h2⟩ := h; exact ⟨v, e _ _ h1, h2.ts (qk e)⟩
  | lov t m => obtain ⟨v, h1, h2⟩ := h; exact ⟨v, e _ _ h1, h2.ts (qk e)⟩
  | _ => exact e _ _ h
theorem DAt.opn {H : Hp} {dz : Addr} {n : Int} {d : Dk} (h : DAt H dz n d) : ∃ xs, H dz = some (.tup xs) ∧ atI xs 0 = some (.str d.wd) ∧ atI xs 1 = some (.int n) ∧ atI xs 2 = some (.int d.t) := by
  cases d with
  | lin t m => obtain ⟨v, h1, _⟩ := h; exact ⟨_, h1, rfl, rfl, rfl⟩
  | lov t m => obtain ⟨v, h1, _⟩ := h; exact ⟨_, h1, rfl, rfl, rfl⟩
  | _ => exact ⟨_, h, rfl, rfl, rfl⟩
theorem xZ {w : Str} {ws : List V} {b : Bool} (h : inV (.str w) ws = b) : V.bl (if false = true then !inV (.str w) ws else inV (.str w) ws) = V.bl b := by
  rw [if_neg (by decide), h]
theorem qE3 {w : Str} {ws : List V} {b : Bool} (h : inV (.str w) ws = b) : V.bl (if true = true then !inV (.str w) ws else inV (.str w) ws) = V.bl (!b) := by
  rw [if_pos rfl, h]
def qBr : Sp := fun vs H Q _ => ∃ (dz : Addr) (n : Int) (d : Dk), vs = [.ref dz] ∧ DAt H dz n d ∧ ∀ (p : Addr) (H' : Hp), Same H H' → H' p = some (.tup [.int d.t, .int d.hi]) → Q (.ref p) H'
theorem kS (T : Tx K mg a) : FnOk P w K mg base CX0 2 a.a_stretch_of a.f_stretch_of ["deed"] qBr := by
  refine T.d_stretch_of.F.ok qBb (fun vs H Q E h => ?_) (fun cdv A outer s H vs Q E hr h => ?_)
  · obtain ⟨dz, n, d, rfl, _⟩ := h
    rfl
  obtain ⟨dz, n, d, rfl, hD, kk⟩ := h
  refine ⟨_, (qG (qj (qR xx (qL qJ (pv 0) qD (fun _ _ => rfl)) (qK (qA qI (qA qI qE))) rfl) (qH (qP (qK (qA (qL qJ (pv 0) qD (fun _ _ => rfl)) (qA (qL qJ (pv 0) qD (fun _ _ => rfl)) qE))))) qV)
      (qG (qj (qR j4 (qL qJ (pv 0) qD (fun _ _ => rfl)) qI (qX _)) (qH (qP (qK (qA (qL qJ (pv 0) qD (fun _ _ => rfl)) (qA (qS qc (qL qJ (pv 0) qD (fun _ _ => rfl)) (qM T.d_moments_of (je T) hr rfl (qA (qL qJ (pv 0) qD (fun _ _ => rfl)) qE))) qE))))) qV)
      (qH (qP (qK (qA (qL qJ (pv 0) qD (fun _ _ => rfl)) (qA (qL qJ (pv 0) qD (fun _ _ => rfl)) qE))))))), ?_⟩
  try dsimp only [jT, qi]
  obtain ⟨xs, hd, a0, a1, a2⟩ := hD.opn
  have two : (2 : Nat) ≤ sizeLine := by decide
  refine (qZ rfl (SqT.of hd) a0 ⟨two, fun q hq => ?_⟩)
  have w1 := qC hq (.tup [.str "close", .str "lift"])
  have hd1 := w1 _ _ hd
  cases d with
  | cls t u =>
    refine ⟨q, _, rfl, .inr (SqT.of qB), rfl, rfl, true, (xZ (w := "close") (by decide +kernel)), qr ?_⟩
    exact (qZ rfl (SqT.of (w1 _ _ hD)) qCd (qZ rfl (SqT.of (w1 _ _ hD)) wy ⟨two, fun p hp => kk p _ (w1.trans (qC hp _)) qB⟩))
  | lft t u =>
    refine ⟨q, _, rfl, .inr (SqT.of qB), rfl, rfl, true, (xZ (w := "lift") (by decide +kernel)), qr ?_⟩
    exact (qZ rfl (SqT.of (w1 _ _ hD)) qCd (qZ rfl (SqT.of (w1 _ _ hD)) wy ⟨two, fun p hp => kk p _ (w1.trans (qC hp _)) qB⟩))
  | lov t m =>
    obtain ⟨v, hv, hI⟩ := hD
    refine ⟨q, _, rfl, .inr (SqT.of qB), rfl, rfl, false, (xZ (w := "lay_over") (by decide +kernel)), qm ?_⟩
    refine (qZ rfl (SqT.of hd1) a0 ⟨rfl, _, rfl, qr ?_⟩)
    exact (qZ rfl (SqT.of hd1) a2 (qZ rfl (SqT.of hd1) a2 (qZ rfl (SqT.of (w1 _ _ hv)) wy ⟨v, m, rfl, hI.ts (qk w1), _, _, rfl, rfl, two, fun p hp => kk p _ (w1.trans (qC hp _)) qB⟩)))
  | cut t =>
    refine ⟨q, _, rfl, .inr (SqT.of qB), rfl, rfl, false, (xZ (w := "cut") (by decide +kernel)), qm ?_⟩
    refine (qZ rfl (SqT.of hd1) a0 ⟨rfl, _, rfl, qm ?_⟩)
    exact (qZ rfl (SqT.of hd1) a2 (qZ rfl (SqT.of hd1) a2 ⟨two, fun p hp => kk p _ (w1.trans (qC hp _)) qB⟩))
  | hel t =>
    refine ⟨q, _, rfl, .inr (SqT.of qB), rfl, rfl, false, (xZ (w := "heal") (by decide +kernel)), qm ?_⟩
    refine (qZ rfl (SqT.of hd1) a0 ⟨rfl, _, rfl, qm ?_⟩)
    exact (qZ rfl (SqT.of hd1) a2 (qZ rfl (SqT.of hd1) a2 ⟨two, fun p hp => kk p _ (w1.trans (qC hp _)) qB⟩))
  | opn t l =>
    refine ⟨q, _, rfl, .inr (SqT.of qB), rfl, rfl, false, (xZ (w := "open") (by decide +kernel)), qm ?_⟩
    refine (qZ rfl (SqT.of hd1) a0 ⟨rfl, _, rfl, qm ?_⟩)
    exact (qZ rfl (SqT.of hd1) a2 (qZ rfl (SqT.of hd1) a2 ⟨two, fun p hp => kk p _ (w1.trans (qC hp _)) qB⟩))
  | lin t m =>
    refine ⟨q, _, rfl, .inr (SqT.of qB), rfl, rfl, false, (xZ (w := "lay_in") (by decide +kernel)), qm ?_⟩
    refine (qZ rfl (SqT.of hd1) a0 ⟨rfl, _, rfl, qm ?_⟩)
    exact (qZ rfl (SqT.of hd1) a2 (qZ rfl (SqT.of hd1) a2 ⟨two, fun p hp => kk p _ (w1.trans (qC hp _)) qB⟩))
def qGb : Sp := fun vs H Q _ => ∃ (dz : Addr) (n : Int) (d : Dk), vs = [.ref dz] ∧ DAt H dz n d ∧ ∀ (y : Addr) (H' : Hp), Same H H' → H y = none → Tr H' y d.laid → Q (.ref y) H'
theorem qAn (T : Tx K mg a) : FnOk P w K mg base CX0 1 a.a_laid_by a.f_laid_by ["deed"] qGb := by
  refine T.d_laid_by.F.ok qFq (fun vs H Q E h => ?_) (fun cdv A outer s H vs Q E hr h => ?_)
  · obtain ⟨dz, n, d, rfl, _⟩ := h
    rfl
  obtain ⟨dz, n, d, rfl, hD, kk⟩ := h
  refine ⟨_, (qG (qj (qR xx (qL qJ (pv 0) qD (fun _ _ => rfl)) (ja (v := .ref a.n_LAYS) rfl T.g_LAYS rfl) rfl) (qH (qP (ql (qA (qL qJ (pv 0) qD (fun _ _ => rfl)) qE)))) qV)
      (qG (qj (qR j4 (qL qJ (pv 0) qD (fun _ _ => rfl)) qI (qX _)) (qH (qP (ql (qA (qK (qA qI (qA (qL qJ (pv 0) qD (fun _ _ => rfl)) qE))) qE)))) qV)
      (qG (qj (qR j4 (qL qJ (pv 0) qD (fun _ _ => rfl)) qI (qX _)) (qH (qP (ql (qA (qK (qA qI (qA (qS j6 (qL qJ (pv 0) qD (fun _ _ => rfl)) (qL qJ (pv 0) qD (fun _ _ => rfl))) qE))) qE)))) qV)
      (qH (qP (ql qE)))))), ?_⟩
  try dsimp only [jT, qi]
  obtain ⟨xs, hd, a0, a1, a2⟩ := hD.opn
  have one : (1 : Nat) ≤ sizeLine := by decide
  have two : (2 : Nat) ≤ sizeLine := by decide
  have zero : (0 : Nat) ≤ sizeLine := by decide
  refine (qZ rfl (SqT.of hd) a0 ⟨a.n_LAYS, _, rfl, .inr (T.sq_LAYS _), rfl, rfl, ?_⟩)
  cases d with
  | lin t m =>
    obtain ⟨v, hv, hI⟩ := hD
    refine ⟨true, (xZ (w := "lay_in") (by decide +kernel)), qr (qZ rfl (SqT.of hv) wy ⟨one, fun p hp => ?_⟩)⟩
    exact kk p _ (qC hp _) hp ⟨_, qB, hI.ts (qk (qC hp _)), trivial⟩
  | lov t m =>
    obtain ⟨v, hv, hI⟩ := hD
    refine ⟨true, (xZ (w := "lay_over") (by decide +kernel)), qr (qZ rfl (SqT.of hv) wy ⟨one, fun p hp => ?_⟩)⟩
    exact kk p _ (qC hp _) hp ⟨_, qB, hI.ts (qk (qC hp _)), trivial⟩
  | opn t l =>
    refine ⟨false, (xZ (w := "open") (by decide +kernel)), qm ?_⟩
    refine (qZ rfl (SqT.of hd) a0 ⟨rfl, _, rfl, qr ?_⟩)
    refine (qZ rfl (SqT.of hD) wy ⟨two, fun g hg => ⟨one, fun p hp => ?_⟩⟩)
    exact kk p _ ((qC hg _).trans (qC hp _)) ((qC hg _).free hp) ⟨_, qB, isG ((qC hp _) _ _ qB), trivial⟩
  | lft t u =>
    refine ⟨false, (xZ (w := "lift") (by decide +kernel)), qm ?_⟩
    refine (qZ rfl (SqT.of hd) a0 ⟨rfl, _, rfl, qm ?_⟩)
    refine (qZ rfl (SqT.of hd) a0 ⟨rfl, _, rfl, qr ?_⟩)
    refine (qZ rfl (SqT.of hD) wy (qZ rfl (SqT.of hD) qCd ⟨_, _, rfl, rfl, two, fun g hg => ⟨one, fun p hp => ?_⟩⟩))
    exact kk p _ ((qC hg _).trans (qC hp _)) ((qC hg _).free hp) ⟨_, qB, isG ((qC hp _) _ _ qB), trivial⟩
  | cut t =>
    refine ⟨false, (xZ (w := "cut") (by decide +kernel)), qm ?_⟩
    refine (qZ rfl (SqT.of hd) a0 ⟨rfl, _, rfl, qm ?_⟩)
    refine (qZ rfl (SqT.of hd) a0 ⟨rfl, _, rfl, qm ?_⟩)
    exact ⟨zero, fun p hp => kk p _ (qC hp _) hp ⟨[], qB, trivial⟩⟩
  | hel t =>
    refine ⟨false, (xZ (w := "heal") (by decide +kernel)), qm ?_⟩
    refine (qZ rfl (SqT.of hd) a0 ⟨rfl, _, rfl, qm ?_⟩)
    refine (qZ rfl (SqT.of hd) a0 ⟨rfl, _, rfl, qm ?_⟩)
    exact ⟨zero, fun p hp => kk p _ (qC hp _) hp ⟨[], qB, trivial⟩⟩
  | cls t u =>
    refine ⟨false, (xZ (w := "close") (by decide +kernel)), qm ?_⟩
    refine (qZ rfl (SqT.of hd) a0 ⟨rfl, _, rfl, qm ?_⟩)
    refine (qZ rfl (SqT.of hd) a0 ⟨rfl, _, rfl, qm ?_⟩)
    exact ⟨zero, fun p hp => kk p _ (qC hp _) hp ⟨[], qB, trivial⟩⟩
def chF (tie : List Int) (n : Int) (push : Bool) : List Int := if push = true ∧ n ∈ tie then n :: tie.filter (fun x => decide (x ≠ n)) else [n]
theorem qIj {i : Int} {ps : List Int} : inV (.int i) (ps.map V.int) = decide (i ∈ ps) := by
  unfold inV
  rw [Bool.eq_iff_iff]
  simp [eqV]
theorem qFy (ps : List Int) : (ps.map V.int).all xY = true := by
  rw [List.all_map, List.all_eq_true]
  intro _ _
  rfl
theorem Dk.push_in (d : Dk) : inV (.str d.wd) [.str "lay_in", .str "open", .str "close"] = d.push := by
  cases d with
  | cut t => show inV (.str "cut") _ = false; decide +kernel
  | hel t => show inV (.str "heal") _ = false; decide +kernel
  | opn t l => show inV (.str "open") _ = true; decide +kernel
  | cls t u => show inV (.str "close") _ = true; decide +kernel
  | lft t u => show inV (.str "lift") _ = false; decide +kernel
  | lin t m => show inV (.str "lay_in") _ = true; decide +kernel
  | lov t m => show inV (.str "lay_over") _ = false; decide +kernel
def wc : Sp := fun vs H Q _ => ∃ (dz : Addr) (n : Int) (d : Dk), vs = [.ref dz] ∧ DAt H dz n d ∧ ∀ (y : Addr) (H' : Hp), Same H H' → H y = none → Tr H' y (d.laid.map fun m => .gap m.mo) → Q (.ref y) H'
theorem Dk.laid_len (d : Dk) : d.laid.length ≤ 1 := by cases d <;> simp [Dk.laid]
theorem wW (T : Tx K mg a) : FnOk P w K mg base CX0 2 a.a_laid_on_tied a.f_laid_on_tied ["deed"] wc := by
  refine T.d_laid_on_tied.F.ok wN (fun vs H Q E h => ?_) (fun cdv A outer s H vs Q E hr h => ?_)
  · obtain ⟨dz, n, d, rfl, _⟩ := h
    rfl
  obtain ⟨dz, n, d, rfl, hD, kk⟩ := h
  refine ⟨_, (qH (qP (qBi [] [] rfl (xW (qM T.d_laid_by (qAn T) hr rfl (qA (pv 0) qE))) (fun _ _ _ _ => (qK (qA qI (qA (qM T.d_moments_of (je T) hr rfl (qA (pv 0) qE)) qE))))))), ?_⟩
  try dsimp only [jT, qi]
  refine ⟨_, rfl, dz, n, d, rfl, hD, fun l H1 e1 hl ⟨us, hlu, his⟩ => ?_⟩
  have hll := d.laid_len
  have hul := his.len
  refine ⟨l, rfl, ⟨_, SqL.of hlu⟩, ki (K := K) (a := l) (xs := us) (fun j acc H2 => IsIs H2 ((d.laid.take j).map fun m => .gap m.mo) acc ∧ Same H1 H2) ⟨trivial, Same.refl _⟩ ?_ ?_ ?_⟩
  · rintro j acc H2 hj ⟨ht, e2⟩
    exact ⟨SqL.of (e2 _ _ hlu), qW (by rw [ht.len, List.length_map, List.length_take]; omega)⟩
  · rintro j x acc H2 hj hx ⟨ht, e2⟩
    obtain ⟨m, hm, hI⟩ := his.get hx
    refine ⟨_, rfl, x, m, rfl, hI.ts (qk e2), sL2, fun g hg => Nxt.mk hj ⟨?_, e2.trans (qC hg _)⟩⟩
    rw [List.take_add_one, hm, List.map_append]
    exact (ht.ts (qk (qC hg _))).app (.one (isG qB))
  rintro acc H2 ⟨ht, e2⟩ y hy
  rw [hul, List.take_length] at ht
  exact kk y _ ((e1.trans e2).trans (qC hy _)) ((e1.trans e2).free hy) ⟨_, qB, ht.ts (qk (qC hy _))⟩
def vO : Sp := fun vs H Q _ => ∃ (tz tl ti dz : Addr) (tie : List Int) (n : Int) (d : Dk), vs = [.ref tz, .ref dz] ∧ H tz = some (.tup [.ref tl, .ref ti]) ∧ H ti = some (.lst (tie.map V.int)) ∧ tie.length ≤ 300 ∧ DAt H dz n d ∧
  ∀ (y : Addr) (H' : Hp), Same H H' → H y = none → H' y = some (.lst ((chF tie n d.push).map V.int)) → Q (.ref y) H'
theorem zU (T : Tx K mg a) : FnOk P w K mg base CX0 1 a.a_tracks_changed a.f_tracks_changed ["table", "deed"] vO := by
  refine T.d_tracks_changed.F.ok vG (fun vs H Q E h => ?_) (fun cdv A outer s H vs Q E hr h => ?_)
  · obtain ⟨tz, tl, ti, dz, tie, n, d, rfl, _⟩ := h
    rfl
  obtain ⟨tz, tl, ti, dz, tie, n, d, rfl, htz, hti, htl, hD, kk⟩ := h
  refine ⟨_, (qG (qj (PW.pt (xA (qR zn (qL qJ (pv 1) qD (fun _ _ => rfl)) (ja (v := .ref a.n_PUSHES) rfl T.g_PUSHES rfl) rfl) (jS (qR zn (qL qJ (pv 1) qD (fun _ _ => rfl)) (qL qJ (pv 0) qD (fun _ _ => rfl)) rfl)))) (qH (qP (ql (qA (qL qJ (pv 1) qD (fun _ _ => rfl)) qE)))) qV)
      (qH (qP (qS jC (ql (qA (qL qJ (pv 1) qD (fun _ _ => rfl)) qE)) (qJd ["deed"] [1] rfl (xW (qL qJ (pv 0) qD (fun _ _ => rfl))) (fun _ _ _ _ => (qR kA (pv 0) (qL (qKj (K := K) rfl) (pv 1) qD (fun _ _ => rfl)) (qX _))) (fun _ _ _ _ => (pv 0))))))), ?_⟩
  try dsimp only [jT, qi]
  obtain ⟨xs, hd, a0, a1, a2⟩ := hD.opn
  have one : (1 : Nat) ≤ sizeLine := by decide
  have fin1 : ¬ (d.push = true ∧ n ∈ tie) → ∀ p, H p = none → Q (.ref p) (upd H p (.lst [.int n])) := fun hc p hp => by
    refine kk p _ (qC hp _) hp ?_
    unfold chF
    rw [if_neg hc, qB]
    rfl
  refine (qZ rfl (SqT.of hd) a0 ⟨a.n_PUSHES, _, rfl, .inr (T.sq_PUSHES _), rfl, rfl, !d.push, qE3 d.push_in, ?_⟩)
  cases hp : d.push with
  | false =>
    refine qr (qr (qZ rfl (SqT.of hd) a1 ⟨one, fun p hp' => fin1 (fun z => ?_) p hp'⟩))
    rw [hp] at z
    exact absurd z.1 (by simp)
  | true =>
    refine qm (qZ rfl (SqT.of hd) a1 (qZ rfl (SqT.of htz) at1 ⟨ti, _, rfl, .inl (SqL.of hti), rfl, qFy tie, !decide (n ∈ tie), ?_, ?_⟩))
    · show V.bl (!inV (.int n) (tie.map V.int)) = _
      rw [qIj]
    by_cases hm : n ∈ tie
    · rw [decide_eq_true hm]
      refine qm (qZ rfl (SqT.of hd) a1 ⟨one, fun l1 hl1 => ?_⟩)
      have w1 := qC hl1 (.lst [.int n])
      have k1 : upd H l1 (.lst [.int n]) l1 = some (.lst [.int n]) := qB
      have hl10 := hl1
      change _
      generalize upd H l1 (.lst [.int n]) = H1 at w1 k1
      refine (qZ rfl (SqT.of (w1 _ _ htz)) at1 ⟨ti, rfl, ⟨_, SqL.of (w1 _ _ hti)⟩, qFt (K := K) (a := ti) (xs := tie.map V.int) (fun j acc H2 => acc = ((tie.take j).filter (fun x => decide (x ≠ n))).map V.int ∧ H2 = H1) ⟨rfl, rfl⟩ ?_ ?_ ?_⟩)
      · rintro j acc H2 hj ⟨rfl, rfl⟩
        refine ⟨SqL.of (w1 _ _ hti), qW ?_⟩
        rw [List.length_map]
        have := List.length_filter_le (fun x => decide (x ≠ n)) (tie.take j)
        have := List.length_take_le j tie
        rw [List.length_take] at *
        omega
      · rintro j x acc H2 hj hx ⟨rfl, rfl⟩
        obtain ⟨xi, hxi, rfl⟩ : ∃ xi : Int, tie[j]? = some xi ∧ x = .int xi := by
          rw [List.getElem?_map] at hx
          cases hq : tie[j]? with
          | none => rw [hq] at hx; cases hx
          | some k => rw [hq] at hx; cases hx; exact ⟨k, rfl, rfl⟩
        have etk : tie.take (j + 1) = tie.take j ++ [xi] := by rw [List.take_add_one, hxi]; rfl
        refine ⟨_, rfl, qZ rfl (SqT.of (w1 _ _ hd)) a1 ⟨rfl, _, rfl, x9 (fun c => ?_) (fun c => ?_)⟩⟩
        · have hne : xi ≠ n := by simpa using c
          refine ⟨_, rfl, Nxt.mk hj ⟨?_, rfl⟩⟩
          rw [etk, List.filter_append, List.map_append]
          simp [hne]
        · have hne : xi = n := by simpa using c
          refine Nxt.mk hj ⟨?_, rfl⟩
          rw [etk, List.filter_append, List.map_append]
          simp [hne]
      rintro acc H2 ⟨rfl, rfl⟩ l2 hl2
      rw [List.length_map, List.take_length]
      have w2 := qC hl2 (.lst ((tie.filter (fun x => decide (x ≠ n))).map V.int))
      refine ⟨l1, l2, _, _, rfl, rfl, w2 _ _ k1, qB, ?_, fun y hy => ?_⟩
      · have := qW (n := 1 + ((tie.filter (fun x => decide (x ≠ n))).map V.int).length) (by
          rw [List.length_map]
          have := List.length_filter_le (fun x => decide (x ≠ n)) tie
          omega)
        show 1 + ((tie.filter (fun x => decide (x ≠ n))).map V.int).length ≤ sizeLine
        omega
      refine kk y _ ((w1.trans w2).trans (qC hy _)) ((w1.trans w2).free hy) ?_
      unfold chF
      rw [if_pos ⟨hp, hm⟩, qB]
      rfl
    · rw [decide_eq_false hm]
      exact qr (qZ rfl (SqT.of hd) a1 ⟨one, fun p hp' => fin1 (fun z => hm z.2) p hp'⟩)
def qBk : Sp := fun vs H Q _ => ∃ l : Int, vs = [.int l] ∧ Q (.int (l.fdiv 2)) H
theorem qA5 (T : Tx K mg a) : FnOk P w K mg base CX0 1 a.a_part_ahead a.f_part_ahead ["length"] qBk := by
  refine T.d_part_ahead.F.ok qBh (fun vs H Q E h => ?_) (fun cdv A outer s H vs Q E hr h => ?_)
  · obtain ⟨l, rfl, _⟩ := h
    rfl
  obtain ⟨l, rfl, kk⟩ := h
  refine ⟨_, (qH (qP (qS zZ (pv 0) qD))), ?_⟩
  try dsimp only [jT, qi]
  exact ⟨_, rfl, _, _, rfl, rfl, cdB (by decide) (by decide), kk⟩
def wp : Sp := fun vs H Q _ => ∃ l : Int, vs = [.int l] ∧ Q (.int (l - l.fdiv 2)) H
theorem wo (T : Tx K mg a) : FnOk P w K mg base CX0 1 a.a_part_behind a.f_part_behind ["length"] wp := by
  refine T.d_part_behind.F.ok qAa (fun vs H Q E h => ?_) (fun cdv A outer s H vs Q E hr h => ?_)
  · obtain ⟨l, rfl, _⟩ := h
    rfl
  obtain ⟨l, rfl, kk⟩ := h
  refine ⟨_, (qH (qP (qS j6 (pv 0) (qS zZ (pv 0) qD)))), ?_⟩
  try dsimp only [jT, qi]
  exact ⟨_, rfl, _, rfl, _, _, rfl, rfl, cdB (by decide) (by decide), _, _, rfl, rfl, kk⟩
def zX : Int → List Im → List (Int × Int × Int)
  | _, [] => []
  | b, .mix l :: ms => (b - l.fdiv 2, b, b + (l - l.fdiv 2)) :: zX b ms
  | b, .clip _ _ _ _ _ l :: ms => zX (b + l) ms
  | b, .nest _ _ l :: ms => zX (b + l) ms
  | b, .gap l :: ms => zX (b + l) ms
theorem zc {m : Im} (h : m.wd ≠ "mix") (b : Int) (ms : List Im) : zX b (m :: ms) = zX (b + m.mo) ms := by
  cases m with
  | mix l => exact absurd rfl h
  | _ => rfl
def SpAt (H : Hp) : List (Int × Int × Int) → List V → Prop
  | [], [] => True
  | (x, y, z) :: ss, v :: vs => (∃ p : Addr, v = .ref p ∧ H p = some (.tup [.int x, .int y, .int z])) ∧ SpAt H ss vs
  | _, _ => False
theorem SpAt.len {H : Hp} : ∀ {ss : List (Int × Int × Int)} {vs : List V}, SpAt H ss vs → vs.length = ss.length
  | [], [], _ => rfl
  | (_, _, _) :: _, _ :: _, h => by rw [List.length_cons, List.length_cons, SpAt.len h.2]
  | [], _ :: _, h => h.elim
  | (_, _, _) :: _, [], h => h.elim
theorem SpAt.ts {H H' : Hp} (e : TS H H') : ∀ {ss : List (Int × Int × Int)} {vs : List V}, SpAt H ss vs → SpAt H' ss vs
  | [], [], _ => trivial
  | (_, _, _) :: _, _ :: _, ⟨⟨p, h1, h2⟩, h⟩ => ⟨⟨p, h1, e _ _ h2⟩, SpAt.ts e h⟩
  | [], _ :: _, h => h.elim
  | (_, _, _) :: _, [], h => h.elim
theorem SpAt.app {H : Hp} : ∀ {ss : List (Int × Int × Int)} {vs : List V} {ss' : List (Int × Int × Int)} {vs' : List V}, SpAt H ss vs → SpAt H ss' vs' → SpAt H (ss ++ ss') (vs ++ vs')
  | [], [], _, _, _, h' => h'
  | (_, _, _) :: _, _ :: _, _, _, h, h' => ⟨h.1, h.2.app h'⟩
  | [], _ :: _, _, _, h, _ => h.elim
  | (_, _, _) :: _, [], _, _, h, _ => h.elim
theorem SpAt.one {H : Hp} {x y z : Int} {p : Addr} (h : H p = some (.tup [.int x, .int y, .int z])) : SpAt H [(x, y, z)] [.ref p] := ⟨⟨p, rfl, h⟩, trivial⟩
theorem SpAt.get {H : Hp} : ∀ {ss : List (Int × Int × Int)} {vs : List V} {i : Nat} {v : V}, SpAt H ss vs → vs[i]? = some v → ∃ (x y z : Int) (p : Addr), ss[i]? = some (x, y, z) ∧ v = .ref p ∧ H p = some (.tup [.int x, .int y, .int z])
  | [], [], _, _, _, h => by simp at h
  | (x, y, z) :: _, u :: _, 0, v, h, e => by
    have e' : u = v := by simpa using e
    subst e'
    obtain ⟨⟨p, h1, h2⟩, _⟩ := h
    exact ⟨x, y, z, p, rfl, h1, h2⟩
  | (_, _, _) :: ss, _ :: vs, i + 1, v, h, e => by
    obtain ⟨x, y, z, p, h1, h2⟩ := SpAt.get (i := i) h.2 (by simpa using e)
    exact ⟨x, y, z, p, by simpa using h1, h2⟩
  | [], _ :: _, _, _, h, _ => h.elim
  | (_, _, _) :: _, [], _, _, h, _ => h.elim
def qB8 : Sp := fun vs H Q _ => ∃ (z : Addr) (ms : List Im), vs = [.ref z] ∧ Tr H z ms ∧ ms.length ≤ 300 ∧ ∀ (y : Addr) (us : List V) (H' : Hp), Same H H' → H y = none → H' y = some (.lst us) → SpAt H' (zX 0 ms) us → Q (.ref y) H'
theorem qB9 (T : Tx K mg a) : FnOk P w K mg base CX0 2 a.a_mix_spans a.f_mix_spans ["track"] qB8 := by
  refine T.d_mix_spans.F.ok sc_mix_spans (fun vs H Q E h => ?_) (fun cdv A outer s H vs Q E hr h => ?_)
  · obtain ⟨z, ms, rfl, _⟩ := h
    rfl
  obtain ⟨z, ms, rfl, ⟨xs, hz, his⟩, hl, kk⟩ := h
  refine ⟨_, (qG (qU (i := 1) sc_mix_spans.nd rfl (Or.inl rfl) (ql qE))
      (qG (qU (i := 2) sc_mix_spans.nd rfl (Or.inl rfl) qD)
      (qG (vT PassesOwn.never rfl (xW (pv 0)) (zF (i := 3) sc_mix_spans.nd rfl (Or.inl rfl)) (qG (qj (qR j4 (qL qJ (pv 3) qD (fun _ _ => rfl)) qI (qX _)) (qH (jN (qDd F.plainAttrs_list F.slot_list_append F.type_list_append xV (pv 1) (qA (qK (qA (qS j6 (pv 2) (qM T.d_part_ahead (qA5 T) hr rfl (qA (qL qJ (pv 3) qD (fun _ _ => rfl)) qE))) (qA (pv 2) (qA (qS qc (pv 2) (qM T.d_part_behind (wo T) hr rfl (qA (qL qJ (pv 3) qD (fun _ _ => rfl)) qE))) qE)))) qE)))) qV)
      (qH (qU (i := 2) sc_mix_spans.nd rfl (Or.inl rfl) (qS qc (pv 2) (qM T.d_moments_of (je T) hr rfl (qA (pv 3) qE)))))))
      (qH (qP (pv 1)))))), ?_⟩
  try dsimp only [jT, qi]
  refine ⟨sL0, fun y hy => ?_⟩
  refine ⟨_, rfl, z, rfl, ⟨_, SqL.of ((qC hy _) _ _ hz)⟩, zV (K := K) (a := z) (xs := xs) (fun i σ H' => ∃ (b : Int) (as : List (Int × Int × Int)) (o : Option V) (us : List V), σ = [some (.ref z), some (.ref y), some (.int b), o] ∧ H' y = some (.lst us) ∧ SpAt H' as us ∧ as.length ≤ i ∧ as ++ zX b (ms.drop i) = zX 0 ms ∧ Same H H')
    ⟨0, [], none, [], rfl, qB, trivial, by simp, rfl, qC hy _⟩ ?_ ?_ ?_⟩
  · rintro i σ H' hi ⟨b, as, o, us, rfl, _, _, _, _, e⟩
    exact SqL.of (e _ _ hz)
  · rintro i x σ H' hx ⟨b, as, o, us, rfl, hv, hsp, hal, hap, e⟩
    obtain ⟨m, hm, hIx⟩ := his.get hx
    have hI := hIx.ts (qk e)
    have hi : i < ms.length := (glt hm)
    rw [wk hm] at hap
    obtain ⟨zi, xi, rfl, hzi, h0, h1⟩ := hI.opn
    refine ⟨_, rfl, zi, xi, _, _, rfl, rfl, SqT.of hzi, h0, rfl, _, rfl, x9 (fun c => ?_) (fun c => ?_)⟩
    · obtain ⟨l, rfl⟩ := qLa (by simpa using c)
      obtain ⟨z2, e2, hz2⟩ := id hI
      cases e2
      rw [zX] at hap
      refine ⟨_, rfl, .inl ⟨rfl, _, SqL.of hv⟩, _, rfl, qZ rfl (SqT.of hz2) at1 ⟨_, rfl, _, _, rfl, rfl, _, rfl, _, rfl, qZ rfl (SqT.of hz2) at1 ⟨_, rfl, _, _, rfl, rfl, sL3, fun g hg => ?_⟩⟩⟩
      have w1 := qC hg (.tup [.int (b - l.fdiv 2), .int b, .int (b + (l - l.fdiv 2))])
      refine ⟨y, _, _, rfl, rfl, w1 _ _ hv, qW (by rw [hsp.len]; omega), ?_⟩
      have t2 : TS (upd H' g (.tup [.int (b - l.fdiv 2), .int b, .int (b + (l - l.fdiv 2))])) (upd (upd H' g (.tup [.int (b - l.fdiv 2), .int b, .int (b + (l - l.fdiv 2))])) y (.lst (us ++ [.ref g]))) := zE (w1 _ _ hv)
      refine ⟨_, rfl, _, rfl, _, .mix l, rfl, (hI.ts (qk w1)).ts t2, _, _, rfl, rfl, b, as ++ [(b - l.fdiv 2, b, b + (l - l.fdiv 2))], some (.ref zi), us ++ [.ref g], ?_, qB, ((hsp.ts (qk w1)).app (.one qB)).ts t2, by simp; omega, ?_, jR (e.trans w1) hy⟩
      · show [some (V.ref z), some (V.ref y), some (V.int (b + 0)), some (V.ref zi)] = _
        rw [Int.add_zero]
      · rw [← hap]; simp
    · have hne : m.wd ≠ "mix" := by simpa using c
      rw [zc hne] at hap
      exact ⟨_, rfl, _, rfl, _, m, rfl, hI, _, _, rfl, rfl, _, as, _, us, rfl, hv, hsp, by omega, hap, e⟩
  · rintro σ H' ⟨b, as, o, us, rfl, hv, hsp, hal, hap, e⟩
    rw [his.len, List.drop_length, zX, List.append_nil] at hap
    rw [hap] at hsp
    exact ⟨_, rfl, kk y us H' e hy hv hsp⟩
def lnO (o : Option Int) : Bool := match o with
  | some i => decide (1 ≤ i)
  | none => false
def qB1 : Sp := fun vs H Q _ => ∃ (v : V) (o : Option Int), vs = [v] ∧ Nu H v o ∧ Q (.bl (lnO o)) H
theorem vU (T : Tx K mg a) : FnOk P w K mg base CX0 2 a.a_is_length a.f_is_length ["thing"] qB1 := by
  refine T.d_is_length.F.ok qCu (fun vs H Q E h => ?_) (fun cdv A outer s H vs Q E hr h => ?_)
  · obtain ⟨v, o, rfl, _⟩ := h
    rfl
  obtain ⟨v, o, rfl, hv, q⟩ := h
  refine ⟨_, (qH (qP (zo (qM T.d_is_whole (qt T) hr rfl (qA (pv 0) qE)) (zl (jO qDh (pv 0) qD (qX _)))))), ?_⟩
  try dsimp only [jT, qi]
  cases hv with
  | no h => exact ⟨_, rfl, v, false, rfl, .no h, false, rfl, qm q⟩
  | int i => exact ⟨_, rfl, _, true, rfl, .int i, true, rfl, qr ⟨_, rfl, _, _, rfl, rfl, q⟩⟩
inductive NsB (K : W.Frag) (H : Hp) : V → Bool → Prop where
  | no {x : V} {t : Value} (ty : qAo K H x t) (e : W.kitOne K t (.type "tuple") = some false) : NsB K H x false
  | len {z : Addr} {xs : List V} (e : H z = some (.tup xs)) (h : xs.length ≠ 4) : NsB K H (.ref z) false
  | word {z : Addr} {w : Str} {x1 x2 x3 : V} (e : H z = some (.tup [.str w, x1, x2, x3])) (hn : w ≠ "nest") : NsB K H (.ref z) false
  | nums {z : Addr} {n : Str} {b l : Int} {c : Bool} (e : H z = some (.tup [.str "nest", .str n, .int b, .int l])) (hn : wj n = true) (hl : n.length ≤ 1000) (hc : c = (decide (0 ≤ b) && decide (1 ≤ l))) : NsB K H (.ref z) c
theorem NsB.same {H H' : Hp} (s : Same H H') {x : V} {b : Bool} (h : NsB K H x b) : NsB K H' x b := by
  cases h with
  | no ty e => exact .no (qBj s ty) e
  | len e h => exact .len (s _ _ e) h
  | word e h => exact .word (s _ _ e) h
  | nums e h1 h2 h3 => exact .nums (s _ _ e) h1 h2 h3
def vc (K : W.Frag) : Sp := fun vs H Q _ => ∃ (v : V) (b : Bool), vs = [v] ∧ NsB K H v b ∧ ∀ H', Same H H' → Q (.bl b) H'
theorem vm (T : Tx K mg a) : FnOk P w K mg base CX0 3 a.a_has_nest_form a.f_has_nest_form ["item"] (vc K) := by
  refine T.d_has_nest_form.F.ok vf (fun vs H Q E h => ?_) (fun cdv A outer s H vs Q E hr h => ?_)
  · obtain ⟨v, b, rfl, _⟩ := h
    rfl
  obtain ⟨v, b, rfl, hv, kk⟩ := h
  refine ⟨_, (qG (qj (PW.pt (xA (jP (jD (qh jc rfl T.b_isinstance rfl (qA (pv 0) (qA (qCb rfl T.b_tuple rfl) qE))))) (jS (qR kA (qh j3 rfl T.b_len rfl (qA (pv 0) qE)) qD (qX _))))) (qH (qP kC)) qV)
      (qG (qj (PW.pt (xA (qR kA (qL qJ (pv 0) qD (fun _ _ => rfl)) qI (qX _)) (jS (jP (jD (qM T.d_is_name (vZ T) hr rfl (qA (qL qJ (pv 0) qD (fun _ _ => rfl)) qE))))))) (qH (qP kC)) qV)
      (qH (qP (zo (qM T.d_is_whole (qt T) hr rfl (qA (qL qJ (pv 0) qD (fun _ _ => rfl)) qE)) (zo (jO qDh (qL qJ (pv 0) qD (fun _ _ => rfl)) qD (qX _)) (zl (qM T.d_is_length (vU T) hr rfl (qA (qL qJ (pv 0) qD (fun _ _ => rfl)) qE))))))))), ?_⟩
  try dsimp only [jT, qi]
  cases hv with
  | no ty e => exact ⟨_, rfl, _, _, _, false, rfl, ty, ⟨_, .inl ⟨rfl, e⟩⟩, false, rfl, qr (qr (kk H (Same.refl _)))⟩
  | @len z xs e h =>
    refine ⟨_, rfl, _, _, _, true, rfl, .tup e, ⟨_, .inl ⟨rfl, by kernel_rfl⟩⟩, true, rfl, qm ?_⟩
    refine ⟨_, rfl, _, _, rfl, .inr (SqT.of e), rfl, _, rfl, ?_⟩
    have d : (!decide (V.int (xs.length : Int) = V.int 4)) = true := by
      have : ¬ (V.int (xs.length : Int) = V.int 4) := fun z => h (by injection z with z; omega)
      simp [this]
    rw [d]
    exact qr (kk H (Same.refl _))
  | @word z w x1 x2 x3 e hn =>
    refine ⟨_, rfl, _, _, _, true, rfl, .tup e, ⟨_, .inl ⟨rfl, by kernel_rfl⟩⟩, true, rfl, qm ?_⟩
    refine ⟨_, rfl, _, _, rfl, .inr (SqT.of e), rfl, _, rfl, qm ?_⟩
    have a0 : atI [V.str w, x1, x2, x3] 0 = some (.str w) := rfl
    refine (qZ rfl (SqT.of e) a0 ⟨rfl, _, rfl, ?_⟩)
    have d : (!decide (V.str w = V.str "nest")) = true := by
      rw [qLs, decide_eq_false hn]; rfl
    rw [d]
    exact qr (qr (kk H (Same.refl _)))
  | @nums z n b l c e h1 h2 hc =>
    subst hc
    have a0 : atI [V.str "nest", .str n, .int b, .int l] 0 = some (.str "nest") := rfl
    have a1 : atI [V.str "nest", .str n, .int b, .int l] 1 = some (.str n) := rfl
    have a2 : atI [V.str "nest", .str n, .int b, .int l] 2 = some (.int b) := rfl
    have a3 : atI [V.str "nest", .str n, .int b, .int l] 3 = some (.int l) := rfl
    have fn := NmB.str (K := K) (H := H) n h2
    rw [h1] at fn
    refine ⟨_, rfl, _, _, _, true, rfl, .tup e, ⟨_, .inl ⟨rfl, by kernel_rfl⟩⟩, true, rfl, qm ?_⟩
    refine ⟨_, rfl, _, _, rfl, .inr (SqT.of e), rfl, _, rfl, qm ?_⟩
    refine (qZ rfl (SqT.of e) a0 ⟨rfl, _, rfl, qGk rfl ?_⟩)
    refine (qZ rfl (SqT.of e) a1 ⟨_, true, rfl, fn, fun H1 s1 => ⟨true, rfl, qm ?_⟩⟩)
    have e1 := SqT.of (K := K) (s1 _ _ e)
    refine ⟨_, rfl, _, _, _, _, rfl, rfl, e1, a2, _, true, rfl, .int b, true, rfl, qr ?_⟩
    have k1 := kk H1 s1
    refine ⟨_, rfl, _, _, _, _, rfl, rfl, e1, a2, _, _, rfl, rfl, _, rfl, ?_⟩
    by_cases hb : 0 ≤ b
    · rw [decide_eq_true hb, Bool.true_and] at k1
      rw [decide_eq_true hb]
      exact qr ⟨_, rfl, _, _, _, _, rfl, rfl, e1, a3, _, some l, rfl, .int l, k1⟩
    · rw [decide_eq_false hb, Bool.false_and] at k1
      rw [decide_eq_false hb]
      exact qm k1
def vM (w : Str) (t : Int) (o : Option Int) : Bool := if w = "open" ∨ w = "mix" then lnO o else if w = "close" ∨ w = "lift" then (match o with | some u => decide (t < u) | none => false) else true
def qNw (H : Hp) (xs : List V) (w : Str) (t : Int) (o : Option Int) : Prop := atI xs 0 = some (.str w) ∧ atI xs 2 = some (.int t) ∧ ((w = "open" ∨ w = "mix" ∨ w = "close" ∨ w = "lift") → ∃ v, atI xs 3 = some v ∧ Nu H v o)
theorem qM1 {w : Str} : inV (.str w) [.str "open", .str "mix"] = decide (w = "open" ∨ w = "mix") := by
  unfold inV
  rw [Bool.eq_iff_iff]
  simp [eqV]
  constructor
  · rintro (h | h)
    · exact .inl h.symm
    · exact .inr h.symm
  · rintro (h | h)
    · exact .inl h.symm
    · exact .inr h.symm
theorem qMo {w : Str} : inV (.str w) [.str "close", .str "lift"] = decide (w = "close" ∨ w = "lift") := by
  unfold inV
  rw [Bool.eq_iff_iff]
  simp [eqV]
  constructor
  · rintro (h | h)
    · exact .inl h.symm
    · exact .inr h.symm
  · rintro (h | h)
    · exact .inl h.symm
    · exact .inr h.symm
def vH (N : Addr) : Sp := fun vs H Q E => ∃ (dz : Addr) (xs : List V) (w : Str) (t : Int) (o : Option Int), vs = [.ref dz] ∧ H dz = some (.tup xs) ∧ qNw H xs w t o ∧ (vM w t o = false → ∀ H', Same H H' → E (.ref N) none H') ∧ (vM w t o = true → ∀ H', Same H H' → Q .non H')
theorem vD (T : Tx K mg a) : FnOk P w K mg base (CXR P w) 3 a.a_check_numbers a.f_check_numbers ["deed"] (vH a.k_NoPlace) := by
  refine okX T.d_check_numbers.F vj (fun vs H Q E h => ?_) (fun cdv A outer s H vs Q E hr h => ?_)
  · obtain ⟨dz, xs, w, t, o, rfl, _⟩ := h
    rfl
  obtain ⟨dz, xs, w, t, o, rfl, hd, ⟨a0, a2, a3⟩, kb, kg⟩ := h
  refine ⟨_, (qG (qj (PW.pt (kc (qR xx (qL qJ (pv 0) qD (fun _ _ => rfl)) (qK (qA qI (qA qI qE))) rfl) (zY (jP (jD (qM T.d_is_length (vU T) hr rfl (qA (qL qJ (pv 0) qD (fun _ _ => rfl)) qE))))))) (qH (jE rfl rfl T.c_NoPlace T.x_NoPlace (qA qI qE))) qV)
      (qH (qj (PW.pt (kc (qR xx (qL qJ (pv 0) qD (fun _ _ => rfl)) (qK (qA qI (qA qI qE))) rfl) (zY (PW.pt (xA (jP (jD (qM T.d_is_whole (qt T) hr rfl (qA (qL qJ (pv 0) qD (fun _ _ => rfl)) qE)))) (jS (qR qDh (qL qJ (pv 0) qD (fun _ _ => rfl)) (qL qJ (pv 0) qD (fun _ _ => rfl)) (qX _)))))))) (qH (jE rfl rfl T.c_NoPlace T.x_NoPlace (qA qI qE))) qV))), ?_⟩
  try dsimp only [jT, qi]
  have one : (1 : Nat) ≤ sizeLine := by decide
  have two : (2 : Nat) ≤ sizeLine := by decide
  refine (qZ rfl (SqT.of hd) a0 ⟨two, fun q hq => ⟨q, _, rfl, .inr (SqT.of qB), rfl, rfl, _, rfl, ?_⟩⟩)
  rw [qM1]
  have w1 := qC hq (.tup [.str "open", .str "mix"])
  have hd1 := w1 _ _ hd
  generalize upd H q (.tup [.str "open", .str "mix"]) = H1 at w1 hd1 ⊢
  by_cases h1 : w = "open" ∨ w = "mix"
  · have eb : vM w t o = lnO o := by unfold vM; rw [if_pos h1]
    rw [eb] at kb kg
    refine kL (decide_eq_true h1) ?_
    obtain ⟨v, a3, hv⟩ := a3 (by rcases h1 with h | h; exact .inl h; exact .inr (.inl h))
    refine (qZ rfl (SqT.of hd1) a3 ⟨v, o, rfl, hv.same w1, _, rfl, ?_⟩)
    cases hb : lnO o with
    | false => exact qr ⟨one, kb hb _ w1⟩
    | true =>
      refine qm ?_
      refine (qZ rfl (SqT.of hd1) a0 ⟨two, fun q2 hq2 => ⟨q2, _, rfl, .inr (SqT.of qB), rfl, rfl, _, rfl, ?_⟩⟩)
      rw [qMo]
      have h2 : ¬ (w = "close" ∨ w = "lift") := by
        rcases h1 with rfl | rfl
        · rintro (h | h) <;> exact absurd h (by decide +kernel)
        · rintro (h | h) <;> exact absurd h (by decide +kernel)
      exact kX (decide_eq_false h2) (qm (kg hb _ (w1.trans (qC hq2 _))))
  · refine kX (decide_eq_false h1) (qm ?_)
    refine (qZ rfl (SqT.of hd1) a0 ⟨two, fun q2 hq2 => ⟨q2, _, rfl, .inr (SqT.of qB), rfl, rfl, _, rfl, ?_⟩⟩)
    rw [qMo]
    have w2 := qC hq2 (.tup [.str "close", .str "lift"])
    have w12 := w1.trans w2
    have hd2 := w2 _ _ hd1
    generalize upd H1 q2 (.tup [.str "close", .str "lift"]) = H2 at w2 w12 hd2 ⊢
    by_cases h2 : w = "close" ∨ w = "lift"
    · refine kL (decide_eq_true h2) ?_
      obtain ⟨v, b3, hv⟩ := a3 (by rcases h2 with h | h; exact .inr (.inr (.inl h)); exact .inr (.inr (.inr h)))
      clear a3
      cases hv with
      | no h =>
        have eb : vM w t none = false := by unfold vM; rw [if_neg h1, if_pos h2]
        exact ⟨_, rfl, dz, _, _, _, rfl, rfl, SqT.of hd2, b3, v, false, rfl, .no (h.same w12), false, rfl, qr (qr ⟨one, kb eb _ w12⟩)⟩
      | int u =>
        have eb : vM w t (some u) = decide (t < u) := by unfold vM; rw [if_neg h1, if_pos h2]
        rw [eb] at kb kg
        refine ⟨_, rfl, dz, _, _, _, rfl, rfl, SqT.of hd2, b3, _, true, rfl, .int u, true, rfl, qm ?_⟩
        refine (qZ rfl (SqT.of hd2) a2 ⟨_, rfl, dz, _, _, _, rfl, rfl, SqT.of hd2, b3, _, _, rfl, rfl, _, rfl, x9 (fun c => ?_) (fun c => ?_)⟩)
        · have hc : u ≤ t := by simpa using c
          exact ⟨one, kb (decide_eq_false (by omega)) _ w12⟩
        · have hc : ¬ u ≤ t := by simpa using c
          exact kg (decide_eq_true (by omega)) _ w12
    · have eb : vM w t o = true := by unfold vM; rw [if_neg h1, if_neg h2]
      exact kX (decide_eq_false h2) (qm (kg eb _ w12))
def qJq (lo hi : Int) (s : Int × Int × Int) : Bool := (decide (s.1 < hi) && decide (lo < s.2.2)) || (decide (lo ≤ s.2.1) && decide (s.2.1 ≤ hi))
def qo (ms : List Im) (lo hi : Int) : Bool := (zX 0 ms).any (qJq lo hi)
def wt : Sp := fun vs H Q _ => ∃ (z : Addr) (ms : List Im) (lo hi : Int), vs = [.ref z, .int lo, .int hi] ∧ Tr H z ms ∧ ms.length ≤ 300 ∧ ∀ H', Same H H' → Q (.bl (qo ms lo hi)) H'
theorem wr (T : Tx K mg a) : FnOk P w K mg base CX0 3 a.a_touches_mix a.f_touches_mix ["track", "low", "high"] wt := by
  refine T.d_touches_mix.F.ok sc_touches_mix (fun vs H Q E h => ?_) (fun cdv A outer s H vs Q E hr h => ?_)
  · obtain ⟨z, ms, lo, hi, rfl, _⟩ := h
    rfl
  obtain ⟨z, ms, lo, hi, rfl, tT, hml, kk⟩ := h
  refine ⟨_, (qG (vT PassesOwn.never rfl (xW (qM T.d_mix_spans (qB9 T) hr rfl (qA (pv 0) qE))) (zF (i := 3) sc_touches_mix.nd rfl (Or.inl rfl)) (qH (qj (qL3 (PW.pt (xA (PW.pt (kc (qR kt (qL qJ (pv 3) qD (fun _ _ => rfl)) (pv 2) (qX _)) (zY (qR kt (pv 1) (qL qJ (pv 3) qD (fun _ _ => rfl)) (qX _))))) (jS (PW.pt (kc (qR qIp (pv 1) (qL qJ (pv 3) qD (fun _ _ => rfl)) (qX _)) (zY (qR qIp (qL qJ (pv 3) qD (fun _ _ => rfl)) (pv 2) (qX _))))))))) (qH (qP kC)) qV)))
      (qH (qP kC))), ?_⟩
  try dsimp only [jT, qi]
  unfold qo at kk
  refine ⟨_, rfl, z, ms, rfl, tT, hml, fun y us H1 e1 hy hy1 hsp => ?_⟩
  generalize zX 0 ms = ss at hsp kk
  refine ⟨y, rfl, ⟨_, SqL.of hy1⟩, zV (K := K) (a := y) (xs := us) (fun i σ H' => ∃ o : Option V, σ = [some (.ref z), some (.int lo), some (.int hi), o] ∧ H' = H1 ∧ (ss.take i).any (qJq lo hi) = false) ⟨none, rfl, rfl, rfl⟩ ?_ ?_ ?_⟩
  · rintro i σ H' hi ⟨o, rfl, rfl, _⟩
    exact SqL.of hy1
  · rintro i x σ H' hx ⟨o, rfl, rfl, hno⟩
    obtain ⟨x0, x1, x2, p, hs, rfl, hp⟩ := hsp.get hx
    have q := SqT.of (K := K) hp
    have b0 : atI [V.int x0, .int x1, .int x2] 0 = some (.int x0) := rfl
    have b1 : atI [V.int x0, .int x1, .int x2] 1 = some (.int x1) := rfl
    have b2 : atI [V.int x0, .int x1, .int x2] 2 = some (.int x2) := rfl
    refine ⟨fun t' H2 => H2 = H' ∧ t' = qJq lo hi (x0, x1, x2), ?_, ?_⟩
    · unfold qJq
      dsimp only
      refine ⟨_, rfl, p, _, _, _, rfl, rfl, q, b0, _, rfl, _, _, rfl, rfl, _, rfl, ?_⟩
      by_cases h1 : x0 < hi
      · rw [decide_eq_true h1, Bool.true_and]
        refine qr ⟨_, rfl, _, rfl, p, _, _, _, rfl, rfl, q, b2, _, _, rfl, rfl, _, rfl, ?_⟩
        by_cases h2 : lo < x2
        · rw [decide_eq_true h2, Bool.true_or]
          exact qr ⟨rfl, rfl⟩
        rw [decide_eq_false h2, Bool.false_or]
        refine qm ⟨_, rfl, _, rfl, p, _, _, _, rfl, rfl, q, b1, _, _, rfl, rfl, _, rfl, ?_⟩
        by_cases h3 : lo ≤ x1
        · rw [decide_eq_true h3, Bool.true_and]
          exact qr ⟨_, rfl, p, _, _, _, rfl, rfl, q, b1, _, rfl, _, _, rfl, rfl, _, rfl, rfl, rfl⟩
        · rw [decide_eq_false h3, Bool.false_and]
          exact qm ⟨rfl, rfl⟩
      · rw [decide_eq_false h1, Bool.false_and, Bool.false_or]
        refine qm (qm ⟨_, rfl, _, rfl, p, _, _, _, rfl, rfl, q, b1, _, _, rfl, rfl, _, rfl, ?_⟩)
        by_cases h3 : lo ≤ x1
        · rw [decide_eq_true h3, Bool.true_and]
          exact qr ⟨_, rfl, p, _, _, _, rfl, rfl, q, b1, _, rfl, _, _, rfl, rfl, _, rfl, rfl, rfl⟩
        · rw [decide_eq_false h3, Bool.false_and]
          exact qm ⟨rfl, rfl⟩
    rintro t' H2 ⟨rfl, rfl⟩
    cases ht : qJq lo hi (x0, x1, x2) with
    | true =>
      have : ss.any (qJq lo hi) = true := List.any_eq_true.mpr ⟨_, List.mem_of_getElem? hs, ht⟩
      rw [this] at kk
      exact qr (kk _ e1)
    | false =>
      refine qm ⟨_, rfl, rfl, ?_⟩
      rw [List.take_add_one, hs, List.any_append, hno]
      show (false || (qJq lo hi (x0, x1, x2) || false)) = false
      rw [ht]; rfl
  · rintro σ H' ⟨o, rfl, rfl, hno⟩
    rw [hsp.len, List.take_length] at hno
    rw [hno] at kk
    exact kk _ e1
structure TabG (H : Hp) (tz : Addr) (ts : List (List Im)) (tie : List Int) (n : Nat) : Prop where
  tab : TabF H (.ref tz) ts tie
  ok : ∀ ms ∈ ts, MsB ms ∧ ms.length ≤ 100
  nt : n < ts.length
  len : ts.length ≤ 8
  tl : tie.length ≤ 8
  tin : ∀ x ∈ tie, ∃ k : Nat, x = (k : Int) ∧ k < ts.length
theorem TabG.same {H H' : Hp} {tz : Addr} {ts : List (List Im)} {tie : List Int} {n : Nat} (e : Same H H') (h : TabG H tz ts tie n) : TabG H' tz ts tie n := ⟨h.tab.same e, h.ok, h.nt, h.len, h.tl, h.tin⟩
theorem TabG.ch {H : Hp} {tz : Addr} {ts : List (List Im)} {tie : List Int} {n : Nat} (h : TabG H tz ts tie n) (push : Bool) : (chF tie (n : Int) push).length ≤ 10 ∧ ∀ x ∈ chF tie (n : Int) push, ∃ k : Nat, x = (k : Int) ∧ k < ts.length := by
  unfold chF
  split
  · refine ⟨?_, fun x hx => ?_⟩
    · rw [List.length_cons]
      have := List.length_filter_le (fun x => decide (x ≠ (n : Int))) tie
      have := h.tl
      omega
    · rcases List.mem_cons.mp hx with rfl | hx
      · exact ⟨n, rfl, h.nt⟩
      · exact h.tin x (List.mem_filter.mp hx).1
  · refine ⟨by show 1 ≤ 10; decide, fun x hx => ?_⟩
    have : x = (n : Int) := by simpa using hx
    exact ⟨n, this, h.nt⟩
def jr (ts : List (List Im)) (ns : List Int) (lo hi : Int) : Bool := ns.any fun k => qo (ts.getD k.toNat []) lo hi
def wb (M : Addr) : Sp := fun vs H Q E => ∃ (tz dz : Addr) (ts : List (List Im)) (tie : List Int) (n : Nat) (d : Dk), vs = [.ref tz, .ref dz] ∧ TabG H tz ts tie n ∧ DAt H dz (n : Int) d ∧
  (jr ts (chF tie (n : Int) d.push) d.t d.hi = true → ∀ H', Same H H' → E (.ref M) none H') ∧ (jr ts (chF tie (n : Int) d.push) d.t d.hi = false → ∀ H', Same H H' → Q .non H')
theorem wD (T : Tx K mg a) : FnOk P w K mg base (CXR P w) 4 a.a_check_mixes a.f_check_mixes ["table", "deed"] (wb a.k_Mixed) := by
  refine okX T.d_check_mixes.F sc_check_mixes (fun vs H Q E h => ?_) (fun cdv A outer s H vs Q E hr h => ?_)
  · obtain ⟨tz, dz, ts, tie, n, d, rfl, _⟩ := h
    rfl
  obtain ⟨tz, dz, ts, tie, n, d, rfl, hP, hD, kb, kg⟩ := h
  refine ⟨_, (qG (qU (i := 2) sc_check_mixes.nd rfl (Or.inl rfl) (qM T.d_stretch_of (kS T) hr rfl (qA (pv 1) qE)))
      (qH (vT (qNa rfl rfl rfl rfl) rfl (xW (qM T.d_tracks_changed (zU T) hr rfl (qA (pv 0) (qA (pv 1) qE)))) (zF (i := 3) sc_check_mixes.nd rfl (Or.inl rfl)) (qH (qj (jD (qM T.d_touches_mix (wr T) hr rfl (qA (qL jb (qL qJ (pv 0) qD (fun _ _ => rfl)) (pv 3) (fun _ _ => rfl)) (qA (qL qJ (pv 2) qD (fun _ _ => rfl)) (qA (qL qJ (pv 2) qD (fun _ _ => rfl)) qE))))) (qH (jE rfl rfl T.c_Mixed T.x_Mixed (qA qI qE))) qV))))), ?_⟩
  try dsimp only [jT, qi]
  have one : (1 : Nat) ≤ sizeLine := by decide
  obtain ⟨tt, tl, ti, zs, e0, g2, g3, g4, g5⟩ := id hP.tab
  cases e0
  have hzl := g4.len
  obtain ⟨hcl, hch⟩ := hP.ch d.push
  unfold jr at kb kg
  refine ⟨_, rfl, dz, _, d, rfl, hD, fun p H1 e1 hp => ?_⟩
  refine ⟨_, rfl, _, rfl, tz, tl, ti, dz, tie, _, d, rfl, e1 _ _ g2, e1 _ _ g5, by have := hP.tl; omega, hD.same e1, fun y H2 e2 hy hy2 => ?_⟩
  generalize chF tie (n : Int) d.push = ns at hy2 hcl hch kb kg
  refine ⟨y, rfl, ⟨_, SqL.of hy2⟩, zV (K := K) (a := y) (xs := ns.map V.int) (fun i σ H' => ∃ o : Option V, σ = [some (.ref tz), some (.ref dz), some (.ref p), o] ∧ Same H2 H' ∧ (ns.take i).any (fun k => qo (ts.getD k.toNat []) d.t d.hi) = false) ⟨none, rfl, Same.refl _, rfl⟩ ?_ ?_ ?_⟩
  · rintro i σ H' hi ⟨o, rfl, e, _⟩
    exact SqL.of (e _ _ hy2)
  · rintro i x σ H' hx ⟨o, rfl, e, hno⟩
    obtain ⟨xi, hxi, rfl⟩ : ∃ xi : Int, ns[i]? = some xi ∧ x = .int xi := by
      rw [List.getElem?_map] at hx
      cases hq : ns[i]? with
      | none => rw [hq] at hx; cases hx
      | some k => rw [hq] at hx; cases hx; exact ⟨k, rfl, rfl⟩
    obtain ⟨k, rfl, hk⟩ := hch xi (List.mem_of_getElem? hxi)
    have e02 := e1.trans (e2.trans e)
    have ez : zs[k]? = some zs[k] := List.getElem?_eq_getElem (by omega)
    obtain ⟨ms, z, hms, ezz, tT⟩ := g4.get ez
    rw [ezz] at ez
    have egd : ts.getD ((k : Int)).toNat [] = ms := by rw [Int.toNat_natCast, List.getD_eq_getElem?_getD, hms]; rfl
    have hml := (hP.ok ms (List.mem_of_getElem? hms)).2
    refine (qZ rfl (SqT.of (e02 _ _ g2)) at0 ⟨_, rfl, tl, _, _, _, rfl, rfl, SqL.of (e02 _ _ g3), jn ez, qZ rfl (SqT.of ((e2.trans e) _ _ hp)) at0 (qZ rfl (SqT.of ((e2.trans e) _ _ hp)) at1 ⟨z, ms, _, _, rfl, tT.same e02, by omega, fun H3 e3 => ?_⟩)⟩)
    refine ⟨_, rfl, ?_⟩
    cases ht : qo ms d.t d.hi with
    | true =>
      refine qr ⟨one, kb ?_ _ (e02.trans e3)⟩
      exact List.any_eq_true.mpr ⟨_, List.mem_of_getElem? hxi, by rw [egd]; exact ht⟩
    | false =>
      refine qm ⟨_, rfl, e.trans e3, ?_⟩
      rw [List.take_add_one, hxi, List.any_append, hno]
      show (false || (qo (ts.getD ((k : Int)).toNat []) d.t d.hi || false)) = false
      rw [egd, ht]; rfl
  · rintro σ H' ⟨o, rfl, e, hno⟩
    rw [List.length_map, List.take_length] at hno
    exact kg hno H' (e1.trans (e2.trans e))
def qJs (ms : List Im) : Int := (ms.map Im.mo).sum
def qOp (ms : List Im) (lo hi : Int) (ls : List Im) : List Im := qCe 0 (kN 0 lo 0 ms ++ [.gap (qGe (lo - qJs ms) 0)] ++ ls ++ kN hi (qJs ms) 0 ms)
def qHp : Sp := fun vs H Q _ => ∃ (z l : Addr) (ms ls : List Im) (lo hi : Int), vs = [.ref z, .int lo, .int hi, .ref l] ∧ Tr H z ms ∧ Tr H l ls ∧ MsB ms ∧ ms.length ≤ 100 ∧ ls.length ≤ 10 ∧ 0 ≤ hi ∧ hi ≤ 2 ^ 500 ∧ ∀ (y : Addr) (H' : Hp), Same H H' → H y = none → Tr H' y (qOp ms lo hi ls) → Q (.ref y) H'
theorem qG1 (T : Tx K mg a) : FnOk P w K mg base CX0 8 a.a_relaid a.f_relaid ["track", "low", "high", "laid"] qHp := by
  refine T.d_relaid.F.ok sc_relaid (fun vs H Q E h => ?_) (fun cdv A outer s H vs Q E hr h => ?_)
  · obtain ⟨z, l, ms, ls, lo, hi, rfl, _⟩ := h
    rfl
  obtain ⟨z, l, ms, ls, lo, hi, rfl, tT, tL, hB, hl1, hl2, h0, h1, kk⟩ := h
  refine ⟨_, (qG (qU (i := 4) sc_relaid.nd rfl (Or.inl rfl) (qK (qA qI (qA (qh (qB3 rfl) rfl T.b_max rfl (qA (qS j6 (pv 1) (qM T.d_length_of (vV T) hr rfl (qA (pv 0) qE))) (qA qD qE))) qE))))
      (qH (qP (qM T.d_one_form (qDu T) hr rfl (qA (qS jC (qS jC (qS jC (qM T.d_part_of_track (zj T) hr rfl (qA (pv 0) (qA qD (qA (pv 1) qE)))) (ql (qA (pv 4) qE))) (pv 3)) (qM T.d_part_of_track (zj T) hr rfl (qA (pv 0) (qA (pv 2) (qA (qM T.d_length_of (vV T) hr rfl (qA (pv 0) qE)) qE))))) qE))))), ?_⟩
  try dsimp only [jT, qi]
  have two : (2 : Nat) ≤ sizeLine := by decide
  have one : (1 : Nat) ≤ sizeLine := by decide
  have sm : ∀ j : Nat, j ≤ 1000 → j ≤ sizeLine := fun j h => by have := qW (n := j) (by omega); omega
  refine ⟨_, rfl, _, rfl, z, ms, rfl, tT, by omega, fun H1 e1 => ?_⟩
  refine ⟨_, _, rfl, rfl, _, _, rfl, two, fun g hg => ?_⟩
  have w2 := qC hg (.tup [.str "gap", .int (if (0 : Int) > lo - (ms.map Im.mo).sum then 0 else lo - (ms.map Im.mo).sum)])
  have kg : upd H1 g (.tup [.str "gap", .int (if (0 : Int) > lo - (ms.map Im.mo).sum then 0 else lo - (ms.map Im.mo).sum)]) g = some (.tup [.str "gap", .int (qGe (lo - qJs ms) 0)]) := qB
  have e2 := e1.trans w2
  change _
  generalize upd H1 g (.tup [.str "gap", .int (if (0 : Int) > lo - (ms.map Im.mo).sum then 0 else lo - (ms.map Im.mo).sum)]) = H2 at w2 kg e2
  refine ⟨_, rfl, _, rfl, z, ms, 0, lo, rfl, tT.same e2, hB, by decide, by decide, fun y1 H3 e3 hy1 ⟨us1, k1, i1⟩ => ?_⟩
  have n1 := i1.len
  have n1' := wE 0 lo 0 ms
  refine ⟨_, rfl, one, fun l2 hl2 => ?_⟩
  have w4 := qC hl2 (.lst [.ref g])
  refine ⟨y1, l2, _, _, rfl, rfl, w4 _ _ k1, qB, sm _ (by show us1.length + 1 ≤ 1000; omega), fun y2 hy2 => ?_⟩
  have w5 := qC hy2 (.lst (us1 ++ [.ref g]))
  have w45 := w4.trans w5
  have e5 := (e2.trans e3).trans w45
  have k2 : (upd (upd H3 l2 (.lst [.ref g])) y2 (.lst (us1 ++ [.ref g]))) y2 = some (.lst (us1 ++ [.ref g])) := qB
  have i2 : IsIs (upd (upd H3 l2 (.lst [.ref g])) y2 (.lst (us1 ++ [.ref g]))) (kN 0 lo 0 ms ++ [.gap (qGe (lo - qJs ms) 0)]) (us1 ++ [.ref g]) := (i1.ts (qk w45)).app (.one (isG ((e3.trans w45) _ _ kg)))
  change _
  generalize upd (upd H3 l2 (.lst [.ref g])) y2 (.lst (us1 ++ [.ref g])) = H5 at w45 e5 k2 i2
  obtain ⟨ul, kl, il⟩ := tL.same e5
  have nl := il.len
  have n2 := i2.len
  rw [List.length_append, List.length_append] at n2
  refine ⟨_, rfl, y2, l, _, _, rfl, rfl, k2, kl, sm _ (by rw [List.length_append]; show us1.length + 1 + ul.length ≤ 1000; omega), fun y3 hy3 => ?_⟩
  have w6 := qC hy3 (.lst (us1 ++ [.ref g] ++ ul))
  have e6 := e5.trans w6
  have k3 : (upd H5 y3 (.lst (us1 ++ [.ref g] ++ ul))) y3 = some (.lst (us1 ++ [.ref g] ++ ul)) := qB
  have i3 : IsIs (upd H5 y3 (.lst (us1 ++ [.ref g] ++ ul))) (kN 0 lo 0 ms ++ [.gap (qGe (lo - qJs ms) 0)] ++ ls) (us1 ++ [.ref g] ++ ul) := (i2.app il).ts (qk w6)
  change _
  generalize upd H5 y3 (.lst (us1 ++ [.ref g] ++ ul)) = H6 at w6 e6 k3 i3
  refine ⟨_, rfl, _, rfl, _, rfl, z, ms, rfl, tT.same e6, by omega, fun H7 e7 => ?_⟩
  refine ⟨z, ms, hi, qJs ms, rfl, tT.same (e6.trans e7), hB, h0, h1, fun y4 H8 e8 hy4 ⟨us4, k4, i4⟩ => ?_⟩
  have n4 := i4.len
  have n4' := wE hi (qJs ms) 0 ms
  have e78 := e7.trans e8
  have hlen : (us1 ++ [V.ref g] ++ ul).length = us1.length + 1 + ul.length := by rw [List.length_append, List.length_append]; rfl
  refine ⟨y3, y4, _, _, rfl, rfl, e78 _ _ k3, k4, sm _ (by omega), fun y5 hy5 => ?_⟩
  have w9 := qC hy5 (.lst (us1 ++ [.ref g] ++ ul ++ us4))
  have e9 := (e6.trans e78).trans w9
  refine ⟨y5, _, rfl, ⟨_, qB, ((i3.ts (qk e78)).app i4).ts (qk w9)⟩, ?_, fun y H10 e10 hy tY => kk y H10 (e9.trans e10) (e9.free hy) tY⟩
  rw [List.length_append, List.length_append, List.length_append]
  show (kN 0 lo 0 ms).length + 1 + ls.length + (kN hi (qJs ms) 0 ms).length ≤ 300
  omega
def LayOk (H : Hp) (rd : Addr) : Im → Prop
  | .clip n p q r s l => ∃ N, Reel H rd n N ∧ GF n p q r s l ∧ InR (Vk p q r s 0) (q * s) N ∧ InR (Vk p q r s (l - 1)) (q * s) N
  | .nest n b l => wj n = true ∧ n.length ≤ 1000 ∧ 0 ≤ b ∧ 1 ≤ l
  | _ => False
theorem LayOk.same {H H' : Hp} {rd : Addr} {m : Im} (e : Same H H') (h : LayOk H rd m) : LayOk H' rd m := by
  cases m with
  | clip n p q r s l => obtain ⟨N, h1, h2⟩ := h; exact ⟨N, h1.same e, h2⟩
  | nest n b l => exact h
  | gap => exact h
  | mix => exact h
def DOk (H : Hp) (rd : Addr) (ms : List Im) : Dk → Prop
  | .cut t => 0 ≤ t ∧ t ≤ 2 ^ 400 ∧ ze ms t = true
  | .hel _ => False
  | .opn t l => 0 ≤ t ∧ t ≤ 2 ^ 400 ∧ 1 ≤ l
  | .cls t u => 0 ≤ t ∧ t < u ∧ u ≤ 2 ^ 400
  | .lft t u => 0 ≤ t ∧ t < u ∧ u ≤ 2 ^ 400
  | .lin t m => 0 ≤ t ∧ t ≤ 2 ^ 400 ∧ LayOk H rd m
  | .lov t m => 0 ≤ t ∧ t ≤ 2 ^ 400 ∧ LayOk H rd m ∧ 0 ≤ m.mo ∧ m.mo ≤ 2 ^ 400
def Dk.lay : Dk → Option Im
  | .lin _ m => some m
  | .lov _ m => some m
  | _ => none
theorem Dk.lay_in (d : Dk) : inV (.str d.wd) [.str "lay_in", .str "lay_over"] = d.lay.isSome := by
  cases d with
  | cut t => show inV (.str "cut") _ = false; decide +kernel
  | hel t => show inV (.str "heal") _ = false; decide +kernel
  | opn t l => show inV (.str "open") _ = false; decide +kernel
  | cls t u => show inV (.str "close") _ = false; decide +kernel
  | lft t u => show inV (.str "lift") _ = false; decide +kernel
  | lin t m => show inV (.str "lay_in") _ = true; decide +kernel
  | lov t m => show inV (.str "lay_over") _ = true; decide +kernel
theorem DAt.lay {H : Hp} {dz : Addr} {n : Int} {d : Dk} {m : Im} (h : DAt H dz n d) (hl : d.lay = some m) : ∃ xs v, H dz = some (.tup xs) ∧ atI xs 3 = some v ∧ IsI H m v := by
  cases d with
  | lin t m' => cases hl; obtain ⟨v, h1, h2⟩ := h; exact ⟨_, v, h1, rfl, h2⟩
  | lov t m' => cases hl; obtain ⟨v, h1, h2⟩ := h; exact ⟨_, v, h1, rfl, h2⟩
  | _ => cases hl
theorem DOk.lay {H : Hp} {rd : Addr} {ms : List Im} {d : Dk} {m : Im} (h : DOk H rd ms d) (hl : d.lay = some m) : LayOk H rd m := by
  cases d with
  | lin t m' => cases hl; exact h.2.2
  | lov t m' => cases hl; exact h.2.2.1
  | _ => cases hl
theorem DOk.ch {H : Hp} {rd : Addr} {ms : List Im} {d : Dk} (h : DOk H rd ms d) : inV (.str d.wd) [.str "cut", .str "lay_in", .str "open", .str "close", .str "lift", .str "lay_over"] = true := by
  cases d with
  | cut t => show inV (.str "cut") _ = true; decide +kernel
  | hel t => exact h.elim
  | opn t l => show inV (.str "open") _ = true; decide +kernel
  | cls t u => show inV (.str "close") _ = true; decide +kernel
  | lft t u => show inV (.str "lift") _ = true; decide +kernel
  | lin t m => show inV (.str "lay_in") _ = true; decide +kernel
  | lov t m => show inV (.str "lay_over") _ = true; decide +kernel
theorem Dk.cut_wd {d : Dk} (h : d.wd = "cut") : ∃ t, d = .cut t := by
  cases d with
  | cut t => exact ⟨t, rfl⟩
  | hel t => exact absurd (show ("heal" : Str) = "cut" from h) (by decide +kernel)
  | opn t l => exact absurd (show ("open" : Str) = "cut" from h) (by decide +kernel)
  | cls t l => exact absurd (show ("close" : Str) = "cut" from h) (by decide +kernel)
  | lft t l => exact absurd (show ("lift" : Str) = "cut" from h) (by decide +kernel)
  | lin t l => exact absurd (show ("lay_in" : Str) = "cut" from h) (by decide +kernel)
  | lov t l => exact absurd (show ("lay_over" : Str) = "cut" from h) (by decide +kernel)
theorem DOk.same {H H' : Hp} {rd : Addr} {ms : List Im} {d : Dk} (e : Same H H') (h : DOk H rd ms d) : DOk H' rd ms d := by
  cases d with
  | lin t m => exact ⟨h.1, h.2.1, h.2.2.same e⟩
  | lov t m => exact ⟨h.1, h.2.1, h.2.2.1.same e, h.2.2.2⟩
  | _ => exact h
theorem NmB.same {H H' : Hp} (s : Same H H') {x : V} {b : Bool} (h : NmB K H x b) : NmB K H' x b := by
  cases h with
  | str z h => exact .str z h
  | no ty e => exact .no (qBj s ty) e
theorem LnB.same {H H' : Hp} (s : Same H H') {x : V} {b : Bool} (h : LnB H x b) : LnB H' x b := by
  cases h with
  | int i => exact .int i
  | no h => exact .no (h.same s)
theorem CfB.same {H H' : Hp} (s : Same H H') {x : V} {b : Bool} (h : CfB K H x b) : CfB K H' x b := by
  cases h with
  | no ty e => exact .no (qBj s ty) e
  | len e h => exact .len (s _ _ e) h
  | word e h1 h2 => exact .word (s _ _ e) h1 h2
  | nm e h => exact .nm (s _ _ e) (h.same s)
  | st e h1 h2 => exact .st (s _ _ e) (h1.same s) (h2.same s)
  | sp e h1 h2 h3 => exact .sp (s _ _ e) (h1.same s) (h2.same s) (h3.same s)
  | ln e h1 h2 h3 h4 => exact .ln (s _ _ e) (h1.same s) (h2.same s) (h3.same s) (h4.same s)
theorem ItB.same {H H' : Hp} (s : Same H H') {x : V} {rd : Addr} {b : Bool} (h : ItB K H x rd b) : ItB K H' x rd b := by
  cases h with
  | form h => exact .form (h.same s)
  | reel hc g hk hv => exact .reel (hc.same s) g (s _ _ hk) hv
  | pics hc g hr hb => exact .pics (hc.same s) g (hr.same s) hb
inductive ChO (K : W.Frag) (H : Hp) (rd dz : Addr) (n : Nat) (ts : List (List Im)) (tie : List Int) (ms : List Im) : Nat → Prop where
  | cut0 {t : Int} (hd : H dz = some (.tup [.str "cut", .int (n : Int), .int t])) (h : ze ms t = false) : ChO K H rd dz n ts tie ms 0
  | bad {w : Str} {t : Int} {x : V} (hw : w = "lay_in" ∨ w = "lay_over") (hd : H dz = some (.tup [.str w, .int (n : Int), .int t, x])) (h : NsB K H x false) (h2 : ItB K H x rd false) : ChO K H rd dz n ts tie ms 3
  | ok {d : Dk} {c : Nat} (hD : DAt H dz (n : Int) d) (hO : DOk H rd ms d) (hc : c = if jr ts (chF tie (n : Int) d.push) d.t d.hi = true then 1 else 2) : ChO K H rd dz n ts tie ms c
theorem ChO.same {H H' : Hp} (e : Same H H') {rd dz : Addr} {n : Nat} {ts : List (List Im)} {tie : List Int} {ms : List Im} {c : Nat} (h : ChO K H rd dz n ts tie ms c) : ChO K H' rd dz n ts tie ms c := by
  cases h with
  | cut0 hd h => exact .cut0 (e _ _ hd) h
  | bad hw hd h h2 => exact .bad hw (e _ _ hd) (h.same e) (h2.same e)
  | ok hD hO hc => exact .ok (hD.same e) (hO.same e) hc
def vv (K : W.Frag) (N M C : Addr) : Sp := fun vs H Q E => ∃ (tz dz rd : Addr) (ts : List (List Im)) (tie : List Int) (n : Nat) (ms : List Im) (c : Nat), vs = [.ref tz, .ref dz, .ref rd] ∧ TabG H tz ts tie n ∧ ts[n]? = some ms ∧ ChO K H rd dz n ts tie ms c ∧
  (c = 0 → ∀ H', Same H H' → E (.ref N) none H') ∧ (c = 1 → ∀ H', Same H H' → E (.ref M) none H') ∧ (c = 3 → ∀ H', Same H H' → E (.ref C) none H') ∧ (c = 2 → ∀ H', Same H H' → Q .non H')
theorem vg (T : Tx K mg a) : FnOk P w K mg base (CXR P w) 7 a.a_check_change a.f_check_change ["table", "deed", "reels"] (vv K a.k_NoPlace a.k_Mixed a.k_NoClip) := by
  refine okX T.d_check_change.F wI (fun vs H Q E h => ?_) (fun cdv A outer s H vs Q E hr h => ?_)
  · obtain ⟨tz, dz, rd, ts, tie, n, ms, c, rfl, _⟩ := h
    rfl
  obtain ⟨tz, dz, rd, ts, tie, n, ms, c, rfl, hP, hms, hC, k0, k1, k3, k2⟩ := h
  refine ⟨_, (qG (qj (qR zn (qL qJ (pv 1) qD (fun _ _ => rfl)) (ja (v := .ref a.n_CHANGES) rfl T.g_CHANGES rfl) rfl) (qH (jE rfl rfl T.c_NoPlace T.x_NoPlace (qA qI qE))) qV)
      (qG (vE (qj (PW.pt (kc (qR j4 (qL qJ (pv 1) qD (fun _ _ => rfl)) qI (qX _)) (zY (jP (jD (qM T.d_lies_within (wv T) hr rfl (qA (qL jb (qL qJ (pv 0) qD (fun _ _ => rfl)) (qL qJ (pv 1) qD (fun _ _ => rfl)) (fun _ _ => rfl)) (qA (qL qJ (pv 1) qD (fun _ _ => rfl)) qE)))))))) (qH (jE rfl rfl T.c_NoPlace T.x_NoPlace (qA qI qE))) qV))
      (qG (vE (qj (PW.pt (kc (qR xx (qL qJ (pv 1) qD (fun _ _ => rfl)) (ja (v := .ref a.n_LAYS) rfl T.g_LAYS rfl) rfl) (zY (jP (jD (qM T.d_has_nest_form (vm T) hr rfl (qA (qL qJ (pv 1) qD (fun _ _ => rfl)) qE))))))) (qH (jN (jo T.d_check_clip (ww T) hr rfl (qA (qL qJ (pv 1) qD (fun _ _ => rfl)) (qA (pv 2) qE))))) qV))
      (qH (jN (jo T.d_check_mixes (wD T) hr rfl (qA (pv 0) (qA (pv 1) qE)))))))), ?_⟩
  try dsimp only [jT, qi]
  have one : (1 : Nat) ≤ sizeLine := by decide
  obtain ⟨tt, tl, ti, zs, e0, g2, g3, g4, g5⟩ := id hP.tab
  cases e0
  have hzl := g4.len
  have hnt := hP.nt
  have ez : zs[n]? = some (zs[n]'(by omega)) := List.getElem?_eq_getElem (by omega)
  obtain ⟨ms', z, hms', ezz, tT⟩ := g4.get ez
  rw [hms] at hms'
  cases hms'
  rw [ezz] at ez
  cases hC with
  | @cut0 t hd h =>
    have a0 : atI [V.str "cut", .int (n : Int), .int t] 0 = some (.str "cut") := rfl
    have a1 : atI [V.str "cut", .int (n : Int), .int t] 1 = some (.int (n : Int)) := rfl
    have a2 : atI [V.str "cut", .int (n : Int), .int t] 2 = some (.int t) := rfl
    refine (qZ rfl (SqT.of hd) a0 ⟨a.n_CHANGES, _, rfl, .inr (T.sq_CHANGES _), rfl, rfl, false, qE3 (b := true) (by decide +kernel), qm ?_⟩)
    refine ⟨fun σ H1 => False, ?_, fun _ _ h => h.elim⟩
    refine (qZ rfl (SqT.of hd) a0 ⟨rfl, _, rfl, kL (by decide +kernel) ?_⟩)
    refine (qZ rfl (SqT.of g2) at0 (qZ rfl (SqT.of hd) a1 ⟨tl, _, _, _, rfl, rfl, SqL.of g3, jn ez, qZ rfl (SqT.of hd) a2 ⟨z, ms, t, rfl, tT, fun H1 e1 => ?_⟩⟩))
    rw [h]
    exact ⟨false, rfl, qr ⟨one, k0 rfl H1 e1⟩⟩
  | @bad w t x hw hd h h2 =>
    have a0 : atI [V.str w, .int (n : Int), .int t, x] 0 = some (.str w) := rfl
    have a3 : atI [V.str w, .int (n : Int), .int t, x] 3 = some x := rfl
    have i1 : inV (.str w) [.str "cut", .str "lay_in", .str "open", .str "close", .str "lift", .str "lay_over"] = true := by rcases hw with rfl | rfl <;> decide +kernel
    have i2 : inV (.str w) [.str "lay_in", .str "lay_over"] = true := by rcases hw with rfl | rfl <;> decide +kernel
    have i3 : decide (V.str w = V.str "cut") = false := by rcases hw with rfl | rfl <;> decide +kernel
    refine (qZ rfl (SqT.of hd) a0 ⟨a.n_CHANGES, _, rfl, .inr (T.sq_CHANGES _), rfl, rfl, false, qE3 i1, qm ?_⟩)
    refine ⟨fun σ H1 => σ = [some (.ref tz), some (.ref dz), some (.ref rd)] ∧ H1 = H, ?_, ?_⟩
    · exact (qZ rfl (SqT.of hd) a0 ⟨rfl, _, rfl, kX i3 (qm ⟨rfl, rfl⟩)⟩)
    rintro σ H1 ⟨rfl, rfl⟩
    refine ⟨fun σ H1 => False, ?_, fun _ _ h => h.elim⟩
    refine (qZ rfl (SqT.of hd) a0 ⟨a.n_LAYS, _, rfl, .inr (T.sq_LAYS _), rfl, rfl, true, xZ i2, qr ?_⟩)
    refine (qZ rfl (SqT.of hd) a3 ⟨x, false, rfl, h, fun H2 e2 => ⟨false, rfl, qr ?_⟩⟩)
    exact (qZ rfl (SqT.of (e2 _ _ hd)) a3 ⟨_, rfl, x, rd, false, rfl, h2.same e2, (fun h => by cases h), fun _ H3 e3 => k3 rfl H3 (e2.trans e3)⟩)
  | @ok d c hD hO hc =>
    obtain ⟨xs, hd, a0, a1, a2⟩ := hD.opn
    refine (qZ rfl (SqT.of hd) a0 ⟨a.n_CHANGES, _, rfl, .inr (T.sq_CHANGES _), rfl, rfl, false, qE3 hO.ch, qm ?_⟩)
    refine ⟨fun σ H1 => σ = [some (.ref tz), some (.ref dz), some (.ref rd)] ∧ Same H H1, ?_, ?_⟩
    · refine (qZ rfl (SqT.of hd) a0 ⟨rfl, _, rfl, x9 (fun c => ?_) (fun c => qm ⟨rfl, Same.refl _⟩)⟩)
      obtain ⟨t, rfl⟩ := Dk.cut_wd (by simpa using c)
      refine (qZ rfl (SqT.of g2) at0 (qZ rfl (SqT.of hd) a1 ⟨tl, _, _, _, rfl, rfl, SqL.of g3, jn ez, qZ rfl (SqT.of hd) a2 ⟨z, ms, t, rfl, tT, fun H1 e1 => ?_⟩⟩))
      rw [hO.2.2]
      exact ⟨true, rfl, qm ⟨rfl, e1⟩⟩
    rintro σ H1 ⟨rfl, e1⟩
    refine ⟨fun σ H2 => σ = [some (.ref tz), some (.ref dz), some (.ref rd)] ∧ Same H H2, ?_, ?_⟩
    · refine (qZ rfl (SqT.of (e1 _ _ hd)) a0 ⟨a.n_LAYS, _, rfl, .inr (T.sq_LAYS _), rfl, rfl, d.lay.isSome, xZ d.lay_in, ?_⟩)
      cases hl : d.lay with
      | none => exact qm (qm ⟨rfl, e1⟩)
      | some m =>
        obtain ⟨xs', v, hd', a3, hI⟩ := (hD.same e1).lay hl
        have hL := (hO.lay hl).same e1
        cases m with
        | nest nn b l =>
          obtain ⟨zv, rfl, hz⟩ := id hI
          obtain ⟨h1, h2, h3, h4⟩ := hL
          refine qr (qZ rfl (SqT.of hd') a3 ⟨_, true, rfl, .nums hz h1 h2 (by rw [decide_eq_true h3, decide_eq_true h4]; rfl), fun H2 e2 => ?_⟩)
          exact ⟨true, rfl, qm ⟨rfl, e1.trans e2⟩⟩
        | gap l => exact hL.elim
        | mix l => exact hL.elim
        | clip nn p q r s1 l =>
          obtain ⟨zv, x', y', rfl, hz, hx', hy'⟩ := id hI
          obtain ⟨N, hr1, hg, i0, i1⟩ := hL
          refine qr (qZ rfl (SqT.of hd') a3 ⟨_, false, rfl, .len hz (by show 5 ≠ 4; decide), fun H2 e2 => ?_⟩)
          refine ⟨false, rfl, qr (qZ rfl (SqT.of (e2 _ _ hd')) a3 ⟨_, rfl, _, rd, true, rfl, .pics ⟨x', y', e2 _ _ hz, e2 _ _ hx', e2 _ _ hy'⟩ hg (hr1.same e2) ⟨fun _ => ⟨i0, i1⟩, fun _ => rfl⟩, fun _ H3 e3 => ?_, fun h => by cases h⟩)⟩
          exact ⟨rfl, (e1.trans e2).trans e3⟩
    rintro σ H2 ⟨rfl, e2⟩
    refine ⟨_, rfl, _, rfl, tz, dz, ts, tie, n, d, rfl, hP.same e2, hD.same e2, fun ht H3 e3 => ?_, fun ht H3 e3 => ?_⟩
    · rw [ht, if_pos rfl] at hc
      exact k1 hc H3 (e2.trans e3)
    · rw [ht, if_neg (by decide)] at hc
      exact k2 hc H3 (e2.trans e3)
def goB (n n' : Str) (p q r s len p' q' r' s' : Int) : Bool := decide (n = n') && ((r == r' && s == s') && (p' == plP p q r s len && q' == plQ p q r s len))
def qFk (K : W.Frag) : Sp := fun vs H Q _ => ∃ (v u : V) (n n' : Str) (p q r s len p' q' r' s' len' : Int), vs = [v, u] ∧ Cp K H v n p q r s len ∧ Cp K H u n' p' q' r' s' len' ∧ Bn 700 p q r s ∧ len.natAbs < 2 ^ 700 ∧
  ∀ H', Same H H' → Q (.bl (goB n n' p q r s len p' q' r' s')) H'
theorem qF0 (T : Tx K mg a) : FnOk P w K mg base CX0 5 a.a_goes_on a.f_goes_on ["one", "other"] (qFk K) := by
  refine T.d_goes_on.F.ok qFx (fun vs H Q E h => ?_) (fun cdv A outer s H vs Q E hr h => ?_)
  · obtain ⟨v, u, n, n', p, q, r, s, len, p', q', r', s', len', rfl, _⟩ := h
    rfl
  obtain ⟨v, u, n, n', p, q, r, s, len, p', q', r', s', len', rfl, hc, hd, ⟨hq, hs, bp, bq, br, bs⟩, bl, kk⟩ := h
  have hu := hr.units0
  refine ⟨_, (qG (qj (PW.pt (xA (qR kA (qL qJ (pv 0) qD (fun _ _ => rfl)) (qL qJ (pv 1) qD (fun _ _ => rfl)) (qX _)) (jS (qR (qLw hu) (qL qJ (pv 0) qD (fun _ _ => rfl)) (qL qJ (pv 1) qD (fun _ _ => rfl)) (qX _))))) (qH (qP kC)) qV)
      (qH (qP (jO (qJ3 hu) (qL qJ (pv 1) qD (fun _ _ => rfl)) (qM T.d_place_at (xz T) hr rfl (qA (pv 0) (qA (qL qJ (pv 0) qD (fun _ _ => rfl)) qE))) (qX _))))), ?_⟩
  try dsimp only [jT, qi]
  have hc0 := hc
  obtain ⟨z, z1, z2, e, h0, h1, h2⟩ := hc0.ex
  subst e
  obtain ⟨y, y1, y2, e, d0, d1, d2⟩ := hd.ex
  subst e
  refine (qZ rfl h0 vt ⟨_, rfl, y, _, _, _, rfl, rfl, d0, vt, rfl, _, rfl, ?_⟩)
  by_cases en : n = n'
  rotate_left
  · have e : (!decide (V.str n = V.str n')) = true := by simp [en]
    rw [e]
    refine qr (qr ?_)
    have g : goB n n' p q r s len p' q' r' s' = false := by simp [goB, en]
    have := kk H (Same.refl _)
    rw [g] at this
    exact this
  have e : (!decide (V.str n = V.str n')) = false := by simp [en]
  rw [e]
  refine qm ?_
  refine (qZ rfl h0 qCa ⟨_, rfl, y, _, _, _, rfl, rfl, d0, qCa, _, _, _, _, rfl, rfl, h2, d2, rfl, rfl, _, rfl, ?_⟩)
  rw [eq2]
  by_cases er : (r == r' && s == s') = true
  rotate_left
  · have er' : (r == r' && s == s') = false := by simpa using er
    rw [er']
    refine qr ?_
    have g : goB n n' p q r s len p' q' r' s' = false := by unfold goB; rw [er']; simp
    have := kk H (Same.refl _)
    rw [g] at this
    exact this
  rw [er]
  refine qm ?_
  refine ⟨_, rfl, y, _, _, _, rfl, rfl, d0, qG3, _, rfl, qZ rfl h0 wT ⟨_, n, p, q, r, s, len, len, rfl, hc, hq, hs, bp, bq, br, bs, bl, fun x H1 s1 e1 => ?_⟩⟩
  refine ⟨_, _, _, _, rfl, rfl, L3.Same.tup s1 d1, SqT.of e1, rfl, rfl, ?_⟩
  have g : goB n n' p q r s len p' q' r' s' = (if false = true then !qA6 [.int p', .int q'] [.int (x8 (p * s + len * r * q) (q * s)), .int (xD (p * s + len * r * q) (q * s))] else qA6 [.int p', .int q'] [.int (x8 (p * s + len * r * q) (q * s)), .int (xD (p * s + len * r * q) (q * s))]) := by
    rw [if_neg (by decide), eq2]
    unfold goB
    rw [er]
    simp [en, plP, plQ]
  rw [← g]
  exact kk H1 s1
theorem qLc {x0 x1 x2 : V} : atI [x0, x1, x2] 1 = some x1 := rfl
theorem qMb {x0 x1 x2 : V} : atI [x0, x1, x2] 2 = some x2 := rfl
theorem qIw (vs : List V) (i : Nat) : qI3 vs none (some (i : Int)) = vs.take i := by
  unfold qI3
  rw [HT.sIx_none, HT.sIx_nat, List.drop_zero, Nat.sub_zero]
  by_cases h : i ≤ vs.length
  · rw [Nat.min_eq_left h]
  · rw [Nat.min_eq_right (by omega), List.take_of_length_le (Nat.le_refl _), List.take_of_length_le (by omega)]
theorem qIy (vs : List V) (i : Nat) : qI3 vs (some (i : Int)) none = vs.drop i := by
  unfold qI3
  rw [HT.sIx_none, HT.sIx_nat]
  by_cases h : i ≤ vs.length
  · rw [Nat.min_eq_left h, List.take_of_length_le (by rw [List.length_drop]; omega)]
  · rw [Nat.min_eq_right (by omega), List.drop_of_length_le (by omega), List.drop_of_length_le (by omega)]
    simp
theorem IsIs.take {H : Hp} : ∀ {ms : List Im} {vs : List V} {i : Nat}, IsIs H ms vs → IsIs H (ms.take i) (vs.take i)
  | [], [], _, _ => by simp [IsIs]
  | _ :: _, _ :: _, 0, _ => trivial
  | _ :: _, _ :: _, _ + 1, h => ⟨h.1, h.2.take⟩
  | [], _ :: _, _, h => h.elim
  | _ :: _, [], _, h => h.elim
theorem IsIs.drop {H : Hp} : ∀ {ms : List Im} {vs : List V} {i : Nat}, IsIs H ms vs → IsIs H (ms.drop i) (vs.drop i)
  | [], [], _, _ => by simp [IsIs]
  | _ :: _, _ :: _, 0, h => h
  | _ :: _, _ :: _, _ + 1, h => h.2.drop (i := _)
  | [], _ :: _, _, h => h.elim
  | _ :: _, [], _, h => h.elim
def qF6 : Sp := fun vs H Q _ => ∃ (tz dz rd : Addr) (ts : List (List Im)) (tie : List Int) (n : Nat) (d : Dk) (ms : List Im), vs = [.ref tz, .ref dz] ∧ TabG H tz ts tie n ∧ DAt H dz (n : Int) d ∧ DOk H rd ms d ∧ ∀ (v : V) (H' : Hp), Same H H' → Q v H'
theorem DOk.hi {H : Hp} {rd : Addr} {ms : List Im} {d : Dk} (h : DOk H rd ms d) : 0 ≤ d.t ∧ 0 ≤ d.hi ∧ d.hi ≤ 2 ^ 500 := by
  have e : (2 : Int) ^ 400 + 2 ^ 400 ≤ 2 ^ 500 := by decide
  have e2 : (0 : Int) ≤ 2 ^ 400 := by decide
  generalize (2 : Int) ^ 500 = B at e ⊢
  cases d with
  | cut t => obtain ⟨h1, h2, _⟩ := h; exact ⟨h1, h1, by show t ≤ B; omega⟩
  | hel t => exact h.elim
  | opn t l => obtain ⟨h1, h2, _⟩ := h; exact ⟨h1, h1, by show t ≤ B; omega⟩
  | cls t u => obtain ⟨h1, h2, h3⟩ := h; exact ⟨h1, by show 0 ≤ u; omega, by show u ≤ B; omega⟩
  | lft t u => obtain ⟨h1, h2, h3⟩ := h; exact ⟨h1, by show 0 ≤ u; omega, by show u ≤ B; omega⟩
  | lin t m => obtain ⟨h1, h2, _⟩ := h; exact ⟨h1, h1, by show t ≤ B; omega⟩
  | lov t m => obtain ⟨h1, h2, h3, h4, h5⟩ := h; exact ⟨h1, by show 0 ≤ t + m.mo; omega, by show t + m.mo ≤ B; omega⟩
theorem qGc (T : Tx K mg a) : FnOk P w K mg base CX0 9 a.a_changed a.f_changed ["table", "deed"] qF6 := by
  refine T.d_changed.F.ok sc_changed (fun vs H Q E h => ?_) (fun cdv A outer s H vs Q E hr h => ?_)
  · obtain ⟨tz, dz, rd, ts, tie, n, d, ms, rfl, _⟩ := h
    rfl
  obtain ⟨tz, dz, rd, ts, tie, n, d, ms, rfl, hP, hD, hO, kk⟩ := h
  refine ⟨_, (qG (qU (i := 2) sc_changed.nd rfl (Or.inl rfl) (qM T.d_stretch_of (kS T) hr rfl (qA (pv 1) qE)))
      (qG (qU (i := 3) sc_changed.nd rfl (Or.inl rfl) (pv 0))
      (qG (vT PassesOwn.never rfl (xW (qM T.d_tracks_changed (zU T) hr rfl (qA (pv 0) (qA (pv 1) qE)))) (zF (i := 4) sc_changed.nd rfl (Or.inl rfl)) (qG (vE (qU (i := 5) sc_changed.nd rfl (Or.inl rfl) (z7 (qR j4 (pv 4) (qL qJ (pv 1) qD (fun _ _ => rfl)) (qX _)) (qM T.d_laid_by (qAn T) hr rfl (qA (pv 1) qE)) (qM T.d_laid_on_tied (wW T) hr rfl (qA (pv 1) qE)))))
      (qH (qU (i := 3) sc_changed.nd rfl (Or.inl rfl) (qM T.d_table_with (xf T) hr rfl (qA (pv 3) (qA (pv 4) (qA (qM T.d_relaid (qG1 T) hr rfl (qA (qL jb (qL qJ (pv 0) qD (fun _ _ => rfl)) (pv 4) (fun _ _ => rfl)) (qA (qL qJ (pv 2) qD (fun _ _ => rfl)) (qA (qL qJ (pv 2) qD (fun _ _ => rfl)) (qA (pv 5) qE))))) qE))))))))
      (qH (qP (pv 3)))))), ?_⟩
  try dsimp only [jT, qi]
  obtain ⟨tt, tl, ti, zs, e0, g2, g3, g4, g5⟩ := id hP.tab
  cases e0
  have hzl := g4.len
  obtain ⟨hcl, hch⟩ := hP.ch d.push
  obtain ⟨xs, hd, a0, a1, a2⟩ := hD.opn
  obtain ⟨ht0, hh0, hh1⟩ := hO.hi
  refine ⟨_, rfl, dz, _, d, rfl, hD, fun p H1 e1 hp => ?_⟩
  refine ⟨_, rfl, _, rfl, _, rfl, tz, tl, ti, dz, tie, _, d, rfl, e1 _ _ g2, e1 _ _ g5, by have := hP.tl; omega, hD.same e1, fun y H2 e2 hy hy2 => ?_⟩
  refine ⟨y, rfl, ⟨_, SqL.of hy2⟩, zV (K := K) (a := y) (xs := (chF tie (n : Int) d.push).map V.int) (fun i σ H' => ∃ (o1 o2 : Option V) (tt' : Addr) (ts' : List (List Im)), σ = [some (.ref tz), some (.ref dz), some (.ref p), some (.ref tt'), o1, o2] ∧ TabF H' (.ref tt') ts' tie ∧ ts'.length = ts.length ∧ Same H2 H') ⟨none, none, tz, ts, rfl, (hP.tab.same e1).same e2, rfl, Same.refl _⟩ ?_ ?_ ?_⟩
  · rintro i σ H' hi ⟨o1, o2, tt', ts', rfl, _, _, e⟩
    exact SqL.of (e _ _ hy2)
  · rintro i x σ H' hx ⟨o1, o2, tt', ts', rfl, hT', hl', e⟩
    obtain ⟨xi, hxi, rfl⟩ : ∃ xi : Int, (chF tie (n : Int) d.push)[i]? = some xi ∧ x = .int xi := by
      rw [List.getElem?_map] at hx
      cases hq : (chF tie (n : Int) d.push)[i]? with
      | none => rw [hq] at hx; cases hx
      | some k => rw [hq] at hx; cases hx; exact ⟨k, rfl, rfl⟩
    obtain ⟨k, rfl, hk⟩ := hch xi (List.mem_of_getElem? hxi)
    have e02 := e1.trans (e2.trans e)
    have ez : zs[k]? = some (zs[k]'(by omega)) := List.getElem?_eq_getElem (by omega)
    obtain ⟨ms1, z, hms, ezz, tT⟩ := g4.get ez
    rw [ezz] at ez
    obtain ⟨hMB, hM1⟩ := hP.ok ms1 (List.mem_of_getElem? hms)
    have dl := d.laid_len
    refine ⟨fun σ H3 => ∃ (l : Addr) (ls : List Im), σ = [some (.ref tz), some (.ref dz), some (.ref p), some (.ref tt'), some (.int (k : Int)), some (.ref l)] ∧ Same H' H3 ∧ Tr H3 l ls ∧ ls.length ≤ 10, ?_, ?_⟩
    · refine ⟨_, rfl, qZ rfl (SqT.of (e02 _ _ hd)) a1 ⟨rfl, _, rfl, x9 (fun _ => ?_) (fun _ => ?_)⟩⟩
      · exact ⟨_, rfl, dz, _, d, rfl, hD.same e02, fun l H3 e3 hl tL => ⟨l, _, rfl, e3, tL, by omega⟩⟩
      · exact ⟨_, rfl, dz, _, d, rfl, hD.same e02, fun l H3 e3 hl tL => ⟨l, _, rfl, e3, tL, by rw [List.length_map]; omega⟩⟩
    rintro σ H3 ⟨l, ls, rfl, e3, tL, hls⟩
    have e03 := e02.trans e3
    refine ⟨_, rfl, _, rfl, qZ rfl (SqT.of (e03 _ _ g2)) at0 ⟨_, rfl, tl, _, _, _, rfl, rfl, SqL.of (e03 _ _ g3), jn ez, qZ rfl (SqT.of ((e2.trans (e.trans e3)) _ _ hp)) at0 (qZ rfl (SqT.of ((e2.trans (e.trans e3)) _ _ hp)) at1 ⟨_, rfl, z, l, ms1, ls, _, _, rfl, tT.same e03, tL, hMB, hM1, hls, hh0, hh1, fun yy H4 e4 hyy tY => ?_⟩)⟩⟩
    refine ⟨tt', yy, k, ts', tie, _, rfl, (hT'.same e3).same e4, tY, by omega, by have := hP.len; omega, fun t H5 e5 hN => ?_⟩
    exact ⟨_, _, t, _, rfl, (hN H3 e4 hyy).tab, by rw [List.length_set]; exact hl', ((e.trans e3).trans e4).trans e5⟩
  · rintro σ H' ⟨o1, o2, tt', ts', rfl, _, _, e⟩
    exact ⟨_, rfl, kk _ H' (e1.trans (e2.trans e))⟩
def qAc (ms : List Im) (t : Int) : Prop := nbF ms t = none ∨ ∃ (i j : Nat) (n n' : Str) (p q r s l p' q' r' s' l' : Int), nbF ms t = some ((i : Int), (j : Int)) ∧ ms[i]? = some (.clip n p q r s l) ∧ ms[j]? = some (.clip n' p' q' r' s' l') ∧ Bn 700 p q r s ∧ l.natAbs < 2 ^ 700 ∧ goB n n' p q r s l p' q' r' s' = false
def qEb : Sp := fun vs H Q _ => ∃ (z : Addr) (v : V) (ms : List Im), vs = [.ref z, v] ∧ Tr H z ms ∧ (v = .non ∨ ∃ (pz : Addr) (i j : Nat) (n n' : Str) (p q r s l p' q' r' s' l' : Int), v = .ref pz ∧ H pz = some (.tup [.int (i : Int), .int (j : Int)]) ∧ ms[i]? = some (.clip n p q r s l) ∧ ms[j]? = some (.clip n' p' q' r' s' l') ∧ Bn 700 p q r s ∧ l.natAbs < 2 ^ 700 ∧
  goB n n' p q r s l p' q' r' s' = false) ∧ ∀ H', Same H H' → Q (.bl false) H'
theorem qD5 (T : Tx K mg a) : FnOk P w K mg base CX0 6 a.a_can_heal a.f_can_heal ["track", "places"] qEb := by
  refine T.d_can_heal.F.ok sc_can_heal (fun vs H Q E h => ?_) (fun cdv A outer s H vs Q E hr h => ?_)
  · obtain ⟨z, v, ms, rfl, _⟩ := h
    rfl
  obtain ⟨z, v, ms, rfl, ⟨vs, hz, his⟩, hv, kk⟩ := h
  refine ⟨_, (qG (qj (kU (vW (pv 1))) (qH (qP kC)) qV)
      (qG (qU (i := 2) sc_can_heal.nd rfl (Or.inl rfl) (qL jb (pv 0) (qL qJ (pv 1) qD (fun _ _ => rfl)) (fun _ _ => rfl)))
      (qG (qU (i := 3) sc_can_heal.nd rfl (Or.inl rfl) (qL jb (pv 0) (qL qJ (pv 1) qD (fun _ _ => rfl)) (fun _ _ => rfl)))
      (qG (qj (PW.pt (kc (qR j4 (qL qJ (pv 2) qD (fun _ _ => rfl)) qI (qX _)) (zY (qR j4 (qL qJ (pv 3) qD (fun _ _ => rfl)) qI (qX _))))) (qH (qP (qM T.d_goes_on (qF0 T) hr rfl (qA (pv 2) (qA (pv 3) qE))))) qV)
      zp)))), ?_⟩
  try dsimp only [jT, qi]
  rcases hv with rfl | ⟨pz, i, j, n, n', p, q, r, s1, l, p', q', r', s2, l', rfl, hp, hi, hj, hb, bl, hg⟩
  · exact ⟨_, rfl, _, rfl, kL (by decide) (kk _ (Same.refl _))⟩
  obtain ⟨va, hva, Ia⟩ := his.get' hi
  obtain ⟨vb, hvb, Ib⟩ := his.get' hj
  obtain ⟨za, xa, ya, rfl, hza, _⟩ := id Ia
  obtain ⟨zb, xb, yb, rfl, hzb, _⟩ := id Ib
  refine ⟨_, rfl, _, rfl, x9 (fun c => absurd c (by simp)) (fun _ => ?_)⟩
  refine ⟨_, rfl, qZ rfl (SqT.of hp) at0 ⟨z, _, _, _, rfl, rfl, SqL.of hz, jn hva, ?_⟩⟩
  refine ⟨_, rfl, qZ rfl (SqT.of hp) at1 ⟨z, _, _, _, rfl, rfl, SqL.of hz, jn hvb, ?_⟩⟩
  refine (qZ rfl (SqT.of hza) qBy ⟨rfl, _, rfl, qr ?_⟩)
  refine (qZ rfl (SqT.of hzb) qBy ⟨rfl, _, rfl, qr ?_⟩)
  refine ⟨_, rfl, _, rfl, _, _, n, n', p, q, r, s1, l, p', q', r', s2, l', rfl, qDq Ia, qDq Ib, hb, bl, fun H1 e1 => ?_⟩
  rw [hg]
  exact kk H1 e1
def qF1 (N : Addr) : Sp := fun vs H Q E => ∃ (tz dz : Addr) (ts : List (List Im)) (tie : List Int) (n0 : Nat) (ms : List Im) (t : Int), vs = [.ref tz, .ref dz] ∧ TabG H tz ts tie n0 ∧ ts[n0]? = some ms ∧ H dz = some (.tup [.str "heal", .int (n0 : Int), .int t]) ∧ qAc ms t ∧ ∀ H', Same H H' → E (.ref N) none H'
theorem qF4 (T : Tx K mg a) : FnOk P w K mg base (CXR P w) 7 a.a_healed a.f_healed ["table", "deed"] (qF1 a.k_NoPlace) := by
  refine okX T.d_healed.F sc_healed (fun vs H Q E h => ?_) (fun cdv A outer s H vs Q E hr h => ?_)
  · obtain ⟨tz, dz, ts, tie, n0, ms, t, rfl, _⟩ := h
    rfl
  obtain ⟨tz, dz, ts, tie, n0, ms, t, rfl, hP, hms, hd, hno, kk⟩ := h
  refine ⟨_, (qG (qU (i := 2) sc_healed.nd rfl (Or.inl rfl) (qL jb (qL qJ (pv 0) qD (fun _ _ => rfl)) (qL qJ (pv 1) qD (fun _ _ => rfl)) (fun _ _ => rfl)))
      (qG (qU (i := 3) sc_healed.nd rfl (Or.inl rfl) (qM T.d_neighbours_at (zf T) hr rfl (qA (pv 2) (qA (qL qJ (pv 1) qD (fun _ _ => rfl)) qE))))
      (qG (qj (jP (jD (qM T.d_can_heal (qD5 T) hr rfl (qA (pv 2) (qA (pv 3) qE))))) (qH (jE rfl rfl T.c_NoPlace T.x_NoPlace (qA qI qE))) qV)
      zp))), ?_⟩
  try dsimp only [jT, qi]
  have one : (1 : Nat) ≤ sizeLine := by decide
  obtain ⟨tt, tl, ti, zs, e0, g2, g3, g4, g5⟩ := id hP.tab
  cases e0
  have hzl := g4.len
  have hnt := hP.nt
  have ez : zs[n0]? = some (zs[n0]'(by omega)) := List.getElem?_eq_getElem (by omega)
  obtain ⟨ms', z, hms', ezz, tT⟩ := g4.get ez
  rw [hms] at hms'
  cases hms'
  rw [ezz] at ez
  refine (qZ rfl (SqT.of g2) at0 (qZ rfl (SqT.of hd) qLc ⟨tl, _, _, _, rfl, rfl, SqL.of g3, jn ez, ?_⟩))
  refine ⟨_, rfl, qZ rfl (SqT.of hd) qMb ⟨z, ms, _, rfl, tT, ?_⟩⟩
  rcases hno with hno | ⟨i, j, n, n', p, q, r, s1, l, p', q', r', s2, l', hno, hi, hj, hb, bl, hg⟩
  · rw [hno]
    intro H1 e1
    exact ⟨_, rfl, _, rfl, z, _, ms, rfl, tT.same e1, .inl rfl, fun H2 e2 => ⟨false, rfl, qr ⟨one, kk H2 (e1.trans e2)⟩⟩⟩
  · rw [hno]
    intro pz H1 e1 hpz
    exact ⟨_, rfl, _, rfl, z, _, ms, rfl, tT.same e1, .inr ⟨pz, i, j, n, n', p, q, r, s1, l, p', q', r', s2, l', rfl, hpz, hi, hj, hb, bl, hg⟩, fun H2 e2 => ⟨false, rfl, qr ⟨one, kk H2 (e1.trans e2)⟩⟩⟩
def qMp (ms : List Im) (t : Int) : Prop := cbF ms t = none ∨ ∃ i j : Int, cbF ms t = some (i, j) ∧ j ≠ i + 1
def qHi (N : Addr) : Sp := fun vs H Q E => ∃ (tz dz rd : Addr) (ts : List (List Im)) (tie : List Int) (n0 : Nat) (ms : List Im) (t : Int) (x : V), vs = [.ref tz, .ref dz, .ref rd] ∧ TabG H tz ts tie n0 ∧ ts[n0]? = some ms ∧ H dz = some (.tup [.str "mix", .int (n0 : Int), .int t, x]) ∧ qMp ms t ∧ ∀ H', Same H H' → E (.ref N) none H'
theorem qIa (T : Tx K mg a) : FnOk P w K mg base (CXR P w) 7 a.a_mixed a.f_mixed ["table", "deed", "reels"] (qHi a.k_NoPlace) := by
  refine okX T.d_mixed.F sc_mixed (fun vs H Q E h => ?_) (fun cdv A outer s H vs Q E hr h => ?_)
  · obtain ⟨tz, dz, rd, ts, tie, n0, ms, t, x, rfl, _⟩ := h
    rfl
  obtain ⟨tz, dz, rd, ts, tie, n0, ms, t, x, rfl, hP, hms, hd, hno, kk⟩ := h
  refine ⟨_, (qG (qU (i := 3) sc_mixed.nd rfl (Or.inl rfl) (qL jb (qL qJ (pv 0) qD (fun _ _ => rfl)) (qL qJ (pv 1) qD (fun _ _ => rfl)) (fun _ _ => rfl)))
      (qG (qU (i := 4) sc_mixed.nd rfl (Or.inl rfl) (qM T.d_clips_at_border (j5 T) hr rfl (qA (pv 3) (qA (qL qJ (pv 1) qD (fun _ _ => rfl)) qE))))
      (qG (qj (PW.pt (xA (kU (vW (pv 4))) (jS (qR kA (qL qJ (pv 4) qD (fun _ _ => rfl)) (qS qc (qL qJ (pv 4) qD (fun _ _ => rfl)) qD) (qX _))))) (qH (jE rfl rfl T.c_NoPlace T.x_NoPlace (qA qI qE))) qV)
      zp))), ?_⟩
  try dsimp only [jT, qi]
  have one : (1 : Nat) ≤ sizeLine := by decide
  obtain ⟨tt, tl, ti, zs, e0, g2, g3, g4, g5⟩ := id hP.tab
  cases e0
  have hzl := g4.len
  have hnt := hP.nt
  have ez : zs[n0]? = some (zs[n0]'(by omega)) := List.getElem?_eq_getElem (by omega)
  obtain ⟨ms', z, hms', ezz, tT⟩ := g4.get ez
  rw [hms] at hms'
  cases hms'
  rw [ezz] at ez
  refine (qZ rfl (SqT.of g2) at0 (qZ rfl (SqT.of hd) qGh ⟨tl, _, _, _, rfl, rfl, SqL.of g3, jn ez, ?_⟩))
  refine ⟨_, rfl, qZ rfl (SqT.of hd) qCd ⟨z, ms, _, rfl, tT, ?_⟩⟩
  rcases hno with hno | ⟨i, j, hno, hj⟩
  · rw [hno]
    intro H1 e1
    exact ⟨_, rfl, _, rfl, kL (by decide) (qr ⟨one, kk H1 e1⟩)⟩
  · rw [hno]
    intro pz H1 e1 hpz
    refine ⟨_, rfl, _, rfl, x9 (fun c => absurd c (by simp)) (fun _ => ?_)⟩
    refine (qZ rfl (SqT.of hpz) at1 (qZ rfl (SqT.of hpz) at0 ⟨_, _, rfl, rfl, rfl, _, rfl, kL ?_ ⟨one, kk H1 e1⟩⟩))
    show (!decide (V.int j = V.int (i + 1))) = true
    rw [decide_eq_false (fun z => hj (V.int.inj z))]
    rfl
def qDv (N : Addr) : Sp := fun vs H Q E => ∃ (tz dz : Addr) (ts : List (List Im)) (tie : List Int) (n0 : Nat) (ms : List Im) (t : Int), vs = [.ref tz, .ref dz] ∧ TabF H (.ref tz) ts tie ∧ ts.length ≤ 8 ∧ ts[n0]? = some ms ∧ ms.length ≤ 100 ∧ H dz = some (.tup [.str "unmix", .int (n0 : Int), .int t]) ∧
  ((cbF ms t = none ∧ ∀ H', Same H H' → E (.ref N) none H') ∨ ∃ i : Nat, cbF ms t = some ((i : Int), ((i + 2 : Nat) : Int)) ∧ ∀ (v : V) (H' : Hp), Same H H' → Q v H')
theorem qD7 (T : Tx K mg a) : FnOk P w K mg base (CXR P w) 6 a.a_unmixed a.f_unmixed ["table", "deed"] (qDv a.k_NoPlace) := by
  refine okX T.d_unmixed.F sc_unmixed (fun vs H Q E h => ?_) (fun cdv A outer s H vs Q E hr h => ?_)
  · obtain ⟨tz, dz, ts, tie, n0, ms, t, rfl, _⟩ := h
    rfl
  obtain ⟨tz, dz, ts, tie, n0, ms, t, rfl, hT, hl8, hms, hml, hd, hk⟩ := h
  refine ⟨_, (qG (qU (i := 2) sc_unmixed.nd rfl (Or.inl rfl) (qL jb (qL qJ (pv 0) qD (fun _ _ => rfl)) (qL qJ (pv 1) qD (fun _ _ => rfl)) (fun _ _ => rfl)))
      (qG (qU (i := 3) sc_unmixed.nd rfl (Or.inl rfl) (qM T.d_clips_at_border (j5 T) hr rfl (qA (pv 2) (qA (qL qJ (pv 1) qD (fun _ _ => rfl)) qE))))
      (qG (qj (PW.pt (xA (kU (vW (pv 3))) (jS (qR j4 (qL qJ (pv 3) qD (fun _ _ => rfl)) (qS qc (qL qJ (pv 3) qD (fun _ _ => rfl)) qD) (qX _))))) (qH (jE rfl rfl T.c_NoPlace T.x_NoPlace (qA qI qE))) qV)
      (qH (qP (qM T.d_table_with (xf T) hr rfl (qA (pv 0) (qA (qL qJ (pv 1) qD (fun _ _ => rfl)) (qA (qS jC (qEv qHn (pv 2) qGg (qGs (qS qc (qL qJ (pv 3) qD (fun _ _ => rfl)) qD))) (qEv qHn (pv 2) (qGs (qL qJ (pv 3) qD (fun _ _ => rfl))) qGg)) qE))))))))), ?_⟩
  try dsimp only [jT, qi]
  have one : (1 : Nat) ≤ sizeLine := by decide
  obtain ⟨tt, tl, ti, zs, e0, g2, g3, g4, g5⟩ := id hT
  cases e0
  have hzl := g4.len
  have hnt : n0 < ts.length := (glt hms)
  have ez : zs[n0]? = some (zs[n0]'(by omega)) := List.getElem?_eq_getElem (by omega)
  obtain ⟨ms', z, hms', ezz, tT⟩ := g4.get ez
  rw [hms] at hms'
  cases hms'
  rw [ezz] at ez
  have sm : ∀ j : Nat, j ≤ 1000 → j ≤ sizeLine := fun j h => by have := qW (n := j) (by omega); omega
  refine (qZ rfl (SqT.of g2) at0 (qZ rfl (SqT.of hd) qLc ⟨tl, _, _, _, rfl, rfl, SqL.of g3, jn ez, ?_⟩))
  refine ⟨_, rfl, qZ rfl (SqT.of hd) qMb ⟨z, ms, _, rfl, tT, ?_⟩⟩
  rcases hk with ⟨hcb, kk⟩ | ⟨i, hcb, kk⟩
  · rw [hcb]
    intro H1 e1
    exact ⟨_, rfl, _, rfl, kL (by decide) (qr ⟨one, kk H1 e1⟩)⟩
  rw [hcb]
  intro pz H1 e1 hpz
  refine ⟨_, rfl, _, rfl, x9 (fun c => absurd c (by simp)) (fun _ => ?_)⟩
  refine (qZ rfl (SqT.of hpz) at1 (qZ rfl (SqT.of hpz) at0 ⟨_, _, rfl, rfl, rfl, _, rfl, ?_⟩))
  rw [show decide (V.int ((i + 2 : Nat) : Int) = (fun i j => V.int (i + j)) (i : Int) 1) = false from decide_eq_false (by
    intro z
    have : ((i + 2 : Nat) : Int) = (i : Int) + 1 := V.int.inj z
    omega)]
  refine qm ⟨_, rfl, qZ rfl (SqT.of (e1 _ _ hd)) qLc ?_⟩
  obtain ⟨vs, hz, his⟩ := tT.same e1
  have hvl := his.len
  refine ⟨_, rfl, qZ rfl (SqT.of hpz) at0 ⟨_, _, rfl, rfl, _, rfl, z, _, rfl, SqL.of hz, fun a1' ha1 => ?_⟩⟩
  have ed : qI3 vs none (some ((i : Int) + 1)) = vs.take (i + 1) := by
    rw [show (i : Int) + 1 = ((i + 1 : Nat) : Int) by omega]
    exact qIw vs (i + 1)
  rw [ed]
  have v1 := qC ha1 (.lst (vs.take (i + 1)))
  refine ⟨_, rfl, qZ rfl (SqT.of (v1 _ _ hpz)) at1 ⟨_, rfl, z, _, rfl, SqL.of (v1 _ _ hz), fun a4 ha4 => ?_⟩⟩
  rw [qIy]
  have v4 := qC ha4 (.lst (vs.drop (i + 2)))
  refine ⟨a1', a4, _, _, rfl, rfl, v4 _ _ qB, qB, sm _ (by rw [List.length_take, List.length_drop]; omega), fun a5 ha5 => ?_⟩
  have v5 := qC ha5 (.lst (vs.take (i + 1) ++ vs.drop (i + 2)))
  have v15 := (v1.trans v4).trans v5
  have e5 := e1.trans v15
  have hisE := his.ts (qk v15)
  exact ⟨tz, a5, n0, ts, tie, ms.take (i + 1) ++ ms.drop (i + 2), rfl, hT.same e5, ⟨_, qB, hisE.take.app hisE.drop⟩, hnt, by omega, fun t H6 e6 _ => kk _ H6 (e5.trans e6)⟩
def ChW (w : Str) : Prop := w = "cut" ∨ w = "lay_in" ∨ w = "open" ∨ w = "close" ∨ w = "lift" ∨ w = "lay_over"
inductive DdO (K : W.Frag) (H : Hp) (rd dz : Addr) (rl : Rls) (ts : List (List Im)) (tie : List Int) : Nat → Prop where
  | roll {wd : Str} {n t b : V} {on ot ob : Option Int} {c : Nat} (hd : H dz = some (.tup [.str wd, n, t, b])) (hn : Nu H n on) (ht : Nu H t ot) (hb : Nu H b ob) (hw : Wd3 wd) (hc : (qAp ts wd on ot ob = 0 ∧ c = 0) ∨ (qAp ts wd on ot ob = 1 ∧ c = 1) ∨ (qAp ts wd on ot ob = 2 ∧ ((kH rl ts wd on ot ob ∧ c = 2) ∨ (¬ kH rl ts wd on ot ob ∧ c = 4)))) : DdO K H rd dz rl ts tie c
  | place {xs : List V} {w : Str} {n t : V} {on ot : Option Int} (hd : H dz = some (.tup xs)) (a0 : atI xs 0 = some (.str w)) (a1 : atI xs 1 = some n) (a2 : atI xs 2 = some t) (hw : ¬ Wd3 w) (hn : Nu H n on) (ht : Nu H t ot) (h : vA ts.length on ot = false) : DdO K H rd dz rl ts tie 0
  | nums {xs : List V} {w : Str} {n t : Int} {o : Option Int} (hd : H dz = some (.tup xs)) (a1 : atI xs 1 = some (.int n)) (hw : ¬ Wd3 w) (hN : qNw H xs w t o) (hp : vA ts.length (some n) (some t) = true) (h : vM w t o = false) : DdO K H rd dz rl ts tie 0
  | heal {n : Nat} {t : Int} {ms : List Im} (hd : H dz = some (.tup [.str "heal", .int (n : Int), .int t])) (hm : ts[n]? = some ms) (h0 : 0 ≤ t) (h : qAc ms t) : DdO K H rd dz rl ts tie 0
  | mix {n : Nat} {t l : Int} {ms : List Im} (hd : H dz = some (.tup [.str "mix", .int (n : Int), .int t, .int l])) (hm : ts[n]? = some ms) (h0 : 0 ≤ t) (hl : 1 ≤ l) (h : qMp ms t) : DdO K H rd dz rl ts tie 0
  | unm0 {n : Nat} {t : Int} {ms : List Im} (hd : H dz = some (.tup [.str "unmix", .int (n : Int), .int t])) (hm : ts[n]? = some ms) (h0 : 0 ≤ t) (h : cbF ms t = none) : DdO K H rd dz rl ts tie 0
  | unm2 {n i : Nat} {t : Int} {ms : List Im} (hd : H dz = some (.tup [.str "unmix", .int (n : Int), .int t])) (hm : ts[n]? = some ms) (h0 : 0 ≤ t) (h : cbF ms t = some ((i : Int), ((i + 2 : Nat) : Int))) : DdO K H rd dz rl ts tie 2
  | chg {xs : List V} {w : Str} {n : Nat} {t : Int} {o : Option Int} {ms : List Im} {c : Nat} (hd : H dz = some (.tup xs)) (hw : ChW w) (a1 : atI xs 1 = some (.int (n : Int))) (hN : qNw H xs w t o) (hm : ts[n]? = some ms) (h0 : 0 ≤ t) (hb : vM w t o = true) (h : ChO K H rd dz n ts tie ms c) : DdO K H rd dz rl ts tie c
structure TabD (H : Hp) (tz rd : Addr) (rl : Rls) (ts : List (List Im)) (tie : List Int) : Prop where
  tab : TabF H (.ref tz) ts tie
  ok : ∀ ms ∈ ts, MsB ms ∧ ms.length ≤ 100 ∧ ∀ m ∈ ms, ItR rl m
  len : ts.length ≤ 8
  tl : tie.length ≤ 8
  tin : ∀ x ∈ tie, ∃ k : Nat, x = (k : Int) ∧ k < ts.length
  re : ReelsAt H rd rl
theorem TabD.g {H : Hp} {tz rd : Addr} {rl : Rls} {ts : List (List Im)} {tie : List Int} {n : Nat} (h : TabD H tz rd rl ts tie) (hn : n < ts.length) : TabG H tz ts tie n := ⟨h.tab, fun ms hm => ⟨(h.ok ms hm).1, (h.ok ms hm).2.1⟩, hn, h.len, h.tl, h.tin⟩
theorem TabD.same {H H' : Hp} {tz rd : Addr} {rl : Rls} {ts : List (List Im)} {tie : List Int} (e : Same H H') (h : TabD H tz rd rl ts tie) : TabD H' tz rd rl ts tie := ⟨h.tab.same e, h.ok, h.len, h.tl, h.tin, h.re.same e⟩
def qA2 (K : W.Frag) (N M C S : Addr) : Sp := fun vs H Q E => ∃ (tz dz rd : Addr) (rl : Rls) (ts : List (List Im)) (tie : List Int) (c : Nat), vs = [.ref tz, .ref dz, .ref rd] ∧ TabD H tz rd rl ts tie ∧ DdO K H rd dz rl ts tie c ∧
  (c = 0 → ∀ H', Same H H' → E (.ref N) none H') ∧ (c = 1 → ∀ H', Same H H' → E (.ref M) none H') ∧ (c = 3 → ∀ H', Same H H' → E (.ref C) none H') ∧
  (c = 4 → ∀ (dx : Addr) (v : V) (H' : Hp), Same H H' → H' dx = some (.xd [("most", v)]) → E (.ref S) (some dx) H') ∧ (c = 2 → ∀ (v : V) (H' : Hp), Same H H' → Q v H')
instance (w : Str) : Decidable (Wd3 w) := by unfold Wd3; infer_instance
theorem zB {w : Str} : inV (.str w) [.str "roll", .str "slip", .str "slide"] = decide (Wd3 w) := by
  by_cases h1 : w = "roll"
  · subst h1; decide +kernel
  by_cases h2 : w = "slip"
  · subst h2; decide +kernel
  by_cases h3 : w = "slide"
  · subst h3; decide +kernel
  have : ¬ Wd3 w := by rintro (h | h | h); exact h1 h; exact h2 h; exact h3 h
  rw [decide_eq_false this]
  simp [inV, eqV, h1, h2, h3, Ne.symm h1, Ne.symm h2, Ne.symm h3]
theorem kP (T : Tx K mg a) : FnOk P w K mg base (CXR P w) 10 a.a_deed_done a.f_deed_done ["table", "deed", "reels"] (qA2 K a.k_NoPlace a.k_Mixed a.k_NoClip a.k_Short) := by
  refine okX T.d_deed_done.F qBx (fun vs H Q E h => ?_) (fun cdv A outer s H vs Q E hr h => ?_)
  · obtain ⟨tz, dz, rd, rl, ts, tie, c, rfl, _⟩ := h
    rfl
  obtain ⟨tz, dz, rd, rl, ts, tie, c, rfl, hP, hC, k0, k1, k3, k4, k2⟩ := h
  refine ⟨_, (qG (qj (qR xx (qL qJ (pv 1) qD (fun _ _ => rfl)) (ja (v := .ref a.n_ROLLS) rfl T.g_ROLLS rfl) rfl) (qH (qP (jo T.d_rolled (qFr T) hr rfl (qA (pv 0) (qA (pv 1) (qA (pv 2) qE)))))) qV)
      (qG (jN (jo T.d_check_place (zm T) hr rfl (qA (pv 0) (qA (qL qJ (pv 1) qD (fun _ _ => rfl)) (qA (qL qJ (pv 1) qD (fun _ _ => rfl)) qE)))))
      (qG (jN (jo T.d_check_numbers (vD T) hr rfl (qA (pv 1) qE)))
      (qG (qj (qR j4 (qL qJ (pv 1) qD (fun _ _ => rfl)) qI (qX _)) (qH (qP (jo T.d_healed (qF4 T) hr rfl (qA (pv 0) (qA (pv 1) qE))))) qV)
      (qG (qj (qR j4 (qL qJ (pv 1) qD (fun _ _ => rfl)) qI (qX _)) (qH (qP (jo T.d_mixed (qIa T) hr rfl (qA (pv 0) (qA (pv 1) (qA (pv 2) qE)))))) qV)
      (qG (qj (qR j4 (qL qJ (pv 1) qD (fun _ _ => rfl)) qI (qX _)) (qH (qP (jo T.d_unmixed (qD7 T) hr rfl (qA (pv 0) (qA (pv 1) qE))))) qV)
      (qG (jN (jo T.d_check_change (vg T) hr rfl (qA (pv 0) (qA (pv 1) (qA (pv 2) qE)))))
      (qH (qP (qM T.d_changed (qGc T) hr rfl (qA (pv 0) (qA (pv 1) qE)))))))))))), ?_⟩
  try dsimp only [jT, qi]
  obtain ⟨tt, tl, ti, zs, e0, g2, g3, g4, g5⟩ := id hP.tab
  cases e0
  have hzl := g4.len
  have r0 := Same.refl H
  have pl : ∀ {n : Nat} {t : Int}, n < ts.length → 0 ≤ t → vA zs.length (some (n : Int)) (some t) = true := fun {n t} h1 h2 => by
    unfold vA
    dsimp only
    rw [hzl, decide_eq_true (show (0 : Int) ≤ (n : Int) by omega), decide_eq_true (show (n : Int) < ts.length by omega), decide_eq_true h2]
    rfl
  cases hC with
  | @roll wd n t b on ot ob c hd hn ht hb hw hc =>
    refine (qZ rfl (SqT.of hd) qA7 ⟨a.n_ROLLS, _, rfl, .inr (T.sq_ROLLS _), rfl, rfl, true, xZ (by rw [zB]; exact decide_eq_true hw), qr ?_⟩)
    refine ⟨_, rfl, _, rfl, _, rfl, tz, dz, rd, ts, tie, wd, n, t, b, on, ot, ob, rl, rfl, ⟨hP.tab, hd, hn, ht, hb, hw, by have := hP.len; omega, fun ms hm => ⟨by have := (hP.ok ms hm).2.1; omega, (hP.ok ms hm).2.2⟩, hP.re⟩, fun h => ?_, fun h => ?_, fun h => ⟨fun hr' => ?_, fun hr' => ?_⟩⟩
    · rcases hc with ⟨_, rfl⟩ | ⟨h', _⟩ | ⟨h', _⟩
      · exact k0 rfl
      · rw [h] at h'; cases h'
      · rw [h] at h'; cases h'
    · rcases hc with ⟨h', _⟩ | ⟨_, rfl⟩ | ⟨h', _⟩
      · rw [h] at h'; cases h'
      · exact k1 rfl
      · rw [h] at h'; cases h'
    · rcases hc with ⟨h', _⟩ | ⟨h', _⟩ | ⟨_, ⟨_, rfl⟩ | ⟨h', _⟩⟩
      · rw [h] at h'; cases h'
      · rw [h] at h'; cases h'
      · exact fun y H' e => k2 rfl _ H' e
      · exact absurd hr' h'
    · rcases hc with ⟨h', _⟩ | ⟨h', _⟩ | ⟨_, ⟨h', _⟩ | ⟨_, rfl⟩⟩
      · rw [h] at h'; cases h'
      · rw [h] at h'; cases h'
      · exact absurd h' hr'
      · exact k4 rfl
  | @place xs w n t on ot hd a0 a1 a2 hw hn ht h =>
    refine (qZ rfl (SqT.of hd) a0 ⟨a.n_ROLLS, _, rfl, .inr (T.sq_ROLLS _), rfl, rfl, false, xZ (by rw [zB]; exact decide_eq_false hw), qm ?_⟩)
    exact ⟨_, rfl, qZ rfl (SqT.of hd) a1 (qZ rfl (SqT.of hd) a2 ⟨tz, tl, ti, zs, n, t, on, ot, rfl, g2, g3, hn, ht, fun _ => k0 rfl H r0, fun hg => (by rw [hzl, h] at hg; cases hg)⟩)⟩
  | @nums xs w n t o hd a1 hw hN hp h =>
    have a0 := hN.1
    have a2 := hN.2.1
    refine (qZ rfl (SqT.of hd) a0 ⟨a.n_ROLLS, _, rfl, .inr (T.sq_ROLLS _), rfl, rfl, false, xZ (by rw [zB]; exact decide_eq_false hw), qm ?_⟩)
    refine ⟨_, rfl, qZ rfl (SqT.of hd) a1 (qZ rfl (SqT.of hd) a2 ⟨tz, tl, ti, zs, _, _, some (n), some t, rfl, g2, g3, .int _, .int _, fun hf => (by rw [hzl, hp] at hf; cases hf), fun _ => ?_⟩)⟩
    exact ⟨_, rfl, dz, xs, w, t, o, rfl, hd, hN, fun _ H1 e1 => k0 rfl H1 e1, fun hg => (by rw [h] at hg; cases hg)⟩
  | @heal n t ms hd hm h0 h =>
    have a0 : atI [V.str "heal", .int (n : Int), .int t] 0 = some (.str "heal") := rfl
    have a1 : atI [V.str "heal", .int (n : Int), .int t] 1 = some (.int (n : Int)) := rfl
    have a2 : atI [V.str "heal", .int (n : Int), .int t] 2 = some (.int t) := rfl
    have hw : ¬ Wd3 "heal" := by decide +kernel
    refine (qZ rfl (SqT.of hd) a0 ⟨a.n_ROLLS, _, rfl, .inr (T.sq_ROLLS _), rfl, rfl, false, xZ (by rw [zB]; exact decide_eq_false hw), qm ?_⟩)
    refine ⟨_, rfl, qZ rfl (SqT.of hd) a1 (qZ rfl (SqT.of hd) a2 ⟨tz, tl, ti, zs, _, _, some ((n : Int)), some t, rfl, g2, g3, .int _, .int _, fun hf => (by rw [pl (glt hm) h0] at hf; cases hf), fun _ => ?_⟩)⟩
    refine ⟨_, rfl, dz, _, "heal", t, none, rfl, hd, ⟨a0, a2, fun z => absurd z (by decide +kernel)⟩, fun z => (by unfold vM at z; rw [if_neg (by decide +kernel), if_neg (by decide +kernel)] at z; cases z), fun _ H1 e1 => ?_⟩
    refine (qZ rfl (SqT.of (e1 _ _ hd)) a0 ⟨rfl, _, rfl, kL (by decide +kernel) ?_⟩)
    exact ⟨_, rfl, _, rfl, tz, dz, ts, tie, n, ms, t, rfl, (hP.g (glt hm)).same e1, hm, e1 _ _ hd, h, fun H2 e2 => k0 rfl H2 (e1.trans e2)⟩
  | @mix n t l ms hd hm h0 hl h =>
    have a0 : atI [V.str "mix", .int (n : Int), .int t, .int l] 0 = some (.str "mix") := rfl
    have a1 : atI [V.str "mix", .int (n : Int), .int t, .int l] 1 = some (.int (n : Int)) := rfl
    have a2 : atI [V.str "mix", .int (n : Int), .int t, .int l] 2 = some (.int t) := rfl
    have hw : ¬ Wd3 "mix" := by decide +kernel
    have hnb : vM "mix" t (some l) = true := by
      unfold vM
      rw [if_pos (.inr rfl)]
      exact decide_eq_true hl
    refine (qZ rfl (SqT.of hd) a0 ⟨a.n_ROLLS, _, rfl, .inr (T.sq_ROLLS _), rfl, rfl, false, xZ (by rw [zB]; exact decide_eq_false hw), qm ?_⟩)
    refine ⟨_, rfl, qZ rfl (SqT.of hd) a1 (qZ rfl (SqT.of hd) a2 ⟨tz, tl, ti, zs, _, _, some ((n : Int)), some t, rfl, g2, g3, .int _, .int _, fun hf => (by rw [pl (glt hm) h0] at hf; cases hf), fun _ => ?_⟩)⟩
    refine ⟨_, rfl, dz, _, "mix", t, some l, rfl, hd, ⟨a0, a2, fun _ => ⟨_, rfl, .int l⟩⟩, fun z => (by rw [hnb] at z; cases z), fun _ H1 e1 => ?_⟩
    refine (qZ rfl (SqT.of (e1 _ _ hd)) a0 ⟨rfl, _, rfl, kX (by decide +kernel) ?_⟩)
    refine (qZ rfl (SqT.of (e1 _ _ hd)) a0 ⟨rfl, _, rfl, kL (by decide +kernel) ?_⟩)
    exact ⟨_, rfl, _, rfl, _, rfl, tz, dz, rd, ts, tie, n, ms, t, _, rfl, (hP.g (glt hm)).same e1, hm, e1 _ _ hd, h, fun H2 e2 => k0 rfl H2 (e1.trans e2)⟩
  | @unm0 n t ms hd hm h0 h =>
    have a0 : atI [V.str "unmix", .int (n : Int), .int t] 0 = some (.str "unmix") := rfl
    have a1 : atI [V.str "unmix", .int (n : Int), .int t] 1 = some (.int (n : Int)) := rfl
    have a2 : atI [V.str "unmix", .int (n : Int), .int t] 2 = some (.int t) := rfl
    have hw : ¬ Wd3 "unmix" := by decide +kernel
    refine (qZ rfl (SqT.of hd) a0 ⟨a.n_ROLLS, _, rfl, .inr (T.sq_ROLLS _), rfl, rfl, false, xZ (by rw [zB]; exact decide_eq_false hw), qm ?_⟩)
    refine ⟨_, rfl, qZ rfl (SqT.of hd) a1 (qZ rfl (SqT.of hd) a2 ⟨tz, tl, ti, zs, _, _, some ((n : Int)), some t, rfl, g2, g3, .int _, .int _, fun hf => (by rw [pl (glt hm) h0] at hf; cases hf), fun _ => ?_⟩)⟩
    refine ⟨_, rfl, dz, _, "unmix", t, none, rfl, hd, ⟨a0, a2, fun z => absurd z (by decide +kernel)⟩, fun z => (by unfold vM at z; rw [if_neg (by decide +kernel), if_neg (by decide +kernel)] at z; cases z), fun _ H1 e1 => ?_⟩
    refine (qZ rfl (SqT.of (e1 _ _ hd)) a0 ⟨rfl, _, rfl, kX (by decide +kernel) ?_⟩)
    refine (qZ rfl (SqT.of (e1 _ _ hd)) a0 ⟨rfl, _, rfl, kX (by decide +kernel) ?_⟩)
    refine (qZ rfl (SqT.of (e1 _ _ hd)) a0 ⟨rfl, _, rfl, kL (by decide +kernel) ?_⟩)
    exact ⟨_, rfl, _, rfl, tz, dz, ts, tie, n, ms, t, rfl, hP.tab.same e1, hP.len, hm, (hP.ok ms (List.mem_of_getElem? hm)).2.1, e1 _ _ hd, .inl ⟨h, fun H2 e2 => k0 rfl H2 (e1.trans e2)⟩⟩
  | @unm2 n i t ms hd hm h0 h =>
    have a0 : atI [V.str "unmix", .int (n : Int), .int t] 0 = some (.str "unmix") := rfl
    have a1 : atI [V.str "unmix", .int (n : Int), .int t] 1 = some (.int (n : Int)) := rfl
    have a2 : atI [V.str "unmix", .int (n : Int), .int t] 2 = some (.int t) := rfl
    have hw : ¬ Wd3 "unmix" := by decide +kernel
    refine (qZ rfl (SqT.of hd) a0 ⟨a.n_ROLLS, _, rfl, .inr (T.sq_ROLLS _), rfl, rfl, false, xZ (by rw [zB]; exact decide_eq_false hw), qm ?_⟩)
    refine ⟨_, rfl, qZ rfl (SqT.of hd) a1 (qZ rfl (SqT.of hd) a2 ⟨tz, tl, ti, zs, _, _, some ((n : Int)), some t, rfl, g2, g3, .int _, .int _, fun hf => (by rw [pl (glt hm) h0] at hf; cases hf), fun _ => ?_⟩)⟩
    refine ⟨_, rfl, dz, _, "unmix", t, none, rfl, hd, ⟨a0, a2, fun z => absurd z (by decide +kernel)⟩, fun z => (by unfold vM at z; rw [if_neg (by decide +kernel), if_neg (by decide +kernel)] at z; cases z), fun _ H1 e1 => ?_⟩
    refine (qZ rfl (SqT.of (e1 _ _ hd)) a0 ⟨rfl, _, rfl, kX (by decide +kernel) ?_⟩)
    refine (qZ rfl (SqT.of (e1 _ _ hd)) a0 ⟨rfl, _, rfl, kX (by decide +kernel) ?_⟩)
    refine (qZ rfl (SqT.of (e1 _ _ hd)) a0 ⟨rfl, _, rfl, kL (by decide +kernel) ?_⟩)
    exact ⟨_, rfl, _, rfl, tz, dz, ts, tie, n, ms, t, rfl, hP.tab.same e1, hP.len, hm, (hP.ok ms (List.mem_of_getElem? hm)).2.1, e1 _ _ hd, .inr ⟨i, h, fun v H2 e2 => k2 rfl v H2 (e1.trans e2)⟩⟩
  | @chg xs w n t o ms c hd hcw a1 hN hm h0 hb h =>
    have a0 := hN.1
    have a2 := hN.2.1
    have hw : ¬ Wd3 w := by rcases hcw with rfl | rfl | rfl | rfl | rfl | rfl <;> decide +kernel
    have w1 : decide (V.str w = V.str "heal") = false := by rcases hcw with rfl | rfl | rfl | rfl | rfl | rfl <;> decide +kernel
    have w2 : decide (V.str w = V.str "mix") = false := by rcases hcw with rfl | rfl | rfl | rfl | rfl | rfl <;> decide +kernel
    have w3 : decide (V.str w = V.str "unmix") = false := by rcases hcw with rfl | rfl | rfl | rfl | rfl | rfl <;> decide +kernel
    have hG := hP.g (glt hm)
    refine (qZ rfl (SqT.of hd) a0 ⟨a.n_ROLLS, _, rfl, .inr (T.sq_ROLLS _), rfl, rfl, false, xZ (by rw [zB]; exact decide_eq_false hw), qm ?_⟩)
    refine ⟨_, rfl, qZ rfl (SqT.of hd) a1 (qZ rfl (SqT.of hd) a2 ⟨tz, tl, ti, zs, _, _, some ((n : Int)), some t, rfl, g2, g3, .int _, .int _, fun hf => (by rw [pl (glt hm) h0] at hf; cases hf), fun _ => ?_⟩)⟩
    refine ⟨_, rfl, dz, xs, w, t, o, rfl, hd, hN, fun z => (by rw [hb] at z; cases z), fun _ H1 e1 => ?_⟩
    refine (qZ rfl (SqT.of (e1 _ _ hd)) a0 ⟨rfl, _, rfl, kX w1 ?_⟩)
    refine (qZ rfl (SqT.of (e1 _ _ hd)) a0 ⟨rfl, _, rfl, kX w2 ?_⟩)
    refine (qZ rfl (SqT.of (e1 _ _ hd)) a0 ⟨rfl, _, rfl, kX w3 ?_⟩)
    refine ⟨_, rfl, _, rfl, _, rfl, tz, dz, rd, ts, tie, n, ms, c, rfl, hG.same e1, hm, h.same e1, fun hc H2 e2 => k0 hc H2 (e1.trans e2), fun hc H2 e2 => k1 hc H2 (e1.trans e2), fun hc H2 e2 => k3 hc H2 (e1.trans e2), fun hc H2 e2 => ?_⟩
    cases h with
    | cut0 => cases hc
    | bad => cases hc
    | @ok d c hD hO hc' =>
      have e12 := e1.trans e2
      exact ⟨_, rfl, _, rfl, tz, dz, rd, ts, tie, n, d, ms, rfl, hG.same e12, hD.same e12, hO.same e12, fun v H3 e3 => k2 hc v H3 (e12.trans e3)⟩
def qg : List Im := [.clip "a" 100 1 1 1 8, .mix 3, .clip "a" 50 1 1 2 9, .gap 4, .clip "a" 9 1 (-1) 1 5, .nest "low" 2 6]
def trk (f : Int) : List Im := if 0 < f then .gap f :: qg else qg
def off (f : Int) : Nat := if 0 < f then 1 else 0
def qBw : List (Key × V) := [((Sum.inr ("a" : Str) : Key), .int 200)]
def vo : Rls := fun n => if n = "a" then some 200 else none
theorem wQ : ∀ (ms : List Im) (b : Int) (i : Nat) (t s : Int) (k : Nat), jt (b + s) (i + k) ms (t + s) = (jt b i ms t).map fun r => (r.1 + k, r.2)
  | [], _, _, _, _, _ => rfl
  | m :: ms, b, i, t, s, k => by
    rw [jt, jt]
    by_cases c : b ≤ t ∧ t < b + m.mo
    · rw [if_pos (by omega), if_pos c]
      show some (i + k, t + s - (b + s)) = some (i + k, t - b)
      congr 2
      omega
    · rw [if_neg (by omega), if_neg c, show b + s + m.mo = (b + m.mo) + s by omega, show i + k + 1 = (i + 1) + k by omega]
      exact wQ ms _ _ _ _ _
theorem v3 {f k : Int} (hf : 0 ≤ f) (hk : 0 ≤ k) : jt 0 0 (trk f) (f + k) = (jt 0 0 qg k).map fun r => (r.1 + off f, r.2) := by
  unfold trk off
  by_cases h : 0 < f
  · rw [if_pos h, if_pos h, jt, if_neg (by show ¬ (0 ≤ f + k ∧ f + k < 0 + f); omega)]
    have := wQ qg 0 0 k f 1
    rw [show k + f = f + k by omega] at this
    exact this
  · have : f = 0 := by omega
    subst this
    rw [if_neg h, if_neg h, Int.zero_add]
    cases jt 0 0 qg k <;> rfl
theorem qE0 {f j : Int} (hj : 0 ≤ j) : qp (trk f) (j + (off f : Nat)) = qp qg j := by
  unfold trk off
  by_cases h : 0 < f
  · rw [if_pos h, if_pos h]
    unfold qp
    rw [if_neg (by omega), if_neg (by omega), show (j + ((1 : Nat) : Int)).toNat = j.toNat + 1 by omega, List.getElem?_cons_succ]
  · rw [if_neg h, if_neg h]
    show qp qg (j + 0) = _
    rw [Int.add_zero]
theorem j7 {f j k : Int} (hj : 0 ≤ j) (e : k = j + (off f : Nat)) : qp (trk f) k = qp qg j := by rw [e]; exact qE0 hj
theorem qDn {f : Int} {j : Nat} : (trk f)[j + off f]? = qg[j]? := by
  unfold trk off
  by_cases h : 0 < f
  · rw [if_pos h, if_pos h, List.getElem?_cons_succ]
  · rw [if_neg h, if_neg h]; rfl
theorem qAj {f k : Int} (hf : 0 ≤ f) (hk : 0 ≤ k) : ze (trk f) (f + k) = ze qg k := by
  unfold ze
  rw [v3 hf hk]
  cases h : jt 0 0 qg k with
  | none => rfl
  | some r =>
    obtain ⟨j, d⟩ := r
    show (decide (d > 0) && (decide (qp (trk f) ((j + off f : Nat) : Int) = "clip") || decide (qp (trk f) ((j + off f : Nat) : Int) = "nest"))) = _
    rw [show ((j + off f : Nat) : Int) = (j : Int) + (off f : Nat) by omega, qE0 (by omega)]
theorem vI : ∀ (ms : List Im) (b s : Int), zX (b + s) ms = (zX b ms).map fun x => (x.1 + s, x.2.1 + s, x.2.2 + s)
  | [], _, _ => rfl
  | m :: ms, b, s => by
    by_cases h : m.wd = "mix"
    · obtain ⟨l, rfl⟩ := qLa h
      rw [zX, zX, vI ms b s, List.map_cons]
      congr 1
      have e1 : b + s - l.fdiv 2 = b - l.fdiv 2 + s := by omega
      have e2 : b + s + (l - l.fdiv 2) = b + (l - l.fdiv 2) + s := by omega
      rw [e1, e2]
    · rw [zc h, zc h, show b + s + m.mo = (b + m.mo) + s by omega]
      exact vI ms _ _
theorem qH5 {f lo hi : Int} (hf : 0 ≤ f) : qo (trk f) (f + lo) (f + hi) = qo qg lo hi := by
  unfold qo trk
  by_cases h : 0 < f
  · rw [if_pos h, zc (m := .gap f) (by show ("gap" : Str) ≠ "mix"; decide +kernel)]
    show (zX (0 + f) qg).any _ = _
    rw [vI, List.any_map]
    congr 1
    funext x
    unfold qJq
    dsimp only [Function.comp]
    congr 1
    · congr 1
      · rw [Bool.eq_iff_iff, decide_eq_true_iff, decide_eq_true_iff]; omega
      · rw [Bool.eq_iff_iff, decide_eq_true_iff, decide_eq_true_iff]; omega
    · congr 1
      · rw [Bool.eq_iff_iff, decide_eq_true_iff, decide_eq_true_iff]; omega
      · rw [Bool.eq_iff_iff, decide_eq_true_iff, decide_eq_true_iff]; omega
  · have : f = 0 := by omega
    subst this
    rw [if_neg h, Int.zero_add, Int.zero_add]
theorem zT {f lo hi : Int} {push : Bool} (hf : 0 ≤ f) : jr [trk f] (chF [] ((0 : Nat) : Int) push) (f + lo) (f + hi) = qo qg lo hi := by
  have e : chF [] ((0 : Nat) : Int) push = [0] := by unfold chF; rw [if_neg (fun z => by simp at z)]; rfl
  rw [e]
  unfold jr
  show (qo (trk f) (f + lo) (f + hi) || false) = _
  rw [Bool.or_false, qH5 hf]
structure LS (H H' : Hp) : Prop where
  ts : TS H H'
  ls : ∀ z xs, H z = some (.lst xs) → ∃ ys, H' z = some (.lst ys)
theorem LS.same {H H' : Hp} (s : Same H H') : LS H H' := ⟨qk s, fun _ xs e => ⟨xs, s _ _ e⟩⟩
theorem LS.put {H : Hp} {z : Addr} {xs ys : List V} (h : H z = some (.lst xs)) : LS H (upd H z (.lst ys)) := ⟨zE h, fun a as e => by
  by_cases c : a = z
  · subst c; exact ⟨ys, qB⟩
  · exact ⟨as, by rw [qd c]; exact e⟩⟩
theorem LS.trans {H H' H'' : Hp} (h : LS H H') (h' : LS H' H'') : LS H H'' := ⟨h.ts.trans h'.ts, fun z xs e => let ⟨ys, e'⟩ := h.ls z xs e; h'.ls z ys e'⟩
theorem Nu.lss {H H' : Hp} (s : LS H H') {x : V} {o : Option Int} (h : Nu H x o) : Nu H' x o := by
  cases h with
  | int i => exact .int i
  | no h =>
    cases h with
    | non => exact .no .non
    | bl b => exact .no (.bl b)
    | str z => exact .no (.str z)
    | lst e => obtain ⟨ys, e'⟩ := s.ls _ _ e; exact .no (.lst e')
    | tup e => exact .no (.tup (s.ts _ _ e))
def DeedC (K : W.Frag) (H : Hp) (dz : Addr) (f : Int) (c : Nat) : Prop := ∀ (H' : Hp) (rd : Addr), LS H H' → H' rd = some (.dK qBw) → DdO K H' rd dz vo [trk f] [] c
theorem DeedC.lss {H H' : Hp} (e : LS H H') {dz : Addr} {f : Int} {c : Nat} (h : DeedC K H dz f c) : DeedC K H' dz f c := fun H2 rd e2 hr => h H2 rd (e.trans e2) hr
theorem qLk {i : Int} (h : i ≤ 10000000000000) : i ≤ 2 ^ 400 := by
  have : (10000000000000 : Int) ≤ 2 ^ 400 := by decide
  omega
variable {H : Hp} {dz : Addr} {f : Int}
def cd (b : Bool) : Nat := if b = true then 1 else 2
theorem qFg {k : Int} {c : Nat} (hf : 0 ≤ f) (hF : f ≤ 1000000000000) (hk : 0 ≤ k) (hk2 : k ≤ 1000) (hd : H dz = some (.tup [.str "cut", .int 0, .int (f + k)])) (h : (ze qg k = false ∧ c = 0) ∨ (ze qg k = true ∧ c = cd (qo qg k k))) : DeedC K H dz f c := fun H' rd e hr => by
  have hd := e.ts _ _ hd
  refine .chg (w := "cut") (n := 0) (t := f + k) (o := none) (ms := trk f) hd (.inl rfl) rfl ⟨rfl, rfl, fun z => absurd z (by decide +kernel)⟩ rfl (by omega) (by unfold vM; rw [if_neg (by decide +kernel), if_neg (by decide +kernel)]) ?_
  rcases h with ⟨h, rfl⟩ | ⟨h, rfl⟩
  · exact .cut0 hd (by rw [qAj hf hk]; exact h)
  · refine .ok (d := .cut (f + k)) hd ⟨by omega, qLk (by omega), by rw [qAj hf hk]; exact h⟩ ?_
    show cd (qo qg k k) = if jr [trk f] (chF [] ((0 : Nat) : Int) false) (f + k) (f + k) = true then 1 else 2
    rw [zT hf]
    rfl
theorem qAm {k l : Int} {c : Nat} (hf : 0 ≤ f) (hF : f ≤ 1000000000000) (hk : 0 ≤ k) (hk2 : k ≤ 1000) (hd : H dz = some (.tup [.str "open", .int 0, .int (f + k), .int l])) (h : (l < 1 ∧ c = 0) ∨ (1 ≤ l ∧ c = cd (qo qg k k))) : DeedC K H dz f c := fun H' rd e hr => by
  have hd := e.ts _ _ hd
  have hp : vA 1 (some 0) (some (f + k)) = true := by unfold vA; dsimp only; rw [decide_eq_true (show 0 ≤ f + k by omega)]; rfl
  rcases h with ⟨h, rfl⟩ | ⟨h, rfl⟩
  · refine .nums (w := "open") (n := 0) (t := f + k) (o := some l) hd rfl (by decide +kernel) ⟨rfl, rfl, fun _ => ⟨_, rfl, .int l⟩⟩ hp ?_
    unfold vM; rw [if_pos (.inl rfl)]; exact decide_eq_false (by omega)
  · refine .chg (w := "open") (n := 0) (t := f + k) (o := some l) (ms := trk f) hd (.inr (.inr (.inl rfl))) rfl ⟨rfl, rfl, fun _ => ⟨_, rfl, .int l⟩⟩ rfl (by omega) (by unfold vM; rw [if_pos (.inl rfl)]; exact decide_eq_true h) ?_
    refine .ok (d := .opn (f + k) l) hd ⟨by omega, qLk (by omega), h⟩ ?_
    show cd (qo qg k k) = if jr [trk f] (chF [] ((0 : Nat) : Int) true) (f + k) (f + k) = true then 1 else 2
    rw [zT hf]
    rfl
theorem qMt {w : Str} {k u : Int} {c : Nat} (hw : w = "close" ∨ w = "lift") (hf : 0 ≤ f) (hF : f ≤ 1000000000000) (hk : 0 ≤ k) (hku : k < u) (hk2 : u ≤ 2000000000) (hd : H dz = some (.tup [.str w, .int 0, .int (f + k), .int (f + u)])) (h : c = cd (qo qg k u)) : DeedC K H dz f c := fun H' rd e hr => by
  have hd := e.ts _ _ hd
  subst h
  rcases hw with rfl | rfl
  · refine .chg (w := "close") (n := 0) (t := f + k) (o := some (f + u)) (ms := trk f) hd (.inr (.inr (.inr (.inl rfl)))) rfl ⟨rfl, rfl, fun _ => ⟨_, rfl, .int _⟩⟩ rfl (by omega) (by unfold vM; rw [if_neg (by decide +kernel), if_pos (.inl rfl)]; exact decide_eq_true (by omega)) ?_
    refine .ok (d := .cls (f + k) (f + u)) hd ⟨by omega, by omega, qLk (by omega)⟩ ?_
    show cd (qo qg k u) = if jr [trk f] (chF [] ((0 : Nat) : Int) true) (f + k) (f + u) = true then 1 else 2
    rw [zT hf]
    rfl
  · refine .chg (w := "lift") (n := 0) (t := f + k) (o := some (f + u)) (ms := trk f) hd (.inr (.inr (.inr (.inr (.inl rfl))))) rfl ⟨rfl, rfl, fun _ => ⟨_, rfl, .int _⟩⟩ rfl (by omega) (by unfold vM; rw [if_neg (by decide +kernel), if_pos (.inr rfl)]; exact decide_eq_true (by omega)) ?_
    refine .ok (d := .lft (f + k) (f + u)) hd ⟨by omega, by omega, qLk (by omega)⟩ ?_
    show cd (qo qg k u) = if jr [trk f] (chF [] ((0 : Nat) : Int) false) (f + k) (f + u) = true then 1 else 2
    rw [zT hf]
    rfl
theorem qKy {w : Str} {k : Int} {x : V} {o : Option Int} (hw : w = "close" ∨ w = "lift") (hf : 0 ≤ f) (hk : 0 ≤ k) (hd : H dz = some (.tup [.str w, .int 0, .int (f + k), x])) (hx : Nu H x o) (h : ∀ u, o = some u → u ≤ f + k) : DeedC K H dz f 0 := fun H' rd e hr => by
  have hd := e.ts _ _ hd
  have hp : vA 1 (some 0) (some (f + k)) = true := by unfold vA; dsimp only; rw [decide_eq_true (show 0 ≤ f + k by omega)]; rfl
  have hx := hx.lss e
  have nb : vM w (f + k) o = false := by
    unfold vM
    rw [if_neg (by rcases hw with rfl | rfl <;> decide +kernel), if_pos hw]
    cases o with
    | none => rfl
    | some u => exact decide_eq_false (by have := h u rfl; omega)
  exact .nums (w := w) (n := 0) (t := f + k) (o := o) hd rfl (by rcases hw with rfl | rfl <;> decide +kernel) ⟨rfl, rfl, fun _ => ⟨_, rfl, hx⟩⟩ hp nb
theorem qJy {k : Int} {j : Nat} {d : Int} (hf : 0 ≤ f) (hk : 0 ≤ k) (hi : jt 0 0 qg k = some (j, d)) (hd : d ≠ 0) : nbF (trk f) (f + k) = none := by
  unfold nbF
  rw [v3 hf hk, hi]
  show (if d ≠ 0 ∨ ((j + off f : Nat) : Int) = 0 then none else _) = none
  rw [if_pos (.inl hd)]
theorem qIn {k : Int} {j : Nat} (hf : 0 ≤ f) (hk : 0 ≤ k) (hi : jt 0 0 qg k = some (j + 1, 0)) : nbF (trk f) (f + k) = some ((if qp qg (j : Int) = "mix" then (j : Int) - 1 else (j : Int)) + (off f : Nat), ((j + 1 : Nat) : Int) + (off f : Nat)) := by
  unfold nbF
  rw [v3 hf hk, hi]
  show (if (0 : Int) ≠ 0 ∨ ((j + 1 + off f : Nat) : Int) = 0 then none else some (if qp (trk f) (((j + 1 + off f : Nat) : Int) - 1) = "mix" then ((j + 1 + off f : Nat) : Int) - 2 else ((j + 1 + off f : Nat) : Int) - 1, ((j + 1 + off f : Nat) : Int))) = _
  rw [if_neg (by omega), j7 (j := (j : Int)) (by omega) (by omega)]
  have e1 : (if qp qg (j : Int) = "mix" then ((j + 1 + off f : Nat) : Int) - 2 else ((j + 1 + off f : Nat) : Int) - 1) = (if qp qg (j : Int) = "mix" then (j : Int) - 1 else (j : Int)) + (off f : Nat) := by split <;> omega
  have e2 : ((j + 1 + off f : Nat) : Int) = ((j + 1 : Nat) : Int) + (off f : Nat) := by omega
  rw [e1, e2]
theorem qI4 {t : Int} {d : Int} (hi : jt 0 0 (trk f) t = some (0, d)) : nbF (trk f) t = none := by
  unfold nbF
  rw [hi]
  show (if d ≠ 0 ∨ (((0 : Nat)) : Int) = 0 then none else _) = none
  rw [if_pos (.inr rfl)]
theorem qKd {t : Int} (h : nbF (trk f) t = none) : cbF (trk f) t = none := by unfold cbF; rw [h]
theorem it8 : jt 0 0 qg 8 = some (2, 0) := by decide +kernel
theorem cb8 (hf : 0 ≤ f) : cbF (trk f) (f + 8) = some (((off f : Nat) : Int), ((off f + 2 : Nat) : Int)) := by
  have h := qIn (f := f) (k := 8) (j := 1) hf (by decide) it8
  rw [if_pos (by decide +kernel)] at h
  unfold cbF
  rw [h]
  dsimp only
  rw [if_pos ⟨by rw [j7 (j := 0) (by decide) (by omega)]; decide +kernel, by rw [j7 (j := 2) (by decide) (by omega)]; decide +kernel⟩]
  congr 2
  · omega
  · omega
theorem qH8 {t : Int} (ht : 0 ≤ t) (hd : H dz = some (.tup [.str "heal", .int 0, .int t])) (h : qAc (trk f) t) : DeedC K H dz f 0 := fun H' rd e hr => .heal (n := 0) (ms := trk f) (e.ts _ _ hd) rfl ht h
theorem qNx (hf : 0 ≤ f) : qAc (trk f) (f + 8) := by
  have h := qIn (f := f) (k := 8) (j := 1) hf (by decide) it8
  rw [if_pos (by decide +kernel)] at h
  refine .inr ⟨off f, 2 + off f, "a", "a", 100, 1, 1, 1, 8, 50, 1, 1, 2, 9, ?_, ?_, ?_, ⟨by decide, by decide, by decide, by decide, by decide, by decide⟩, by decide, by decide +kernel⟩
  · rw [h]
    have e1 : (1 : Int) - 1 + (off f : Nat) = ((off f : Nat) : Int) := by omega
    have e2 : ((1 + 1 : Nat) : Int) + (off f : Nat) = ((2 + off f : Nat) : Int) := by omega
    rw [show (((1 : Nat) : Int) - 1 + (off f : Nat)) = ((off f : Nat) : Int) by omega, e2]
  · have := qDn (f := f) (j := 0)
    rw [Nat.zero_add] at this
    rw [this]; rfl
  · rw [qDn]; rfl
theorem qN3 (hf : 0 ≤ f) : qAc (trk f) (f + 3) := .inl (qJy (j := 0) (d := 3) hf (by decide) (by decide +kernel) (by decide))
theorem qM5 (hf : 0 ≤ f) : qAc (trk f) 0 := by
  refine .inl (qI4 (d := 0) ?_)
  unfold trk
  by_cases h : 0 < f
  · rw [if_pos h, jt, if_pos (by show 0 ≤ (0 : Int) ∧ (0 : Int) < 0 + f; omega)]; rfl
  · rw [if_neg h]; decide +kernel
theorem qMq (hf : 0 ≤ f) (hd : H dz = some (.tup [.str "unmix", .int 0, .int (f + 8)])) : DeedC K H dz f 2 := fun H' rd e hr => .unm2 (n := 0) (i := off f) (ms := trk f) (e.ts _ _ hd) rfl (by omega) (cb8 hf)
theorem qL1 (hf : 0 ≤ f) (hd : H dz = some (.tup [.str "unmix", .int 0, .int (f + 9)])) : DeedC K H dz f 0 := fun H' rd e hr => .unm0 (n := 0) (ms := trk f) (e.ts _ _ hd) rfl (by omega) (qKd (qJy (j := 2) (d := 1) hf (by decide) (by decide +kernel) (by decide)))
theorem qL6 {l : Int} (hf : 0 ≤ f) (hl : 1 ≤ l) (hd : H dz = some (.tup [.str "mix", .int 0, .int (f + 8), .int l])) : DeedC K H dz f 0 := fun H' rd e hr => .mix (n := 0) (ms := trk f) (e.ts _ _ hd) rfl (by omega) hl (.inr ⟨_, _, cb8 hf, by omega⟩)
theorem qOr (hf : 0 ≤ f) : cbF (trk f) (f + 21) = none := by
  have h := qIn (f := f) (k := 21) (j := 3) hf (by decide) (by decide +kernel)
  rw [if_neg (by decide +kernel)] at h
  unfold cbF
  rw [h]
  dsimp only
  rw [if_neg]
  intro z
  have z1 := z.1
  rw [j7 (j := 3) (by decide) (by omega)] at z1
  exact absurd z1 (by decide +kernel)
theorem qOv (hf : 0 ≤ f) : cbF (trk f) (f + 17) = none := by
  have h := qIn (f := f) (k := 17) (j := 2) hf (by decide) (by decide +kernel)
  rw [if_neg (by decide +kernel)] at h
  unfold cbF
  rw [h]
  dsimp only
  rw [if_neg]
  intro z
  have z1 := z.2
  rw [j7 (j := 3) (by decide) (by omega)] at z1
  exact absurd z1 (by decide +kernel)
theorem qKa {l : Int} (hf : 0 ≤ f) (hl : 1 ≤ l) (hd : H dz = some (.tup [.str "mix", .int 0, .int (f + 21), .int l])) : DeedC K H dz f 0 := fun H' rd e hr => .mix (n := 0) (ms := trk f) (e.ts _ _ hd) rfl (by omega) hl (.inl (qOr hf))
theorem qL8 {k : Int} (hf : 0 ≤ f) (hk : 0 ≤ k) (hd : H dz = some (.tup [.str "mix", .int 0, .int (f + k), .int 0])) : DeedC K H dz f 0 := fun H' rd e hr => by
  have hp : vA 1 (some 0) (some (f + k)) = true := by unfold vA; dsimp only; rw [decide_eq_true (show 0 ≤ f + k by omega)]; rfl
  refine .nums (w := "mix") (n := 0) (t := f + k) (o := some 0) (e.ts _ _ hd) rfl (by decide +kernel) ⟨rfl, rfl, fun _ => ⟨_, rfl, .int 0⟩⟩ hp ?_
  unfold vM; rw [if_pos (.inr rfl)]; rfl
theorem wf {xs : List V} {w : Str} {n t : V} {on ot : Option Int} (hd : H dz = some (.tup xs)) (a0 : atI xs 0 = some (.str w)) (a1 : atI xs 1 = some n) (a2 : atI xs 2 = some t) (hw : ¬ Wd3 w) (hn : Nu H n on) (ht : Nu H t ot) (h : vA 1 on ot = false) : DeedC K H dz f 0 := fun H' rd e hr => .place (e.ts _ _ hd) a0 a1 a2 hw (hn.lss e) (ht.lss e) h
theorem vR {wd : Str} {k : Int} {b : V} {ob : Option Int} {c : Nat} (hw : Wd3 wd) (hd : H dz = some (.tup [.str wd, .int 0, .int (f + k), b])) (hb : Nu H b ob) (hc : (qAp [trk f] wd (some 0) (some (f + k)) ob = 0 ∧ c = 0) ∨ (qAp [trk f] wd (some 0) (some (f + k)) ob = 1 ∧ c = 1) ∨ (qAp [trk f] wd (some 0) (some (f + k)) ob = 2 ∧ ((kH vo [trk f] wd (some 0) (some (f + k)) ob ∧ c = 2) ∨ (¬ kH vo [trk f] wd (some 0) (some (f + k)) ob ∧ c = 4)))) : DeedC K H dz f c := fun H' rd e hr => .roll (e.ts _ _ hd) (.int 0) (.int _) (hb.lss e) hw hc
theorem wH {wd : Str} {k b : Int} (hf : 0 ≤ f) (hk : 0 ≤ k) (hb : b.natAbs ≤ 1000000) : qAp [trk f] wd (some 0) (some (f + k)) (some b) = mxF (trk f) (plF wd (trk f) (f + k)) := by
  unfold qAp
  dsimp only
  rw [if_pos ⟨by unfold vA; dsimp only; rw [decide_eq_true (show 0 ≤ f + k by omega)]; rfl, decide_eq_true hb⟩]
  rfl
theorem qMn {j : Int} (hj : 0 < j) : hmB (trk f) (j + (off f : Nat)) = hmB qg j := by
  unfold hmB
  rw [j7 (j := j - 1) (by omega) (by omega), j7 (j := j + 1) (by omega) (by omega)]
theorem qHj : hmB (trk f) (off f : Nat) = true := by
  unfold hmB
  rw [j7 (k := (off f : Nat) + 1) (j := 1) (by decide) (by omega)]
  rw [show decide (qp qg 1 = "mix") = true by decide +kernel, Bool.or_true]
theorem qKn {b : Int} (hf : 0 ≤ f) (hb : b.natAbs ≤ 1000000) : qAp [trk f] "roll" (some 0) (some (f + 8)) (some b) = 1 := by
  rw [wH hf (by decide) hb]
  unfold plF
  rw [if_pos rfl, cb8 hf]
  show (if ([((off f : Nat) : Int), ((off f + 2 : Nat) : Int)] : List Int).any (hmB (trk f)) = true then 1 else 2) = 1
  rw [if_pos]
  rw [List.any_cons, qHj]
  rfl
theorem qIg {b : Int} (hf : 0 ≤ f) (hb : b.natAbs ≤ 1000000) : qAp [trk f] "roll" (some 0) (some (f + 17)) (some b) = 0 := by
  rw [wH hf (by decide) hb]
  unfold plF
  rw [if_pos rfl, qOv hf]
  rfl
theorem qJn {k : Int} {j : Nat} {d : Int} (hf : 0 ≤ f) (hk : 0 ≤ k) (hi : jt 0 0 qg k = some (j, d)) (hc : qp qg (j : Int) = "clip") : ctF (trk f) (f + k) = some (j + off f) := by
  unfold ctF
  rw [v3 hf hk, hi]
  show (if qp (trk f) ((j + off f : Nat) : Int) = "clip" then some (j + off f) else none) = _
  rw [j7 (j := (j : Int)) (by omega) (by omega), if_pos hc]
theorem qEc {k : Int} {j : Nat} {d : Int} (hf : 0 ≤ f) (hk : 0 ≤ k) (hi : jt 0 0 qg k = some (j, d)) (hc : qp qg (j : Int) = "clip") : plF "slip" (trk f) (f + k) = some [((j + off f : Nat) : Int)] := by
  unfold plF
  rw [if_neg (by decide +kernel), if_pos rfl, qJn hf hk hi hc]
  rfl
theorem qKc {b : Int} (hf : 0 ≤ f) (hb : b.natAbs ≤ 1000000) : qAp [trk f] "slip" (some 0) (some (f + 2)) (some b) = 1 := by
  rw [wH hf (by decide) hb, qEc (j := 0) (d := 2) hf (by decide) (by decide +kernel) (by decide +kernel)]
  show (if ([((0 + off f : Nat) : Int)] : List Int).any (hmB (trk f)) = true then 1 else 2) = 1
  rw [if_pos]
  rw [List.any_cons, show ((0 + off f : Nat) : Int) = (off f : Nat) by omega, qHj]
  rfl
theorem qD3 {k b : Int} {d : Int} (hf : 0 ≤ f) (hk : 0 ≤ k) (hi : jt 0 0 qg k = some (4, d)) (hb : b.natAbs ≤ 1000000) : qAp [trk f] "slip" (some 0) (some (f + k)) (some b) = 2 := by
  rw [wH hf hk hb, qEc hf hk hi (by decide +kernel)]
  show (if ([((4 + off f : Nat) : Int)] : List Int).any (hmB (trk f)) = true then 1 else 2) = 2
  rw [if_neg]
  rw [List.any_cons, show ((4 + off f : Nat) : Int) = 4 + (off f : Nat) by omega, qMn (by decide)]
  show ¬ (hmB qg 4 || false) = true
  decide +kernel
theorem qAy {k b : Int} {d : Int} (hf : 0 ≤ f) (hk : 0 ≤ k) (hi : jt 0 0 qg k = some (4, d)) : kH vo [trk f] "slip" (some 0) (some (f + k)) (some b) = (qDe b ≤ if 0 < b then vk 9 1 (-1) 1 5 200 else vx 9 1 (-1) 1 200) := by
  unfold kH
  show qDw vo (trk f) "slip" ((plF "slip" (trk f) (f + k)).getD []) b = _
  rw [qEc hf hk hi (by decide +kernel), Option.getD_some]
  exact qEo (n := "a") (by rw [qDn]; rfl) rfl
theorem qG5 {b : Int} (hf : 0 ≤ f) (hb : b.natAbs ≤ 1000000) : qAp [trk f] "slide" (some 0) (some (f + 22)) (some b) = 0 := by
  rw [wH hf (by decide) hb]
  unfold plF
  rw [if_neg (by decide +kernel), if_neg (by decide +kernel)]
  unfold csF
  rw [qJn (j := 4) (d := 1) hf (by decide) (by decide +kernel) (by decide +kernel)]
  dsimp only
  rw [if_neg]
  · rfl
  · intro z
    have z1 := z.1
    unfold paF at z1
    rw [j7 (k := ((4 + off f : Nat) : Int) - 1) (j := 3) (by decide) (by omega), if_neg (by decide +kernel), j7 (j := 3) (by decide) (by omega)] at z1
    exact absurd z1 (by decide +kernel)
theorem t_1 : vk 9 1 (-1) 1 5 200 = 5 ∧ vx 9 1 (-1) 1 200 = 190 := by decide +kernel
def BadI (K : W.Frag) (H : Hp) (x : V) : Prop := ∀ (H' : Hp) (rd : Addr), LS H H' → H' rd = some (.dK qBw) → NsB K H' x false ∧ ItB K H' x rd false
theorem BadI.lss {H H' : Hp} (e : LS H H') {x : V} (h : BadI K H x) : BadI K H' x := fun H2 rd e2 hr => h H2 rd (e.trans e2) hr
def qNy (w : Str) : Prop := w = "lay_in" ∨ w = "lay_over"
theorem qDt {w : Str} {t : Int} {o : Option Int} (hw : qNy w) : vM w t o = true := by
  unfold vM
  rcases hw with rfl | rfl <;> rw [if_neg (by decide +kernel), if_neg (by decide +kernel)]
theorem qMf {w : Str} (hw : qNy w) : ChW w := by
  rcases hw with rfl | rfl
  · exact .inr (.inl rfl)
  · exact .inr (.inr (.inr (.inr (.inr rfl))))
theorem qLf {w : Str} {k : Int} {x : V} (hw : qNy w) (hf : 0 ≤ f) (hk : 0 ≤ k) (hd : H dz = some (.tup [.str w, .int 0, .int (f + k), x])) (hx : BadI K H x) : DeedC K H dz f 3 := fun H' rd e hr => by
  have hd := e.ts _ _ hd
  refine .chg (w := w) (n := 0) (t := f + k) (o := none) (ms := trk f) hd (qMf hw) rfl ⟨rfl, rfl, fun z => absurd z (by rcases hw with rfl | rfl <;> decide +kernel)⟩ rfl (by omega) (qDt hw) ?_
  exact .bad hw hd (hx H' rd e hr).1 (hx H' rd e hr).2
def qF2 : Im := .clip "a" 3 2 1 3 2
theorem qG6 {H : Hp} {rd : Addr} (h : H rd = some (.dK qBw)) : Reel H rd "a" 200 := ⟨qBw, .inl h, by rfl⟩
theorem qJo {H : Hp} {rd : Addr} (h : H rd = some (.dK qBw)) : LayOk H rd qF2 := ⟨200, qG6 h, ⟨by decide +kernel, by decide +kernel, ⟨by decide, by decide, by decide, by decide, by decide, by decide⟩, by decide, by decide, by decide, by decide⟩, ⟨by decide, by decide⟩, ⟨by decide, by decide⟩⟩
theorem qMd {k : Int} {x : V} {c : Nat} (hf : 0 ≤ f) (hF : f ≤ 1000000000000) (hk : 0 ≤ k) (hk2 : k ≤ 1000) (hd : H dz = some (.tup [.str "lay_in", .int 0, .int (f + k), x])) (hx : IsI H qF2 x) (h : c = cd (qo qg k k)) : DeedC K H dz f c := fun H' rd e hr => by
  have hd := e.ts _ _ hd
  subst h
  refine .chg (w := "lay_in") (n := 0) (t := f + k) (o := none) (ms := trk f) hd (.inr (.inl rfl)) rfl ⟨rfl, rfl, fun z => absurd z (by decide +kernel)⟩ rfl (by omega) (qDt (.inl rfl)) ?_
  refine .ok (d := .lin (f + k) qF2) ⟨x, hd, hx.ts e.ts⟩ ⟨by omega, qLk (by omega), qJo hr⟩ ?_
  show cd (qo qg k k) = if jr [trk f] (chF [] ((0 : Nat) : Int) true) (f + k) (f + k) = true then 1 else 2
  rw [zT hf]
  rfl
theorem qKb {k : Int} {x : V} {c : Nat} (hf : 0 ≤ f) (hF : f ≤ 1000000000000) (hk : 0 ≤ k) (hk2 : k ≤ 1000) (hd : H dz = some (.tup [.str "lay_over", .int 0, .int (f + k), x])) (hx : IsI H qF2 x) (h : c = cd (qo qg k (k + 2))) : DeedC K H dz f c := fun H' rd e hr => by
  have hd := e.ts _ _ hd
  subst h
  refine .chg (w := "lay_over") (n := 0) (t := f + k) (o := none) (ms := trk f) hd (.inr (.inr (.inr (.inr (.inr rfl))))) rfl ⟨rfl, rfl, fun z => absurd z (by decide +kernel)⟩ rfl (by omega) (qDt (.inr rfl)) ?_
  refine .ok (d := .lov (f + k) qF2) ⟨x, hd, hx.ts e.ts⟩ ⟨by omega, qLk (by omega), qJo hr, by decide, by decide⟩ ?_
  show cd (qo qg k (k + 2)) = if jr [trk f] (chF [] ((0 : Nat) : Int) false) (f + k) (f + k + 2) = true then 1 else 2
  rw [show f + k + 2 = f + (k + 2) by omega, zT hf]
  rfl
theorem qCs : (5 : Nat) ≤ sizeLine := by decide
def qBf : Sp := fun vs H Q _ => ∃ f : Int, vs = [.int f] ∧ ∀ (t : Addr) (H' : Hp), Same H H' → TabF H' (.ref t) [trk f] [] → Q (.ref t) H'
theorem kR (T : Tx K mg a) : FnOk P w K mg base CX0 1 a.a__law_table a.f__law_table ["_law_far_here"] qBf := by
  refine T.d__law_table.F.ok sc__law_table (fun vs H Q E h => ?_) (fun cdv A outer s H vs Q E hr h => ?_)
  · obtain ⟨f, rfl, _⟩ := h
    rfl
  obtain ⟨f, rfl, kk⟩ := h
  refine ⟨_, (qG (qU (i := 1) sc__law_table.nd rfl (Or.inl rfl) (ql (qA (qK (qA qI (qA qI (qA (qK (qA qD (qA qD qE))) (qA (qK (qA qD (qA qD qE))) (qA qD qE)))))) (qA (qK (qA qI (qA qD qE))) (qA (qK (qA qI (qA qI (qA (qK (qA qD (qA qD qE))) (qA (qK (qA qD (qA qD qE))) (qA qD qE)))))) (qA (qK (qA qI (qA qD qE))) qE))))))
      (qG (qU (i := 1) sc__law_table.nd rfl (Or.inl rfl) (qS jC (pv 1) (ql (qA (qK (qA qI (qA qI (qA (qK (qA qD (qA qD qE))) (qA (qK (qA (vd zk qD) (qA qD qE))) (qA qD qE)))))) (qA (qK (qA qI (qA qI (qA qD (qA qD qE))))) qE)))))
      (qG (vE (qj (qR qAu (pv 0) qD (qX _)) (qH (qU (i := 1) sc__law_table.nd rfl (Or.inl rfl) (qS jC (ql (qA (qK (qA qI (qA (pv 0) qE))) qE)) (pv 1)))) qV))
      (qH (qP (qK (qA (ql (qA (pv 1) qE)) (qA (ql qE) qE)))))))), ?_⟩
  try dsimp only [jT, qi]
  refine ⟨two, fun a1 ha1 => ⟨two, fun a2 ha2 => ⟨qCs, fun c1 hc1 => ⟨two, fun m1 hm1 => ⟨two, fun a3 ha3 => ⟨two, fun a4 ha4 => ⟨qCs, fun c2 hc2 => ⟨two, fun g1 hg1 => ⟨zG, fun l1 hl1 => ?_⟩⟩⟩⟩⟩⟩⟩⟩⟩
  have n1 := qC ha1 (.tup [.int 100, .int 1])
  have n2 := qC ha2 (.tup [.int 1, .int 1])
  have n3 := qC hc1 (.tup [.str "clip", .str "a", .ref a1, .ref a2, .int 8])
  have n4 := qC hm1 (.tup [.str "mix", .int 3])
  have n5 := qC ha3 (.tup [.int 50, .int 1])
  have n6 := qC ha4 (.tup [.int 1, .int 2])
  have n7 := qC hc2 (.tup [.str "clip", .str "a", .ref a3, .ref a4, .int 9])
  have n8 := qC hg1 (.tup [.str "gap", .int 4])
  have n9 := qC hl1 (.lst [.ref c1, .ref m1, .ref c2, .ref g1])
  have q8 := n9
  have q7 := n8.trans q8
  have q6 := n7.trans q7
  have q5 := n6.trans q6
  have q4 := n5.trans q5
  have q3 := n4.trans q4
  have q2 := n3.trans q3
  have q1 := n2.trans q2
  have i_a1 := q1 _ _ qB
  have i_a2 := q2 _ _ qB
  have i_c1 := q3 _ _ qB
  have i_m1 := q4 _ _ qB
  have i_a3 := q5 _ _ qB
  have i_a4 := q6 _ _ qB
  have i_c2 := q7 _ _ qB
  have i_g1 := q8 _ _ qB
  have i_l1 := qB (H := (upd (upd (upd (upd (upd (upd (upd (upd H a1 (.tup [.int 100, .int 1])) a2 (.tup [.int 1, .int 1])) c1 (.tup [.str "clip", .str "a", .ref a1, .ref a2, .int 8])) m1 (.tup [.str "mix", .int 3])) a3 (.tup [.int 50, .int 1])) a4 (.tup [.int 1, .int 2])) c2 (.tup [.str "clip", .str "a", .ref a3, .ref a4, .int 9])) g1 (.tup [.str "gap", .int 4]))) (a := l1) (o := .lst [.ref c1, .ref m1, .ref c2, .ref g1])
  have s_H1 := n1.trans q1
  have l_l1 : H l1 = none := ((((((((n1.trans n2).trans n3).trans n4).trans n5).trans n6).trans n7).trans n8)).free hl1
  clear n1 n2 n3 n4 n5 n6 n7 n8 n9 q1 q2 q3 q4 q5 q6 q7 q8
  generalize (upd (upd (upd (upd (upd (upd (upd (upd (upd H a1 _) a2 _) c1 _) m1 _) a3 _) a4 _) c2 _) g1 _) l1 _) = H1 at i_a1 i_a2 i_c1 i_m1 i_a3 i_a4 i_c2 i_g1 i_l1 s_H1 ⊢
  clear ha1 ha2 hc1 hm1 ha3 ha4 hc2 hg1 hl1
  refine ⟨_, rfl, two, fun a5 ha5 => ⟨_, rfl, two, fun a6 ha6 => ⟨qCs, fun c3 hc3 => ⟨zG, fun e1 he1 => ⟨two, fun l2 hl2 => ?_⟩⟩⟩⟩⟩
  have n1 := qC ha5 (.tup [.int 9, .int 1])
  have n2 := qC ha6 (.tup [.int (-1), .int 1])
  have n3 := qC hc3 (.tup [.str "clip", .str "a", .ref a5, .ref a6, .int 5])
  have n4 := qC he1 (.tup [.str "nest", .str "low", .int 2, .int 6])
  have n5 := qC hl2 (.lst [.ref c3, .ref e1])
  have q4 := n5
  have q3 := n4.trans q4
  have q2 := n3.trans q3
  have q1 := n2.trans q2
  have i_a5 := q1 _ _ qB
  have i_a6 := q2 _ _ qB
  have i_c3 := q3 _ _ qB
  have i_e1 := q4 _ _ qB
  have i_l2 := qB (H := (upd (upd (upd (upd H1 a5 (.tup [.int 9, .int 1])) a6 (.tup [.int (-1), .int 1])) c3 (.tup [.str "clip", .str "a", .ref a5, .ref a6, .int 5])) e1 (.tup [.str "nest", .str "low", .int 2, .int 6]))) (a := l2) (o := .lst [.ref c3, .ref e1])
  have s_H2 := n1.trans q1
  have l_l2 : H1 l2 = none := ((((n1.trans n2).trans n3).trans n4)).free hl2
  clear n1 n2 n3 n4 n5 q1 q2 q3 q4
  generalize (upd (upd (upd (upd (upd H1 a5 _) a6 _) c3 _) e1 _) l2 _) = H2 at i_a5 i_a6 i_c3 i_e1 i_l2 s_H2 ⊢
  clear ha5 ha6 hc3 he1 hl2
  have i_l1 := s_H2 _ _ i_l1
  refine ⟨l1, l2, _, _, rfl, rfl, i_l1, i_l2, Nat.le_of_lt (qW (by show 6 ≤ 1000; decide)), fun l3 hl3 => ?_⟩
  have w3 := qC hl3 (.lst ([.ref c1, .ref m1, .ref c2, .ref g1] ++ [.ref c3, .ref e1]))
  have i_l3 : (upd H2 l3 (.lst ([.ref c1, .ref m1, .ref c2, .ref g1] ++ [.ref c3, .ref e1]))) l3 = some (.lst ([.ref c1, .ref m1, .ref c2, .ref g1] ++ [.ref c3, .ref e1])) := qB
  have s03 := (s_H1.trans s_H2).trans w3
  have s23 := s_H2.trans w3
  have is : IsIs (upd H2 l3 (.lst ([.ref c1, .ref m1, .ref c2, .ref g1] ++ [.ref c3, .ref e1]))) qg ([.ref c1, .ref m1, .ref c2, .ref g1] ++ [.ref c3, .ref e1]) :=
    ⟨⟨c1, a1, a2, rfl, s23 _ _ i_c1, s23 _ _ i_a1, s23 _ _ i_a2⟩, ⟨m1, rfl, s23 _ _ i_m1⟩, ⟨c2, a3, a4, rfl, s23 _ _ i_c2, s23 _ _ i_a3, s23 _ _ i_a4⟩, ⟨g1, rfl, s23 _ _ i_g1⟩, ⟨c3, a5, a6, rfl, w3 _ _ i_c3, w3 _ _ i_a5, w3 _ _ i_a6⟩, ⟨e1, rfl, w3 _ _ i_e1⟩, trivial⟩
  generalize upd H2 l3 _ = H3 at i_l3 s03 is ⊢
  generalize ([.ref c1, .ref m1, .ref c2, .ref g1] ++ [.ref c3, .ref e1] : List V) = vs at i_l3 is ⊢
  have hvl := is.len
  refine ⟨fun σ H' => ∃ (l : Addr) (vs : List V), σ = [some (.int f), some (.ref l)] ∧ Same H H' ∧ H' l = some (.lst vs) ∧ IsIs H' (trk f) vs, ?_, ?_⟩
  · unfold trk
    refine ⟨_, rfl, _, _, rfl, rfl, _, rfl, x9 (fun c => ?_) (fun c => ?_)⟩
    · have hc : 0 < f := by simpa using c
      rw [if_pos hc]
      refine ⟨_, rfl, two, fun g hg => ⟨qOc, fun l4 hl4 => ?_⟩⟩
      have w4 := qC hg (.tup [.str "gap", .int f])
      have w5 := qC hl4 (.lst [.ref g])
      refine ⟨_, rfl, l4, l3, _, _, rfl, rfl, qB, w5 _ _ (w4 _ _ i_l3), Nat.le_of_lt (qW (by show 1 + vs.length ≤ 1000; rw [hvl]; decide)), fun l6 hl6 => ?_⟩
      have w6 := qC hl6 (.lst ([.ref g] ++ vs))
      have w46 := (w4.trans w5).trans w6
      exact ⟨l6, _, rfl, s03.trans w46, qB, ⟨g, rfl, (w5.trans w6) _ _ qB⟩, is.ts (qk w46)⟩
    · have hc : ¬ 0 < f := by simpa using c
      rw [if_neg hc]
      exact ⟨l3, vs, rfl, s03, i_l3, is⟩
  rintro σ H4 ⟨l, vs, rfl, e4, hl, hi⟩
  refine ⟨_, rfl, qOc, fun la hla => ⟨sL0, fun lb hlb => ⟨two, fun t ht => ?_⟩⟩⟩
  have w1 := qC hla (.lst [.ref l])
  have w2 := qC hlb (.lst [])
  have w3 := qC ht (.tup [.ref la, .ref lb])
  have w13 := (w1.trans w2).trans w3
  exact kk t _ (e4.trans w13) ⟨t, la, lb, _, rfl, qB, (w2.trans w3) _ _ qB, ⟨⟨l, rfl, vs, w13 _ _ hl, hi.ts (qk w13)⟩, trivial⟩, w3 _ _ qB⟩
def vy (K : W.Frag) : Sp := fun vs H Q _ => ∃ c : Int, vs = [.int c] ∧ ∀ (x : V) (H' : Hp), Same H H' → BadI K H' x → Q x H'
theorem qGm {H : Hp} {z : Addr} {xs : List V} (h : H z = some (.tup xs)) (h4 : xs.length ≠ 4) (h5 : xs.length ≠ 5) : BadI K H (.ref z) := fun _ _ e _ => ⟨.len (e.ts _ _ h) h4, .form (.len (e.ts _ _ h) h5)⟩
theorem ve (T : Tx K mg a) : FnOk P w K mg base CX0 1 a.a__law_bad_item a.f__law_bad_item ["_law_cell"] (vy K) := by
  refine T.d__law_bad_item.F.ok sc__law_bad_item (fun vs H Q E h => ?_) (fun cdv A outer s H vs Q E hr h => ?_)
  · obtain ⟨c, rfl, _⟩ := h
    rfl
  obtain ⟨c, rfl, kk⟩ := h
  refine ⟨_, (qG (qU (i := 1) sc__law_bad_item.nd rfl (Or.inl rfl) (ql (qA (qK (qA qI (qA qD qE))) (qA (qK (qA qI (qA qD qE))) (qA (ql (qA qI (qA qI (qA (qK (qA qD (qA qD qE))) (qA (qK (qA qD (qA qD qE))) (qA qD qE)))))) (qA (qK (qA qI (qA qI (qA (qK (qA qD (qA qD qE))) (qA (qK (qA qD (qA qD qE))) (qA qD qE)))))) (qA vY qE)))))))
      (qG (qU (i := 1) sc__law_bad_item.nd rfl (Or.inl rfl) (qS jC (pv 1) (ql (qA (qK (qA qI (qA qI (qA (qK (qA qD (qA qD qE))) (qA (qK (qA qD (qA qD qE))) (qA qD qE)))))) (qA (qK (qA qI (qA qI (qA qD (qA qD qE))))) (qA (qK (qA qI (qA qI (qA (vd zk qD) (qA qD qE))))) (qA (qK (qA qI (qA qI (qA qD (qA qD qE))))) qE)))))))
      (qH (qP (qL jb (pv 1) (qS kK (pv 0) qD) (fun _ _ => rfl)))))), ?_⟩
  try dsimp only [jT, qi]
  refine ⟨two, fun b1 hb1 => ⟨two, fun b2 hb2 => ⟨two, fun x3 hx3 => ⟨two, fun y3 hy3 => ⟨qCs, fun b3 hb3 => ⟨two, fun x4 hx4 => ⟨two, fun y4 hy4 => ⟨qCs, fun b4 hb4 => ⟨qCs, fun l1 hl1 => ?_⟩⟩⟩⟩⟩⟩⟩⟩⟩
  have n1 := qC hb1 (.tup [.str "gap", .int 3])
  have n2 := qC hb2 (.tup [.str "mix", .int 1])
  have n3 := qC hx3 (.tup [.int 1, .int 1])
  have n4 := qC hy3 (.tup [.int 1, .int 1])
  have n5 := qC hb3 (.lst [.str "clip", .str "a", .ref x3, .ref y3, .int 2])
  have n6 := qC hx4 (.tup [.int 199, .int 1])
  have n7 := qC hy4 (.tup [.int 1, .int 1])
  have n8 := qC hb4 (.tup [.str "clip", .str "a", .ref x4, .ref y4, .int 2])
  have n9 := qC hl1 (.lst [.ref b1, .ref b2, .ref b3, .ref b4, .non])
  have q8 := n9
  have q7 := n8.trans q8
  have q6 := n7.trans q7
  have q5 := n6.trans q6
  have q4 := n5.trans q5
  have q3 := n4.trans q4
  have q2 := n3.trans q3
  have q1 := n2.trans q2
  have i_b1 := q1 _ _ qB
  have i_b2 := q2 _ _ qB
  have i_x3 := q3 _ _ qB
  have i_y3 := q4 _ _ qB
  have i_b3 := q5 _ _ qB
  have i_x4 := q6 _ _ qB
  have i_y4 := q7 _ _ qB
  have i_b4 := q8 _ _ qB
  have i_l1 := qB (H := (upd (upd (upd (upd (upd (upd (upd (upd H b1 (.tup [.str "gap", .int 3])) b2 (.tup [.str "mix", .int 1])) x3 (.tup [.int 1, .int 1])) y3 (.tup [.int 1, .int 1])) b3 (.lst [.str "clip", .str "a", .ref x3, .ref y3, .int 2])) x4 (.tup [.int 199, .int 1])) y4 (.tup [.int 1, .int 1])) b4 (.tup [.str "clip", .str "a", .ref x4, .ref y4, .int 2]))) (a := l1) (o := .lst [.ref b1, .ref b2, .ref b3, .ref b4, .non])
  have s_H1 := n1.trans q1
  have l_l1 : H l1 = none := ((((((((n1.trans n2).trans n3).trans n4).trans n5).trans n6).trans n7).trans n8)).free hl1
  clear n1 n2 n3 n4 n5 n6 n7 n8 n9 q1 q2 q3 q4 q5 q6 q7 q8
  generalize (upd (upd (upd (upd (upd (upd (upd (upd (upd H b1 _) b2 _) x3 _) y3 _) b3 _) x4 _) y4 _) b4 _) l1 _) = H1 at i_b1 i_b2 i_x3 i_y3 i_b3 i_x4 i_y4 i_b4 i_l1 s_H1 ⊢
  clear hb1 hb2 hx3 hy3 hb3 hx4 hy4 hb4 hl1
  refine ⟨_, rfl, two, fun x6 hx6 => ⟨two, fun y6 hy6 => ⟨qCs, fun b6 hb6 => ⟨zG, fun b7 hb7 => ⟨_, rfl, zG, fun b8 hb8 => ⟨zG, fun b9 hb9 => ⟨zG, fun l2 hl2 => ?_⟩⟩⟩⟩⟩⟩⟩
  have n1 := qC hx6 (.tup [.int 1, .int 1])
  have n2 := qC hy6 (.tup [.int 1, .int 1])
  have n3 := qC hb6 (.tup [.str "clip", .str "b", .ref x6, .ref y6, .int 2])
  have n4 := qC hb7 (.tup [.str "nest", .str "low", .int 0, .int 0])
  have n5 := qC hb8 (.tup [.str "nest", .str "low", .int (-1), .int 2])
  have n6 := qC hb9 (.tup [.str "clip", .str "a", .int 1, .int 2])
  have n7 := qC hl2 (.lst [.ref b6, .ref b7, .ref b8, .ref b9])
  have q6 := n7
  have q5 := n6.trans q6
  have q4 := n5.trans q5
  have q3 := n4.trans q4
  have q2 := n3.trans q3
  have q1 := n2.trans q2
  have i_x6 := q1 _ _ qB
  have i_y6 := q2 _ _ qB
  have i_b6 := q3 _ _ qB
  have i_b7 := q4 _ _ qB
  have i_b8 := q5 _ _ qB
  have i_b9 := q6 _ _ qB
  have i_l2 := qB (H := (upd (upd (upd (upd (upd (upd H1 x6 (.tup [.int 1, .int 1])) y6 (.tup [.int 1, .int 1])) b6 (.tup [.str "clip", .str "b", .ref x6, .ref y6, .int 2])) b7 (.tup [.str "nest", .str "low", .int 0, .int 0])) b8 (.tup [.str "nest", .str "low", .int (-1), .int 2])) b9 (.tup [.str "clip", .str "a", .int 1, .int 2]))) (a := l2) (o := .lst [.ref b6, .ref b7, .ref b8, .ref b9])
  have s_H2 := n1.trans q1
  have l_l2 : H1 l2 = none := ((((((n1.trans n2).trans n3).trans n4).trans n5).trans n6)).free hl2
  clear n1 n2 n3 n4 n5 n6 n7 q1 q2 q3 q4 q5 q6
  generalize (upd (upd (upd (upd (upd (upd (upd H1 x6 _) y6 _) b6 _) b7 _) b8 _) b9 _) l2 _) = H2 at i_x6 i_y6 i_b6 i_b7 i_b8 i_b9 i_l2 s_H2 ⊢
  clear hx6 hy6 hb6 hb7 hb8 hb9 hl2
  refine ⟨l1, l2, _, _, rfl, rfl, s_H2 _ _ i_l1, i_l2, Nat.le_of_lt (qW (by show 9 ≤ 1000; decide)), fun l3 hl3 => ?_⟩
  have w3 := qC hl3 (.lst ([.ref b1, .ref b2, .ref b3, .ref b4, .non] ++ [.ref b6, .ref b7, .ref b8, .ref b9]))
  have f9 := fm c (show (0 : Int) < 9 by decide)
  obtain ⟨v, hv, hvm⟩ := atN (xs := [.ref b1, .ref b2, .ref b3, .ref b4, .non] ++ [.ref b6, .ref b7, .ref b8, .ref b9]) (n := 9) rfl f9.1 f9.2
  refine ⟨_, rfl, _, rfl, _, _, rfl, rfl, nz, l3, _, _, v, rfl, rfl, SqL.of qB, hv, kk v _ ((s_H1.trans s_H2).trans w3) ?_⟩
  have s23 := s_H2.trans w3
  have gb : ∀ p : Int, 0 ≤ p → p ≤ 1000 → GF "a" p 1 1 1 2 := fun p h0 h1 => ⟨by decide +kernel, by decide +kernel, ⟨by decide, by decide, Nat.lt_of_le_of_lt (show p.natAbs ≤ 1000 by omega) (by decide), by decide, by decide, by decide⟩, by simp, by decide, by decide, by decide⟩
  have gb' : GF "b" 1 1 1 1 2 := ⟨by decide +kernel, by decide +kernel, ⟨by decide, by decide, by decide, by decide, by decide, by decide⟩, by decide, by decide, by decide, by decide⟩
  have hlow : wj "low" = true := by decide +kernel
  have hl3 : ("low" : Str).length ≤ 1000 := by decide +kernel
  rw [List.mem_append] at hvm
  simp only [List.mem_cons, List.not_mem_nil, or_false] at hvm
  rcases hvm with (rfl | rfl | rfl | rfl | rfl) | (rfl | rfl | rfl | rfl)
  · exact qGm (s23 _ _ i_b1) (by show 2 ≠ 4; decide) (by show 2 ≠ 5; decide)
  · exact qGm (s23 _ _ i_b2) (by show 2 ≠ 4; decide) (by show 2 ≠ 5; decide)
  · intro H' rd e _
    obtain ⟨ys, e'⟩ := e.ls _ _ (s23 _ _ i_b3)
    exact ⟨.no (.lst e') (by kernel_rfl), .form (.no (.lst e') (by kernel_rfl))⟩
  · refine fun H' rd e hr' => ⟨.len (e.ts _ _ (s23 _ _ i_b4)) (by show 5 ≠ 4; decide), .pics (b := false) (m := 200) ⟨x4, y4, e.ts _ _ (s23 _ _ i_b4), e.ts _ _ (s23 _ _ i_x4), e.ts _ _ (s23 _ _ i_y4)⟩ (gb 199 (by decide) (by decide)) (qG6 hr') ⟨fun z => (by cases z), fun z => absurd z.2 ?_⟩⟩
    unfold InR Vk
    decide
  · exact fun _ _ _ _ => ⟨.no .non (by kernel_rfl), .form (.no .non (by kernel_rfl))⟩
  · exact fun H' rd e hr' => ⟨.len (e.ts _ _ (w3 _ _ i_b6)) (by show 5 ≠ 4; decide), .reel ⟨x6, y6, e.ts _ _ (w3 _ _ i_b6), e.ts _ _ (w3 _ _ i_x6), e.ts _ _ (w3 _ _ i_y6)⟩ gb' hr' (by decide +kernel)⟩
  · exact fun _ _ e _ => ⟨.nums (e.ts _ _ (w3 _ _ i_b7)) hlow hl3 (by decide), .form (.len (e.ts _ _ (w3 _ _ i_b7)) (by show 4 ≠ 5; decide))⟩
  · exact fun _ _ e _ => ⟨.nums (e.ts _ _ (w3 _ _ i_b8)) hlow hl3 (by decide), .form (.len (e.ts _ _ (w3 _ _ i_b8)) (by show 4 ≠ 5; decide))⟩
  · exact fun _ _ e _ => ⟨.word (e.ts _ _ (w3 _ _ i_b9)) (by decide +kernel), .form (.len (e.ts _ _ (w3 _ _ i_b9)) (by show 4 ≠ 5; decide))⟩
def qN6 (o : Option Int) : Prop := ∀ u, o = some u → u < 0
def kd : Sp := fun vs H Q _ => ∃ c : Int, vs = [.int c] ∧ ∀ (x : V) (o : Option Int) (H' : Hp), Same H H' → Nu H' x o → qN6 o → Q x H'
theorem j8 (T : Tx K mg a) : FnOk P w K mg base CX0 1 a.a__law_bad_moment a.f__law_bad_moment ["_law_cell"] kd := by
  refine T.d__law_bad_moment.F.ok km (fun vs H Q E h => ?_) (fun cdv A outer s H vs Q E hr h => ?_)
  · obtain ⟨c, rfl, _⟩ := h
    rfl
  obtain ⟨c, rfl, kk⟩ := h
  refine ⟨_, (qH (qP (qL jb (ql (qA (qS j6 (vd zk qD) (qS kK (qS zZ (pv 0) qD) (qS qHe qD qD))) (qA kC (qA qI qE)))) (qS kK (pv 0) qD) (fun _ _ => rfl)))), ?_⟩
  try dsimp only [jT, qi]
  refine ⟨_, rfl, _, rfl, _, _, rfl, rfl, cdB (by decide) (by decide), _, _, rfl, rfl, cpw (n := 9) (by decide), _, _, rfl, rfl, (by show (10 : Int) ^ (9 : Int).toNat ≠ 0; decide), _, _, rfl, rfl, zq, fun l hl => ?_⟩
  have fa := fm (c.fdiv 3) (show (0 : Int) < 10 ^ (9 : Int).toNat by decide)
  have f3 := fm c (show (0 : Int) < 3 by decide)
  obtain ⟨v, hv, hvm⟩ := atN (xs := [V.int (-1 - (c.fdiv 3).fmod (10 ^ (9 : Int).toNat)), .bl true, .str "7"]) (n := 3) rfl f3.1 f3.2
  refine ⟨_, rfl, _, _, rfl, rfl, nz, l, _, _, v, rfl, rfl, SqL.of qB, hv, ?_⟩
  simp only [List.mem_cons, List.not_mem_nil, or_false] at hvm
  rcases hvm with rfl | rfl | rfl
  · exact kk _ _ _ (qC hl _) (.int _) fun u e => (by cases e; omega)
  · exact kk _ _ _ (qC hl _) (.no (.bl true)) fun u e => (by cases e)
  · exact kk _ _ _ (qC hl _) (.no (.str "7")) fun u e => (by cases e)
def wdC : Nat → Str
  | 0 => "noplace"
  | 1 => "mixed"
  | 2 => "good"
  | 3 => "noclip"
  | _ => "short"
def PairC (K : W.Frag) (H : Hp) (f : Int) (v : V) : Prop := ∃ (p dz : Addr) (c : Nat), v = .ref p ∧ H p = some (.tup [.ref dz, .str (wdC c)]) ∧ c ≤ 4 ∧ DeedC K H dz f c
theorem PairC.lss {H H' : Hp} (e : LS H H') {f : Int} {v : V} (h : PairC K H f v) : PairC K H' f v := let ⟨p, dz, c, h1, h2, h3, h4⟩ := h; ⟨p, dz, c, h1, e.ts _ _ h2, h3, h4.lss e⟩
def Prs (K : W.Frag) (H : Hp) (f : Int) (vs : List V) : Prop := ∀ v ∈ vs, PairC K H f v
theorem Prs.lss {H H' : Hp} (e : LS H H') {f : Int} {vs : List V} (h : Prs K H f vs) : Prs K H' f vs := fun v hv => (h v hv).lss e
theorem Prs.same {H H' : Hp} (e : Same H H') {f : Int} {vs : List V} (h : Prs K H f vs) : Prs K H' f vs := h.lss (.same e)
theorem Prs.nil {H : Hp} {f : Int} : Prs K H f [] := fun v h => by simp at h
theorem Prs.cons {H : Hp} {f : Int} {v : V} {vs : List V} (h : PairC K H f v) (hs : Prs K H f vs) : Prs K H f (v :: vs) := fun x hx => by
  rcases List.mem_cons.mp hx with rfl | hx
  · exact h
  · exact hs x hx
theorem Prs.app {H : Hp} {f : Int} {vs us : List V} (h : Prs K H f vs) (h' : Prs K H f us) : Prs K H f (vs ++ us) := fun x hx => (List.mem_append.mp hx).elim (h x) (h' x)
theorem tc {c : Int} (h : 0 ≤ c) : (2 : Nat) = cd (qo qg 10 (12 + c)) := by
  have e : zX 0 qg = [(7, 8, 10)] := by decide +kernel
  unfold qo
  rw [e]
  show 2 = cd (((decide ((7 : Int) < 12 + c) && decide ((10 : Int) < 10)) || (decide ((10 : Int) ≤ 8) && decide ((8 : Int) ≤ 12 + c))) || false)
  rw [show decide ((10 : Int) < 10) = false by decide, show decide ((10 : Int) ≤ 8) = false by decide, Bool.and_false, Bool.false_and]
  rfl
def qEj (K : W.Frag) : Sp := fun vs H Q _ => ∃ f c : Int, vs = [.int f, .int c] ∧ 0 ≤ f ∧ f ≤ 1000000000000 ∧ 0 ≤ c ∧ c < 1000000000 ∧ ∀ (l : Addr) (us : List V) (H' : Hp), Same H H' → H' l = some (.lst us) → Prs K H' f us → us.length ≤ 40 → Q (.ref l) H'
theorem qD6 (T : Tx K mg a) : FnOk P w K mg base CX0 1 a.a__law_far a.f__law_far ["_law_far_here", "_law_cell"] (qEj K) := by
  refine T.d__law_far.F.ok sc__law_far (fun vs H Q E h => ?_) (fun cdv A outer s H vs Q E hr h => ?_)
  · obtain ⟨f, c, rfl, _⟩ := h
    rfl
  obtain ⟨f, c, rfl, hf, hF, c0, c1, kk⟩ := h
  refine ⟨_, (qG (qU (i := 2) sc__law_far.nd rfl (Or.inl rfl) (ql (qA (qK (qA (qK (qA qI (qA qD (qA (qS qc (pv 0) qD) qE)))) (qA qI qE))) (qA (qK (qA (qK (qA qI (qA qD (qA (pv 0) qE)))) (qA qI qE))) (qA (qK (qA (qK (qA qI (qA qD (qA (qS qc (pv 0) qD) qE)))) (qA qI qE))) qE)))))
      (qG (qU (i := 2) sc__law_far.nd rfl (Or.inl rfl) (qS jC (pv 2) (ql (qA (qK (qA (qK (qA qI (qA qD (qA (qS qc (pv 0) qD) qE)))) (qA qI qE))) (qA (qK (qA (qK (qA qI (qA qD (qA (qS qc (pv 0) qD) qE)))) (qA qI qE))) (qA (qK (qA (qK (qA qI (qA qD (qA (qS qc (pv 0) qD) qE)))) (qA qI qE))) qE))))))
      (qG (qU (i := 2) sc__law_far.nd rfl (Or.inl rfl) (qS jC (pv 2) (ql (qA (qK (qA (qK (qA qI (qA qD (qA (qS qc (pv 0) qD) qE)))) (qA qI qE))) (qA (qK (qA (qK (qA qI (qA qD (qA (qS qc (pv 0) qD) qE)))) (qA qI qE))) (qA (qK (qA (qK (qA qI (qA qD (qA qD qE)))) (qA qI qE))) qE))))))
      (qG (qU (i := 2) sc__law_far.nd rfl (Or.inl rfl) (qS jC (pv 2) (ql (qA (qK (qA (qK (qA qI (qA qD (qA (qS qc (pv 0) qD) qE)))) (qA qI qE))) (qA (qK (qA (qK (qA qI (qA qD (qA (qS qc (pv 0) qD) qE)))) (qA qI qE))) qE)))))
      (qG (jN (qDd F.plainAttrs_list F.slot_list_append F.type_list_append xV (pv 2) (qA (qK (qA (qK (qA qI (qA qD (qA (qS qc (pv 0) qD) (qA qD qE))))) (qA qI qE))) qE)))
      (qG (qU (i := 2) sc__law_far.nd rfl (Or.inl rfl) (qS jC (pv 2) (ql (qA (qK (qA (qK (qA qI (qA qD (qA (qS qc (pv 0) qD) (qA qD qE))))) (qA qI qE))) (qA (qK (qA (qK (qA qI (qA qD (qA (qS qc (pv 0) qD) (qA qD qE))))) (qA qI qE))) qE)))))
      (qG (qU (i := 2) sc__law_far.nd rfl (Or.inl rfl) (qS jC (pv 2) (ql (qA (qK (qA (qK (qA qI (qA qD (qA (qS qc (pv 0) qD) (qA (qS qc qD (pv 1)) qE))))) (qA qI qE))) (qA (qK (qA (qK (qA qI (qA qD (qA (qS qc (pv 0) qD) (qA qD qE))))) (qA qI qE))) qE)))))
      (qG (qU (i := 2) sc__law_far.nd rfl (Or.inl rfl) (qS jC (pv 2) (ql (qA (qK (qA (qK (qA qI (qA qD (qA (qS qc (pv 0) qD) (qA qD qE))))) (qA qI qE))) (qA (qK (qA (qK (qA qI (qA qD (qA (qS qc (pv 0) qD) (qA qD qE))))) (qA qI qE))) qE)))))
      (qG (qU (i := 2) sc__law_far.nd rfl (Or.inl rfl) (qS jC (pv 2) (ql (qA (qK (qA (qK (qA qI (qA qD (qA (qS qc (pv 0) qD) (qA qD qE))))) (qA qI qE))) (qA (qK (qA (qK (qA qI (qA qD (qA (qS qc (pv 0) qD) (qA (vd zk qD) qE))))) (qA qI qE))) qE)))))
      (qG (qU (i := 2) sc__law_far.nd rfl (Or.inl rfl) (qS jC (pv 2) (ql (qA (qK (qA (qK (qA qI (qA qD (qA (qS qc (pv 0) qD) (qA (qS qc (pv 0) qD) qE))))) (qA qI qE))) (qA (qK (qA (qK (qA qI (qA qD (qA (qS qc (pv 0) qD) (qA (qS qc (pv 0) qD) qE))))) (qA qI qE))) qE)))))
      (qG (qU (i := 2) sc__law_far.nd rfl (Or.inl rfl) (qS jC (pv 2) (ql (qA (qK (qA (qK (qA qI (qA qD (qA (qS qc (pv 0) qD) (qA (qS qc (qS qc (pv 0) qD) (pv 1)) qE))))) (qA qI qE))) (qA (qK (qA (qK (qA qI (qA qD (qA (qS qc (pv 0) qD) (qA (qS qc (pv 0) qD) qE))))) (qA qI qE))) qE)))))
      (qG (qU (i := 2) sc__law_far.nd rfl (Or.inl rfl) (qS jC (pv 2) (ql (qA (qK (qA (qK (qA qI (qA qD (qA (qS qc (pv 0) qD) (qA (qS qc (pv 0) qD) qE))))) (qA qI qE))) (qA (qK (qA (qK (qA qI (qA qD (qA (qS qc (pv 0) qD) (qA (qS qc (pv 0) qD) qE))))) (qA qI qE))) qE)))))
      (qG (qU (i := 2) sc__law_far.nd rfl (Or.inl rfl) (qS jC (pv 2) (ql (qA (qK (qA (qK (qA qI (qA qD (qA (qS qc (pv 0) qD) (qA qD qE))))) (qA qI qE))) (qA (qK (qA (qK (qA qI (qA qD (qA (qS qc (pv 0) qD) (qA qD qE))))) (qA qI qE))) qE)))))
      (qG (qU (i := 2) sc__law_far.nd rfl (Or.inl rfl) (qS jC (pv 2) (ql (qA (qK (qA (qK (qA qI (qA qD (qA (qS qc (pv 0) qD) (qA qD qE))))) (qA qI qE))) (qA (qK (qA (qK (qA qI (qA qD (qA (qS qc (pv 0) qD) (qA qD qE))))) (qA qI qE))) qE)))))
      (qH (qP (pv 2))))))))))))))))), ?_⟩
  try dsimp only [jT, qi]
  refine ⟨_, rfl, _, _, rfl, rfl, zq, fun d1 hd1 => ⟨two, fun p2 hp2 => ⟨_, rfl, zq, fun d3 hd3 => ⟨two, fun p4 hp4 => ⟨_, rfl, _, _, rfl, rfl, zq, fun d5 hd5 => ⟨two, fun p6 hp6 => ⟨zq, fun l61 hl61 => ?_⟩⟩⟩⟩⟩⟩⟩
  have n1 := qC hd1 (.tup [.str "cut", .int 0, .int (f + 2)])
  have n2 := qC hp2 (.tup [.ref d1, .str "good"])
  have n3 := qC hd3 (.tup [.str "cut", .int 0, .int f])
  have n4 := qC hp4 (.tup [.ref d3, .str "noplace"])
  have n5 := qC hd5 (.tup [.str "cut", .int 0, .int (f + 8)])
  have n6 := qC hp6 (.tup [.ref d5, .str "noplace"])
  have n7 := qC hl61 (.lst [.ref p2, .ref p4, .ref p6])
  have q6 := n7
  have q5 := n6.trans q6
  have q4 := n5.trans q5
  have q3 := n4.trans q4
  have q2 := n3.trans q3
  have q1 := n2.trans q2
  have i_d1 := q1 _ _ qB
  have i_p2 := q2 _ _ qB
  have i_d3 := q3 _ _ qB
  have i_p4 := q4 _ _ qB
  have i_d5 := q5 _ _ qB
  have i_p6 := q6 _ _ qB
  have i_l61 := qB (H := (upd (upd (upd (upd (upd (upd H d1 (.tup [.str "cut", .int 0, .int (f + 2)])) p2 (.tup [.ref d1, .str "good"])) d3 (.tup [.str "cut", .int 0, .int f])) p4 (.tup [.ref d3, .str "noplace"])) d5 (.tup [.str "cut", .int 0, .int (f + 8)])) p6 (.tup [.ref d5, .str "noplace"]))) (a := l61) (o := .lst [.ref p2, .ref p4, .ref p6])
  have s_HH := n1.trans q1
  have l_l61 : H l61 = none := ((((((n1.trans n2).trans n3).trans n4).trans n5).trans n6)).free hl61
  clear n1 n2 n3 n4 n5 n6 n7 q1 q2 q3 q4 q5 q6
  generalize (upd (upd (upd (upd (upd (upd (upd H d1 _) p2 _) d3 _) p4 _) d5 _) p6 _) l61 _) = K62 at i_d1 i_p2 i_d3 i_p4 i_d5 i_p6 i_l61 s_HH ⊢
  clear hd1 hp2 hd3 hp4 hd5 hp6 hl61
  have e0 := (Same.refl H).trans s_HH
  have eBH := (LS.same (Same.refl H)).trans (.same s_HH)
  have hpr : Prs K K62 f [.ref p2, .ref p4, .ref p6] := .cons ⟨p2, d1, 2, rfl, i_p2, by decide, qFg hf hF (by decide) (by decide) i_d1 (.inr ⟨by decide +kernel, (by rw [show qo qg 2 2 = false by decide +kernel]; rfl)⟩)⟩ (.cons ⟨p4, d3, 0, rfl, i_p4, by decide, qFg (k := 0) hf hF (by decide) (by decide) (by rw [i_d3, Int.add_zero]) (.inl ⟨by decide +kernel, rfl⟩)⟩ (.cons ⟨p6, d5, 0, rfl, i_p6, by decide, qFg (k := 8) hf hF (by decide) (by decide) i_d5 (.inl ⟨by decide +kernel, rfl⟩)⟩ (.nil)))
  have hls := i_l61
  have ls0 : H l61 = none := l_l61
  have hlen : ([.ref p2, .ref p4, .ref p6] : List V).length ≤ 3 := Nat.le_refl _
  clear s_HH l_l61 i_d1 i_p2 i_d3 i_p4 i_d5 i_p6 i_l61
  generalize ([.ref p2, .ref p4, .ref p6] : List V) = vs63 at hpr hls hlen ⊢
  have eB := eBH
  clear eBH
  refine ⟨_, rfl, _, rfl, _, _, rfl, rfl, zq, fun d7 hd7 => ⟨two, fun p8 hp8 => ⟨_, rfl, _, _, rfl, rfl, zq, fun d9 hd9 => ⟨two, fun p10 hp10 => ⟨_, rfl, _, _, rfl, rfl, zq, fun d11 hd11 => ⟨two, fun p12 hp12 => ⟨zq, fun l64 hl64 => ?_⟩⟩⟩⟩⟩⟩⟩
  have n1 := qC hd7 (.tup [.str "cut", .int 0, .int (f + 9)])
  have n2 := qC hp8 (.tup [.ref d7, .str "mixed"])
  have n3 := qC hd9 (.tup [.str "cut", .int 0, .int (f + 18)])
  have n4 := qC hp10 (.tup [.ref d9, .str "noplace"])
  have n5 := qC hd11 (.tup [.str "cut", .int 0, .int (f + 99)])
  have n6 := qC hp12 (.tup [.ref d11, .str "noplace"])
  have n7 := qC hl64 (.lst [.ref p8, .ref p10, .ref p12])
  have q6 := n7
  have q5 := n6.trans q6
  have q4 := n5.trans q5
  have q3 := n4.trans q4
  have q2 := n3.trans q3
  have q1 := n2.trans q2
  have i_d7 := q1 _ _ qB
  have i_p8 := q2 _ _ qB
  have i_d9 := q3 _ _ qB
  have i_p10 := q4 _ _ qB
  have i_d11 := q5 _ _ qB
  have i_p12 := q6 _ _ qB
  have i_l64 := qB (H := (upd (upd (upd (upd (upd (upd K62 d7 (.tup [.str "cut", .int 0, .int (f + 9)])) p8 (.tup [.ref d7, .str "mixed"])) d9 (.tup [.str "cut", .int 0, .int (f + 18)])) p10 (.tup [.ref d9, .str "noplace"])) d11 (.tup [.str "cut", .int 0, .int (f + 99)])) p12 (.tup [.ref d11, .str "noplace"]))) (a := l64) (o := .lst [.ref p8, .ref p10, .ref p12])
  have s_HH := n1.trans q1
  have l_l64 : K62 l64 = none := ((((((n1.trans n2).trans n3).trans n4).trans n5).trans n6)).free hl64
  clear n1 n2 n3 n4 n5 n6 n7 q1 q2 q3 q4 q5 q6
  generalize (upd (upd (upd (upd (upd (upd (upd K62 d7 _) p8 _) d9 _) p10 _) d11 _) p12 _) l64 _) = HH65 at i_d7 i_p8 i_d9 i_p10 i_d11 i_p12 i_l64 s_HH ⊢
  clear hd7 hp8 hd9 hp10 hd11 hp12 hl64
  have eBH := eB.trans (.same s_HH)
  have pr2 : Prs K HH65 f [.ref p8, .ref p10, .ref p12] := .cons ⟨p8, d7, 1, rfl, i_p8, by decide, qFg hf hF (by decide) (by decide) i_d7 (.inr ⟨by decide +kernel, (by rw [show qo qg 9 9 = true by decide +kernel]; rfl)⟩)⟩ (.cons ⟨p10, d9, 0, rfl, i_p10, by decide, qFg (k := 18) hf hF (by decide) (by decide) i_d9 (.inl ⟨by decide +kernel, rfl⟩)⟩ (.cons ⟨p12, d11, 0, rfl, i_p12, by decide, qFg (k := 99) hf hF (by decide) (by decide) i_d11 (.inl ⟨by decide +kernel, rfl⟩)⟩ (.nil)))
  refine ⟨l61, l64, _, _, rfl, rfl, s_HH _ _ hls, i_l64, Nat.le_of_lt (qW (by show vs63.length + 3 ≤ 1000; omega)), fun lc67 hlc => ?_⟩
  have w1 := qC hlc (.lst (vs63 ++ [.ref p8, .ref p10, .ref p12]))
  have e2 := (e0.trans s_HH).trans w1
  have eB2 := eBH.trans (.same w1)
  have PR := ((hpr.same s_HH).app pr2).same w1
  have ls1 : H lc67 = none := (e0.trans s_HH).free hlc
  have hls2 : (upd HH65 lc67 (.lst (vs63 ++ [.ref p8, .ref p10, .ref p12]))) lc67 = some (.lst (vs63 ++ [.ref p8, .ref p10, .ref p12])) := qB
  have hlen2 : (vs63 ++ [V.ref p8, V.ref p10, V.ref p12]).length ≤ 6 := by rw [List.length_append]; show vs63.length + 3 ≤ 6; omega
  clear hpr hls e0 pr2 hlen ls0 hlc l_l64 s_HH w1 eB eBH i_d7 i_p8 i_d9 i_p10 i_d11 i_p12 i_l64
  generalize upd HH65 lc67 (.lst (vs63 ++ [.ref p8, .ref p10, .ref p12])) = K66 at PR e2 hls2 eB2 ⊢
  generalize vs63 ++ [V.ref p8, V.ref p10, V.ref p12] = vs68 at PR hls2 hlen2 ⊢
  have hpr := PR; have e0 := e2; have hls := hls2; have ls0 := ls1; have hlen := hlen2; have eB := eB2
  clear PR e2 hls2 ls1 hlen2 eB2
  refine ⟨_, rfl, _, rfl, _, _, rfl, rfl, zq, fun d13 hd13 => ⟨two, fun p14 hp14 => ⟨_, rfl, _, _, rfl, rfl, zq, fun d15 hd15 => ⟨two, fun p16 hp16 => ⟨zq, fun d17 hd17 => ⟨two, fun p18 hp18 => ⟨zq, fun l69 hl69 => ?_⟩⟩⟩⟩⟩⟩⟩
  have n1 := qC hd13 (.tup [.str "heal", .int 0, .int (f + 8)])
  have n2 := qC hp14 (.tup [.ref d13, .str "noplace"])
  have n3 := qC hd15 (.tup [.str "heal", .int 0, .int (f + 3)])
  have n4 := qC hp16 (.tup [.ref d15, .str "noplace"])
  have n5 := qC hd17 (.tup [.str "heal", .int 0, .int 0])
  have n6 := qC hp18 (.tup [.ref d17, .str "noplace"])
  have n7 := qC hl69 (.lst [.ref p14, .ref p16, .ref p18])
  have q6 := n7
  have q5 := n6.trans q6
  have q4 := n5.trans q5
  have q3 := n4.trans q4
  have q2 := n3.trans q3
  have q1 := n2.trans q2
  have i_d13 := q1 _ _ qB
  have i_p14 := q2 _ _ qB
  have i_d15 := q3 _ _ qB
  have i_p16 := q4 _ _ qB
  have i_d17 := q5 _ _ qB
  have i_p18 := q6 _ _ qB
  have i_l69 := qB (H := (upd (upd (upd (upd (upd (upd K66 d13 (.tup [.str "heal", .int 0, .int (f + 8)])) p14 (.tup [.ref d13, .str "noplace"])) d15 (.tup [.str "heal", .int 0, .int (f + 3)])) p16 (.tup [.ref d15, .str "noplace"])) d17 (.tup [.str "heal", .int 0, .int 0])) p18 (.tup [.ref d17, .str "noplace"]))) (a := l69) (o := .lst [.ref p14, .ref p16, .ref p18])
  have s_HH := n1.trans q1
  have l_l69 : K66 l69 = none := ((((((n1.trans n2).trans n3).trans n4).trans n5).trans n6)).free hl69
  clear n1 n2 n3 n4 n5 n6 n7 q1 q2 q3 q4 q5 q6
  generalize (upd (upd (upd (upd (upd (upd (upd K66 d13 _) p14 _) d15 _) p16 _) d17 _) p18 _) l69 _) = HH70 at i_d13 i_p14 i_d15 i_p16 i_d17 i_p18 i_l69 s_HH ⊢
  clear hd13 hp14 hd15 hp16 hd17 hp18 hl69
  have eBH := eB.trans (.same s_HH)
  have pr3 : Prs K HH70 f [.ref p14, .ref p16, .ref p18] := .cons ⟨p14, d13, 0, rfl, i_p14, by decide, qH8 (by omega) i_d13 (qNx hf)⟩ (.cons ⟨p16, d15, 0, rfl, i_p16, by decide, qH8 (by omega) i_d15 (qN3 hf)⟩ (.cons ⟨p18, d17, 0, rfl, i_p18, by decide, qH8 (by omega) i_d17 (qM5 hf)⟩ (.nil)))
  refine ⟨lc67, l69, _, _, rfl, rfl, s_HH _ _ hls, i_l69, Nat.le_of_lt (qW (by show vs68.length + 3 ≤ 1000; omega)), fun lc72 hlc => ?_⟩
  have w1 := qC hlc (.lst (vs68 ++ [.ref p14, .ref p16, .ref p18]))
  have e2 := (e0.trans s_HH).trans w1
  have eB2 := eBH.trans (.same w1)
  have PR := ((hpr.same s_HH).app pr3).same w1
  have ls1 : H lc72 = none := (e0.trans s_HH).free hlc
  have hls2 : (upd HH70 lc72 (.lst (vs68 ++ [.ref p14, .ref p16, .ref p18]))) lc72 = some (.lst (vs68 ++ [.ref p14, .ref p16, .ref p18])) := qB
  have hlen2 : (vs68 ++ [V.ref p14, V.ref p16, V.ref p18]).length ≤ 9 := by rw [List.length_append]; show vs68.length + 3 ≤ 9; omega
  clear hpr hls e0 pr3 hlen ls0 hlc l_l69 s_HH w1 eB eBH i_d13 i_p14 i_d15 i_p16 i_d17 i_p18 i_l69
  generalize upd HH70 lc72 (.lst (vs68 ++ [.ref p14, .ref p16, .ref p18])) = K71 at PR e2 hls2 eB2 ⊢
  generalize vs68 ++ [V.ref p14, V.ref p16, V.ref p18] = vs73 at PR hls2 hlen2 ⊢
  have hpr := PR; have e0 := e2; have hls := hls2; have ls0 := ls1; have hlen := hlen2; have eB := eB2
  clear PR e2 hls2 ls1 hlen2 eB2
  refine ⟨_, rfl, _, rfl, _, _, rfl, rfl, zq, fun d19 hd19 => ⟨two, fun p20 hp20 => ⟨_, rfl, _, _, rfl, rfl, zq, fun d21 hd21 => ⟨two, fun p22 hp22 => ⟨two, fun l74 hl74 => ?_⟩⟩⟩⟩⟩
  have n1 := qC hd19 (.tup [.str "unmix", .int 0, .int (f + 8)])
  have n2 := qC hp20 (.tup [.ref d19, .str "good"])
  have n3 := qC hd21 (.tup [.str "unmix", .int 0, .int (f + 9)])
  have n4 := qC hp22 (.tup [.ref d21, .str "noplace"])
  have n5 := qC hl74 (.lst [.ref p20, .ref p22])
  have q4 := n5
  have q3 := n4.trans q4
  have q2 := n3.trans q3
  have q1 := n2.trans q2
  have i_d19 := q1 _ _ qB
  have i_p20 := q2 _ _ qB
  have i_d21 := q3 _ _ qB
  have i_p22 := q4 _ _ qB
  have i_l74 := qB (H := (upd (upd (upd (upd K71 d19 (.tup [.str "unmix", .int 0, .int (f + 8)])) p20 (.tup [.ref d19, .str "good"])) d21 (.tup [.str "unmix", .int 0, .int (f + 9)])) p22 (.tup [.ref d21, .str "noplace"]))) (a := l74) (o := .lst [.ref p20, .ref p22])
  have s_HH := n1.trans q1
  have l_l74 : K71 l74 = none := ((((n1.trans n2).trans n3).trans n4)).free hl74
  clear n1 n2 n3 n4 n5 q1 q2 q3 q4
  generalize (upd (upd (upd (upd (upd K71 d19 _) p20 _) d21 _) p22 _) l74 _) = HH75 at i_d19 i_p20 i_d21 i_p22 i_l74 s_HH ⊢
  clear hd19 hp20 hd21 hp22 hl74
  have eBH := eB.trans (.same s_HH)
  have pr4 : Prs K HH75 f [.ref p20, .ref p22] := .cons ⟨p20, d19, 2, rfl, i_p20, by decide, qMq hf i_d19⟩ (.cons ⟨p22, d21, 0, rfl, i_p22, by decide, qL1 hf i_d21⟩ (.nil))
  refine ⟨lc72, l74, _, _, rfl, rfl, s_HH _ _ hls, i_l74, Nat.le_of_lt (qW (by show vs73.length + 2 ≤ 1000; omega)), fun lc77 hlc => ?_⟩
  have w1 := qC hlc (.lst (vs73 ++ [.ref p20, .ref p22]))
  have e2 := (e0.trans s_HH).trans w1
  have eB2 := eBH.trans (.same w1)
  have PR := ((hpr.same s_HH).app pr4).same w1
  have ls1 : H lc77 = none := (e0.trans s_HH).free hlc
  have hls2 : (upd HH75 lc77 (.lst (vs73 ++ [.ref p20, .ref p22]))) lc77 = some (.lst (vs73 ++ [.ref p20, .ref p22])) := qB
  have hlen2 : (vs73 ++ [V.ref p20, V.ref p22]).length ≤ 11 := by rw [List.length_append]; show vs73.length + 2 ≤ 11; omega
  clear hpr hls e0 pr4 hlen ls0 hlc l_l74 s_HH w1 eB eBH i_d19 i_p20 i_d21 i_p22 i_l74
  generalize upd HH75 lc77 (.lst (vs73 ++ [.ref p20, .ref p22])) = K76 at PR e2 hls2 eB2 ⊢
  generalize vs73 ++ [V.ref p20, V.ref p22] = vs78 at PR hls2 hlen2 ⊢
  have hpr := PR; have e0 := e2; have hls := hls2; have ls0 := ls1; have hlen := hlen2; have eB := eB2
  clear PR e2 hls2 ls1 hlen2 eB2
  refine ⟨_, rfl, .inl ⟨rfl, _, SqL.of hls⟩, _, rfl, _, _, rfl, rfl, zG, fun d23 hd23 => ⟨two, fun p24 hp24 => ?_⟩⟩
  have n1 := qC hd23 (.tup [.str "mix", .int 0, .int (f + 8), .int 2])
  have n2 := qC hp24 (.tup [.ref d23, .str "noplace"])
  have q1 := n2
  have i_d23 := q1 _ _ qB
  have i_p24 := qB (H := (upd K76 d23 (.tup [.str "mix", .int 0, .int (f + 8), .int 2]))) (a := p24) (o := .tup [.ref d23, .str "noplace"])
  have s_HH := n1.trans q1
  have l_p24 : K76 p24 = none := (n1).free hp24
  clear n1 n2 q1
  generalize (upd (upd K76 d23 _) p24 _) = HH79 at i_d23 i_p24 s_HH ⊢
  clear hd23 hp24
  have e1 := e0.trans s_HH
  have eBH := eB.trans (.same s_HH)
  have pr5 : PairC K HH79 f (.ref p24) := ⟨p24, d23, 0, rfl, i_p24, by decide, qL6 hf (by decide) i_d23⟩
  have hls1 := s_HH _ _ hls
  refine ⟨lc77, _, _, rfl, rfl, hls1, qW (by omega), ?_⟩
  have lput : LS HH79 (upd HH79 lc77 (.lst (vs78 ++ [.ref p24]))) := .put hls1
  have PR := ((hpr.same s_HH).app (.cons pr5 .nil)).lss lput
  have e2 := jR (o := .lst (vs78 ++ [.ref p24])) e1 ls0
  have eB2 := eBH.trans lput
  have hls2 : (upd HH79 lc77 (.lst (vs78 ++ [.ref p24]))) lc77 = some (.lst (vs78 ++ [.ref p24])) := qB
  have hlen2 : (vs78 ++ [V.ref p24]).length ≤ 12 := by rw [List.length_append]; show vs78.length + 1 ≤ 12; omega
  clear hpr hls hls1 e0 e1 pr5 s_HH hlen lput eB eBH l_p24 i_d23 i_p24
  generalize upd HH79 lc77 (.lst (vs78 ++ [.ref p24])) = K80 at PR e2 hls2 eB2 ⊢
  generalize vs78 ++ [V.ref p24] = vs81 at PR hls2 hlen2 ⊢
  have hpr := PR; have e0 := e2; have hls := hls2; have hlen := hlen2; have eB := eB2
  clear PR e2 hls2 hlen2 eB2
  refine ⟨_, rfl, _, rfl, _, _, rfl, rfl, zG, fun d25 hd25 => ⟨two, fun p26 hp26 => ⟨_, rfl, _, _, rfl, rfl, zG, fun d27 hd27 => ⟨two, fun p28 hp28 => ⟨two, fun l82 hl82 => ?_⟩⟩⟩⟩⟩
  have n1 := qC hd25 (.tup [.str "mix", .int 0, .int (f + 21), .int 1])
  have n2 := qC hp26 (.tup [.ref d25, .str "noplace"])
  have n3 := qC hd27 (.tup [.str "mix", .int 0, .int (f + 8), .int 0])
  have n4 := qC hp28 (.tup [.ref d27, .str "noplace"])
  have n5 := qC hl82 (.lst [.ref p26, .ref p28])
  have q4 := n5
  have q3 := n4.trans q4
  have q2 := n3.trans q3
  have q1 := n2.trans q2
  have i_d25 := q1 _ _ qB
  have i_p26 := q2 _ _ qB
  have i_d27 := q3 _ _ qB
  have i_p28 := q4 _ _ qB
  have i_l82 := qB (H := (upd (upd (upd (upd K80 d25 (.tup [.str "mix", .int 0, .int (f + 21), .int 1])) p26 (.tup [.ref d25, .str "noplace"])) d27 (.tup [.str "mix", .int 0, .int (f + 8), .int 0])) p28 (.tup [.ref d27, .str "noplace"]))) (a := l82) (o := .lst [.ref p26, .ref p28])
  have s_HH := n1.trans q1
  have l_l82 : K80 l82 = none := ((((n1.trans n2).trans n3).trans n4)).free hl82
  clear n1 n2 n3 n4 n5 q1 q2 q3 q4
  generalize (upd (upd (upd (upd (upd K80 d25 _) p26 _) d27 _) p28 _) l82 _) = HH83 at i_d25 i_p26 i_d27 i_p28 i_l82 s_HH ⊢
  clear hd25 hp26 hd27 hp28 hl82
  have eBH := eB.trans (.same s_HH)
  have pr6 : Prs K HH83 f [.ref p26, .ref p28] := .cons ⟨p26, d25, 0, rfl, i_p26, by decide, qKa hf (by decide) i_d25⟩ (.cons ⟨p28, d27, 0, rfl, i_p28, by decide, qL8 hf (by decide) i_d27⟩ (.nil))
  refine ⟨lc77, l82, _, _, rfl, rfl, s_HH _ _ hls, i_l82, Nat.le_of_lt (qW (by show vs81.length + 2 ≤ 1000; omega)), fun lc85 hlc => ?_⟩
  have w1 := qC hlc (.lst (vs81 ++ [.ref p26, .ref p28]))
  have e2 := (e0.trans s_HH).trans w1
  have eB2 := eBH.trans (.same w1)
  have PR := ((hpr.same s_HH).app pr6).same w1
  have ls1 : H lc85 = none := (e0.trans s_HH).free hlc
  have hls2 : (upd HH83 lc85 (.lst (vs81 ++ [.ref p26, .ref p28]))) lc85 = some (.lst (vs81 ++ [.ref p26, .ref p28])) := qB
  have hlen2 : (vs81 ++ [V.ref p26, V.ref p28]).length ≤ 14 := by rw [List.length_append]; show vs81.length + 2 ≤ 14; omega
  clear hpr hls e0 pr6 hlen ls0 hlc l_l82 s_HH w1 eB eBH i_d25 i_p26 i_d27 i_p28 i_l82
  generalize upd HH83 lc85 (.lst (vs81 ++ [.ref p26, .ref p28])) = K84 at PR e2 hls2 eB2 ⊢
  generalize vs81 ++ [V.ref p26, V.ref p28] = vs86 at PR hls2 hlen2 ⊢
  have hpr := PR; have e0 := e2; have hls := hls2; have ls0 := ls1; have hlen := hlen2; have eB := eB2
  clear PR e2 hls2 ls1 hlen2 eB2
  refine ⟨_, rfl, _, rfl, _, _, rfl, rfl, _, rfl, _, _, rfl, rfl, zG, fun d29 hd29 => ⟨two, fun p30 hp30 => ⟨_, rfl, _, _, rfl, rfl, zG, fun d31 hd31 => ⟨two, fun p32 hp32 => ⟨two, fun l87 hl87 => ?_⟩⟩⟩⟩⟩
  have n1 := qC hd29 (.tup [.str "open", .int 0, .int (f + 8), .int (1 + c)])
  have n2 := qC hp30 (.tup [.ref d29, .str "mixed"])
  have n3 := qC hd31 (.tup [.str "open", .int 0, .int (f + 10), .int 2])
  have n4 := qC hp32 (.tup [.ref d31, .str "good"])
  have n5 := qC hl87 (.lst [.ref p30, .ref p32])
  have q4 := n5
  have q3 := n4.trans q4
  have q2 := n3.trans q3
  have q1 := n2.trans q2
  have i_d29 := q1 _ _ qB
  have i_p30 := q2 _ _ qB
  have i_d31 := q3 _ _ qB
  have i_p32 := q4 _ _ qB
  have i_l87 := qB (H := (upd (upd (upd (upd K84 d29 (.tup [.str "open", .int 0, .int (f + 8), .int (1 + c)])) p30 (.tup [.ref d29, .str "mixed"])) d31 (.tup [.str "open", .int 0, .int (f + 10), .int 2])) p32 (.tup [.ref d31, .str "good"]))) (a := l87) (o := .lst [.ref p30, .ref p32])
  have s_HH := n1.trans q1
  have l_l87 : K84 l87 = none := ((((n1.trans n2).trans n3).trans n4)).free hl87
  clear n1 n2 n3 n4 n5 q1 q2 q3 q4
  generalize (upd (upd (upd (upd (upd K84 d29 _) p30 _) d31 _) p32 _) l87 _) = HH88 at i_d29 i_p30 i_d31 i_p32 i_l87 s_HH ⊢
  clear hd29 hp30 hd31 hp32 hl87
  have eBH := eB.trans (.same s_HH)
  have pr7 : Prs K HH88 f [.ref p30, .ref p32] := .cons ⟨p30, d29, 1, rfl, i_p30, by decide, qAm hf hF (by decide) (by decide) i_d29 (.inr ⟨by omega, (by rw [show qo qg 8 8 = true by decide +kernel]; rfl)⟩)⟩ (.cons ⟨p32, d31, 2, rfl, i_p32, by decide, qAm hf hF (by decide) (by decide) i_d31 (.inr ⟨by omega, (by rw [show qo qg 10 10 = false by decide +kernel]; rfl)⟩)⟩ (.nil))
  refine ⟨lc85, l87, _, _, rfl, rfl, s_HH _ _ hls, i_l87, Nat.le_of_lt (qW (by show vs86.length + 2 ≤ 1000; omega)), fun lc90 hlc => ?_⟩
  have w1 := qC hlc (.lst (vs86 ++ [.ref p30, .ref p32]))
  have e2 := (e0.trans s_HH).trans w1
  have eB2 := eBH.trans (.same w1)
  have PR := ((hpr.same s_HH).app pr7).same w1
  have ls1 : H lc90 = none := (e0.trans s_HH).free hlc
  have hls2 : (upd HH88 lc90 (.lst (vs86 ++ [.ref p30, .ref p32]))) lc90 = some (.lst (vs86 ++ [.ref p30, .ref p32])) := qB
  have hlen2 : (vs86 ++ [V.ref p30, V.ref p32]).length ≤ 16 := by rw [List.length_append]; show vs86.length + 2 ≤ 16; omega
  clear hpr hls e0 pr7 hlen ls0 hlc l_l87 s_HH w1 eB eBH i_d29 i_p30 i_d31 i_p32 i_l87
  generalize upd HH88 lc90 (.lst (vs86 ++ [.ref p30, .ref p32])) = K89 at PR e2 hls2 eB2 ⊢
  generalize vs86 ++ [V.ref p30, V.ref p32] = vs91 at PR hls2 hlen2 ⊢
  have hpr := PR; have e0 := e2; have hls := hls2; have ls0 := ls1; have hlen := hlen2; have eB := eB2
  clear PR e2 hls2 ls1 hlen2 eB2
  refine ⟨_, rfl, _, rfl, _, _, rfl, rfl, zG, fun d33 hd33 => ⟨two, fun p34 hp34 => ⟨_, rfl, _, _, rfl, rfl, zG, fun d35 hd35 => ⟨two, fun p36 hp36 => ⟨two, fun l92 hl92 => ?_⟩⟩⟩⟩⟩
  have n1 := qC hd33 (.tup [.str "open", .int 0, .int (f + 7), .int 2])
  have n2 := qC hp34 (.tup [.ref d33, .str "good"])
  have n3 := qC hd35 (.tup [.str "open", .int 0, .int (f + 9), .int 2])
  have n4 := qC hp36 (.tup [.ref d35, .str "mixed"])
  have n5 := qC hl92 (.lst [.ref p34, .ref p36])
  have q4 := n5
  have q3 := n4.trans q4
  have q2 := n3.trans q3
  have q1 := n2.trans q2
  have i_d33 := q1 _ _ qB
  have i_p34 := q2 _ _ qB
  have i_d35 := q3 _ _ qB
  have i_p36 := q4 _ _ qB
  have i_l92 := qB (H := (upd (upd (upd (upd K89 d33 (.tup [.str "open", .int 0, .int (f + 7), .int 2])) p34 (.tup [.ref d33, .str "good"])) d35 (.tup [.str "open", .int 0, .int (f + 9), .int 2])) p36 (.tup [.ref d35, .str "mixed"]))) (a := l92) (o := .lst [.ref p34, .ref p36])
  have s_HH := n1.trans q1
  have l_l92 : K89 l92 = none := ((((n1.trans n2).trans n3).trans n4)).free hl92
  clear n1 n2 n3 n4 n5 q1 q2 q3 q4
  generalize (upd (upd (upd (upd (upd K89 d33 _) p34 _) d35 _) p36 _) l92 _) = HH93 at i_d33 i_p34 i_d35 i_p36 i_l92 s_HH ⊢
  clear hd33 hp34 hd35 hp36 hl92
  have eBH := eB.trans (.same s_HH)
  have pr8 : Prs K HH93 f [.ref p34, .ref p36] := .cons ⟨p34, d33, 2, rfl, i_p34, by decide, qAm hf hF (by decide) (by decide) i_d33 (.inr ⟨by omega, (by rw [show qo qg 7 7 = false by decide +kernel]; rfl)⟩)⟩ (.cons ⟨p36, d35, 1, rfl, i_p36, by decide, qAm hf hF (by decide) (by decide) i_d35 (.inr ⟨by omega, (by rw [show qo qg 9 9 = true by decide +kernel]; rfl)⟩)⟩ (.nil))
  refine ⟨lc90, l92, _, _, rfl, rfl, s_HH _ _ hls, i_l92, Nat.le_of_lt (qW (by show vs91.length + 2 ≤ 1000; omega)), fun lc95 hlc => ?_⟩
  have w1 := qC hlc (.lst (vs91 ++ [.ref p34, .ref p36]))
  have e2 := (e0.trans s_HH).trans w1
  have eB2 := eBH.trans (.same w1)
  have PR := ((hpr.same s_HH).app pr8).same w1
  have ls1 : H lc95 = none := (e0.trans s_HH).free hlc
  have hls2 : (upd HH93 lc95 (.lst (vs91 ++ [.ref p34, .ref p36]))) lc95 = some (.lst (vs91 ++ [.ref p34, .ref p36])) := qB
  have hlen2 : (vs91 ++ [V.ref p34, V.ref p36]).length ≤ 18 := by rw [List.length_append]; show vs91.length + 2 ≤ 18; omega
  clear hpr hls e0 pr8 hlen ls0 hlc l_l92 s_HH w1 eB eBH i_d33 i_p34 i_d35 i_p36 i_l92
  generalize upd HH93 lc95 (.lst (vs91 ++ [.ref p34, .ref p36])) = K94 at PR e2 hls2 eB2 ⊢
  generalize vs91 ++ [V.ref p34, V.ref p36] = vs96 at PR hls2 hlen2 ⊢
  have hpr := PR; have e0 := e2; have hls := hls2; have ls0 := ls1; have hlen := hlen2; have eB := eB2
  clear PR e2 hls2 ls1 hlen2 eB2
  refine ⟨_, rfl, _, rfl, _, _, rfl, rfl, zG, fun d37 hd37 => ⟨two, fun p38 hp38 => ⟨_, rfl, _, _, rfl, rfl, _, rfl, zG, fun d39 hd39 => ⟨two, fun p40 hp40 => ⟨two, fun l97 hl97 => ?_⟩⟩⟩⟩⟩
  have n1 := qC hd37 (.tup [.str "open", .int 0, .int (f + 2), .int 0])
  have n2 := qC hp38 (.tup [.ref d37, .str "noplace"])
  have n3 := qC hd39 (.tup [.str "open", .int 0, .int (f + 2), .int (-3)])
  have n4 := qC hp40 (.tup [.ref d39, .str "noplace"])
  have n5 := qC hl97 (.lst [.ref p38, .ref p40])
  have q4 := n5
  have q3 := n4.trans q4
  have q2 := n3.trans q3
  have q1 := n2.trans q2
  have i_d37 := q1 _ _ qB
  have i_p38 := q2 _ _ qB
  have i_d39 := q3 _ _ qB
  have i_p40 := q4 _ _ qB
  have i_l97 := qB (H := (upd (upd (upd (upd K94 d37 (.tup [.str "open", .int 0, .int (f + 2), .int 0])) p38 (.tup [.ref d37, .str "noplace"])) d39 (.tup [.str "open", .int 0, .int (f + 2), .int (-3)])) p40 (.tup [.ref d39, .str "noplace"]))) (a := l97) (o := .lst [.ref p38, .ref p40])
  have s_HH := n1.trans q1
  have l_l97 : K94 l97 = none := ((((n1.trans n2).trans n3).trans n4)).free hl97
  clear n1 n2 n3 n4 n5 q1 q2 q3 q4
  generalize (upd (upd (upd (upd (upd K94 d37 _) p38 _) d39 _) p40 _) l97 _) = HH98 at i_d37 i_p38 i_d39 i_p40 i_l97 s_HH ⊢
  clear hd37 hp38 hd39 hp40 hl97
  have eBH := eB.trans (.same s_HH)
  have pr9 : Prs K HH98 f [.ref p38, .ref p40] := .cons ⟨p38, d37, 0, rfl, i_p38, by decide, qAm hf hF (by decide) (by decide) i_d37 (.inl ⟨by decide, rfl⟩)⟩ (.cons ⟨p40, d39, 0, rfl, i_p40, by decide, qAm hf hF (by decide) (by decide) i_d39 (.inl ⟨by decide, rfl⟩)⟩ (.nil))
  refine ⟨lc95, l97, _, _, rfl, rfl, s_HH _ _ hls, i_l97, Nat.le_of_lt (qW (by show vs96.length + 2 ≤ 1000; omega)), fun lc100 hlc => ?_⟩
  have w1 := qC hlc (.lst (vs96 ++ [.ref p38, .ref p40]))
  have e2 := (e0.trans s_HH).trans w1
  have eB2 := eBH.trans (.same w1)
  have PR := ((hpr.same s_HH).app pr9).same w1
  have ls1 : H lc100 = none := (e0.trans s_HH).free hlc
  have hls2 : (upd HH98 lc100 (.lst (vs96 ++ [.ref p38, .ref p40]))) lc100 = some (.lst (vs96 ++ [.ref p38, .ref p40])) := qB
  have hlen2 : (vs96 ++ [V.ref p38, V.ref p40]).length ≤ 20 := by rw [List.length_append]; show vs96.length + 2 ≤ 20; omega
  clear hpr hls e0 pr9 hlen ls0 hlc l_l97 s_HH w1 eB eBH i_d37 i_p38 i_d39 i_p40 i_l97
  generalize upd HH98 lc100 (.lst (vs96 ++ [.ref p38, .ref p40])) = K99 at PR e2 hls2 eB2 ⊢
  generalize vs96 ++ [V.ref p38, V.ref p40] = vs101 at PR hls2 hlen2 ⊢
  have hpr := PR; have e0 := e2; have hls := hls2; have ls0 := ls1; have hlen := hlen2; have eB := eB2
  clear PR e2 hls2 ls1 hlen2 eB2
  refine ⟨_, rfl, _, rfl, _, _, rfl, rfl, _, rfl, _, _, rfl, rfl, zG, fun d41 hd41 => ⟨two, fun p42 hp42 => ⟨_, rfl, _, _, rfl, rfl, _, rfl, _, _, rfl, rfl, zG, fun d43 hd43 => ⟨two, fun p44 hp44 => ⟨two, fun l102 hl102 => ?_⟩⟩⟩⟩⟩
  have n1 := qC hd41 (.tup [.str "close", .int 0, .int (f + 1), .int (f + 7)])
  have n2 := qC hp42 (.tup [.ref d41, .str "good"])
  have n3 := qC hd43 (.tup [.str "close", .int 0, .int (f + 1), .int (f + 8)])
  have n4 := qC hp44 (.tup [.ref d43, .str "mixed"])
  have n5 := qC hl102 (.lst [.ref p42, .ref p44])
  have q4 := n5
  have q3 := n4.trans q4
  have q2 := n3.trans q3
  have q1 := n2.trans q2
  have i_d41 := q1 _ _ qB
  have i_p42 := q2 _ _ qB
  have i_d43 := q3 _ _ qB
  have i_p44 := q4 _ _ qB
  have i_l102 := qB (H := (upd (upd (upd (upd K99 d41 (.tup [.str "close", .int 0, .int (f + 1), .int (f + 7)])) p42 (.tup [.ref d41, .str "good"])) d43 (.tup [.str "close", .int 0, .int (f + 1), .int (f + 8)])) p44 (.tup [.ref d43, .str "mixed"]))) (a := l102) (o := .lst [.ref p42, .ref p44])
  have s_HH := n1.trans q1
  have l_l102 : K99 l102 = none := ((((n1.trans n2).trans n3).trans n4)).free hl102
  clear n1 n2 n3 n4 n5 q1 q2 q3 q4
  generalize (upd (upd (upd (upd (upd K99 d41 _) p42 _) d43 _) p44 _) l102 _) = HH103 at i_d41 i_p42 i_d43 i_p44 i_l102 s_HH ⊢
  clear hd41 hp42 hd43 hp44 hl102
  have eBH := eB.trans (.same s_HH)
  have pr10 : Prs K HH103 f [.ref p42, .ref p44] := .cons ⟨p42, d41, 2, rfl, i_p42, by decide, qMt (.inl rfl) hf hF (by decide) (by decide) (by decide) i_d41 (by rw [show qo qg 1 7 = false by decide +kernel]; rfl)⟩ (.cons ⟨p44, d43, 1, rfl, i_p44, by decide, qMt (.inl rfl) hf hF (by decide) (by decide) (by decide) i_d43 (by rw [show qo qg 1 8 = true by decide +kernel]; rfl)⟩ (.nil))
  refine ⟨lc100, l102, _, _, rfl, rfl, s_HH _ _ hls, i_l102, Nat.le_of_lt (qW (by show vs101.length + 2 ≤ 1000; omega)), fun lc105 hlc => ?_⟩
  have w1 := qC hlc (.lst (vs101 ++ [.ref p42, .ref p44]))
  have e2 := (e0.trans s_HH).trans w1
  have eB2 := eBH.trans (.same w1)
  have PR := ((hpr.same s_HH).app pr10).same w1
  have ls1 : H lc105 = none := (e0.trans s_HH).free hlc
  have hls2 : (upd HH103 lc105 (.lst (vs101 ++ [.ref p42, .ref p44]))) lc105 = some (.lst (vs101 ++ [.ref p42, .ref p44])) := qB
  have hlen2 : (vs101 ++ [V.ref p42, V.ref p44]).length ≤ 22 := by rw [List.length_append]; show vs101.length + 2 ≤ 22; omega
  clear hpr hls e0 pr10 hlen ls0 hlc l_l102 s_HH w1 eB eBH i_d41 i_p42 i_d43 i_p44 i_l102
  generalize upd HH103 lc105 (.lst (vs101 ++ [.ref p42, .ref p44])) = K104 at PR e2 hls2 eB2 ⊢
  generalize vs101 ++ [V.ref p42, V.ref p44] = vs106 at PR hls2 hlen2 ⊢
  have hpr := PR; have e0 := e2; have hls := hls2; have ls0 := ls1; have hlen := hlen2; have eB := eB2
  clear PR e2 hls2 ls1 hlen2 eB2
  refine ⟨_, rfl, _, rfl, _, _, rfl, rfl, _, rfl, _, _, rfl, rfl, _, rfl, _, _, rfl, rfl, zG, fun d45 hd45 => ⟨two, fun p46 hp46 => ⟨_, rfl, _, _, rfl, rfl, _, rfl, _, _, rfl, rfl, zG, fun d47 hd47 => ⟨two, fun p48 hp48 => ⟨two, fun l107 hl107 => ?_⟩⟩⟩⟩⟩
  have n1 := qC hd45 (.tup [.str "lift", .int 0, .int (f + 10), .int (f + 12 + c)])
  have n2 := qC hp46 (.tup [.ref d45, .str "good"])
  have n3 := qC hd47 (.tup [.str "lift", .int 0, .int (f + 9), .int (f + 12)])
  have n4 := qC hp48 (.tup [.ref d47, .str "mixed"])
  have n5 := qC hl107 (.lst [.ref p46, .ref p48])
  have q4 := n5
  have q3 := n4.trans q4
  have q2 := n3.trans q3
  have q1 := n2.trans q2
  have i_d45 := q1 _ _ qB
  have i_p46 := q2 _ _ qB
  have i_d47 := q3 _ _ qB
  have i_p48 := q4 _ _ qB
  have i_l107 := qB (H := (upd (upd (upd (upd K104 d45 (.tup [.str "lift", .int 0, .int (f + 10), .int (f + 12 + c)])) p46 (.tup [.ref d45, .str "good"])) d47 (.tup [.str "lift", .int 0, .int (f + 9), .int (f + 12)])) p48 (.tup [.ref d47, .str "mixed"]))) (a := l107) (o := .lst [.ref p46, .ref p48])
  have s_HH := n1.trans q1
  have l_l107 : K104 l107 = none := ((((n1.trans n2).trans n3).trans n4)).free hl107
  clear n1 n2 n3 n4 n5 q1 q2 q3 q4
  generalize (upd (upd (upd (upd (upd K104 d45 _) p46 _) d47 _) p48 _) l107 _) = HH108 at i_d45 i_p46 i_d47 i_p48 i_l107 s_HH ⊢
  clear hd45 hp46 hd47 hp48 hl107
  have eBH := eB.trans (.same s_HH)
  have pr11 : Prs K HH108 f [.ref p46, .ref p48] := .cons ⟨p46, d45, 2, rfl, i_p46, by decide, qMt (.inr rfl) (u := 12 + c) hf hF (by decide) (by omega) (by omega) (by rw [i_d45]; show some (HO.tup [V.str "lift", .int 0, .int (f + 10), .int (f + 12 + c)]) = _; rw [Int.add_assoc]) (tc c0)⟩ (.cons ⟨p48, d47, 1, rfl, i_p48, by decide, qMt (.inr rfl) hf hF (by decide) (by decide) (by decide) i_d47 (by rw [show qo qg 9 12 = true by decide +kernel]; rfl)⟩ (.nil))
  refine ⟨lc105, l107, _, _, rfl, rfl, s_HH _ _ hls, i_l107, Nat.le_of_lt (qW (by show vs106.length + 2 ≤ 1000; omega)), fun lc110 hlc => ?_⟩
  have w1 := qC hlc (.lst (vs106 ++ [.ref p46, .ref p48]))
  have e2 := (e0.trans s_HH).trans w1
  have eB2 := eBH.trans (.same w1)
  have PR := ((hpr.same s_HH).app pr11).same w1
  have ls1 : H lc110 = none := (e0.trans s_HH).free hlc
  have hls2 : (upd HH108 lc110 (.lst (vs106 ++ [.ref p46, .ref p48]))) lc110 = some (.lst (vs106 ++ [.ref p46, .ref p48])) := qB
  have hlen2 : (vs106 ++ [V.ref p46, V.ref p48]).length ≤ 24 := by rw [List.length_append]; show vs106.length + 2 ≤ 24; omega
  clear hpr hls e0 pr11 hlen ls0 hlc l_l107 s_HH w1 eB eBH i_d45 i_p46 i_d47 i_p48 i_l107
  generalize upd HH108 lc110 (.lst (vs106 ++ [.ref p46, .ref p48])) = K109 at PR e2 hls2 eB2 ⊢
  generalize vs106 ++ [V.ref p46, V.ref p48] = vs111 at PR hls2 hlen2 ⊢
  have hpr := PR; have e0 := e2; have hls := hls2; have ls0 := ls1; have hlen := hlen2; have eB := eB2
  clear PR e2 hls2 ls1 hlen2 eB2
  refine ⟨_, rfl, _, rfl, _, _, rfl, rfl, _, rfl, _, _, rfl, rfl, zG, fun d49 hd49 => ⟨two, fun p50 hp50 => ⟨_, rfl, _, _, rfl, rfl, _, rfl, _, _, rfl, rfl, zG, fun d51 hd51 => ⟨two, fun p52 hp52 => ⟨two, fun l112 hl112 => ?_⟩⟩⟩⟩⟩
  have n1 := qC hd49 (.tup [.str "close", .int 0, .int (f + 5), .int (f + 5)])
  have n2 := qC hp50 (.tup [.ref d49, .str "noplace"])
  have n3 := qC hd51 (.tup [.str "lift", .int 0, .int (f + 8), .int (f + 7)])
  have n4 := qC hp52 (.tup [.ref d51, .str "noplace"])
  have n5 := qC hl112 (.lst [.ref p50, .ref p52])
  have q4 := n5
  have q3 := n4.trans q4
  have q2 := n3.trans q3
  have q1 := n2.trans q2
  have i_d49 := q1 _ _ qB
  have i_p50 := q2 _ _ qB
  have i_d51 := q3 _ _ qB
  have i_p52 := q4 _ _ qB
  have i_l112 := qB (H := (upd (upd (upd (upd K109 d49 (.tup [.str "close", .int 0, .int (f + 5), .int (f + 5)])) p50 (.tup [.ref d49, .str "noplace"])) d51 (.tup [.str "lift", .int 0, .int (f + 8), .int (f + 7)])) p52 (.tup [.ref d51, .str "noplace"]))) (a := l112) (o := .lst [.ref p50, .ref p52])
  have s_HH := n1.trans q1
  have l_l112 : K109 l112 = none := ((((n1.trans n2).trans n3).trans n4)).free hl112
  clear n1 n2 n3 n4 n5 q1 q2 q3 q4
  generalize (upd (upd (upd (upd (upd K109 d49 _) p50 _) d51 _) p52 _) l112 _) = HH113 at i_d49 i_p50 i_d51 i_p52 i_l112 s_HH ⊢
  clear hd49 hp50 hd51 hp52 hl112
  have eBH := eB.trans (.same s_HH)
  have pr12 : Prs K HH113 f [.ref p50, .ref p52] := .cons ⟨p50, d49, 0, rfl, i_p50, by decide, qKy (.inl rfl) hf (by decide) i_d49 (.int _) (fun u e => (by cases e; omega))⟩ (.cons ⟨p52, d51, 0, rfl, i_p52, by decide, qKy (.inr rfl) hf (by decide) i_d51 (.int _) (fun u e => (by cases e; omega))⟩ (.nil))
  refine ⟨lc110, l112, _, _, rfl, rfl, s_HH _ _ hls, i_l112, Nat.le_of_lt (qW (by show vs111.length + 2 ≤ 1000; omega)), fun lc115 hlc => ?_⟩
  have w1 := qC hlc (.lst (vs111 ++ [.ref p50, .ref p52]))
  have e2 := (e0.trans s_HH).trans w1
  have eB2 := eBH.trans (.same w1)
  have PR := ((hpr.same s_HH).app pr12).same w1
  have ls1 : H lc115 = none := (e0.trans s_HH).free hlc
  have hls2 : (upd HH113 lc115 (.lst (vs111 ++ [.ref p50, .ref p52]))) lc115 = some (.lst (vs111 ++ [.ref p50, .ref p52])) := qB
  have hlen2 : (vs111 ++ [V.ref p50, V.ref p52]).length ≤ 26 := by rw [List.length_append]; show vs111.length + 2 ≤ 26; omega
  clear hpr hls e0 pr12 hlen ls0 hlc l_l112 s_HH w1 eB eBH i_d49 i_p50 i_d51 i_p52 i_l112
  generalize upd HH113 lc115 (.lst (vs111 ++ [.ref p50, .ref p52])) = K114 at PR e2 hls2 eB2 ⊢
  generalize vs111 ++ [V.ref p50, V.ref p52] = vs116 at PR hls2 hlen2 ⊢
  have hpr := PR; have e0 := e2; have hls := hls2; have ls0 := ls1; have hlen := hlen2; have eB := eB2
  clear PR e2 hls2 ls1 hlen2 eB2
  refine ⟨_, rfl, _, rfl, _, _, rfl, rfl, zG, fun d53 hd53 => ⟨two, fun p54 hp54 => ⟨_, rfl, _, _, rfl, rfl, zG, fun d55 hd55 => ⟨two, fun p56 hp56 => ⟨two, fun l117 hl117 => ?_⟩⟩⟩⟩⟩
  have n1 := qC hd53 (.tup [.str "roll", .int 0, .int (f + 8), .int 1])
  have n2 := qC hp54 (.tup [.ref d53, .str "mixed"])
  have n3 := qC hd55 (.tup [.str "slip", .int 0, .int (f + 2), .int 1])
  have n4 := qC hp56 (.tup [.ref d55, .str "mixed"])
  have n5 := qC hl117 (.lst [.ref p54, .ref p56])
  have q4 := n5
  have q3 := n4.trans q4
  have q2 := n3.trans q3
  have q1 := n2.trans q2
  have i_d53 := q1 _ _ qB
  have i_p54 := q2 _ _ qB
  have i_d55 := q3 _ _ qB
  have i_p56 := q4 _ _ qB
  have i_l117 := qB (H := (upd (upd (upd (upd K114 d53 (.tup [.str "roll", .int 0, .int (f + 8), .int 1])) p54 (.tup [.ref d53, .str "mixed"])) d55 (.tup [.str "slip", .int 0, .int (f + 2), .int 1])) p56 (.tup [.ref d55, .str "mixed"]))) (a := l117) (o := .lst [.ref p54, .ref p56])
  have s_HH := n1.trans q1
  have l_l117 : K114 l117 = none := ((((n1.trans n2).trans n3).trans n4)).free hl117
  clear n1 n2 n3 n4 n5 q1 q2 q3 q4
  generalize (upd (upd (upd (upd (upd K114 d53 _) p54 _) d55 _) p56 _) l117 _) = HH118 at i_d53 i_p54 i_d55 i_p56 i_l117 s_HH ⊢
  clear hd53 hp54 hd55 hp56 hl117
  have eBH := eB.trans (.same s_HH)
  have pr13 : Prs K HH118 f [.ref p54, .ref p56] := .cons ⟨p54, d53, 1, rfl, i_p54, by decide, vR (.inl rfl) i_d53 (.int _) (.inr (.inl ⟨qKn hf (by decide), rfl⟩))⟩ (.cons ⟨p56, d55, 1, rfl, i_p56, by decide, vR (.inr (.inl rfl)) i_d55 (.int _) (.inr (.inl ⟨qKc hf (by decide), rfl⟩))⟩ (.nil))
  refine ⟨lc115, l117, _, _, rfl, rfl, s_HH _ _ hls, i_l117, Nat.le_of_lt (qW (by show vs116.length + 2 ≤ 1000; omega)), fun lc120 hlc => ?_⟩
  have w1 := qC hlc (.lst (vs116 ++ [.ref p54, .ref p56]))
  have e2 := (e0.trans s_HH).trans w1
  have eB2 := eBH.trans (.same w1)
  have PR := ((hpr.same s_HH).app pr13).same w1
  have ls1 : H lc120 = none := (e0.trans s_HH).free hlc
  have hls2 : (upd HH118 lc120 (.lst (vs116 ++ [.ref p54, .ref p56]))) lc120 = some (.lst (vs116 ++ [.ref p54, .ref p56])) := qB
  have hlen2 : (vs116 ++ [V.ref p54, V.ref p56]).length ≤ 28 := by rw [List.length_append]; show vs116.length + 2 ≤ 28; omega
  clear hpr hls e0 pr13 hlen ls0 hlc l_l117 s_HH w1 eB eBH i_d53 i_p54 i_d55 i_p56 i_l117
  generalize upd HH118 lc120 (.lst (vs116 ++ [.ref p54, .ref p56])) = K119 at PR e2 hls2 eB2 ⊢
  generalize vs116 ++ [V.ref p54, V.ref p56] = vs121 at PR hls2 hlen2 ⊢
  have hpr := PR; have e0 := e2; have hls := hls2; have ls0 := ls1; have hlen := hlen2; have eB := eB2
  clear PR e2 hls2 ls1 hlen2 eB2
  refine ⟨_, rfl, _, rfl, _, _, rfl, rfl, zG, fun d57 hd57 => ⟨two, fun p58 hp58 => ⟨_, rfl, _, _, rfl, rfl, zG, fun d59 hd59 => ⟨two, fun p60 hp60 => ⟨two, fun l122 hl122 => ?_⟩⟩⟩⟩⟩
  have n1 := qC hd57 (.tup [.str "slide", .int 0, .int (f + 22), .int 1])
  have n2 := qC hp58 (.tup [.ref d57, .str "noplace"])
  have n3 := qC hd59 (.tup [.str "roll", .int 0, .int (f + 17), .int 1])
  have n4 := qC hp60 (.tup [.ref d59, .str "noplace"])
  have n5 := qC hl122 (.lst [.ref p58, .ref p60])
  have q4 := n5
  have q3 := n4.trans q4
  have q2 := n3.trans q3
  have q1 := n2.trans q2
  have i_d57 := q1 _ _ qB
  have i_p58 := q2 _ _ qB
  have i_d59 := q3 _ _ qB
  have i_p60 := q4 _ _ qB
  have i_l122 := qB (H := (upd (upd (upd (upd K119 d57 (.tup [.str "slide", .int 0, .int (f + 22), .int 1])) p58 (.tup [.ref d57, .str "noplace"])) d59 (.tup [.str "roll", .int 0, .int (f + 17), .int 1])) p60 (.tup [.ref d59, .str "noplace"]))) (a := l122) (o := .lst [.ref p58, .ref p60])
  have s_HH := n1.trans q1
  have l_l122 : K119 l122 = none := ((((n1.trans n2).trans n3).trans n4)).free hl122
  clear n1 n2 n3 n4 n5 q1 q2 q3 q4
  generalize (upd (upd (upd (upd (upd K119 d57 _) p58 _) d59 _) p60 _) l122 _) = HH123 at i_d57 i_p58 i_d59 i_p60 i_l122 s_HH ⊢
  clear hd57 hp58 hd59 hp60 hl122
  have eBH := eB.trans (.same s_HH)
  have pr14 : Prs K HH123 f [.ref p58, .ref p60] := .cons ⟨p58, d57, 0, rfl, i_p58, by decide, vR (.inr (.inr rfl)) i_d57 (.int _) (.inl ⟨qG5 hf (by decide), rfl⟩)⟩ (.cons ⟨p60, d59, 0, rfl, i_p60, by decide, vR (.inl rfl) i_d59 (.int _) (.inl ⟨qIg hf (by decide), rfl⟩)⟩ (.nil))
  refine ⟨lc120, l122, _, _, rfl, rfl, s_HH _ _ hls, i_l122, Nat.le_of_lt (qW (by show vs121.length + 2 ≤ 1000; omega)), fun lc125 hlc => ?_⟩
  have w1 := qC hlc (.lst (vs121 ++ [.ref p58, .ref p60]))
  have e2 := (e0.trans s_HH).trans w1
  have eB2 := eBH.trans (.same w1)
  have PR := ((hpr.same s_HH).app pr14).same w1
  have ls1 : H lc125 = none := (e0.trans s_HH).free hlc
  have hls2 : (upd HH123 lc125 (.lst (vs121 ++ [.ref p58, .ref p60]))) lc125 = some (.lst (vs121 ++ [.ref p58, .ref p60])) := qB
  have hlen2 : (vs121 ++ [V.ref p58, V.ref p60]).length ≤ 30 := by rw [List.length_append]; show vs121.length + 2 ≤ 30; omega
  clear hpr hls e0 pr14 hlen ls0 hlc l_l122 s_HH w1 eB eBH i_d57 i_p58 i_d59 i_p60 i_l122
  generalize upd HH123 lc125 (.lst (vs121 ++ [.ref p58, .ref p60])) = K124 at PR e2 hls2 eB2 ⊢
  generalize vs121 ++ [V.ref p58, V.ref p60] = vs126 at PR hls2 hlen2 ⊢
  have hpr := PR; have e0 := e2; have hls := hls2; have ls0 := ls1; have hlen := hlen2; have eB := eB2
  clear PR e2 hls2 ls1 hlen2 eB2
  exact ⟨_, rfl, kk _ _ _ e0 hls hpr (by omega)⟩
theorem qGj {o : Option Int} (h : qN6 o) : vA 1 (some 0) o = false := by
  unfold vA
  cases o with
  | none => rfl
  | some u =>
    dsimp only
    rw [decide_eq_false (show ¬ 0 ≤ u by have := h u rfl; omega), Bool.and_false]
def qAw (K : W.Frag) : Sp := fun vs H Q _ => ∃ f c : Int, vs = [.int f, .int c] ∧ 0 ≤ f ∧ f ≤ 1000000000000 ∧ ∀ (l : Addr) (us : List V) (H' : Hp), Same H H' → H' l = some (.lst us) → Prs K H' f us → us.length ≤ 40 → Q (.ref l) H'
theorem qAv (T : Tx K mg a) : FnOk P w K mg base CX0 2 a.a__law_items a.f__law_items ["_law_far_here", "_law_cell"] (qAw K) := by
  refine T.d__law_items.F.ok sc__law_items (fun vs H Q E h => ?_) (fun cdv A outer s H vs Q E hr h => ?_)
  · obtain ⟨f, c, rfl, _⟩ := h
    rfl
  obtain ⟨f, c, rfl, hf, hF, kk⟩ := h
  refine ⟨_, (qG (qU (i := 2) sc__law_items.nd rfl (Or.inl rfl) (qK (qA qI (qA qI (qA (qK (qA qD (qA qD qE))) (qA (qK (qA qD (qA qD qE))) (qA qD qE)))))))
      (qG (qU (i := 3) sc__law_items.nd rfl (Or.inl rfl) (qM T.d__law_bad_item (ve T) hr rfl (qA (pv 1) qE)))
      (qG (qU (i := 4) sc__law_items.nd rfl (Or.inl rfl) (ql (qA (qK (qA (qK (qA qI (qA qD (qA (qS qc (pv 0) qD) (qA (pv 2) qE))))) (qA qI qE))) (qA (qK (qA (qK (qA qI (qA qD (qA (qS qc (pv 0) qD) (qA (pv 3) qE))))) (qA qI qE))) qE))))
      (qG (qU (i := 4) sc__law_items.nd rfl (Or.inl rfl) (qS jC (pv 4) (ql (qA (qK (qA (qK (qA qI (qA qD (qA (qS qc (pv 0) qD) (qA (pv 3) qE))))) (qA qI qE))) (qA (qK (qA (qK (qA qI (qA qD (qA (qS qc (pv 0) qD) (qA (pv 2) qE))))) (qA qI qE))) qE)))))
      (qG (qU (i := 4) sc__law_items.nd rfl (Or.inl rfl) (qS jC (pv 4) (ql (qA (qK (qA (qK (qA qI (qA qD (qA (qS qc (pv 0) qD) (qA (pv 2) qE))))) (qA qI qE))) (qA (qK (qA (qK (qA qI (qA qD (qA (qS qc (pv 0) qD) (qA (pv 2) qE))))) (qA qI qE))) qE)))))
      (qG (qU (i := 4) sc__law_items.nd rfl (Or.inl rfl) (qS jC (pv 4) (ql (qA (qK (qA (qK (qA qI (qA qD (qA (qS qc (pv 0) qD) (qA (pv 3) qE))))) (qA qI qE))) (qA (qK (qA (qK (qA qI (qA qD (qA (qS qc (pv 0) qD) (qA (pv 2) qE))))) (qA qI qE))) qE)))))
      (qG (qU (i := 4) sc__law_items.nd rfl (Or.inl rfl) (qS jC (pv 4) (ql (qA (qK (qA (qK (qA qI (qA qD (qA (qS qc (pv 0) qD) (qA (pv 3) qE))))) (qA qI qE))) (qA (qK (qA (qK (qA qI (qA (vd zk qD) (qA (qS qc (pv 0) qD) (qA (pv 3) qE))))) (qA qI qE))) qE)))))
      (qG (jN (qDd F.plainAttrs_list F.slot_list_append F.type_list_append xV (pv 4) (qA (qK (qA (qK (qA qI (qA qD (qA (qM T.d__law_bad_moment (j8 T) hr rfl (qA (pv 1) qE)) (qA (pv 3) qE))))) (qA qI qE))) qE)))
      (qG (jN (qDd F.plainAttrs_list F.slot_list_append F.type_list_append xV (pv 4) (qA (qK (qA (qK (qA qI (qA qD (qA (qM T.d__law_bad_moment (j8 T) hr rfl (qA (pv 1) qE)) qE)))) (qA qI qE))) qE)))
      (qG (qU (i := 4) sc__law_items.nd rfl (Or.inl rfl) (qS jC (pv 4) (ql (qA (qK (qA (qK (qA qI (qA qD (qA (qS qc (pv 0) qD) (qA (qM T.d__law_bad_moment (j8 T) hr rfl (qA (pv 1) qE)) qE))))) (qA qI qE))) (qA (qK (qA (qK (qA qI (qA qD (qA (qS qc (pv 0) qD) (qA qD qE))))) (qA qI qE))) qE)))))
      (qG (qU (i := 4) sc__law_items.nd rfl (Or.inl rfl) (qS jC (pv 4) (ql (qA (qK (qA (qK (qA qI (qA qD (qA (qS qc (pv 0) qD) (qA qD qE))))) (qA qI qE))) (qA (qK (qA (qK (qA qI (qA qD (qA (qS qc (pv 0) qD) (qA (vd zk qD) qE))))) (qA qI qE))) qE)))))
      (qG (qU (i := 4) sc__law_items.nd rfl (Or.inl rfl) (qS jC (pv 4) (ql (qA (qK (qA (qK (qA qI (qA qD (qA (qS qc (pv 0) qD) (qA kC qE))))) (qA qI qE))) (qA (qK (qA (qK (qA qI (qA qD (qA (qS qc (pv 0) qD) qE)))) (qA qI qE))) qE)))))
      (qH (qP (pv 4))))))))))))))), ?_⟩
  try dsimp only [jT, qi]
  refine ⟨two, fun u1 hu1 => ⟨two, fun u2 hu2 => ⟨qCs, fun cl hcl => ?_⟩⟩⟩
  have n1 := qC hu1 (.tup [.int 3, .int 2])
  have n2 := qC hu2 (.tup [.int 1, .int 3])
  have n3 := qC hcl (.tup [.str "clip", .str "a", .ref u1, .ref u2, .int 2])
  have q2 := n3
  have q1 := n2.trans q2
  have i_u1 := q1 _ _ qB
  have i_u2 := q2 _ _ qB
  have i_cl := qB (H := (upd (upd H u1 (.tup [.int 3, .int 2])) u2 (.tup [.int 1, .int 3]))) (a := cl) (o := .tup [.str "clip", .str "a", .ref u1, .ref u2, .int 2])
  have s_H1 := n1.trans q1
  have l_cl : H cl = none := ((n1.trans n2)).free hcl
  clear n1 n2 n3 q1 q2
  generalize (upd (upd (upd H u1 _) u2 _) cl _) = H1 at i_u1 i_u2 i_cl s_H1 ⊢
  clear hu1 hu2 hcl
  have hcl : IsI H1 qF2 (.ref cl) := ⟨cl, u1, u2, rfl, i_cl, i_u1, i_u2⟩
  clear l_cl
  refine ⟨_, rfl, c, rfl, fun bd HB sb hbd => ?_⟩
  have hcl := hcl.ts (qk sb)
  have eA := s_H1.trans sb
  clear i_cl i_u1 i_u2 s_H1 sb
  refine ⟨_, rfl, _, _, rfl, rfl, _, rfl, zG, fun d127 hd127 => ⟨two, fun p128 hp128 => ⟨_, rfl, _, _, rfl, rfl, _, rfl, zG, fun d129 hd129 => ⟨two, fun p130 hp130 => ⟨two, fun l147 hl147 => ?_⟩⟩⟩⟩⟩
  have n1 := qC hd127 (.tup [.str "lay_in", .int 0, .int (f + 3), .ref cl])
  have n2 := qC hp128 (.tup [.ref d127, .str "good"])
  have n3 := qC hd129 (.tup [.str "lay_in", .int 0, .int (f + 3), bd])
  have n4 := qC hp130 (.tup [.ref d129, .str "noclip"])
  have n5 := qC hl147 (.lst [.ref p128, .ref p130])
  have q4 := n5
  have q3 := n4.trans q4
  have q2 := n3.trans q3
  have q1 := n2.trans q2
  have i_d127 := q1 _ _ qB
  have i_p128 := q2 _ _ qB
  have i_d129 := q3 _ _ qB
  have i_p130 := q4 _ _ qB
  have i_l147 := qB (H := (upd (upd (upd (upd HB d127 (.tup [.str "lay_in", .int 0, .int (f + 3), .ref cl])) p128 (.tup [.ref d127, .str "good"])) d129 (.tup [.str "lay_in", .int 0, .int (f + 3), bd])) p130 (.tup [.ref d129, .str "noclip"]))) (a := l147) (o := .lst [.ref p128, .ref p130])
  have s_HH := n1.trans q1
  have l_l147 : HB l147 = none := ((((n1.trans n2).trans n3).trans n4)).free hl147
  clear n1 n2 n3 n4 n5 q1 q2 q3 q4
  generalize (upd (upd (upd (upd (upd HB d127 _) p128 _) d129 _) p130 _) l147 _) = K148 at i_d127 i_p128 i_d129 i_p130 i_l147 s_HH ⊢
  clear hd127 hp128 hd129 hp130 hl147
  have e0 := (eA).trans s_HH
  have eBH := (LS.same (Same.refl HB)).trans (.same s_HH)
  have hpr : Prs K K148 f [.ref p128, .ref p130] := .cons ⟨p128, d127, 2, rfl, i_p128, by decide, qMd hf hF (by decide) (by decide) i_d127 (hcl.ts eBH.ts) (by rw [show qo qg 3 3 = false by decide +kernel]; rfl)⟩ (.cons ⟨p130, d129, 3, rfl, i_p130, by decide, qLf (.inl rfl) hf (by decide) i_d129 (hbd.lss eBH)⟩ (.nil))
  have hls := i_l147
  have ls0 : H l147 = none := eA.free l_l147
  have hlen : ([.ref p128, .ref p130] : List V).length ≤ 2 := Nat.le_refl _
  clear s_HH l_l147 i_d127 i_p128 i_d129 i_p130 i_l147
  generalize ([.ref p128, .ref p130] : List V) = vs149 at hpr hls hlen ⊢
  have eB := eBH
  clear eBH
  refine ⟨_, rfl, _, rfl, _, _, rfl, rfl, _, rfl, zG, fun d131 hd131 => ⟨two, fun p132 hp132 => ⟨_, rfl, _, _, rfl, rfl, _, rfl, zG, fun d133 hd133 => ⟨two, fun p134 hp134 => ⟨two, fun l150 hl150 => ?_⟩⟩⟩⟩⟩
  have n1 := qC hd131 (.tup [.str "lay_in", .int 0, .int (f + 8), bd])
  have n2 := qC hp132 (.tup [.ref d131, .str "noclip"])
  have n3 := qC hd133 (.tup [.str "lay_in", .int 0, .int (f + 8), .ref cl])
  have n4 := qC hp134 (.tup [.ref d133, .str "mixed"])
  have n5 := qC hl150 (.lst [.ref p132, .ref p134])
  have q4 := n5
  have q3 := n4.trans q4
  have q2 := n3.trans q3
  have q1 := n2.trans q2
  have i_d131 := q1 _ _ qB
  have i_p132 := q2 _ _ qB
  have i_d133 := q3 _ _ qB
  have i_p134 := q4 _ _ qB
  have i_l150 := qB (H := (upd (upd (upd (upd K148 d131 (.tup [.str "lay_in", .int 0, .int (f + 8), bd])) p132 (.tup [.ref d131, .str "noclip"])) d133 (.tup [.str "lay_in", .int 0, .int (f + 8), .ref cl])) p134 (.tup [.ref d133, .str "mixed"]))) (a := l150) (o := .lst [.ref p132, .ref p134])
  have s_HH := n1.trans q1
  have l_l150 : K148 l150 = none := ((((n1.trans n2).trans n3).trans n4)).free hl150
  clear n1 n2 n3 n4 n5 q1 q2 q3 q4
  generalize (upd (upd (upd (upd (upd K148 d131 _) p132 _) d133 _) p134 _) l150 _) = HH151 at i_d131 i_p132 i_d133 i_p134 i_l150 s_HH ⊢
  clear hd131 hp132 hd133 hp134 hl150
  have eBH := eB.trans (.same s_HH)
  have pr2 : Prs K HH151 f [.ref p132, .ref p134] := .cons ⟨p132, d131, 3, rfl, i_p132, by decide, qLf (.inl rfl) hf (by decide) i_d131 (hbd.lss eBH)⟩ (.cons ⟨p134, d133, 1, rfl, i_p134, by decide, qMd hf hF (by decide) (by decide) i_d133 (hcl.ts eBH.ts) (by rw [show qo qg 8 8 = true by decide +kernel]; rfl)⟩ (.nil))
  refine ⟨l147, l150, _, _, rfl, rfl, s_HH _ _ hls, i_l150, Nat.le_of_lt (qW (by show vs149.length + 2 ≤ 1000; omega)), fun lc153 hlc => ?_⟩
  have w1 := qC hlc (.lst (vs149 ++ [.ref p132, .ref p134]))
  have e2 := (e0.trans s_HH).trans w1
  have eB2 := eBH.trans (.same w1)
  have PR := ((hpr.same s_HH).app pr2).same w1
  have ls1 : H lc153 = none := (e0.trans s_HH).free hlc
  have hls2 : (upd HH151 lc153 (.lst (vs149 ++ [.ref p132, .ref p134]))) lc153 = some (.lst (vs149 ++ [.ref p132, .ref p134])) := qB
  have hlen2 : (vs149 ++ [V.ref p132, V.ref p134]).length ≤ 4 := by rw [List.length_append]; show vs149.length + 2 ≤ 4; omega
  clear hpr hls e0 pr2 hlen ls0 hlc l_l150 s_HH w1 eB eBH i_d131 i_p132 i_d133 i_p134 i_l150
  generalize upd HH151 lc153 (.lst (vs149 ++ [.ref p132, .ref p134])) = K152 at PR e2 hls2 eB2 ⊢
  generalize vs149 ++ [V.ref p132, V.ref p134] = vs154 at PR hls2 hlen2 ⊢
  have hpr := PR; have e0 := e2; have hls := hls2; have ls0 := ls1; have hlen := hlen2; have eB := eB2
  clear PR e2 hls2 ls1 hlen2 eB2
  refine ⟨_, rfl, _, rfl, _, _, rfl, rfl, _, rfl, zG, fun d135 hd135 => ⟨two, fun p136 hp136 => ⟨_, rfl, _, _, rfl, rfl, _, rfl, zG, fun d137 hd137 => ⟨two, fun p138 hp138 => ⟨two, fun l155 hl155 => ?_⟩⟩⟩⟩⟩
  have n1 := qC hd135 (.tup [.str "lay_over", .int 0, .int (f + 5), .ref cl])
  have n2 := qC hp136 (.tup [.ref d135, .str "good"])
  have n3 := qC hd137 (.tup [.str "lay_over", .int 0, .int (f + 6), .ref cl])
  have n4 := qC hp138 (.tup [.ref d137, .str "mixed"])
  have n5 := qC hl155 (.lst [.ref p136, .ref p138])
  have q4 := n5
  have q3 := n4.trans q4
  have q2 := n3.trans q3
  have q1 := n2.trans q2
  have i_d135 := q1 _ _ qB
  have i_p136 := q2 _ _ qB
  have i_d137 := q3 _ _ qB
  have i_p138 := q4 _ _ qB
  have i_l155 := qB (H := (upd (upd (upd (upd K152 d135 (.tup [.str "lay_over", .int 0, .int (f + 5), .ref cl])) p136 (.tup [.ref d135, .str "good"])) d137 (.tup [.str "lay_over", .int 0, .int (f + 6), .ref cl])) p138 (.tup [.ref d137, .str "mixed"]))) (a := l155) (o := .lst [.ref p136, .ref p138])
  have s_HH := n1.trans q1
  have l_l155 : K152 l155 = none := ((((n1.trans n2).trans n3).trans n4)).free hl155
  clear n1 n2 n3 n4 n5 q1 q2 q3 q4
  generalize (upd (upd (upd (upd (upd K152 d135 _) p136 _) d137 _) p138 _) l155 _) = HH156 at i_d135 i_p136 i_d137 i_p138 i_l155 s_HH ⊢
  clear hd135 hp136 hd137 hp138 hl155
  have eBH := eB.trans (.same s_HH)
  have pr3 : Prs K HH156 f [.ref p136, .ref p138] := .cons ⟨p136, d135, 2, rfl, i_p136, by decide, qKb hf hF (by decide) (by decide) i_d135 (hcl.ts eBH.ts) (by rw [show qo qg 5 (5 + 2) = false by decide +kernel]; rfl)⟩ (.cons ⟨p138, d137, 1, rfl, i_p138, by decide, qKb hf hF (by decide) (by decide) i_d137 (hcl.ts eBH.ts) (by rw [show qo qg 6 (6 + 2) = true by decide +kernel]; rfl)⟩ (.nil))
  refine ⟨lc153, l155, _, _, rfl, rfl, s_HH _ _ hls, i_l155, Nat.le_of_lt (qW (by show vs154.length + 2 ≤ 1000; omega)), fun lc158 hlc => ?_⟩
  have w1 := qC hlc (.lst (vs154 ++ [.ref p136, .ref p138]))
  have e2 := (e0.trans s_HH).trans w1
  have eB2 := eBH.trans (.same w1)
  have PR := ((hpr.same s_HH).app pr3).same w1
  have ls1 : H lc158 = none := (e0.trans s_HH).free hlc
  have hls2 : (upd HH156 lc158 (.lst (vs154 ++ [.ref p136, .ref p138]))) lc158 = some (.lst (vs154 ++ [.ref p136, .ref p138])) := qB
  have hlen2 : (vs154 ++ [V.ref p136, V.ref p138]).length ≤ 6 := by rw [List.length_append]; show vs154.length + 2 ≤ 6; omega
  clear hpr hls e0 pr3 hlen ls0 hlc l_l155 s_HH w1 eB eBH i_d135 i_p136 i_d137 i_p138 i_l155
  generalize upd HH156 lc158 (.lst (vs154 ++ [.ref p136, .ref p138])) = K157 at PR e2 hls2 eB2 ⊢
  generalize vs154 ++ [V.ref p136, V.ref p138] = vs159 at PR hls2 hlen2 ⊢
  have hpr := PR; have e0 := e2; have hls := hls2; have ls0 := ls1; have hlen := hlen2; have eB := eB2
  clear PR e2 hls2 ls1 hlen2 eB2
  refine ⟨_, rfl, _, rfl, _, _, rfl, rfl, _, rfl, zG, fun d139 hd139 => ⟨two, fun p140 hp140 => ⟨_, rfl, _, _, rfl, rfl, _, rfl, zG, fun d141 hd141 => ⟨two, fun p142 hp142 => ⟨two, fun l160 hl160 => ?_⟩⟩⟩⟩⟩
  have n1 := qC hd139 (.tup [.str "lay_over", .int 0, .int (f + 6), bd])
  have n2 := qC hp140 (.tup [.ref d139, .str "noclip"])
  have n3 := qC hd141 (.tup [.str "lay_over", .int 0, .int (f + 10), .ref cl])
  have n4 := qC hp142 (.tup [.ref d141, .str "good"])
  have n5 := qC hl160 (.lst [.ref p140, .ref p142])
  have q4 := n5
  have q3 := n4.trans q4
  have q2 := n3.trans q3
  have q1 := n2.trans q2
  have i_d139 := q1 _ _ qB
  have i_p140 := q2 _ _ qB
  have i_d141 := q3 _ _ qB
  have i_p142 := q4 _ _ qB
  have i_l160 := qB (H := (upd (upd (upd (upd K157 d139 (.tup [.str "lay_over", .int 0, .int (f + 6), bd])) p140 (.tup [.ref d139, .str "noclip"])) d141 (.tup [.str "lay_over", .int 0, .int (f + 10), .ref cl])) p142 (.tup [.ref d141, .str "good"]))) (a := l160) (o := .lst [.ref p140, .ref p142])
  have s_HH := n1.trans q1
  have l_l160 : K157 l160 = none := ((((n1.trans n2).trans n3).trans n4)).free hl160
  clear n1 n2 n3 n4 n5 q1 q2 q3 q4
  generalize (upd (upd (upd (upd (upd K157 d139 _) p140 _) d141 _) p142 _) l160 _) = HH161 at i_d139 i_p140 i_d141 i_p142 i_l160 s_HH ⊢
  clear hd139 hp140 hd141 hp142 hl160
  have eBH := eB.trans (.same s_HH)
  have pr4 : Prs K HH161 f [.ref p140, .ref p142] := .cons ⟨p140, d139, 3, rfl, i_p140, by decide, qLf (.inr rfl) hf (by decide) i_d139 (hbd.lss eBH)⟩ (.cons ⟨p142, d141, 2, rfl, i_p142, by decide, qKb hf hF (by decide) (by decide) i_d141 (hcl.ts eBH.ts) (by rw [show qo qg 10 (10 + 2) = false by decide +kernel]; rfl)⟩ (.nil))
  refine ⟨lc158, l160, _, _, rfl, rfl, s_HH _ _ hls, i_l160, Nat.le_of_lt (qW (by show vs159.length + 2 ≤ 1000; omega)), fun lc163 hlc => ?_⟩
  have w1 := qC hlc (.lst (vs159 ++ [.ref p140, .ref p142]))
  have e2 := (e0.trans s_HH).trans w1
  have eB2 := eBH.trans (.same w1)
  have PR := ((hpr.same s_HH).app pr4).same w1
  have ls1 : H lc163 = none := (e0.trans s_HH).free hlc
  have hls2 : (upd HH161 lc163 (.lst (vs159 ++ [.ref p140, .ref p142]))) lc163 = some (.lst (vs159 ++ [.ref p140, .ref p142])) := qB
  have hlen2 : (vs159 ++ [V.ref p140, V.ref p142]).length ≤ 8 := by rw [List.length_append]; show vs159.length + 2 ≤ 8; omega
  clear hpr hls e0 pr4 hlen ls0 hlc l_l160 s_HH w1 eB eBH i_d139 i_p140 i_d141 i_p142 i_l160
  generalize upd HH161 lc163 (.lst (vs159 ++ [.ref p140, .ref p142])) = K162 at PR e2 hls2 eB2 ⊢
  generalize vs159 ++ [V.ref p140, V.ref p142] = vs164 at PR hls2 hlen2 ⊢
  have hpr := PR; have e0 := e2; have hls := hls2; have ls0 := ls1; have hlen := hlen2; have eB := eB2
  clear PR e2 hls2 ls1 hlen2 eB2
  refine ⟨_, rfl, _, rfl, _, _, rfl, rfl, _, rfl, zG, fun d143 hd143 => ⟨two, fun p144 hp144 => ⟨_, rfl, _, rfl, _, _, rfl, rfl, _, rfl, zG, fun d145 hd145 => ⟨two, fun p146 hp146 => ⟨two, fun l165 hl165 => ?_⟩⟩⟩⟩⟩
  have n1 := qC hd143 (.tup [.str "lay_in", .int 1, .int (f + 8), bd])
  have n2 := qC hp144 (.tup [.ref d143, .str "noplace"])
  have n3 := qC hd145 (.tup [.str "lay_over", .int (-1), .int (f + 8), bd])
  have n4 := qC hp146 (.tup [.ref d145, .str "noplace"])
  have n5 := qC hl165 (.lst [.ref p144, .ref p146])
  have q4 := n5
  have q3 := n4.trans q4
  have q2 := n3.trans q3
  have q1 := n2.trans q2
  have i_d143 := q1 _ _ qB
  have i_p144 := q2 _ _ qB
  have i_d145 := q3 _ _ qB
  have i_p146 := q4 _ _ qB
  have i_l165 := qB (H := (upd (upd (upd (upd K162 d143 (.tup [.str "lay_in", .int 1, .int (f + 8), bd])) p144 (.tup [.ref d143, .str "noplace"])) d145 (.tup [.str "lay_over", .int (-1), .int (f + 8), bd])) p146 (.tup [.ref d145, .str "noplace"]))) (a := l165) (o := .lst [.ref p144, .ref p146])
  have s_HH := n1.trans q1
  have l_l165 : K162 l165 = none := ((((n1.trans n2).trans n3).trans n4)).free hl165
  clear n1 n2 n3 n4 n5 q1 q2 q3 q4
  generalize (upd (upd (upd (upd (upd K162 d143 _) p144 _) d145 _) p146 _) l165 _) = HH166 at i_d143 i_p144 i_d145 i_p146 i_l165 s_HH ⊢
  clear hd143 hp144 hd145 hp146 hl165
  have eBH := eB.trans (.same s_HH)
  have pr5 : Prs K HH166 f [.ref p144, .ref p146] := .cons ⟨p144, d143, 0, rfl, i_p144, by decide, wf i_d143 rfl rfl rfl (by decide +kernel) (.int _) (.int _) (by unfold vA; dsimp only; rw [show decide ((1 : Int) < (1 : Nat)) = false by decide, Bool.and_false]; rfl)⟩ (.cons ⟨p146, d145, 0, rfl, i_p146, by decide, wf i_d145 rfl rfl rfl (by decide +kernel) (.int _) (.int _) (by unfold vA; dsimp only; rw [show decide ((0 : Int) ≤ (-1 : Int)) = false by decide]; rfl)⟩ (.nil))
  refine ⟨lc163, l165, _, _, rfl, rfl, s_HH _ _ hls, i_l165, Nat.le_of_lt (qW (by show vs164.length + 2 ≤ 1000; omega)), fun lc168 hlc => ?_⟩
  have w1 := qC hlc (.lst (vs164 ++ [.ref p144, .ref p146]))
  have e2 := (e0.trans s_HH).trans w1
  have eB2 := eBH.trans (.same w1)
  have PR := ((hpr.same s_HH).app pr5).same w1
  have ls1 : H lc168 = none := (e0.trans s_HH).free hlc
  have hls2 : (upd HH166 lc168 (.lst (vs164 ++ [.ref p144, .ref p146]))) lc168 = some (.lst (vs164 ++ [.ref p144, .ref p146])) := qB
  have hlen2 : (vs164 ++ [V.ref p144, V.ref p146]).length ≤ 10 := by rw [List.length_append]; show vs164.length + 2 ≤ 10; omega
  clear hpr hls e0 pr5 hlen ls0 hlc l_l165 s_HH w1 eB eBH i_d143 i_p144 i_d145 i_p146 i_l165
  generalize upd HH166 lc168 (.lst (vs164 ++ [.ref p144, .ref p146])) = K167 at PR e2 hls2 eB2 ⊢
  generalize vs164 ++ [V.ref p144, V.ref p146] = vs169 at PR hls2 hlen2 ⊢
  have hpr := PR; have e0 := e2; have hls := hls2; have ls0 := ls1; have hlen := hlen2; have eB := eB2
  clear PR e2 hls2 ls1 hlen2 eB2
  refine ⟨_, rfl, .inl ⟨rfl, _, SqL.of hls⟩, _, rfl, c, rfl, fun xm171 om Hm170 sm hnm hbm => ?_⟩
  have hls := sm _ _ hls
  have hpr := hpr.same sm
  have e0 := e0.trans sm
  have eB := eB.trans (.same sm)
  refine ⟨_, rfl, zG, fun dm1 hdm1 => ⟨two, fun pm1 hpm1 => ?_⟩⟩
  have n1 := qC hdm1 (.tup [.str "lay_in", .int 0, xm171, bd])
  have n2 := qC hpm1 (.tup [.ref dm1, .str "noplace"])
  have q1 := n2
  have i_dm1 := q1 _ _ qB
  have i_pm1 := qB (H := (upd Hm170 dm1 (.tup [.str "lay_in", .int 0, xm171, bd]))) (a := pm1) (o := .tup [.ref dm1, .str "noplace"])
  have s_HH := n1.trans q1
  have l_pm1 : Hm170 pm1 = none := (n1).free hpm1
  clear n1 n2 q1
  generalize (upd (upd Hm170 dm1 _) pm1 _) = HH172 at i_dm1 i_pm1 s_HH ⊢
  clear hdm1 hpm1
  have e1 := e0.trans s_HH
  have eBH := eB.trans (.same s_HH)
  have pr6 : PairC K HH172 f (.ref pm1) := ⟨pm1, dm1, 0, rfl, i_pm1, by decide, wf i_dm1 rfl rfl rfl (by decide +kernel) (.int 0) (hnm.same s_HH) (qGj hbm)⟩
  have hls1 := s_HH _ _ hls
  refine ⟨lc168, _, _, rfl, rfl, hls1, qW (by omega), ?_⟩
  have lput : LS HH172 (upd HH172 lc168 (.lst (vs169 ++ [.ref pm1]))) := .put hls1
  have PR := ((hpr.same s_HH).app (.cons pr6 .nil)).lss lput
  have e2 := jR (o := .lst (vs169 ++ [.ref pm1])) e1 ls0
  have eB2 := eBH.trans lput
  have hls2 : (upd HH172 lc168 (.lst (vs169 ++ [.ref pm1]))) lc168 = some (.lst (vs169 ++ [.ref pm1])) := qB
  have hlen2 : (vs169 ++ [V.ref pm1]).length ≤ 11 := by rw [List.length_append]; show vs169.length + 1 ≤ 11; omega
  clear hpr hls hls1 e0 e1 pr6 s_HH hlen lput eB eBH l_pm1 i_dm1 i_pm1
  generalize upd HH172 lc168 (.lst (vs169 ++ [.ref pm1])) = K173 at PR e2 hls2 eB2 ⊢
  generalize vs169 ++ [V.ref pm1] = vs174 at PR hls2 hlen2 ⊢
  have hpr := PR; have e0 := e2; have hls := hls2; have hlen := hlen2; have eB := eB2
  clear PR e2 hls2 hlen2 eB2
  clear sm hnm hbm
  refine ⟨_, rfl, .inl ⟨rfl, _, SqL.of hls⟩, _, rfl, c, rfl, fun xm176 om Hm175 sm hnm hbm => ?_⟩
  have hls := sm _ _ hls
  have hpr := hpr.same sm
  have e0 := e0.trans sm
  have eB := eB.trans (.same sm)
  refine ⟨zq, fun dm2 hdm2 => ⟨two, fun pm2 hpm2 => ?_⟩⟩
  have n1 := qC hdm2 (.tup [.str "cut", .int 0, xm176])
  have n2 := qC hpm2 (.tup [.ref dm2, .str "noplace"])
  have q1 := n2
  have i_dm2 := q1 _ _ qB
  have i_pm2 := qB (H := (upd Hm175 dm2 (.tup [.str "cut", .int 0, xm176]))) (a := pm2) (o := .tup [.ref dm2, .str "noplace"])
  have s_HH := n1.trans q1
  have l_pm2 : Hm175 pm2 = none := (n1).free hpm2
  clear n1 n2 q1
  generalize (upd (upd Hm175 dm2 _) pm2 _) = HH177 at i_dm2 i_pm2 s_HH ⊢
  clear hdm2 hpm2
  have e1 := e0.trans s_HH
  have eBH := eB.trans (.same s_HH)
  have pr7 : PairC K HH177 f (.ref pm2) := ⟨pm2, dm2, 0, rfl, i_pm2, by decide, wf i_dm2 rfl rfl rfl (by decide +kernel) (.int 0) (hnm.same s_HH) (qGj hbm)⟩
  have hls1 := s_HH _ _ hls
  refine ⟨lc168, _, _, rfl, rfl, hls1, qW (by omega), ?_⟩
  have lput : LS HH177 (upd HH177 lc168 (.lst (vs174 ++ [.ref pm2]))) := .put hls1
  have PR := ((hpr.same s_HH).app (.cons pr7 .nil)).lss lput
  have e2 := jR (o := .lst (vs174 ++ [.ref pm2])) e1 ls0
  have eB2 := eBH.trans lput
  have hls2 : (upd HH177 lc168 (.lst (vs174 ++ [.ref pm2]))) lc168 = some (.lst (vs174 ++ [.ref pm2])) := qB
  have hlen2 : (vs174 ++ [V.ref pm2]).length ≤ 12 := by rw [List.length_append]; show vs174.length + 1 ≤ 12; omega
  clear hpr hls hls1 e0 e1 pr7 s_HH hlen lput eB eBH l_pm2 i_dm2 i_pm2
  generalize upd HH177 lc168 (.lst (vs174 ++ [.ref pm2])) = K178 at PR e2 hls2 eB2 ⊢
  generalize vs174 ++ [V.ref pm2] = vs179 at PR hls2 hlen2 ⊢
  have hpr := PR; have e0 := e2; have hls := hls2; have hlen := hlen2; have eB := eB2
  clear PR e2 hls2 hlen2 eB2
  clear sm hnm hbm
  refine ⟨_, rfl, _, rfl, _, _, rfl, rfl, _, rfl, c, rfl, fun xm181 om Hm180 sm hnm hbm => ?_⟩
  have hls := sm _ _ hls
  have hpr := hpr.same sm
  have e0 := e0.trans sm
  have eB := eB.trans (.same sm)
  refine ⟨zG, fun dm3 hdm3 => ⟨two, fun pm3 hpm3 => ⟨_, rfl, _, _, rfl, rfl, zG, fun d182 hd182 => ⟨two, fun p183 hp183 => ⟨two, fun l184 hl184 => ?_⟩⟩⟩⟩⟩
  have n1 := qC hdm3 (.tup [.str "lift", .int 0, .int (f + 8), xm181])
  have n2 := qC hpm3 (.tup [.ref dm3, .str "noplace"])
  have n3 := qC hd182 (.tup [.str "slip", .int 0, .int (f + 23), .int 1])
  have n4 := qC hp183 (.tup [.ref d182, .str "good"])
  have n5 := qC hl184 (.lst [.ref pm3, .ref p183])
  have q4 := n5
  have q3 := n4.trans q4
  have q2 := n3.trans q3
  have q1 := n2.trans q2
  have i_dm3 := q1 _ _ qB
  have i_pm3 := q2 _ _ qB
  have i_d182 := q3 _ _ qB
  have i_p183 := q4 _ _ qB
  have i_l184 := qB (H := (upd (upd (upd (upd Hm180 dm3 (.tup [.str "lift", .int 0, .int (f + 8), xm181])) pm3 (.tup [.ref dm3, .str "noplace"])) d182 (.tup [.str "slip", .int 0, .int (f + 23), .int 1])) p183 (.tup [.ref d182, .str "good"]))) (a := l184) (o := .lst [.ref pm3, .ref p183])
  have s_HH := n1.trans q1
  have l_l184 : Hm180 l184 = none := ((((n1.trans n2).trans n3).trans n4)).free hl184
  clear n1 n2 n3 n4 n5 q1 q2 q3 q4
  generalize (upd (upd (upd (upd (upd Hm180 dm3 _) pm3 _) d182 _) p183 _) l184 _) = HH185 at i_dm3 i_pm3 i_d182 i_p183 i_l184 s_HH ⊢
  clear hdm3 hpm3 hd182 hp183 hl184
  have eBH := eB.trans (.same s_HH)
  have pr8 : Prs K HH185 f [.ref pm3, .ref p183] := .cons ⟨pm3, dm3, 0, rfl, i_pm3, by decide, qKy (.inr rfl) hf (by decide) i_dm3 (hnm.same s_HH) (fun u e => (by have := hbm u e; omega))⟩ (.cons ⟨p183, d182, 2, rfl, i_p183, by decide, vR (.inr (.inl rfl)) i_d182 (.int _) (.inr (.inr ⟨qD3 (d := 2) hf (by decide) (by decide +kernel) (by decide), .inl ⟨by rw [qAy (d := 2) hf (by decide) (by decide +kernel), t_1.1, t_1.2]; decide, rfl⟩⟩))⟩ (.nil))
  refine ⟨lc168, l184, _, _, rfl, rfl, s_HH _ _ hls, i_l184, Nat.le_of_lt (qW (by show vs179.length + 2 ≤ 1000; omega)), fun lc187 hlc => ?_⟩
  have w1 := qC hlc (.lst (vs179 ++ [.ref pm3, .ref p183]))
  have e2 := (e0.trans s_HH).trans w1
  have eB2 := eBH.trans (.same w1)
  have PR := ((hpr.same s_HH).app pr8).same w1
  have ls1 : H lc187 = none := (e0.trans s_HH).free hlc
  have hls2 : (upd HH185 lc187 (.lst (vs179 ++ [.ref pm3, .ref p183]))) lc187 = some (.lst (vs179 ++ [.ref pm3, .ref p183])) := qB
  have hlen2 : (vs179 ++ [V.ref pm3, V.ref p183]).length ≤ 14 := by rw [List.length_append]; show vs179.length + 2 ≤ 14; omega
  clear hpr hls e0 pr8 hlen ls0 hlc l_l184 s_HH w1 eB eBH i_dm3 i_pm3 i_d182 i_p183 i_l184
  generalize upd HH185 lc187 (.lst (vs179 ++ [.ref pm3, .ref p183])) = K186 at PR e2 hls2 eB2 ⊢
  generalize vs179 ++ [V.ref pm3, V.ref p183] = vs188 at PR hls2 hlen2 ⊢
  have hpr := PR; have e0 := e2; have hls := hls2; have ls0 := ls1; have hlen := hlen2; have eB := eB2
  clear PR e2 hls2 ls1 hlen2 eB2
  clear sm hnm hbm
  refine ⟨_, rfl, _, rfl, _, _, rfl, rfl, zG, fun d189 hd189 => ⟨two, fun p190 hp190 => ⟨_, rfl, _, _, rfl, rfl, _, rfl, zG, fun d191 hd191 => ⟨two, fun p192 hp192 => ⟨two, fun l197 hl197 => ?_⟩⟩⟩⟩⟩
  have n1 := qC hd189 (.tup [.str "slip", .int 0, .int (f + 23), .int 999])
  have n2 := qC hp190 (.tup [.ref d189, .str "short"])
  have n3 := qC hd191 (.tup [.str "slip", .int 0, .int (f + 24), .int (-999)])
  have n4 := qC hp192 (.tup [.ref d191, .str "short"])
  have n5 := qC hl197 (.lst [.ref p190, .ref p192])
  have q4 := n5
  have q3 := n4.trans q4
  have q2 := n3.trans q3
  have q1 := n2.trans q2
  have i_d189 := q1 _ _ qB
  have i_p190 := q2 _ _ qB
  have i_d191 := q3 _ _ qB
  have i_p192 := q4 _ _ qB
  have i_l197 := qB (H := (upd (upd (upd (upd K186 d189 (.tup [.str "slip", .int 0, .int (f + 23), .int 999])) p190 (.tup [.ref d189, .str "short"])) d191 (.tup [.str "slip", .int 0, .int (f + 24), .int (-999)])) p192 (.tup [.ref d191, .str "short"]))) (a := l197) (o := .lst [.ref p190, .ref p192])
  have s_HH := n1.trans q1
  have l_l197 : K186 l197 = none := ((((n1.trans n2).trans n3).trans n4)).free hl197
  clear n1 n2 n3 n4 n5 q1 q2 q3 q4
  generalize (upd (upd (upd (upd (upd K186 d189 _) p190 _) d191 _) p192 _) l197 _) = HH198 at i_d189 i_p190 i_d191 i_p192 i_l197 s_HH ⊢
  clear hd189 hp190 hd191 hp192 hl197
  have eBH := eB.trans (.same s_HH)
  have pr9 : Prs K HH198 f [.ref p190, .ref p192] := .cons ⟨p190, d189, 4, rfl, i_p190, by decide, vR (.inr (.inl rfl)) i_d189 (.int _) (.inr (.inr ⟨qD3 (d := 2) hf (by decide) (by decide +kernel) (by decide), .inr ⟨by rw [qAy (d := 2) hf (by decide) (by decide +kernel), t_1.1, t_1.2]; decide, rfl⟩⟩))⟩ (.cons ⟨p192, d191, 4, rfl, i_p192, by decide, vR (.inr (.inl rfl)) i_d191 (.int _) (.inr (.inr ⟨qD3 (d := 3) hf (by decide) (by decide +kernel) (by decide), .inr ⟨by rw [qAy (d := 3) hf (by decide) (by decide +kernel), t_1.1, t_1.2]; decide, rfl⟩⟩))⟩ (.nil))
  refine ⟨lc187, l197, _, _, rfl, rfl, s_HH _ _ hls, i_l197, Nat.le_of_lt (qW (by show vs188.length + 2 ≤ 1000; omega)), fun lc200 hlc => ?_⟩
  have w1 := qC hlc (.lst (vs188 ++ [.ref p190, .ref p192]))
  have e2 := (e0.trans s_HH).trans w1
  have eB2 := eBH.trans (.same w1)
  have PR := ((hpr.same s_HH).app pr9).same w1
  have ls1 : H lc200 = none := (e0.trans s_HH).free hlc
  have hls2 : (upd HH198 lc200 (.lst (vs188 ++ [.ref p190, .ref p192]))) lc200 = some (.lst (vs188 ++ [.ref p190, .ref p192])) := qB
  have hlen2 : (vs188 ++ [V.ref p190, V.ref p192]).length ≤ 16 := by rw [List.length_append]; show vs188.length + 2 ≤ 16; omega
  clear hpr hls e0 pr9 hlen ls0 hlc l_l197 s_HH w1 eB eBH i_d189 i_p190 i_d191 i_p192 i_l197
  generalize upd HH198 lc200 (.lst (vs188 ++ [.ref p190, .ref p192])) = K199 at PR e2 hls2 eB2 ⊢
  generalize vs188 ++ [V.ref p190, V.ref p192] = vs201 at PR hls2 hlen2 ⊢
  have hpr := PR; have e0 := e2; have hls := hls2; have ls0 := ls1; have hlen := hlen2; have eB := eB2
  clear PR e2 hls2 ls1 hlen2 eB2
  refine ⟨_, rfl, _, rfl, _, _, rfl, rfl, zG, fun d193 hd193 => ⟨two, fun p194 hp194 => ⟨_, rfl, _, _, rfl, rfl, zq, fun d195 hd195 => ⟨two, fun p196 hp196 => ⟨two, fun l202 hl202 => ?_⟩⟩⟩⟩⟩
  have n1 := qC hd193 (.tup [.str "slip", .int 0, .int (f + 23), .bl true])
  have n2 := qC hp194 (.tup [.ref d193, .str "noplace"])
  have n3 := qC hd195 (.tup [.str "unmix", .int 5, .int (f + 8)])
  have n4 := qC hp196 (.tup [.ref d195, .str "noplace"])
  have n5 := qC hl202 (.lst [.ref p194, .ref p196])
  have q4 := n5
  have q3 := n4.trans q4
  have q2 := n3.trans q3
  have q1 := n2.trans q2
  have i_d193 := q1 _ _ qB
  have i_p194 := q2 _ _ qB
  have i_d195 := q3 _ _ qB
  have i_p196 := q4 _ _ qB
  have i_l202 := qB (H := (upd (upd (upd (upd K199 d193 (.tup [.str "slip", .int 0, .int (f + 23), .bl true])) p194 (.tup [.ref d193, .str "noplace"])) d195 (.tup [.str "unmix", .int 5, .int (f + 8)])) p196 (.tup [.ref d195, .str "noplace"]))) (a := l202) (o := .lst [.ref p194, .ref p196])
  have s_HH := n1.trans q1
  have l_l202 : K199 l202 = none := ((((n1.trans n2).trans n3).trans n4)).free hl202
  clear n1 n2 n3 n4 n5 q1 q2 q3 q4
  generalize (upd (upd (upd (upd (upd K199 d193 _) p194 _) d195 _) p196 _) l202 _) = HH203 at i_d193 i_p194 i_d195 i_p196 i_l202 s_HH ⊢
  clear hd193 hp194 hd195 hp196 hl202
  have eBH := eB.trans (.same s_HH)
  have pr10 : Prs K HH203 f [.ref p194, .ref p196] := .cons ⟨p194, d193, 0, rfl, i_p194, by decide, vR (.inr (.inl rfl)) i_d193 (.no (.bl true)) (.inl ⟨rfl, rfl⟩)⟩ (.cons ⟨p196, d195, 0, rfl, i_p196, by decide, wf i_d195 rfl rfl rfl (by decide +kernel) (.int _) (.int _) (by unfold vA; dsimp only; rw [show decide ((5 : Int) < (1 : Nat)) = false by decide, Bool.and_false]; rfl)⟩ (.nil))
  refine ⟨lc200, l202, _, _, rfl, rfl, s_HH _ _ hls, i_l202, Nat.le_of_lt (qW (by show vs201.length + 2 ≤ 1000; omega)), fun lc205 hlc => ?_⟩
  have w1 := qC hlc (.lst (vs201 ++ [.ref p194, .ref p196]))
  have e2 := (e0.trans s_HH).trans w1
  have eB2 := eBH.trans (.same w1)
  have PR := ((hpr.same s_HH).app pr10).same w1
  have ls1 : H lc205 = none := (e0.trans s_HH).free hlc
  have hls2 : (upd HH203 lc205 (.lst (vs201 ++ [.ref p194, .ref p196]))) lc205 = some (.lst (vs201 ++ [.ref p194, .ref p196])) := qB
  have hlen2 : (vs201 ++ [V.ref p194, V.ref p196]).length ≤ 18 := by rw [List.length_append]; show vs201.length + 2 ≤ 18; omega
  clear hpr hls e0 pr10 hlen ls0 hlc l_l202 s_HH w1 eB eBH i_d193 i_p194 i_d195 i_p196 i_l202
  generalize upd HH203 lc205 (.lst (vs201 ++ [.ref p194, .ref p196])) = K204 at PR e2 hls2 eB2 ⊢
  generalize vs201 ++ [V.ref p194, V.ref p196] = vs206 at PR hls2 hlen2 ⊢
  have hpr := PR; have e0 := e2; have hls := hls2; have ls0 := ls1; have hlen := hlen2; have eB := eB2
  clear PR e2 hls2 ls1 hlen2 eB2
  exact ⟨_, rfl, kk _ _ _ e0 hls hpr (by omega)⟩
theorem qLd {n : Str} {p q r s l : Int} (hn : n = "a") (g1 : Good 110 p q) (g2 : Good 110 r s) (bl : l.natAbs < 2 ^ 30) (l1 : 1 ≤ l) : Rc n p q r s l vo 200 := ⟨g1, g2, bl, l1, by rw [hn]; rfl, by decide⟩
theorem qJ1 {H : Hp} {tz rd : Addr} {f : Int} (hf : 0 ≤ f) (h : TabF H (.ref tz) [trk f] []) (hr : H rd = some (.dK qBw)) : TabD H tz rd vo [trk f] [] := by
  have bb : ∀ m ∈ qg, ImB m ∧ 0 ≤ m.mo ∧ ItR vo m := fun m hm => by
    unfold qg at hm
    simp only [List.mem_cons, List.not_mem_nil, or_false] at hm
    rcases hm with rfl | rfl | rfl | rfl | rfl | rfl
    · refine ⟨⟨by decide, by decide, by decide, by decide, by decide, by decide⟩, by decide, fun n p q r s l e => ?_⟩
      cases e
      exact ⟨200, qLd rfl ⟨by decide, by decide, by decide, by decide⟩ ⟨by decide, by decide, by decide, by decide⟩ (by decide) (by decide)⟩
    · exact ⟨trivial, by decide, fun n p q r s l e => by cases e⟩
    · refine ⟨⟨by decide, by decide, by decide, by decide, by decide, by decide⟩, by decide, fun n p q r s l e => ?_⟩
      cases e
      exact ⟨200, qLd rfl ⟨by decide, by decide, by decide, by decide⟩ ⟨by decide, by decide, by decide, by decide⟩ (by decide) (by decide)⟩
    · exact ⟨trivial, by decide, fun n p q r s l e => by cases e⟩
    · refine ⟨⟨by decide, by decide, by decide, by decide, by decide, by decide⟩, by decide, fun n p q r s l e => ?_⟩
      cases e
      exact ⟨200, qLd rfl ⟨by decide, by decide, by decide, by decide⟩ ⟨by decide, by decide, by decide, by decide⟩ (by decide) (by decide)⟩
    · exact ⟨trivial, by decide, fun n p q r s l e => by cases e⟩
  have bt : ∀ m ∈ trk f, ImB m ∧ 0 ≤ m.mo ∧ ItR vo m := fun m hm => by
    unfold trk at hm
    split at hm
    · rcases List.mem_cons.mp hm with rfl | hm
      · exact ⟨trivial, hf, fun n p q r s l e => by cases e⟩
      · exact bb m hm
    · exact bb m hm
  have bl : (trk f).length ≤ 7 := by
    unfold trk
    split
    · show 7 ≤ 7; decide
    · show 6 ≤ 7; decide
  refine ⟨h, fun ms hms => ?_, by show 1 ≤ 8; decide, by show 0 ≤ 8; decide, fun x hx => by simp at hx, fun n N q => ?_⟩
  · have e : ms = trk f := by simpa using hms
    subst e
    exact ⟨⟨fun m hm => ⟨(bt m hm).1, (bt m hm).2.1⟩, by omega⟩, by omega, fun m hm => (bt m hm).2.2⟩
  · unfold vo at q
    split at q
    · rename_i e
      cases q
      rw [e]
      exact qG6 hr
    · cases q
theorem qLv (x : V) : qAk [] [((Sum.inr ("a" : Str) : Key), x)] = [(Sum.inr ("a" : Str), x)] := by rfl
def ExD (a : Ads) (H : Hp) (c : Nat) : Value → Option Addr → Hp → Prop := fun B od H' => Same H H' ∧ ((B = .ref a.k_NoPlace ∧ od = none ∧ c = 0) ∨ (B = .ref a.k_Mixed ∧ od = none ∧ c = 1) ∨ (B = .ref a.k_NoClip ∧ od = none ∧ c = 3) ∨ (B = .ref a.k_Short ∧ (∃ dx v, od = some dx ∧ H' dx = some (.xd [("most", v)])) ∧ c = 4))
def qCj (K : W.Frag) : Sp := fun vs H Q _ => ∃ (tz dz : Addr) (f : Int) (c : Nat), vs = [.ref tz, .ref dz] ∧ TabF H (.ref tz) [trk f] [] ∧ 0 ≤ f ∧ c ≤ 4 ∧ DeedC K H dz f c ∧ ∀ H', Same H H' → Q (.str (wdC c)) H'
theorem qC5 (T : Tx K mg a) : FnOk P w K mg base CX0 11 a.a__law_word a.f__law_word ["_law_table_here", "_law_deed"] (qCj K) := by
  refine T.d__law_word.F.ok sc__law_word (fun vs H Q E h => ?_) (fun cdv A outer s H vs Q E hr h => ?_)
  · obtain ⟨tz, dz, f, c, rfl, _⟩ := h
    rfl
  obtain ⟨tz, dz, f, c, rfl, hT, hf, hc4, hD, kk⟩ := h
  have hu1 := qHv hr
  obtain ⟨Exn, hEx⟩ : ∃ Exn : Value → Option Addr → Hp → Prop, Exn = ExD a H c := ⟨_, rfl⟩
  refine ⟨_, (qG (qU (i := 2) sc__law_word.nd rfl (Or.inl rfl) qI)
      (qG (qKi (Exn) sc__law_word.nd (fun _ => (qH (jN (jo T.d_deed_done (kP T) hr rfl (qA (pv 0) (qA (pv 1) (qA (qH9 (qE4 qI qD qHc) rfl rfl (by simp) (by decide)) qE))))))) (PHs.cons .none rfl T.c_NoPlace (fun _ _ => (qH (qU (i := 2) sc__law_word.nd rfl (Or.inl rfl) qI))) (PHs.cons .none rfl T.c_NoClip (fun _ _ => (qH (qU (i := 2) sc__law_word.nd rfl (Or.inl rfl) qI))) (PHs.cons .none rfl T.c_Mixed (fun _ _ => (qH (qU (i := 2) sc__law_word.nd rfl (Or.inl rfl) qI))) (PHs.cons .none rfl T.c_Short (fun _ _ => (qH (qU (i := 2) sc__law_word.nd rfl (Or.inl rfl) qI))) PHs.nil)))))
      (qH (qP (pv 2))))), ?_⟩
  try dsimp only [jT, qi]
  subst hEx
  refine ⟨?_, ?_⟩
  · refine ⟨_, rfl, _, rfl, fun rd hrd => ?_⟩
    refine ⟨qB, [(Sum.inr "a", .int 200)], rfl, (by show 1 ≤ 15; decide), ?_⟩
    rw [qH3, qLv]
    have w1 := qC hrd (.dK [(Sum.inr ("a" : Str), .int 200)])
    have er : (upd H rd (.dK [(Sum.inr ("a" : Str), .int 200)])) rd = some (.dK qBw) := qB
    generalize upd H rd (.dK [(Sum.inr ("a" : Str), .int 200)]) = H1 at w1 er ⊢
    refine ⟨tz, dz, rd, vo, [trk f], [], c, rfl, qJ1 hf (hT.same w1) er, hD H1 rd (.same w1) er, fun h H' e => ⟨w1.trans e, .inl ⟨rfl, rfl, h⟩⟩, fun h H' e => ⟨w1.trans e, .inr (.inl ⟨rfl, rfl, h⟩)⟩, fun h H' e => ⟨w1.trans e, .inr (.inr (.inl ⟨rfl, rfl, h⟩))⟩, fun h dx v H' e hd => ⟨w1.trans e, .inr (.inr (.inr ⟨rfl, ⟨dx, v, rfl, hd⟩, h⟩))⟩, fun h v H' e => ?_⟩
    subst h
    exact ⟨_, rfl, kk H' (w1.trans e)⟩
  · rintro ea ⟨B1, B2⟩ σ' H' ⟨sH, hB⟩ hn hl'
    obtain ⟨o1, o2, o3, rfl⟩ : ∃ o1 o2 o3, σ' = [o1, o2, o3] := by
      match σ', hl' with
      | [o1, o2, o3], _ => exact ⟨o1, o2, o3, rfl⟩
    have k1 : ∀ o : HO, Q (.str (wdC c)) (upd H' ea o) := fun o => kk _ (sH.trans (qC hn _))
    rcases hB with ⟨e1, e2, rfl⟩ | ⟨e1, e2, rfl⟩ | ⟨e1, e2, rfl⟩ | ⟨e1, _, rfl⟩
    · dsimp only at e1; subst e1
      exact ⟨true, T.xPP, qr ⟨_, rfl, k1 _⟩⟩
    · dsimp only at e1; subst e1
      exact ⟨false, T.xMP, qm ⟨false, T.xMC, qm ⟨true, T.xMM, qr ⟨_, rfl, k1 _⟩⟩⟩⟩
    · dsimp only at e1; subst e1
      exact ⟨false, T.xCP, qm ⟨true, T.xCC, qr ⟨_, rfl, k1 _⟩⟩⟩
    · dsimp only at e1; subst e1
      exact ⟨false, T.xSP, qm ⟨false, T.xSC, qm ⟨false, T.xSM, qm ⟨true, T.xSS, qr ⟨_, rfl, k1 _⟩⟩⟩⟩⟩
def qM6 (c : Nat) : List Bool := [decide (c = 0), decide (c = 3), decide (c = 1), decide (c = 4)]
theorem qK2 (bs : List Bool) : (bs.map V.bl).all xY = true := by
  induction bs with
  | nil => rfl
  | cons o cs ih => rw [List.map_cons, List.all_cons, ih]; rfl
theorem qGo {H : Hp} {x : Addr} {bs : List Bool} (h : H x = some (.lst (bs.map V.bl))) : Rep K H (.lst ((bs.map V.bl).map D.leaf)) (.ref x) := by
  unfold Rep; exact ⟨x, _, rfl, SqL.of h, v9 (qK2 bs)⟩
theorem qMc {H : Hp} {x y : Addr} {bs cs : List Bool} {Q : VK} (h1 : H x = some (.lst (bs.map V.bl))) (h2 : H y = some (.lst (cs.map V.bl))) (q : ∀ b, b = eqD (.lst ((bs.map V.bl).map D.leaf)) (.lst ((cs.map V.bl).map D.leaf)) → Q (.bl b) H) : qMz K false (.ref x) (.ref y) H Q :=
  ⟨_, _, qGo h1, qGo h2, rfl, by unfold dep; rw [wA]; decide, q _ rfl⟩
def qDy (K : W.Frag) : Sp := fun vs H Q _ => ∃ (tz dz : Addr) (f : Int) (c : Nat), vs = [.ref tz, .ref dz, .str (wdC c)] ∧ TabF H (.ref tz) [trk f] [] ∧ 0 ≤ f ∧ c ≤ 4 ∧ DeedC K H dz f c ∧ ∀ H', Same H H' → Q (.bl true) H'
theorem qDz (T : Tx K mg a) : FnOk P w K mg base CX0 11 a.a__law_any a.f__law_any ["_law_table_here", "_law_deed", "_law_word_here"] (qDy K) := by
  refine T.d__law_any.F.ok sc__law_any (fun vs H Q E h => ?_) (fun cdv A outer s H vs Q E hr h => ?_)
  · obtain ⟨tz, dz, f, c, rfl, _⟩ := h
    rfl
  obtain ⟨tz, dz, f, c, rfl, hT, hf, hc4, hD, kk⟩ := h
  have hu := hr.units
  have hu1 := qHv hr
  obtain ⟨kz0, hkz0⟩ : ∃ g : Addr → L2.St, g = fun kz => [some (.ref tz), some (.ref dz), some (.str (wdC c)), some (.ref kz), none, none] := ⟨_, rfl⟩
  obtain ⟨Exs, hEx⟩ : ∃ Exs : Value → Option Addr → L2.St → Hp → Prop, Exs = fun B od σ' H' => (∃ kz, σ' = kz0 kz) ∧ ExD a H c B od H' := ⟨_, rfl⟩
  refine ⟨_, (qG (qU (i := 3) sc__law_any.nd rfl (Or.inl rfl) (ql qE))
      (qG (vE (qLh (Exs) (.some (i := 4) rfl rfl) sc__law_any.nd rfl T.c_CutError (fun _ => (qH (jN (qIx T.d_deed_done (kP T) hr rfl (qA (pv 0) (qA (pv 1) (qA (qH9 (qE4 qI qD qHc) rfl rfl (by simp) (by decide)) qE))))))) (fun _ _ => (qH (qU (i := 3) sc__law_any.nd rfl (Or.inl rfl) (ql (qA (qh (xg (K := K) rfl) rfl T.b_isinstance rfl (qA (pv 4) (qA (ja (v := .ref a.k_NoPlace) rfl T.c_NoPlace rfl) qE))) (qA (qh (xg (K := K) rfl) rfl T.b_isinstance rfl (qA (pv 4) (qA (ja (v := .ref a.k_NoClip) rfl T.c_NoClip rfl) qE))) (qA (qh (xg (K := K) rfl) rfl T.b_isinstance rfl (qA (pv 4) (qA (ja (v := .ref a.k_Mixed) rfl T.c_Mixed rfl) qE))) (qA (qh (xg (K := K) rfl) rfl T.b_isinstance rfl (qA (pv 4) (qA (ja (v := .ref a.k_Short) rfl T.c_Short rfl) qE))) qE))))))))))
      (qG (qHh (i := 5) ["_law_word_here"] [2] sc__law_any.nd rfl rfl rfl (xW (ql (qA qI (qA qI (qA qI (qA qI qE)))))) (fun _ _ _ _ => (jO j4 (pv 1) (pv 0) (qX _))))
      (qH (qP (qLo (jO (qG2 hu) (pv 3) (pv 5) (qX _)) (zl (zo (jO j4 (pv 2) qI (qX _)) (zl (jO (qG2 hu) (pv 3) (ql qE) (qX _))))))))))), ?_⟩
  try dsimp only [jT, qi]
  subst hEx hkz0
  refine ⟨sL0, fun kz hkz => ?_⟩
  have w0 := qC hkz (.lst [])
  have ekz : (upd H kz (.lst [])) kz = some (.lst []) := qB
  generalize upd H kz (.lst []) = H0 at w0 ekz ⊢
  refine ⟨fun σ H' => ∃ (kz : Addr) (bs : List Bool), σ = [some (.ref tz), some (.ref dz), some (.str (wdC c)), some (.ref kz), none, none] ∧ Same H H' ∧ H' kz = some (.lst (bs.map V.bl)) ∧ ((bs = [] ∧ c = 2) ∨ (bs = qM6 c ∧ c ≠ 2)), ?_, ?_⟩
  · refine ⟨?_, ?_⟩
    · refine ⟨_, rfl, _, rfl, fun rd hrd => ?_⟩
      refine ⟨qB, [(Sum.inr "a", .int 200)], rfl, (by show 1 ≤ 15; decide), ?_⟩
      rw [qH3, qLv]
      have w1 := qC hrd (.dK [(Sum.inr ("a" : Str), .int 200)])
      have er : (upd H0 rd (.dK [(Sum.inr ("a" : Str), .int 200)])) rd = some (.dK qBw) := qB
      generalize upd H0 rd (.dK [(Sum.inr ("a" : Str), .int 200)]) = H1 at w1 er ⊢
      have w01 := w0.trans w1
      refine ⟨tz, dz, rd, vo, [trk f], [], c, rfl, qJ1 hf (hT.same w01) er, hD H1 rd (.same w01) er, fun h H' e => ⟨⟨kz, rfl⟩, w01.trans e, .inl ⟨rfl, rfl, h⟩⟩, fun h H' e => ⟨⟨kz, rfl⟩, w01.trans e, .inr (.inl ⟨rfl, rfl, h⟩)⟩, fun h H' e => ⟨⟨kz, rfl⟩, w01.trans e, .inr (.inr (.inl ⟨rfl, rfl, h⟩))⟩, fun h dx v H' e hd => ⟨⟨kz, rfl⟩, w01.trans e, .inr (.inr (.inr ⟨rfl, ⟨dx, v, rfl, hd⟩, h⟩))⟩, fun h v H' e => ?_⟩
      exact ⟨kz, [], rfl, w01.trans e, (w1.trans e) _ _ ekz, .inl ⟨rfl, h⟩⟩
    · rintro ea ⟨B1, B2⟩ σ' H' ⟨⟨kz', rfl⟩, sH, hB⟩ hn hl'
      obtain ⟨C, c1, c2, c3, c4, rfl, hx, hE, hown, f1, f2, f3, f4, hk, hc2⟩ : ∃ (C : Addr) (c1 c2 c3 c4 : Bool), B1 = .ref C ∧ W.exmOne K (.ref C) (.ref a.k_CutError) = some true ∧ L3.ExcK K C ∧ OwnD H' B2 ∧ W.kitOne K (.ref C) (.ref a.k_NoPlace) = some c1 ∧ W.kitOne K (.ref C) (.ref a.k_NoClip) = some c2 ∧ W.kitOne K (.ref C) (.ref a.k_Mixed) = some c3 ∧ W.kitOne K (.ref C) (.ref a.k_Short) = some c4 ∧ [c1, c2, c3, c4] = qM6 c ∧ c ≠ 2 := by
        rcases hB with ⟨e1, e2, rfl⟩ | ⟨e1, e2, rfl⟩ | ⟨e1, e2, rfl⟩ | ⟨e1, ⟨dx, v, e2, hdx⟩, rfl⟩
        · dsimp only at e1 e2; subst e1 e2
          exact ⟨_, _, _, _, _, rfl, T.xP, T.e_NoPlace, .inl rfl, T.pP, T.pC, T.pM, T.pS, rfl, by decide⟩
        · dsimp only at e1 e2; subst e1 e2
          exact ⟨_, _, _, _, _, rfl, T.xM, T.e_Mixed, .inl rfl, T.mP, T.mC, T.mM, T.mS, rfl, by decide⟩
        · dsimp only at e1 e2; subst e1 e2
          exact ⟨_, _, _, _, _, rfl, T.xC, T.e_NoClip, .inl rfl, T.cP, T.cC, T.cM, T.cS, rfl, by decide⟩
        · dsimp only at e1 e2; subst e1 e2
          exact ⟨_, _, _, _, _, rfl, T.xS, T.e_Short, .inr ⟨dx, _, rfl, hdx⟩, T.sP, T.sC, T.sM, T.sS, rfl, by decide⟩
      have w2 := qC hn (kr ea (.ref C, B2))
      have hea : (upd H' ea (kr ea (.ref C, B2))) ea = some (kr ea (.ref C, B2)) := qB
      have hown2 : OwnD (upd H' ea (kr ea (.ref C, B2))) B2 := hown.elim .inl fun ⟨dx, fs, h1, h2⟩ => .inr ⟨dx, fs, h1, w2 _ _ h2⟩
      have e2 := sH.trans w2
      refine ⟨hx, ?_⟩
      show _
      generalize upd H' ea (kr ea (.ref C, B2)) = H2 at hea hown2 e2 ⊢
      refine ⟨_, rfl, ea, _, _, _, c1, rfl, hea, hown2, hE, .inr ⟨_, rfl, f1⟩, ?_⟩
      refine ⟨_, rfl, ea, _, _, _, c2, rfl, hea, hown2, hE, .inr ⟨_, rfl, f2⟩, ?_⟩
      refine ⟨_, rfl, ea, _, _, _, c3, rfl, hea, hown2, hE, .inr ⟨_, rfl, f3⟩, ?_⟩
      refine ⟨_, rfl, ea, _, _, _, c4, rfl, hea, hown2, hE, .inr ⟨_, rfl, f4⟩, zG, fun l1 h1 => ?_⟩
      refine ⟨l1, qM6 c, rfl, e2.trans (qC h1 _), ?_, .inr ⟨rfl, hc2⟩⟩
      rw [qB, ← hk]
      rfl
  rintro σ H4 ⟨kz, bs, rfl, e4, ek, hbs⟩
  refine ⟨zG, fun lw hlw => ?_⟩
  have w5 := qC hlw (.lst [.str "noplace", .str "noclip", .str "mixed", .str "short"])
  have elw : (upd H4 lw (.lst [.str "noplace", .str "noclip", .str "mixed", .str "short"])) lw = some (.lst [.str "noplace", .str "noclip", .str "mixed", .str "short"]) := qB
  have e5 := e4.trans w5
  have ek5 := w5 _ _ ek
  generalize upd H4 lw _ = H5 at elw e5 ek5 ⊢
  refine ⟨lw, rfl, ⟨_, SqL.of elw⟩, ki (K := K) (a := lw) (xs := [.str "noplace", .str "noclip", .str "mixed", .str "short"]) (fun j acc H2 => acc = (((["noplace", "noclip", "mixed", "short"] : List Str).take j).map (fun w => decide (wdC c = w))).map V.bl ∧ H2 = H5) ⟨rfl, rfl⟩ ?_ ?_ ?_⟩
  · rintro j acc H6 hj ⟨rfl, rfl⟩
    exact ⟨SqL.of elw, qW (by rw [List.length_map, List.length_map, List.length_take]; have : (["noplace", "noclip", "mixed", "short"] : List Str).length = 4 := rfl; omega)⟩
  · rintro j x acc H6 hj hx ⟨rfl, rfl⟩
    obtain ⟨k, hk, rfl⟩ : ∃ k : Str, (["noplace", "noclip", "mixed", "short"] : List Str)[j]? = some k ∧ x = .str k := by
      have hx' : ((["noplace", "noclip", "mixed", "short"] : List Str).map V.str)[j]? = some x := hx
      rw [List.getElem?_map] at hx'
      cases hq : (["noplace", "noclip", "mixed", "short"] : List Str)[j]? with
      | none => rw [hq] at hx'; cases hx'
      | some k => rw [hq] at hx'; cases hx'; exact ⟨k, rfl, rfl⟩
    refine ⟨_, rfl, _, rfl, rfl, Nxt.mk hj ⟨?_, rfl⟩⟩
    rw [List.take_add_one, hk, qLs]
    simp
  rintro acc H6 ⟨rfl, rfl⟩ D hD
  have et : ((["noplace", "noclip", "mixed", "short"] : List Str).take ([V.str "noplace", .str "noclip", .str "mixed", .str "short"] : List V).length).map (fun w => decide (wdC c = w)) = [decide (wdC c = "noplace"), decide (wdC c = "noclip"), decide (wdC c = "mixed"), decide (wdC c = "short")] := rfl
  rw [et]
  have w7 := qC hD (.lst (([decide (wdC c = "noplace"), decide (wdC c = "noclip"), decide (wdC c = "mixed"), decide (wdC c = "short")] : List Bool).map V.bl))
  have eD : (upd H6 D (.lst (([decide (wdC c = "noplace"), decide (wdC c = "noclip"), decide (wdC c = "mixed"), decide (wdC c = "short")] : List Bool).map V.bl))) D = some (.lst (([decide (wdC c = "noplace"), decide (wdC c = "noclip"), decide (wdC c = "mixed"), decide (wdC c = "short")] : List Bool).map V.bl)) := qB
  have e7 := e5.trans w7
  have ek7 := w7 _ _ ek5
  generalize upd H6 D (.lst (([decide (wdC c = "noplace"), decide (wdC c = "noclip"), decide (wdC c = "mixed"), decide (wdC c = "short")] : List Bool).map V.bl)) = H7 at eD e7 ek7 ⊢
  have hcc : c = 0 ∨ c = 1 ∨ c = 2 ∨ c = 3 ∨ c = 4 := by omega
  refine ⟨_, rfl, _, rfl, qMc ek7 eD fun b hb => ⟨b, rfl, ?_⟩⟩
  rcases hbs with ⟨rfl, rfl⟩ | ⟨rfl, hc2⟩
  · have : b = false := by rw [hb]; decide +kernel
    subst this
    refine qm ⟨_, rfl, rfl, _, rfl, kL (by decide +kernel) ?_⟩
    refine ⟨_, rfl, sL0, fun en hen => ?_⟩
    refine qMc (cs := []) ((qC hen _) _ _ ek7) qB fun b hb => ?_
    have : b = true := by rw [hb]; decide +kernel
    subst this
    exact kk _ (e7.trans (qC hen _))
  · have : b = true := by
      rw [hb]
      rcases hcc with rfl | rfl | rfl | rfl | rfl
      · decide +kernel
      · decide +kernel
      · exact absurd rfl hc2
      · decide +kernel
      · decide +kernel
    subst this
    exact qr (kk _ e7)
theorem qNt {H : Hp} {x y : Addr} {ts : List (List Im)} {tie : List Int} {Q : VK} (h1 : TabF H (.ref x) ts tie) (h2 : TabF H (.ref y) ts tie) (q : Q (.bl true) H) : qMz K false (.ref x) (.ref y) H Q := by
  refine ⟨_, _, h1.rep, h2.rep, rfl, by have := (qFb ts tie).2; omega, ?_⟩
  rw [(qFb ts tie).1]
  exact q
theorem qMl (T : Tx K mg a) : FnOk P w K mg base CX0 13 a.a_law a.f_law ["_law_script"] (qJb K) := by
  refine T.d_law.F.ok sc_law (fun vs H Q E h => ?_) (fun cdv A outer s H vs Q E hr h => ?_)
  · obtain ⟨a, ns, rfl, _⟩ := h
    rfl
  obtain ⟨z, ns, rfl, hS, hlen, kk⟩ := h
  have hu := hr.units
  refine ⟨_, (qG (qU (i := 1) sc_law.nd rfl (Or.inl rfl) (qL jb (ql (qA qD (qA (qS qc qD (qS kK (qS zZ (qM T.d__law_cell_at (xy T) hr rfl (qA (pv 0) (qA qD qE))) qD) (qS qHe qD qD))) qE))) (qS kK (qM T.d__law_cell_at (xy T) hr rfl (qA (pv 0) (qA qD qE))) qD) (fun _ _ => rfl)))
      (qG (qU (i := 2) sc_law.nd rfl (Or.inl rfl) (qS kK (qM T.d__law_cell_at (xy T) hr rfl (qA (pv 0) (qA qD qE))) (qS qHe qD qD)))
      (qG (qU (i := 3) sc_law.nd rfl (Or.inl rfl) (qM T.d__law_table (kR T) hr rfl (qA (pv 1) qE)))
      (qG (qU (i := 4) sc_law.nd rfl (Or.inl rfl) (qM T.d__law_table (kR T) hr rfl (qA (pv 1) qE)))
      (qG (vT PassesOwn.never rfl (xW (qS jC (qM T.d__law_far (qD6 T) hr rfl (qA (pv 1) (qA (pv 2) qE))) (qM T.d__law_items (qAv T) hr rfl (qA (pv 1) (qA (pv 2) qE))))) (qJp rfl (v8 (zF (i := 5) sc_law.nd rfl (Or.inl rfl)) (v8 (zF (i := 6) sc_law.nd rfl (Or.inl rfl)) qG4))) (qH (qj (PW.pt (xA (qR kA (qM T.d__law_word (qC5 T) hr rfl (qA (pv 3) (qA (pv 5) qE))) (pv 6) (qX _)) (jS (jP (jD (qM T.d__law_any (qDz T) hr rfl (qA (pv 3) (qA (pv 5) (qA (pv 6) qE))))))))) (qH (qP kC)) qV)))
      (qH (qP (jO (qG2 hu) (pv 3) (pv 4) (qX _))))))))), ?_⟩
  try dsimp only [jT, qi]
  have e12 : (10 : Int) ^ (12 : Int).toNat = 1000000000000 := by decide
  have e9 : (10 : Int) ^ (9 : Int).toNat = 1000000000 := by decide
  refine ⟨_, rfl, z, ns, 0, rfl, hS, hlen, by decide, fun c0 => ?_⟩
  refine ⟨_, _, rfl, rfl, cdB (by decide) (by decide), _, _, rfl, rfl, cpw (n := 12) (by decide), _, _, rfl, rfl, (by show (10 : Int) ^ (12 : Int).toNat ≠ 0; decide), _, _, rfl, rfl, two, fun lf hlf => ?_⟩
  have w1 := qC hlf (.lst [.int 0, .int (1 + (c0.fdiv 2).fmod (10 ^ (12 : Int).toNat))])
  have elf : (upd H lf (.lst [.int 0, .int (1 + (c0.fdiv 2).fmod (10 ^ (12 : Int).toNat))])) lf = some (.lst [.int 0, .int (1 + (c0.fdiv 2).fmod (10 ^ (12 : Int).toNat))]) := qB
  generalize upd H lf (.lst [.int 0, .int (1 + (c0.fdiv 2).fmod (10 ^ (12 : Int).toNat))]) = H1 at w1 elf ⊢
  refine ⟨_, rfl, z, ns, 0, rfl, w1.seq hS, hlen, by decide, fun c0' => ?_⟩
  have f2 := fm c0' (show (0 : Int) < 2 by decide)
  have f12 := fm (c0.fdiv 2) (show (0 : Int) < 10 ^ (12 : Int).toNat by decide)
  obtain ⟨v, hv, hvm⟩ := atN (xs := [V.int 0, .int (1 + (c0.fdiv 2).fmod (10 ^ (12 : Int).toNat))]) (n := 2) rfl f2.1 f2.2
  obtain ⟨f, rfl, hf, hF⟩ : ∃ f : Int, v = .int f ∧ 0 ≤ f ∧ f ≤ 1000000000000 := by
    simp only [List.mem_cons, List.not_mem_nil, or_false] at hvm
    rw [e12] at f12
    rcases hvm with rfl | rfl
    · exact ⟨0, rfl, by decide, by decide⟩
    · exact ⟨_, rfl, by rw [e12]; omega, by rw [e12]; omega⟩
  refine ⟨_, _, rfl, rfl, nz, lf, _, _, _, rfl, rfl, SqL.of elf, hv, ?_⟩
  refine ⟨_, rfl, z, ns, 1, rfl, w1.seq hS, hlen, by decide, fun c1 => ?_⟩
  refine ⟨_, _, rfl, rfl, cpw (n := 9) (by decide), _, _, rfl, rfl, (by show (10 : Int) ^ (9 : Int).toNat ≠ 0; decide), ?_⟩
  have f9 := fm c1 (show (0 : Int) < 10 ^ (9 : Int).toNat by decide)
  dsimp only
  generalize c1.fmod (10 ^ (9 : Int).toNat) = c at f9 ⊢
  rw [e9] at f9
  refine ⟨_, rfl, f, rfl, fun tz H2 w2 hT => ?_⟩
  refine ⟨_, rfl, f, rfl, fun ty H3 w3 hT' => ?_⟩
  refine ⟨_, rfl, _, rfl, f, c, rfl, hf, hF, f9.1, f9.2, fun la us H4 w4 hla pa lena => ?_⟩
  refine ⟨_, rfl, _, rfl, f, c, rfl, hf, hF, fun lb vs H5 w5 hlb pb lenb => ?_⟩
  refine ⟨la, lb, _, _, rfl, rfl, w5 _ _ hla, hlb, Nat.le_of_lt (qW (by omega)), fun lc hlc => ?_⟩
  have w6 := qC hlc (.lst (us ++ vs))
  have elc : (upd H5 lc (.lst (us ++ vs))) lc = some (.lst (us ++ vs)) := qB
  have PR := ((pa.same w5).app pb).same w6
  have hT := hT.same (((w3.trans w4).trans w5).trans w6)
  have hT' := hT'.same ((w4.trans w5).trans w6)
  generalize upd H5 lc (.lst (us ++ vs)) = H6 at elc PR hT hT' ⊢
  generalize us ++ vs = ps at elc PR ⊢
  refine ⟨lc, rfl, ⟨_, SqL.of elc⟩, zV (K := K) (a := lc) (xs := ps) (fun i σ H' => ∃ o1 o2 : Option V, σ = [some (.ref z), some (.int f), some (.int c), some (.ref tz), some (.ref ty), o1, o2] ∧ Same H6 H') ⟨none, none, rfl, Same.refl _⟩ ?_ ?_ ?_⟩
  · rintro i σ H' hi ⟨_, _, _, e⟩
    exact SqL.of (e _ _ elc)
  · rintro i v σ H' hv ⟨o1, o2, rfl, e⟩
    obtain ⟨p, dz, cc, rfl, hp, hc4, hD⟩ := PR v (List.mem_of_getElem? hv)
    refine ⟨p, _, rfl, SqT.of (e _ _ hp), rfl, _, _, rfl, _, _, rfl, rfl, ?_⟩
    refine ⟨_, rfl, _, rfl, tz, dz, f, cc, rfl, hT.same e, hf, hc4, hD.lss (.same e), fun H7 e7 => ?_⟩
    have e67 := e.trans e7
    refine ⟨_, rfl, rfl, _, rfl, kX (by simp) ?_⟩
    refine ⟨_, rfl, _, rfl, _, rfl, tz, dz, f, cc, rfl, hT.same e67, hf, hc4, hD.lss (.same e67), fun H8 e8 => ?_⟩
    exact ⟨true, rfl, qm ⟨_, _, rfl, e67.trans e8⟩⟩
  · rintro σ H' ⟨o1, o2, rfl, e⟩
    exact ⟨_, rfl, _, rfl, qNt (hT.same e) (hT'.same e) (kk _)⟩
end
theorem all_mk {l : W.OpenLaw} {w : World} {K : W.Frag} {h : Heap} {mg : Str → Option Value} {fa f0 f1 f2 f3 f4 f5 f6 f7 f8 f9 f10 f11 f12 f13 f14 f15 f16 f17 f18 f19 f20 f21 f22 f23 f24 f25 f26 f27 f28 f29 f30 f31 f32 f33 f34 f35 f36 f37 f38 f39 f40 f41 f42 f43 f44 f45 f46 f47 f48 f49 f50 f51 f52 f53 f54 f55 f56 f57 f58 f59 f60 f61 f62 f63 f64 f65 f66 f67 f68 f69 f70 f71 f72 f73 f74 f75 f76 f77 f78 C0 C1 C2 C3 C4 C5 nNOUGHT nROLLS nLAYS nPUSHES nCHANGES fmShort : Addr} (X : K.In h) (G : h.Ns mainGlobals mg) (hfa : mg "law" = some (.ref fa))
    {od0 an0 od1 an1 od2 an2 od3 an3 od4 an4 od5 an5 od6 an6 od7 an7 od8 an8 od9 an9 od10 an10 od11 an11 od12 an12 od13 an13 od14 an14 od15 an15 od16 an16 od17 an17 od18 an18 od19 an19 od20 an20 od21 an21 od22 an22 od23 an23 od24 an24 od25 an25 od26 an26 od27 an27 od28 an28 od29 an29 od30 an30 od31 an31 od32 an32 od33 an33 od34 an34 od35 an35 od36 an36 od37 an37 od38 an38 od39 an39 od40 an40 od41 an41 od42 an42 od43 an43 od44 an44 od45 an45 od46 an46 od47 an47 od48 an48 od49 an49 od50 an50 od51 an51 od52 an52 od53 an53 od54 an54 od55 an55 od56 an56 od57 an57 od58 an58 od59 an59 od60 an60 od61 an61 od62 an62 od63 an63 od64 an64 od65 an65 od66 an66 od67 an67 od68 an68 od69 an69 od70 an70 od71 an71 od72 an72 od73 an73 od74 an74 od75 an75 od76 an76 od77 an77 od78 an78 odNOUGHT odROLLS odLAYS odPUSHES odCHANGES odmShort anmShort : Option Addr} {sl0 sl1 sl2 sl3 sl4 sl5 sl6 sl7 sl8 sl9 sl10 sl11 sl12 sl13 sl14 sl15 sl16 sl17 sl18 sl19 sl20 sl21 sl22 sl23 sl24 sl25 sl26 sl27 sl28 sl29 sl30 sl31 sl32 sl33 sl34 sl35 sl36 sl37 sl38 sl39 sl40 sl41 sl42 sl43 sl44 sl45 sl46 sl47 sl48 sl49 sl50 sl51 sl52 sl53 sl54 sl55 sl56 sl57 sl58 sl59 sl60 sl61 sl62 sl63 sl64 sl65 sl66 sl67 sl68 sl69 sl70 sl71 sl72 sl73 sl74 sl75 sl76 sl77 sl78 slNOUGHT slROLLS slLAYS slPUSHES slCHANGES slmShort : Array (Option Value)} {oc0 kV0 dc0 pm0 cd0 ct0 oc1 kV1 dc1 pm1 cd1 ct1 oc2 kV2 dc2 pm2 cd2 ct2 oc3 kV3 dc3 pm3 cd3 ct3 oc4 kV4 dc4 pm4 cd4 ct4 oc5 kV5 dc5 pm5 cd5 ct5 oc6 kV6 dc6 pm6 cd6 ct6 oc7 kV7 dc7 pm7 cd7 ct7 oc8 kV8 dc8 pm8 cd8 ct8 oc9 kV9 dc9 pm9 cd9 ct9 oc10 kV10 dc10 pm10 cd10 ct10 oc11 kV11 dc11 pm11 cd11 ct11 oc12 kV12 dc12 pm12 cd12 ct12 oc13 kV13 dc13 pm13 cd13 ct13 oc14 kV14 dc14 pm14 cd14 ct14 oc15 kV15 dc15 pm15 cd15 ct15 oc16 kV16 dc16 pm16 cd16 ct16 oc17 kV17 dc17 pm17 cd17 ct17 oc18 kV18 dc18 pm18 cd18 ct18 oc19 kV19 dc19 pm19 cd19 ct19 oc20 kV20 dc20 pm20 cd20 ct20 oc21 kV21 dc21 pm21 cd21 ct21 oc22 kV22 dc22 pm22 cd22 ct22 oc23 kV23 dc23 pm23 cd23 ct23 oc24 kV24 dc24 pm24 cd24 ct24 oc25 kV25 dc25 pm25 cd25 ct25 oc26 kV26 dc26 pm26 cd26 ct26 oc27 kV27 dc27 pm27 cd27 ct27 oc28 kV28 dc28 pm28 cd28 ct28 oc29 kV29 dc29 pm29 cd29 ct29 oc30 kV30 dc30 pm30 cd30 ct30 oc31 kV31 dc31 pm31 cd31 ct31 oc32 kV32 dc32 pm32 cd32 ct32 oc33 kV33 dc33 pm33 cd33 ct33 oc34 kV34 dc34 pm34 cd34 ct34 oc35 kV35 dc35 pm35 cd35 ct35 oc36 kV36 dc36 pm36 cd36 ct36 oc37 kV37 dc37 pm37 cd37 ct37 oc38 kV38 dc38 pm38 cd38 ct38 oc39 kV39 dc39 pm39 cd39 ct39 oc40 kV40 dc40 pm40 cd40 ct40 oc41 kV41 dc41 pm41 cd41 ct41 oc42 kV42 dc42 pm42 cd42 ct42 oc43 kV43 dc43 pm43 cd43 ct43 oc44 kV44 dc44 pm44 cd44 ct44 oc45 kV45 dc45 pm45 cd45 ct45 oc46 kV46 dc46 pm46 cd46 ct46 oc47 kV47 dc47 pm47 cd47 ct47 oc48 kV48 dc48 pm48 cd48 ct48 oc49 kV49 dc49 pm49 cd49 ct49 oc50 kV50 dc50 pm50 cd50 ct50 oc51 kV51 dc51 pm51 cd51 ct51 oc52 kV52 dc52 pm52 cd52 ct52 oc53 kV53 dc53 pm53 cd53 ct53 oc54 kV54 dc54 pm54 cd54 ct54 oc55 kV55 dc55 pm55 cd55 ct55 oc56 kV56 dc56 pm56 cd56 ct56 oc57 kV57 dc57 pm57 cd57 ct57 oc58 kV58 dc58 pm58 cd58 ct58 oc59 kV59 dc59 pm59 cd59 ct59 oc60 kV60 dc60 pm60 cd60 ct60 oc61 kV61 dc61 pm61 cd61 ct61 oc62 kV62 dc62 pm62 cd62 ct62 oc63 kV63 dc63 pm63 cd63 ct63 oc64 kV64 dc64 pm64 cd64 ct64 oc65 kV65 dc65 pm65 cd65 ct65 oc66 kV66 dc66 pm66 cd66 ct66 oc67 kV67 dc67 pm67 cd67 ct67 oc68 kV68 dc68 pm68 cd68 ct68 oc69 kV69 dc69 pm69 cd69 ct69 oc70 kV70 dc70 pm70 cd70 ct70 oc71 kV71 dc71 pm71 cd71 ct71 oc72 kV72 dc72 pm72 cd72 ct72 oc73 kV73 dc73 pm73 cd73 ct73 oc74 kV74 dc74 pm74 cd74 ct74 oc75 kV75 dc75 pm75 cd75 ct75 oc76 kV76 dc76 pm76 cd76 ct76 oc77 kV77 dc77 pm77 cd77 ct77 oc78 kV78 dc78 pm78 cd78 ct78 ocmShort kVmShort dcmShort pmmShort cdmShort ctmShort : Value} {tLETTERS tLONGEST_NAME tMOST_ROOM tNOUGHT_0 tNOUGHT_1 tMOST_BY tROLLS_0 tROLLS_1 tROLLS_2 tLAYS_0 tLAYS_1 tPUSHES_0 tPUSHES_1 tPUSHES_2 tCHANGES_0 tCHANGES_1 tCHANGES_2 tCHANGES_3 tCHANGES_4 tCHANGES_5 : Tok} {nnNOUGHT nnROLLS nnLAYS nnPUSHES nnCHANGES : Nat}
    (a0 : W.nsIn K mainGlobals "is_whole" = some (some (.ref f0))) (l0 : K.lookup f0 = some ⟨oc0, od0, .func (W.fnOf "is_whole" "is_whole" (qO xm) (qN xm) (qF xm) .none kV0 dc0 pm0 an0 cd0 ct0), sl0⟩) (c0 : W.codeIn K cd0 "is_whole" = true) (k0 : W.keepIn K (.ref f0) = true)
    (a1 : W.nsIn K mainGlobals "common_divisor" = some (some (.ref f1))) (l1 : K.lookup f1 = some ⟨oc1, od1, .func (W.fnOf "common_divisor" "common_divisor" (qO q9) (qN q9) (qF q9) .none kV1 dc1 pm1 an1 cd1 ct1), sl1⟩) (c1 : W.codeIn K cd1 "common_divisor" = true) (k1 : W.keepIn K (.ref f1) = true)
    (a2 : W.nsIn K mainGlobals "is_fraction" = some (some (.ref f2))) (l2 : K.lookup f2 = some ⟨oc2, od2, .func (W.fnOf "is_fraction" "is_fraction" (qO jk) (qN jk) (qF jk) .none kV2 dc2 pm2 an2 cd2 ct2), sl2⟩) (c2 : W.codeIn K cd2 "is_fraction" = true) (k2 : W.keepIn K (.ref f2) = true)
    (a3 : W.nsIn K mainGlobals "fraction" = some (some (.ref f3))) (l3 : K.lookup f3 = some ⟨oc3, od3, .func (W.fnOf "fraction" "fraction" (qO xn) (qN xn) (qF xn) .none kV3 dc3 pm3 an3 cd3 ct3), sl3⟩) (c3 : W.codeIn K cd3 "fraction" = true) (k3 : W.keepIn K (.ref f3) = true)
    (a4 : W.nsIn K mainGlobals "sum_of" = some (some (.ref f4))) (l4 : K.lookup f4 = some ⟨oc4, od4, .func (W.fnOf "sum_of" "sum_of" (qO z0) (qN z0) (qF z0) .none kV4 dc4 pm4 an4 cd4 ct4), sl4⟩) (c4 : W.codeIn K cd4 "sum_of" = true) (k4 : W.keepIn K (.ref f4) = true)
    (a5 : W.nsIn K mainGlobals "less_by" = some (some (.ref f5))) (l5 : K.lookup f5 = some ⟨oc5, od5, .func (W.fnOf "less_by" "less_by" (qO zL) (qN zL) (qF zL) .none kV5 dc5 pm5 an5 cd5 ct5), sl5⟩) (c5 : W.codeIn K cd5 "less_by" = true) (k5 : W.keepIn K (.ref f5) = true)
    (a6 : W.nsIn K mainGlobals "times_of" = some (some (.ref f6))) (l6 : K.lookup f6 = some ⟨oc6, od6, .func (W.fnOf "times_of" "times_of" (qO xt) (qN xt) (qF xt) .none kV6 dc6 pm6 an6 cd6 ct6), sl6⟩) (c6 : W.codeIn K cd6 "times_of" = true) (k6 : W.keepIn K (.ref f6) = true)
    (a7 : W.nsIn K mainGlobals "quotient" = some (some (.ref f7))) (l7 : K.lookup f7 = some ⟨oc7, od7, .func (W.fnOf "quotient" "quotient" (qO xh) (qN xh) (qF xh) .none kV7 dc7 pm7 an7 cd7 ct7), sl7⟩) (c7 : W.codeIn K cd7 "quotient" = true) (k7 : W.keepIn K (.ref f7) = true)
    (a8 : W.nsIn K mainGlobals "is_before" = some (some (.ref f8))) (l8 : K.lookup f8 = some ⟨oc8, od8, .func (W.fnOf "is_before" "is_before" (qO xJ) (qN xJ) (qF xJ) .none kV8 dc8 pm8 an8 cd8 ct8), sl8⟩) (c8 : W.codeIn K cd8 "is_before" = true) (k8 : W.keepIn K (.ref f8) = true)
    (a9 : W.nsIn K mainGlobals "floor_of" = some (some (.ref f9))) (l9 : K.lookup f9 = some ⟨oc9, od9, .func (W.fnOf "floor_of" "floor_of" (qO xq) (qN xq) (qF xq) .none kV9 dc9 pm9 an9 cd9 ct9), sl9⟩) (c9 : W.codeIn K cd9 "floor_of" = true) (k9 : W.keepIn K (.ref f9) = true)
    (a10 : W.nsIn K mainGlobals "is_name" = some (some (.ref f10))) (l10 : K.lookup f10 = some ⟨oc10, od10, .func (W.fnOf "is_name" "is_name" (qO zP) (qN zP) (qF zP) .none kV10 dc10 pm10 an10 cd10 ct10), sl10⟩) (c10 : W.codeIn K cd10 "is_name" = true) (k10 : W.keepIn K (.ref f10) = true)
    (a11 : W.nsIn K mainGlobals "has_clip_form" = some (some (.ref f11))) (l11 : K.lookup f11 = some ⟨oc11, od11, .func (W.fnOf "has_clip_form" "has_clip_form" (qO jJ) (qN jJ) (qF jJ) .none kV11 dc11 pm11 an11 cd11 ct11), sl11⟩) (c11 : W.codeIn K cd11 "has_clip_form" = true) (k11 : W.keepIn K (.ref f11) = true)
    (a12 : W.nsIn K mainGlobals "place_at" = some (some (.ref f12))) (l12 : K.lookup f12 = some ⟨oc12, od12, .func (W.fnOf "place_at" "place_at" (qO xr) (qN xr) (qF xr) .none kV12 dc12 pm12 an12 cd12 ct12), sl12⟩) (c12 : W.codeIn K cd12 "place_at" = true) (k12 : W.keepIn K (.ref f12) = true)
    (a13 : W.nsIn K mainGlobals "picture_at" = some (some (.ref f13))) (l13 : K.lookup f13 = some ⟨oc13, od13, .func (W.fnOf "picture_at" "picture_at" (qO jx) (qN jx) (qF jx) .none kV13 dc13 pm13 an13 cd13 ct13), sl13⟩) (c13 : W.codeIn K cd13 "picture_at" = true) (k13 : W.keepIn K (.ref f13) = true)
    (a14 : W.nsIn K mainGlobals "is_there" = some (some (.ref f14))) (l14 : K.lookup f14 = some ⟨oc14, od14, .func (W.fnOf "is_there" "is_there" (qO xp) (qN xp) (qF xp) .none kV14 dc14 pm14 an14 cd14 ct14), sl14⟩) (c14 : W.codeIn K cd14 "is_there" = true) (k14 : W.keepIn K (.ref f14) = true)
    (a15 : W.nsIn K mainGlobals "check_clip" = some (some (.ref f15))) (l15 : K.lookup f15 = some ⟨oc15, od15, .func (W.fnOf "check_clip" "check_clip" (qO j2) (qN j2) (qF j2) .none kV15 dc15 pm15 an15 cd15 ct15), sl15⟩) (c15 : W.codeIn K cd15 "check_clip" = true) (k15 : W.keepIn K (.ref f15) = true)
    (a16 : W.nsIn K mainGlobals "clip_part" = some (some (.ref f16))) (l16 : K.lookup f16 = some ⟨oc16, od16, .func (W.fnOf "clip_part" "clip_part" (qO xO) (qN xO) (qF xO) .none kV16 dc16 pm16 an16 cd16 ct16), sl16⟩) (c16 : W.codeIn K cd16 "clip_part" = true) (k16 : W.keepIn K (.ref f16) = true)
    (a17 : W.nsIn K mainGlobals "goes_on" = some (some (.ref f17))) (l17 : K.lookup f17 = some ⟨oc17, od17, .func (W.fnOf "goes_on" "goes_on" (qO zM) (qN zM) (qF zM) .none kV17 dc17 pm17 an17 cd17 ct17), sl17⟩) (c17 : W.codeIn K cd17 "goes_on" = true) (k17 : W.keepIn K (.ref f17) = true)
    (a18 : W.nsIn K mainGlobals "moments_there" = some (some (.ref f18))) (l18 : K.lookup f18 = some ⟨oc18, od18, .func (W.fnOf "moments_there" "moments_there" (qO jK) (qN jK) (qF jK) .none kV18 dc18 pm18 an18 cd18 ct18), sl18⟩) (c18 : W.codeIn K cd18 "moments_there" = true) (k18 : W.keepIn K (.ref f18) = true)
    (a19 : W.nsIn K mainGlobals "head_room" = some (some (.ref f19))) (l19 : K.lookup f19 = some ⟨oc19, od19, .func (W.fnOf "head_room" "head_room" (qO xK) (qN xK) (qF xK) .none kV19 dc19 pm19 an19 cd19 ct19), sl19⟩) (c19 : W.codeIn K cd19 "head_room" = true) (k19 : W.keepIn K (.ref f19) = true)
    (a20 : W.nsIn K mainGlobals "tail_room" = some (some (.ref f20))) (l20 : K.lookup f20 = some ⟨oc20, od20, .func (W.fnOf "tail_room" "tail_room" (qO xG) (qN xG) (qF xG) .none kV20 dc20 pm20 an20 cd20 ct20), sl20⟩) (c20 : W.codeIn K cd20 "tail_room" = true) (k20 : W.keepIn K (.ref f20) = true)
    (a21 : W.nsIn K mainGlobals "is_length" = some (some (.ref f21))) (l21 : K.lookup f21 = some ⟨oc21, od21, .func (W.fnOf "is_length" "is_length" (qO xE) (qN xE) (qF xE) .none kV21 dc21 pm21 an21 cd21 ct21), sl21⟩) (c21 : W.codeIn K cd21 "is_length" = true) (k21 : W.keepIn K (.ref f21) = true)
    (a22 : W.nsIn K mainGlobals "has_nest_form" = some (some (.ref f22))) (l22 : K.lookup f22 = some ⟨oc22, od22, .func (W.fnOf "has_nest_form" "has_nest_form" (qO jG) (qN jG) (qF jG) .none kV22 dc22 pm22 an22 cd22 ct22), sl22⟩) (c22 : W.codeIn K cd22 "has_nest_form" = true) (k22 : W.keepIn K (.ref f22) = true)
    (a23 : W.nsIn K mainGlobals "moments_of" = some (some (.ref f23))) (l23 : K.lookup f23 = some ⟨oc23, od23, .func (W.fnOf "moments_of" "moments_of" (qO jy) (qN jy) (qF jy) .none kV23 dc23 pm23 an23 cd23 ct23), sl23⟩) (c23 : W.codeIn K cd23 "moments_of" = true) (k23 : W.keepIn K (.ref f23) = true)
    (a24 : W.nsIn K mainGlobals "one_form" = some (some (.ref f24))) (l24 : K.lookup f24 = some ⟨oc24, od24, .func (W.fnOf "one_form" "one_form" (qO xl) (qN xl) (qF xl) .none kV24 dc24 pm24 an24 cd24 ct24), sl24⟩) (c24 : W.codeIn K cd24 "one_form" = true) (k24 : W.keepIn K (.ref f24) = true)
    (a25 : W.nsIn K mainGlobals "length_of" = some (some (.ref f25))) (l25 : K.lookup f25 = some ⟨oc25, od25, .func (W.fnOf "length_of" "length_of" (qO xI) (qN xI) (qF xI) .none kV25 dc25 pm25 an25 cd25 ct25), sl25⟩) (c25 : W.codeIn K cd25 "length_of" = true) (k25 : W.keepIn K (.ref f25) = true)
    (a26 : W.nsIn K mainGlobals "item_at" = some (some (.ref f26))) (l26 : K.lookup f26 = some ⟨oc26, od26, .func (W.fnOf "item_at" "item_at" (qO zQ) (qN zQ) (qF zQ) .none kV26 dc26 pm26 an26 cd26 ct26), sl26⟩) (c26 : W.codeIn K cd26 "item_at" = true) (k26 : W.keepIn K (.ref f26) = true)
    (a27 : W.nsIn K mainGlobals "kind_at" = some (some (.ref f27))) (l27 : K.lookup f27 = some ⟨oc27, od27, .func (W.fnOf "kind_at" "kind_at" (qO zO) (qN zO) (qF zO) .none kV27 dc27 pm27 an27 cd27 ct27), sl27⟩) (c27 : W.codeIn K cd27 "kind_at" = true) (k27 : W.keepIn K (.ref f27) = true)
    (a28 : W.nsIn K mainGlobals "place_ahead" = some (some (.ref f28))) (l28 : K.lookup f28 = some ⟨oc28, od28, .func (W.fnOf "place_ahead" "place_ahead" (qO jm) (qN jm) (qF jm) .none kV28 dc28 pm28 an28 cd28 ct28), sl28⟩) (c28 : W.codeIn K cd28 "place_ahead" = true) (k28 : W.keepIn K (.ref f28) = true)
    (a29 : W.nsIn K mainGlobals "place_behind" = some (some (.ref f29))) (l29 : K.lookup f29 = some ⟨oc29, od29, .func (W.fnOf "place_behind" "place_behind" (qO jW) (qN jW) (qF jW) .none kV29 dc29 pm29 an29 cd29 ct29), sl29⟩) (c29 : W.codeIn K cd29 "place_behind" = true) (k29 : W.keepIn K (.ref f29) = true)
    (a30 : W.nsIn K mainGlobals "neighbours_at" = some (some (.ref f30))) (l30 : K.lookup f30 = some ⟨oc30, od30, .func (W.fnOf "neighbours_at" "neighbours_at" (qO jL) (qN jL) (qF jL) .none kV30 dc30 pm30 an30 cd30 ct30), sl30⟩) (c30 : W.codeIn K cd30 "neighbours_at" = true) (k30 : W.keepIn K (.ref f30) = true)
    (a31 : W.nsIn K mainGlobals "clips_at_border" = some (some (.ref f31))) (l31 : K.lookup f31 = some ⟨oc31, od31, .func (W.fnOf "clips_at_border" "clips_at_border" (qO qv) (qN qv) (qF qv) .none kV31 dc31 pm31 an31 cd31 ct31), sl31⟩) (c31 : W.codeIn K cd31 "clips_at_border" = true) (k31 : W.keepIn K (.ref f31) = true)
    (a32 : W.nsIn K mainGlobals "lies_within" = some (some (.ref f32))) (l32 : K.lookup f32 = some ⟨oc32, od32, .func (W.fnOf "lies_within" "lies_within" (qO jf) (qN jf) (qF jf) .none kV32 dc32 pm32 an32 cd32 ct32), sl32⟩) (c32 : W.codeIn K cd32 "lies_within" = true) (k32 : W.keepIn K (.ref f32) = true)
    (a33 : W.nsIn K mainGlobals "item_part" = some (some (.ref f33))) (l33 : K.lookup f33 = some ⟨oc33, od33, .func (W.fnOf "item_part" "item_part" (qO xR) (qN xR) (qF xR) .none kV33 dc33 pm33 an33 cd33 ct33), sl33⟩) (c33 : W.codeIn K cd33 "item_part" = true) (k33 : W.keepIn K (.ref f33) = true)
    (a34 : W.nsIn K mainGlobals "part_of_track" = some (some (.ref f34))) (l34 : K.lookup f34 = some ⟨oc34, od34, .func (W.fnOf "part_of_track" "part_of_track" (qO jF) (qN jF) (qF jF) .none kV34 dc34 pm34 an34 cd34 ct34), sl34⟩) (c34 : W.codeIn K cd34 "part_of_track" = true) (k34 : W.keepIn K (.ref f34) = true)
    (a35 : W.nsIn K mainGlobals "part_ahead" = some (some (.ref f35))) (l35 : K.lookup f35 = some ⟨oc35, od35, .func (W.fnOf "part_ahead" "part_ahead" (qO jz) (qN jz) (qF jz) .none kV35 dc35 pm35 an35 cd35 ct35), sl35⟩) (c35 : W.codeIn K cd35 "part_ahead" = true) (k35 : W.keepIn K (.ref f35) = true)
    (a36 : W.nsIn K mainGlobals "part_behind" = some (some (.ref f36))) (l36 : K.lookup f36 = some ⟨oc36, od36, .func (W.fnOf "part_behind" "part_behind" (qO jj) (qN jj) (qF jj) .none kV36 dc36 pm36 an36 cd36 ct36), sl36⟩) (c36 : W.codeIn K cd36 "part_behind" = true) (k36 : W.keepIn K (.ref f36) = true)
    (a37 : W.nsIn K mainGlobals "mix_spans" = some (some (.ref f37))) (l37 : K.lookup f37 = some ⟨oc37, od37, .func (W.fnOf "mix_spans" "mix_spans" (qO xQ) (qN xQ) (qF xQ) .none kV37 dc37 pm37 an37 cd37 ct37), sl37⟩) (c37 : W.codeIn K cd37 "mix_spans" = true) (k37 : W.keepIn K (.ref f37) = true)
    (a38 : W.nsIn K mainGlobals "taken_at_begin" = some (some (.ref f38))) (l38 : K.lookup f38 = some ⟨oc38, od38, .func (W.fnOf "taken_at_begin" "taken_at_begin" (qO jQ) (qN jQ) (qF jQ) .none kV38 dc38 pm38 an38 cd38 ct38), sl38⟩) (c38 : W.codeIn K cd38 "taken_at_begin" = true) (k38 : W.keepIn K (.ref f38) = true)
    (a39 : W.nsIn K mainGlobals "taken_at_end" = some (some (.ref f39))) (l39 : K.lookup f39 = some ⟨oc39, od39, .func (W.fnOf "taken_at_end" "taken_at_end" (qO jq) (qN jq) (qF jq) .none kV39 dc39 pm39 an39 cd39 ct39), sl39⟩) (c39 : W.codeIn K cd39 "taken_at_end" = true) (k39 : W.keepIn K (.ref f39) = true)
    (a40 : W.nsIn K mainGlobals "most_mix" = some (some (.ref f40))) (l40 : K.lookup f40 = some ⟨oc40, od40, .func (W.fnOf "most_mix" "most_mix" (qO zR) (qN zR) (qF zR) .none kV40 dc40 pm40 an40 cd40 ct40), sl40⟩) (c40 : W.codeIn K cd40 "most_mix" = true) (k40 : W.keepIn K (.ref f40) = true)
    (a41 : W.nsIn K mainGlobals "check_place" = some (some (.ref f41))) (l41 : K.lookup f41 = some ⟨oc41, od41, .func (W.fnOf "check_place" "check_place" (qO jg) (qN jg) (qF jg) .none kV41 dc41 pm41 an41 cd41 ct41), sl41⟩) (c41 : W.codeIn K cd41 "check_place" = true) (k41 : W.keepIn K (.ref f41) = true)
    (a42 : W.nsIn K mainGlobals "check_by" = some (some (.ref f42))) (l42 : K.lookup f42 = some ⟨oc42, od42, .func (W.fnOf "check_by" "check_by" (qO xj) (qN xj) (qF xj) .none kV42 dc42 pm42 an42 cd42 ct42), sl42⟩) (c42 : W.codeIn K cd42 "check_by" = true) (k42 : W.keepIn K (.ref f42) = true)
    (a43 : W.nsIn K mainGlobals "clip_there" = some (some (.ref f43))) (l43 : K.lookup f43 = some ⟨oc43, od43, .func (W.fnOf "clip_there" "clip_there" (qO ju) (qN ju) (qF ju) .none kV43 dc43 pm43 an43 cd43 ct43), sl43⟩) (c43 : W.codeIn K cd43 "clip_there" = true) (k43 : W.keepIn K (.ref f43) = true)
    (a44 : W.nsIn K mainGlobals "clip_and_sides" = some (some (.ref f44))) (l44 : K.lookup f44 = some ⟨oc44, od44, .func (W.fnOf "clip_and_sides" "clip_and_sides" (qO qz) (qN qz) (qF qz) .none kV44 dc44 pm44 an44 cd44 ct44), sl44⟩) (c44 : W.codeIn K cd44 "clip_and_sides" = true) (k44 : W.keepIn K (.ref f44) = true)
    (a45 : W.nsIn K mainGlobals "places_named" = some (some (.ref f45))) (l45 : K.lookup f45 = some ⟨oc45, od45, .func (W.fnOf "places_named" "places_named" (qO jU) (qN jU) (qF jU) .none kV45 dc45 pm45 an45 cd45 ct45), sl45⟩) (c45 : W.codeIn K cd45 "places_named" = true) (k45 : W.keepIn K (.ref f45) = true)
    (a46 : W.nsIn K mainGlobals "has_mix" = some (some (.ref f46))) (l46 : K.lookup f46 = some ⟨oc46, od46, .func (W.fnOf "has_mix" "has_mix" (qO zN) (qN zN) (qF zN) .none kV46 dc46 pm46 an46 cd46 ct46), sl46⟩) (c46 : W.codeIn K cd46 "has_mix" = true) (k46 : W.keepIn K (.ref f46) = true)
    (a47 : W.nsIn K mainGlobals "check_short" = some (some (.ref f47))) (l47 : K.lookup f47 = some ⟨oc47, od47, .func (W.fnOf "check_short" "check_short" (qO ji) (qN ji) (qF ji) .none kV47 dc47 pm47 an47 cd47 ct47), sl47⟩) (c47 : W.codeIn K cd47 "check_short" = true) (k47 : W.keepIn K (.ref f47) = true)
    (a48 : W.nsIn K mainGlobals "most_slip" = some (some (.ref f48))) (l48 : K.lookup f48 = some ⟨oc48, od48, .func (W.fnOf "most_slip" "most_slip" (qO xB) (qN xB) (qF xB) .none kV48 dc48 pm48 an48 cd48 ct48), sl48⟩) (c48 : W.codeIn K cd48 "most_slip" = true) (k48 : W.keepIn K (.ref f48) = true)
    (a49 : W.nsIn K mainGlobals "most_roll" = some (some (.ref f49))) (l49 : K.lookup f49 = some ⟨oc49, od49, .func (W.fnOf "most_roll" "most_roll" (qO xL) (qN xL) (qF xL) .none kV49 dc49 pm49 an49 cd49 ct49), sl49⟩) (c49 : W.codeIn K cd49 "most_roll" = true) (k49 : W.keepIn K (.ref f49) = true)
    (a50 : W.nsIn K mainGlobals "slipped" = some (some (.ref f50))) (l50 : K.lookup f50 = some ⟨oc50, od50, .func (W.fnOf "slipped" "slipped" (qO zS) (qN zS) (qF zS) .none kV50 dc50 pm50 an50 cd50 ct50), sl50⟩) (c50 : W.codeIn K cd50 "slipped" = true) (k50 : W.keepIn K (.ref f50) = true)
    (a51 : W.nsIn K mainGlobals "with_rolled_ends" = some (some (.ref f51))) (l51 : K.lookup f51 = some ⟨oc51, od51, .func (W.fnOf "with_rolled_ends" "with_rolled_ends" (qO qq) (qN qq) (qF qq) .none kV51 dc51 pm51 an51 cd51 ct51), sl51⟩) (c51 : W.codeIn K cd51 "with_rolled_ends" = true) (k51 : W.keepIn K (.ref f51) = true)
    (a52 : W.nsIn K mainGlobals "table_with" = some (some (.ref f52))) (l52 : K.lookup f52 = some ⟨oc52, od52, .func (W.fnOf "table_with" "table_with" (qO jv) (qN jv) (qF jv) .none kV52 dc52 pm52 an52 cd52 ct52), sl52⟩) (c52 : W.codeIn K cd52 "table_with" = true) (k52 : W.keepIn K (.ref f52) = true)
    (a53 : W.nsIn K mainGlobals "rolled" = some (some (.ref f53))) (l53 : K.lookup f53 = some ⟨oc53, od53, .func (W.fnOf "rolled" "rolled" (qO z9) (qN z9) (qF z9) .none kV53 dc53 pm53 an53 cd53 ct53), sl53⟩) (c53 : W.codeIn K cd53 "rolled" = true) (k53 : W.keepIn K (.ref f53) = true)
    (a54 : W.nsIn K mainGlobals "stretch_of" = some (some (.ref f54))) (l54 : K.lookup f54 = some ⟨oc54, od54, .func (W.fnOf "stretch_of" "stretch_of" (qO j1) (qN j1) (qF j1) .none kV54 dc54 pm54 an54 cd54 ct54), sl54⟩) (c54 : W.codeIn K cd54 "stretch_of" = true) (k54 : W.keepIn K (.ref f54) = true)
    (a55 : W.nsIn K mainGlobals "laid_by" = some (some (.ref f55))) (l55 : K.lookup f55 = some ⟨oc55, od55, .func (W.fnOf "laid_by" "laid_by" (qO zI) (qN zI) (qF zI) .none kV55 dc55 pm55 an55 cd55 ct55), sl55⟩) (c55 : W.codeIn K cd55 "laid_by" = true) (k55 : W.keepIn K (.ref f55) = true)
    (a56 : W.nsIn K mainGlobals "laid_on_tied" = some (some (.ref f56))) (l56 : K.lookup f56 = some ⟨oc56, od56, .func (W.fnOf "laid_on_tied" "laid_on_tied" (qO jX) (qN jX) (qF jX) .none kV56 dc56 pm56 an56 cd56 ct56), sl56⟩) (c56 : W.codeIn K cd56 "laid_on_tied" = true) (k56 : W.keepIn K (.ref f56) = true)
    (a57 : W.nsIn K mainGlobals "tracks_changed" = some (some (.ref f57))) (l57 : K.lookup f57 = some ⟨oc57, od57, .func (W.fnOf "tracks_changed" "tracks_changed" (qO jA) (qN jA) (qF jA) .none kV57 dc57 pm57 an57 cd57 ct57), sl57⟩) (c57 : W.codeIn K cd57 "tracks_changed" = true) (k57 : W.keepIn K (.ref f57) = true)
    (a58 : W.nsIn K mainGlobals "check_numbers" = some (some (.ref f58))) (l58 : K.lookup f58 = some ⟨oc58, od58, .func (W.fnOf "check_numbers" "check_numbers" (qO jH) (qN jH) (qF jH) .none kV58 dc58 pm58 an58 cd58 ct58), sl58⟩) (c58 : W.codeIn K cd58 "check_numbers" = true) (k58 : W.keepIn K (.ref f58) = true)
    (a59 : W.nsIn K mainGlobals "touches_mix" = some (some (.ref f59))) (l59 : K.lookup f59 = some ⟨oc59, od59, .func (W.fnOf "touches_mix" "touches_mix" (qO jh) (qN jh) (qF jh) .none kV59 dc59 pm59 an59 cd59 ct59), sl59⟩) (c59 : W.codeIn K cd59 "touches_mix" = true) (k59 : W.keepIn K (.ref f59) = true)
    (a60 : W.nsIn K mainGlobals "check_mixes" = some (some (.ref f60))) (l60 : K.lookup f60 = some ⟨oc60, od60, .func (W.fnOf "check_mixes" "check_mixes" (qO jl) (qN jl) (qF jl) .none kV60 dc60 pm60 an60 cd60 ct60), sl60⟩) (c60 : W.codeIn K cd60 "check_mixes" = true) (k60 : W.keepIn K (.ref f60) = true)
    (a61 : W.nsIn K mainGlobals "check_change" = some (some (.ref f61))) (l61 : K.lookup f61 = some ⟨oc61, od61, .func (W.fnOf "check_change" "check_change" (qO jY) (qN jY) (qF jY) .none kV61 dc61 pm61 an61 cd61 ct61), sl61⟩) (c61 : W.codeIn K cd61 "check_change" = true) (k61 : W.keepIn K (.ref f61) = true)
    (a62 : W.nsIn K mainGlobals "nest_goes_on" = some (some (.ref f62))) (l62 : K.lookup f62 = some ⟨oc62, od62, .func (W.fnOf "nest_goes_on" "nest_goes_on" (qO jp) (qN jp) (qF jp) .none kV62 dc62 pm62 an62 cd62 ct62), sl62⟩) (c62 : W.codeIn K cd62 "nest_goes_on" = true) (k62 : W.keepIn K (.ref f62) = true)
    (a63 : W.nsIn K mainGlobals "can_heal" = some (some (.ref f63))) (l63 : K.lookup f63 = some ⟨oc63, od63, .func (W.fnOf "can_heal" "can_heal" (qO xk) (qN xk) (qF xk) .none kV63 dc63 pm63 an63 cd63 ct63), sl63⟩) (c63 : W.codeIn K cd63 "can_heal" = true) (k63 : W.keepIn K (.ref f63) = true)
    (a64 : W.nsIn K mainGlobals "healed" = some (some (.ref f64))) (l64 : K.lookup f64 = some ⟨oc64, od64, .func (W.fnOf "healed" "healed" (qO zy) (qN zy) (qF zy) .none kV64 dc64 pm64 an64 cd64 ct64), sl64⟩) (c64 : W.codeIn K cd64 "healed" = true) (k64 : W.keepIn K (.ref f64) = true)
    (a65 : W.nsIn K mainGlobals "mixed" = some (some (.ref f65))) (l65 : K.lookup f65 = some ⟨oc65, od65, .func (W.fnOf "mixed" "mixed" (qO vF) (qN vF) (qF vF) .none kV65 dc65 pm65 an65 cd65 ct65), sl65⟩) (c65 : W.codeIn K cd65 "mixed" = true) (k65 : W.keepIn K (.ref f65) = true)
    (a66 : W.nsIn K mainGlobals "unmixed" = some (some (.ref f66))) (l66 : K.lookup f66 = some ⟨oc66, od66, .func (W.fnOf "unmixed" "unmixed" (qO zH) (qN zH) (qF zH) .none kV66 dc66 pm66 an66 cd66 ct66), sl66⟩) (c66 : W.codeIn K cd66 "unmixed" = true) (k66 : W.keepIn K (.ref f66) = true)
    (a67 : W.nsIn K mainGlobals "relaid" = some (some (.ref f67))) (l67 : K.lookup f67 = some ⟨oc67, od67, .func (W.fnOf "relaid" "relaid" (qO z8) (qN z8) (qF z8) .none kV67 dc67 pm67 an67 cd67 ct67), sl67⟩) (c67 : W.codeIn K cd67 "relaid" = true) (k67 : W.keepIn K (.ref f67) = true)
    (a68 : W.nsIn K mainGlobals "changed" = some (some (.ref f68))) (l68 : K.lookup f68 = some ⟨oc68, od68, .func (W.fnOf "changed" "changed" (qO zJ) (qN zJ) (qF zJ) .none kV68 dc68 pm68 an68 cd68 ct68), sl68⟩) (c68 : W.codeIn K cd68 "changed" = true) (k68 : W.keepIn K (.ref f68) = true)
    (a69 : W.nsIn K mainGlobals "deed_done" = some (some (.ref f69))) (l69 : K.lookup f69 = some ⟨oc69, od69, .func (W.fnOf "deed_done" "deed_done" (qO xH) (qN xH) (qF xH) .none kV69 dc69 pm69 an69 cd69 ct69), sl69⟩) (c69 : W.codeIn K cd69 "deed_done" = true) (k69 : W.keepIn K (.ref f69) = true)
    (a70 : W.nsIn K mainGlobals "_law_cell_at" = some (some (.ref f70))) (l70 : K.lookup f70 = some ⟨oc70, od70, .func (W.fnOf "_law_cell_at" "_law_cell_at" (qO jV) (qN jV) (qF jV) .none kV70 dc70 pm70 an70 cd70 ct70), sl70⟩) (c70 : W.codeIn K cd70 "_law_cell_at" = true) (k70 : W.keepIn K (.ref f70) = true)
    (a71 : W.nsIn K mainGlobals "_law_table" = some (some (.ref f71))) (l71 : K.lookup f71 = some ⟨oc71, od71, .func (W.fnOf "_law_table" "_law_table" (qO j0) (qN j0) (qF j0) .none kV71 dc71 pm71 an71 cd71 ct71), sl71⟩) (c71 : W.codeIn K cd71 "_law_table" = true) (k71 : W.keepIn K (.ref f71) = true)
    (a72 : W.nsIn K mainGlobals "_law_word" = some (some (.ref f72))) (l72 : K.lookup f72 = some ⟨oc72, od72, .func (W.fnOf "_law_word" "_law_word" (qO xF) (qN xF) (qF xF) .none kV72 dc72 pm72 an72 cd72 ct72), sl72⟩) (c72 : W.codeIn K cd72 "_law_word" = true) (k72 : W.keepIn K (.ref f72) = true)
    (a73 : W.nsIn K mainGlobals "_law_any" = some (some (.ref f73))) (l73 : K.lookup f73 = some ⟨oc73, od73, .func (W.fnOf "_law_any" "_law_any" (qO xw) (qN xw) (qF xw) .none kV73 dc73 pm73 an73 cd73 ct73), sl73⟩) (c73 : W.codeIn K cd73 "_law_any" = true) (k73 : W.keepIn K (.ref f73) = true)
    (a74 : W.nsIn K mainGlobals "_law_bad_item" = some (some (.ref f74))) (l74 : K.lookup f74 = some ⟨oc74, od74, .func (W.fnOf "_law_bad_item" "_law_bad_item" (qO jI) (qN jI) (qF jI) .none kV74 dc74 pm74 an74 cd74 ct74), sl74⟩) (c74 : W.codeIn K cd74 "_law_bad_item" = true) (k74 : W.keepIn K (.ref f74) = true)
    (a75 : W.nsIn K mainGlobals "_law_bad_moment" = some (some (.ref f75))) (l75 : K.lookup f75 = some ⟨oc75, od75, .func (W.fnOf "_law_bad_moment" "_law_bad_moment" (qO qx) (qN qx) (qF qx) .none kV75 dc75 pm75 an75 cd75 ct75), sl75⟩) (c75 : W.codeIn K cd75 "_law_bad_moment" = true) (k75 : W.keepIn K (.ref f75) = true)
    (a76 : W.nsIn K mainGlobals "_law_far" = some (some (.ref f76))) (l76 : K.lookup f76 = some ⟨oc76, od76, .func (W.fnOf "_law_far" "_law_far" (qO xo) (qN xo) (qF xo) .none kV76 dc76 pm76 an76 cd76 ct76), sl76⟩) (c76 : W.codeIn K cd76 "_law_far" = true) (k76 : W.keepIn K (.ref f76) = true)
    (a77 : W.nsIn K mainGlobals "_law_items" = some (some (.ref f77))) (l77 : K.lookup f77 = some ⟨oc77, od77, .func (W.fnOf "_law_items" "_law_items" (qO jw) (qN jw) (qF jw) .none kV77 dc77 pm77 an77 cd77 ct77), sl77⟩) (c77 : W.codeIn K cd77 "_law_items" = true) (k77 : W.keepIn K (.ref f77) = true)
    (a78 : W.nsIn K mainGlobals "law" = some (some (.ref f78))) (l78 : K.lookup f78 = some ⟨oc78, od78, .func (W.fnOf "law" "law" (qO qBn) (qN qBn) (qF qBn) .none kV78 dc78 pm78 an78 cd78 ct78), sl78⟩) (c78 : W.codeIn K cd78 "law" = true) (k78 : W.keepIn K (.ref f78) = true)
    (xg0 : W.nsIn K mainGlobals "CutError" = some (some (.ref C0)))
    (xg1 : W.nsIn K mainGlobals "NoNumber" = some (some (.ref C1)))
    (xg2 : W.nsIn K mainGlobals "NoClip" = some (some (.ref C2)))
    (xg3 : W.nsIn K mainGlobals "NoPlace" = some (some (.ref C3)))
    (xg4 : W.nsIn K mainGlobals "Mixed" = some (some (.ref C4)))
    (xg5 : W.nsIn K mainGlobals "Short" = some (some (.ref C5)))
    (x_NoClip : L3.OwnX K C2)
    (x_NoPlace : L3.OwnX K C3)
    (x_Mixed : L3.OwnX K C4)
    (e_NoPlace : L3.ExcK K C3)
    (e_NoClip : L3.ExcK K C2)
    (e_Mixed : L3.ExcK K C4)
    (e_Short : L3.ExcK K C5)
    (xPP : W.exmOne K (.ref C3) (.ref C3) = some true)
    (xCP : W.exmOne K (.ref C2) (.ref C3) = some false)
    (xCC : W.exmOne K (.ref C2) (.ref C2) = some true)
    (xMP : W.exmOne K (.ref C4) (.ref C3) = some false)
    (xMC : W.exmOne K (.ref C4) (.ref C2) = some false)
    (xMM : W.exmOne K (.ref C4) (.ref C4) = some true)
    (xSP : W.exmOne K (.ref C5) (.ref C3) = some false)
    (xSC : W.exmOne K (.ref C5) (.ref C2) = some false)
    (xSM : W.exmOne K (.ref C5) (.ref C4) = some false)
    (xSS : W.exmOne K (.ref C5) (.ref C5) = some true)
    (xP : W.exmOne K (.ref C3) (.ref C0) = some true)
    (xC : W.exmOne K (.ref C2) (.ref C0) = some true)
    (xM : W.exmOne K (.ref C4) (.ref C0) = some true)
    (xS : W.exmOne K (.ref C5) (.ref C0) = some true)
    (pP : W.kitOne K (.ref C3) (.ref C3) = some true)
    (pC : W.kitOne K (.ref C3) (.ref C2) = some false)
    (pM : W.kitOne K (.ref C3) (.ref C4) = some false)
    (pS : W.kitOne K (.ref C3) (.ref C5) = some false)
    (cP : W.kitOne K (.ref C2) (.ref C3) = some false)
    (cC : W.kitOne K (.ref C2) (.ref C2) = some true)
    (cM : W.kitOne K (.ref C2) (.ref C4) = some false)
    (cS : W.kitOne K (.ref C2) (.ref C5) = some false)
    (mP : W.kitOne K (.ref C4) (.ref C3) = some false)
    (mC : W.kitOne K (.ref C4) (.ref C2) = some false)
    (mM : W.kitOne K (.ref C4) (.ref C4) = some true)
    (mS : W.kitOne K (.ref C4) (.ref C5) = some false)
    (sP : W.kitOne K (.ref C5) (.ref C3) = some false)
    (sC : W.kitOne K (.ref C5) (.ref C2) = some false)
    (sM : W.kitOne K (.ref C5) (.ref C4) = some false)
    (sS : W.kitOne K (.ref C5) (.ref C5) = some true)
    (xz0 : W.nsIn K mainGlobals "isinstance" = some none)
    (xz1 : W.nsIn K mainGlobals "int" = some none)
    (xz2 : W.nsIn K mainGlobals "bool" = some none)
    (xz3 : W.nsIn K mainGlobals "abs" = some none)
    (xz4 : W.nsIn K mainGlobals "tuple" = some none)
    (xz5 : W.nsIn K mainGlobals "len" = some none)
    (xz6 : W.nsIn K mainGlobals "all" = some none)
    (xz7 : W.nsIn K mainGlobals "str" = some none)
    (xz8 : W.nsIn K mainGlobals "min" = some none)
    (xz9 : W.nsIn K mainGlobals "sum" = some none)
    (xz10 : W.nsIn K mainGlobals "enumerate" = some none)
    (xz11 : W.nsIn K mainGlobals "max" = some none)
    (xz12 : W.nsIn K mainGlobals "list" = some none)
    (xz13 : W.nsIn K mainGlobals "any" = some none)
    (xcLETTERS : W.nsIn K mainGlobals "LETTERS" = some (some (.str "abcdefghijklmnopqrstuvwxyz" tLETTERS)))
    (xcLONGEST_NAME : W.nsIn K mainGlobals "LONGEST_NAME" = some (some (.int 8 tLONGEST_NAME)))
    (xcMOST_ROOM : W.nsIn K mainGlobals "MOST_ROOM" = some (some (.int 1000000 tMOST_ROOM)))
    (xcNOUGHT : W.nsIn K mainGlobals "NOUGHT" = some (some (.ref nNOUGHT))) (xlNOUGHT : K.lookup nNOUGHT = some ⟨.type "tuple", odNOUGHT, .seq #[.int 0 tNOUGHT_0, .int 1 tNOUGHT_1] nnNOUGHT, slNOUGHT⟩)
    (xcMOST_BY : W.nsIn K mainGlobals "MOST_BY" = some (some (.int 1000000 tMOST_BY)))
    (xcROLLS : W.nsIn K mainGlobals "ROLLS" = some (some (.ref nROLLS))) (xlROLLS : K.lookup nROLLS = some ⟨.type "tuple", odROLLS, .seq #[.str "roll" tROLLS_0, .str "slip" tROLLS_1, .str "slide" tROLLS_2] nnROLLS, slROLLS⟩)
    (xcLAYS : W.nsIn K mainGlobals "LAYS" = some (some (.ref nLAYS))) (xlLAYS : K.lookup nLAYS = some ⟨.type "tuple", odLAYS, .seq #[.str "lay_in" tLAYS_0, .str "lay_over" tLAYS_1] nnLAYS, slLAYS⟩)
    (xcPUSHES : W.nsIn K mainGlobals "PUSHES" = some (some (.ref nPUSHES))) (xlPUSHES : K.lookup nPUSHES = some ⟨.type "tuple", odPUSHES, .seq #[.str "lay_in" tPUSHES_0, .str "open" tPUSHES_1, .str "close" tPUSHES_2] nnPUSHES, slPUSHES⟩)
    (xcCHANGES : W.nsIn K mainGlobals "CHANGES" = some (some (.ref nCHANGES))) (xlCHANGES : K.lookup nCHANGES = some ⟨.type "tuple", odCHANGES, .seq #[.str "cut" tCHANGES_0, .str "lay_in" tCHANGES_1, .str "open" tCHANGES_2, .str "close" tCHANGES_3, .str "lift" tCHANGES_4, .str "lay_over" tCHANGES_5] nnCHANGES, slCHANGES⟩)
    (iaShort : W.findIn K (.ref C5) "__init__" = some (some (.ref fmShort))) (ilShort : K.lookup fmShort = some ⟨ocmShort, odmShort, .func (W.fnOf "__init__" "Short.__init__" (qO z6) (qN z6) (qF z6) .none kVmShort dcmShort pmmShort anmShort cdmShort ctmShort), slmShort⟩) (icShort : W.codeIn K cdmShort "Short.__init__" = true) (ikShort : W.keepIn K (.ref fmShort) = true) (ifShort : W.isFn K (.ref fmShort) = true)
    (ivShort : L3.exOver K C5 C0 = true) (ihShort : W.hasDictIn K C5 = true) (isShort : W.findIn K (.ref C5) "__setattr__" = some (some (.builtin "object.__setattr__"))) (ixShort : L3.excInitIn K C5 fmShort = true) (itShort : W.takerIn K C5 "most" = some none)
    : ∃ fd : FuncData, (∀ (s : Shared) (v : Value), BindsTo s fd ⟨[v], []⟩ [("_law_script", v)]) ∧ ∀ base : Heap, K.In base → base.Ns mainGlobals mg → FnOk l.prog w K mg base CX0 13 fa fd ["_law_script"] (qJb K) := by
  have e := hfa.symm.trans (W.mg_of X G a78)
  obtain rfl : f78 = fa := by cases e; rfl
  have F0 := qY (st := xm) l0 c0 k0
  have b0 := F0.binds (ps := ["x"]) fun _ _ _ _ _ _ us hl => match us, hl with | [_], _ => rfl
  have F1 := qY (st := q9) l1 c1 k1
  have b1 := F1.binds (ps := ["one", "other"]) fun _ _ _ _ _ _ us hl => match us, hl with | [_, _], _ => rfl
  have F2 := qY (st := jk) l2 c2 k2
  have b2 := F2.binds (ps := ["x"]) fun _ _ _ _ _ _ us hl => match us, hl with | [_], _ => rfl
  have F3 := qY (st := xn) l3 c3 k3
  have b3 := F3.binds (ps := ["top", "bottom"]) fun _ _ _ _ _ _ us hl => match us, hl with | [_, _], _ => rfl
  have F4 := qY (st := z0) l4 c4 k4
  have b4 := F4.binds (ps := ["one", "other"]) fun _ _ _ _ _ _ us hl => match us, hl with | [_, _], _ => rfl
  have F5 := qY (st := zL) l5 c5 k5
  have b5 := F5.binds (ps := ["one", "other"]) fun _ _ _ _ _ _ us hl => match us, hl with | [_, _], _ => rfl
  have F6 := qY (st := xt) l6 c6 k6
  have b6 := F6.binds (ps := ["one", "other"]) fun _ _ _ _ _ _ us hl => match us, hl with | [_, _], _ => rfl
  have F7 := qY (st := xh) l7 c7 k7
  have b7 := F7.binds (ps := ["one", "other"]) fun _ _ _ _ _ _ us hl => match us, hl with | [_, _], _ => rfl
  have F8 := qY (st := xJ) l8 c8 k8
  have b8 := F8.binds (ps := ["one", "other"]) fun _ _ _ _ _ _ us hl => match us, hl with | [_, _], _ => rfl
  have F9 := qY (st := xq) l9 c9 k9
  have b9 := F9.binds (ps := ["one"]) fun _ _ _ _ _ _ us hl => match us, hl with | [_], _ => rfl
  have F10 := qY (st := zP) l10 c10 k10
  have b10 := F10.binds (ps := ["thing"]) fun _ _ _ _ _ _ us hl => match us, hl with | [_], _ => rfl
  have F11 := qY (st := jJ) l11 c11 k11
  have b11 := F11.binds (ps := ["item"]) fun _ _ _ _ _ _ us hl => match us, hl with | [_], _ => rfl
  have F12 := qY (st := xr) l12 c12 k12
  have b12 := F12.binds (ps := ["clip", "k"]) fun _ _ _ _ _ _ us hl => match us, hl with | [_, _], _ => rfl
  have F13 := qY (st := jx) l13 c13 k13
  have b13 := F13.binds (ps := ["clip", "k"]) fun _ _ _ _ _ _ us hl => match us, hl with | [_, _], _ => rfl
  have F14 := qY (st := xp) l14 c14 k14
  have b14 := F14.binds (ps := ["picture", "many"]) fun _ _ _ _ _ _ us hl => match us, hl with | [_, _], _ => rfl
  have F15 := qY (st := j2) l15 c15 k15
  have b15 := F15.binds (ps := ["item", "reels"]) fun _ _ _ _ _ _ us hl => match us, hl with | [_, _], _ => rfl
  have F16 := qY (st := xO) l16 c16 k16
  have b16 := F16.binds (ps := ["clip", "low", "high"]) fun _ _ _ _ _ _ us hl => match us, hl with | [_, _, _], _ => rfl
  have F17 := qY (st := zM) l17 c17 k17
  have b17 := F17.binds (ps := ["one", "other"]) fun _ _ _ _ _ _ us hl => match us, hl with | [_, _], _ => rfl
  have F18 := qY (st := jK) l18 c18 k18
  have b18 := F18.binds (ps := ["first", "step", "many"]) fun _ _ _ _ _ _ us hl => match us, hl with | [_, _, _], _ => rfl
  have F19 := qY (st := xK) l19 c19 k19
  have b19 := F19.binds (ps := ["clip", "reels"]) fun _ _ _ _ _ _ us hl => match us, hl with | [_, _], _ => rfl
  have F20 := qY (st := xG) l20 c20 k20
  have b20 := F20.binds (ps := ["clip", "reels"]) fun _ _ _ _ _ _ us hl => match us, hl with | [_, _], _ => rfl
  have F21 := qY (st := xE) l21 c21 k21
  have b21 := F21.binds (ps := ["thing"]) fun _ _ _ _ _ _ us hl => match us, hl with | [_], _ => rfl
  have F22 := qY (st := jG) l22 c22 k22
  have b22 := F22.binds (ps := ["item"]) fun _ _ _ _ _ _ us hl => match us, hl with | [_], _ => rfl
  have F23 := qY (st := jy) l23 c23 k23
  have b23 := F23.binds (ps := ["item"]) fun _ _ _ _ _ _ us hl => match us, hl with | [_], _ => rfl
  have F24 := qY (st := xl) l24 c24 k24
  have b24 := F24.binds (ps := ["some"]) fun _ _ _ _ _ _ us hl => match us, hl with | [_], _ => rfl
  have F25 := qY (st := xI) l25 c25 k25
  have b25 := F25.binds (ps := ["track"]) fun _ _ _ _ _ _ us hl => match us, hl with | [_], _ => rfl
  have F26 := qY (st := zQ) l26 c26 k26
  have b26 := F26.binds (ps := ["track", "moment"]) fun _ _ _ _ _ _ us hl => match us, hl with | [_, _], _ => rfl
  have F27 := qY (st := zO) l27 c27 k27
  have b27 := F27.binds (ps := ["track", "place"]) fun _ _ _ _ _ _ us hl => match us, hl with | [_, _], _ => rfl
  have F28 := qY (st := jm) l28 c28 k28
  have b28 := F28.binds (ps := ["track", "place"]) fun _ _ _ _ _ _ us hl => match us, hl with | [_, _], _ => rfl
  have F29 := qY (st := jW) l29 c29 k29
  have b29 := F29.binds (ps := ["track", "place"]) fun _ _ _ _ _ _ us hl => match us, hl with | [_, _], _ => rfl
  have F30 := qY (st := jL) l30 c30 k30
  have b30 := F30.binds (ps := ["track", "moment"]) fun _ _ _ _ _ _ us hl => match us, hl with | [_, _], _ => rfl
  have F31 := qY (st := qv) l31 c31 k31
  have b31 := F31.binds (ps := ["track", "moment"]) fun _ _ _ _ _ _ us hl => match us, hl with | [_, _], _ => rfl
  have F32 := qY (st := jf) l32 c32 k32
  have b32 := F32.binds (ps := ["track", "moment"]) fun _ _ _ _ _ _ us hl => match us, hl with | [_, _], _ => rfl
  have F33 := qY (st := xR) l33 c33 k33
  have b33 := F33.binds (ps := ["item", "low", "high"]) fun _ _ _ _ _ _ us hl => match us, hl with | [_, _, _], _ => rfl
  have F34 := qY (st := jF) l34 c34 k34
  have b34 := F34.binds (ps := ["track", "low", "high"]) fun _ _ _ _ _ _ us hl => match us, hl with | [_, _, _], _ => rfl
  have F35 := qY (st := jz) l35 c35 k35
  have b35 := F35.binds (ps := ["length"]) fun _ _ _ _ _ _ us hl => match us, hl with | [_], _ => rfl
  have F36 := qY (st := jj) l36 c36 k36
  have b36 := F36.binds (ps := ["length"]) fun _ _ _ _ _ _ us hl => match us, hl with | [_], _ => rfl
  have F37 := qY (st := xQ) l37 c37 k37
  have b37 := F37.binds (ps := ["track"]) fun _ _ _ _ _ _ us hl => match us, hl with | [_], _ => rfl
  have F38 := qY (st := jQ) l38 c38 k38
  have b38 := F38.binds (ps := ["track", "place"]) fun _ _ _ _ _ _ us hl => match us, hl with | [_, _], _ => rfl
  have F39 := qY (st := jq) l39 c39 k39
  have b39 := F39.binds (ps := ["track", "place"]) fun _ _ _ _ _ _ us hl => match us, hl with | [_, _], _ => rfl
  have F40 := qY (st := zR) l40 c40 k40
  have b40 := F40.binds (ps := ["track", "moment", "reels"]) fun _ _ _ _ _ _ us hl => match us, hl with | [_, _, _], _ => rfl
  have F41 := qY (st := jg) l41 c41 k41
  have b41 := F41.binds (ps := ["table", "number", "moment"]) fun _ _ _ _ _ _ us hl => match us, hl with | [_, _, _], _ => rfl
  have F42 := qY (st := xj) l42 c42 k42
  have b42 := F42.binds (ps := ["by"]) fun _ _ _ _ _ _ us hl => match us, hl with | [_], _ => rfl
  have F43 := qY (st := ju) l43 c43 k43
  have b43 := F43.binds (ps := ["track", "moment"]) fun _ _ _ _ _ _ us hl => match us, hl with | [_, _], _ => rfl
  have F44 := qY (st := qz) l44 c44 k44
  have b44 := F44.binds (ps := ["track", "moment"]) fun _ _ _ _ _ _ us hl => match us, hl with | [_, _], _ => rfl
  have F45 := qY (st := jU) l45 c45 k45
  have b45 := F45.binds (ps := ["track", "deed"]) fun _ _ _ _ _ _ us hl => match us, hl with | [_, _], _ => rfl
  have F46 := qY (st := zN) l46 c46 k46
  have b46 := F46.binds (ps := ["track", "place"]) fun _ _ _ _ _ _ us hl => match us, hl with | [_, _], _ => rfl
  have F47 := qY (st := ji) l47 c47 k47
  have b47 := F47.binds (ps := ["most", "by"]) fun _ _ _ _ _ _ us hl => match us, hl with | [_, _], _ => rfl
  have F48 := qY (st := xB) l48 c48 k48
  have b48 := F48.binds (ps := ["clip", "by", "reels"]) fun _ _ _ _ _ _ us hl => match us, hl with | [_, _, _], _ => rfl
  have F49 := qY (st := xL) l49 c49 k49
  have b49 := F49.binds (ps := ["left", "right", "by", "reels"]) fun _ _ _ _ _ _ us hl => match us, hl with | [_, _, _, _], _ => rfl
  have F50 := qY (st := zS) l50 c50 k50
  have b50 := F50.binds (ps := ["track", "place", "by", "reels"]) fun _ _ _ _ _ _ us hl => match us, hl with | [_, _, _, _], _ => rfl
  have F51 := qY (st := qq) l51 c51 k51
  have b51 := F51.binds (ps := ["track", "first", "last", "by", "reels"]) fun _ _ _ _ _ _ us hl => match us, hl with | [_, _, _, _, _], _ => rfl
  have F52 := qY (st := jv) l52 c52 k52
  have b52 := F52.binds (ps := ["table", "number", "track"]) fun _ _ _ _ _ _ us hl => match us, hl with | [_, _, _], _ => rfl
  have F53 := qY (st := z9) l53 c53 k53
  have b53 := F53.binds (ps := ["table", "deed", "reels"]) fun _ _ _ _ _ _ us hl => match us, hl with | [_, _, _], _ => rfl
  have F54 := qY (st := j1) l54 c54 k54
  have b54 := F54.binds (ps := ["deed"]) fun _ _ _ _ _ _ us hl => match us, hl with | [_], _ => rfl
  have F55 := qY (st := zI) l55 c55 k55
  have b55 := F55.binds (ps := ["deed"]) fun _ _ _ _ _ _ us hl => match us, hl with | [_], _ => rfl
  have F56 := qY (st := jX) l56 c56 k56
  have b56 := F56.binds (ps := ["deed"]) fun _ _ _ _ _ _ us hl => match us, hl with | [_], _ => rfl
  have F57 := qY (st := jA) l57 c57 k57
  have b57 := F57.binds (ps := ["table", "deed"]) fun _ _ _ _ _ _ us hl => match us, hl with | [_, _], _ => rfl
  have F58 := qY (st := jH) l58 c58 k58
  have b58 := F58.binds (ps := ["deed"]) fun _ _ _ _ _ _ us hl => match us, hl with | [_], _ => rfl
  have F59 := qY (st := jh) l59 c59 k59
  have b59 := F59.binds (ps := ["track", "low", "high"]) fun _ _ _ _ _ _ us hl => match us, hl with | [_, _, _], _ => rfl
  have F60 := qY (st := jl) l60 c60 k60
  have b60 := F60.binds (ps := ["table", "deed"]) fun _ _ _ _ _ _ us hl => match us, hl with | [_, _], _ => rfl
  have F61 := qY (st := jY) l61 c61 k61
  have b61 := F61.binds (ps := ["table", "deed", "reels"]) fun _ _ _ _ _ _ us hl => match us, hl with | [_, _, _], _ => rfl
  have F62 := qY (st := jp) l62 c62 k62
  have b62 := F62.binds (ps := ["one", "other"]) fun _ _ _ _ _ _ us hl => match us, hl with | [_, _], _ => rfl
  have F63 := qY (st := xk) l63 c63 k63
  have b63 := F63.binds (ps := ["track", "places"]) fun _ _ _ _ _ _ us hl => match us, hl with | [_, _], _ => rfl
  have F64 := qY (st := zy) l64 c64 k64
  have b64 := F64.binds (ps := ["table", "deed"]) fun _ _ _ _ _ _ us hl => match us, hl with | [_, _], _ => rfl
  have F65 := qY (st := vF) l65 c65 k65
  have b65 := F65.binds (ps := ["table", "deed", "reels"]) fun _ _ _ _ _ _ us hl => match us, hl with | [_, _, _], _ => rfl
  have F66 := qY (st := zH) l66 c66 k66
  have b66 := F66.binds (ps := ["table", "deed"]) fun _ _ _ _ _ _ us hl => match us, hl with | [_, _], _ => rfl
  have F67 := qY (st := z8) l67 c67 k67
  have b67 := F67.binds (ps := ["track", "low", "high", "laid"]) fun _ _ _ _ _ _ us hl => match us, hl with | [_, _, _, _], _ => rfl
  have F68 := qY (st := zJ) l68 c68 k68
  have b68 := F68.binds (ps := ["table", "deed"]) fun _ _ _ _ _ _ us hl => match us, hl with | [_, _], _ => rfl
  have F69 := qY (st := xH) l69 c69 k69
  have b69 := F69.binds (ps := ["table", "deed", "reels"]) fun _ _ _ _ _ _ us hl => match us, hl with | [_, _, _], _ => rfl
  have F70 := qY (st := jV) l70 c70 k70
  have b70 := F70.binds (ps := ["_law_script", "_law_k"]) fun _ _ _ _ _ _ us hl => match us, hl with | [_, _], _ => rfl
  have F71 := qY (st := j0) l71 c71 k71
  have b71 := F71.binds (ps := ["_law_far_here"]) fun _ _ _ _ _ _ us hl => match us, hl with | [_], _ => rfl
  have F72 := qY (st := xF) l72 c72 k72
  have b72 := F72.binds (ps := ["_law_table_here", "_law_deed"]) fun _ _ _ _ _ _ us hl => match us, hl with | [_, _], _ => rfl
  have F73 := qY (st := xw) l73 c73 k73
  have b73 := F73.binds (ps := ["_law_table_here", "_law_deed", "_law_word_here"]) fun _ _ _ _ _ _ us hl => match us, hl with | [_, _, _], _ => rfl
  have F74 := qY (st := jI) l74 c74 k74
  have b74 := F74.binds (ps := ["_law_cell"]) fun _ _ _ _ _ _ us hl => match us, hl with | [_], _ => rfl
  have F75 := qY (st := qx) l75 c75 k75
  have b75 := F75.binds (ps := ["_law_cell"]) fun _ _ _ _ _ _ us hl => match us, hl with | [_], _ => rfl
  have F76 := qY (st := xo) l76 c76 k76
  have b76 := F76.binds (ps := ["_law_far_here", "_law_cell"]) fun _ _ _ _ _ _ us hl => match us, hl with | [_, _], _ => rfl
  have F77 := qY (st := jw) l77 c77 k77
  have b77 := F77.binds (ps := ["_law_far_here", "_law_cell"]) fun _ _ _ _ _ _ us hl => match us, hl with | [_, _], _ => rfl
  have F78 := qY (st := qBn) l78 c78 k78
  have b78 := F78.binds (ps := ["_law_script"]) fun _ _ _ _ _ _ us hl => match us, hl with | [_], _ => rfl
  have FmShort := qY (st := z6) ilShort icShort ikShort
  have bmShort := FmShort.binds (ps := ["self", "most"]) fun _ _ _ _ _ _ us hl => match us, hl with | [_, _], _ => rfl
  have T : Tx K mg ⟨f0, _, f1, _, f2, _, f3, _, f4, _, f5, _, f6, _, f7, _, f8, _, f9, _, f10, _, f11, _, f12, _, f13, _, f14, _, f15, _, f16, _, f17, _, f18, _, f19, _, f20, _, f21, _, f22, _, f23, _, f24, _, f25, _, f26, _, f27, _, f28, _, f29, _, f30, _, f31, _, f32, _, f33, _, f34, _, f35, _, f36, _, f37, _, f38, _, f39, _, f40, _, f41, _, f42, _, f43, _, f44, _, f45, _, f46, _, f47, _, f48, _, f49, _, f50, _, f51, _, f52, _, f53, _, f54, _, f55, _, f56, _, f57, _, f58, _, f59, _, f60, _, f61, _, f62, _, f63, _, f64, _, f65, _, f66, _, f67, _, f68, _, f69, _, f70, _, f71, _, f72, _, f73, _, f74, _, f75, _, f76, _, f77, _, f78, _, C0, C1, C2, C3, C4, C5, tLETTERS, tLONGEST_NAME, tMOST_ROOM, nNOUGHT, tMOST_BY, nROLLS, nLAYS, nPUSHES, nCHANGES, fmShort, _⟩ := ⟨⟨F0, b0, W.mg_of X G a0⟩, ⟨F1, b1, W.mg_of X G a1⟩, ⟨F2, b2, W.mg_of X G a2⟩, ⟨F3, b3, W.mg_of X G a3⟩, ⟨F4, b4, W.mg_of X G a4⟩, ⟨F5, b5, W.mg_of X G a5⟩, ⟨F6, b6, W.mg_of X G a6⟩, ⟨F7, b7, W.mg_of X G a7⟩, ⟨F8, b8, W.mg_of X G a8⟩, ⟨F9, b9, W.mg_of X G a9⟩, ⟨F10, b10, W.mg_of X G a10⟩, ⟨F11, b11, W.mg_of X G a11⟩, ⟨F12, b12, W.mg_of X G a12⟩, ⟨F13, b13, W.mg_of X G a13⟩, ⟨F14, b14, W.mg_of X G a14⟩, ⟨F15, b15, W.mg_of X G a15⟩, ⟨F16, b16, W.mg_of X G a16⟩, ⟨F17, b17, W.mg_of X G a17⟩, ⟨F18, b18, W.mg_of X G a18⟩, ⟨F19, b19, W.mg_of X G a19⟩, ⟨F20, b20, W.mg_of X G a20⟩, ⟨F21, b21, W.mg_of X G a21⟩, ⟨F22, b22, W.mg_of X G a22⟩, ⟨F23, b23, W.mg_of X G a23⟩, ⟨F24, b24, W.mg_of X G a24⟩, ⟨F25, b25, W.mg_of X G a25⟩, ⟨F26, b26, W.mg_of X G a26⟩, ⟨F27, b27, W.mg_of X G a27⟩, ⟨F28, b28, W.mg_of X G a28⟩, ⟨F29, b29, W.mg_of X G a29⟩, ⟨F30, b30, W.mg_of X G a30⟩, ⟨F31, b31, W.mg_of X G a31⟩, ⟨F32, b32, W.mg_of X G a32⟩, ⟨F33, b33, W.mg_of X G a33⟩, ⟨F34, b34, W.mg_of X G a34⟩, ⟨F35, b35, W.mg_of X G a35⟩, ⟨F36, b36, W.mg_of X G a36⟩, ⟨F37, b37, W.mg_of X G a37⟩, ⟨F38, b38, W.mg_of X G a38⟩, ⟨F39, b39, W.mg_of X G a39⟩, ⟨F40, b40, W.mg_of X G a40⟩, ⟨F41, b41, W.mg_of X G a41⟩, ⟨F42, b42, W.mg_of X G a42⟩, ⟨F43, b43, W.mg_of X G a43⟩, ⟨F44, b44, W.mg_of X G a44⟩, ⟨F45, b45, W.mg_of X G a45⟩, ⟨F46, b46, W.mg_of X G a46⟩, ⟨F47, b47, W.mg_of X G a47⟩, ⟨F48, b48, W.mg_of X G a48⟩, ⟨F49, b49, W.mg_of X G a49⟩, ⟨F50, b50, W.mg_of X G a50⟩, ⟨F51, b51, W.mg_of X G a51⟩, ⟨F52, b52, W.mg_of X G a52⟩, ⟨F53, b53, W.mg_of X G a53⟩, ⟨F54, b54, W.mg_of X G a54⟩, ⟨F55, b55, W.mg_of X G a55⟩, ⟨F56, b56, W.mg_of X G a56⟩, ⟨F57, b57, W.mg_of X G a57⟩, ⟨F58, b58, W.mg_of X G a58⟩, ⟨F59, b59, W.mg_of X G a59⟩, ⟨F60, b60, W.mg_of X G a60⟩, ⟨F61, b61, W.mg_of X G a61⟩, ⟨F62, b62, W.mg_of X G a62⟩, ⟨F63, b63, W.mg_of X G a63⟩, ⟨F64, b64, W.mg_of X G a64⟩, ⟨F65, b65, W.mg_of X G a65⟩, ⟨F66, b66, W.mg_of X G a66⟩, ⟨F67, b67, W.mg_of X G a67⟩, ⟨F68, b68, W.mg_of X G a68⟩, ⟨F69, b69, W.mg_of X G a69⟩, ⟨F70, b70, W.mg_of X G a70⟩, ⟨F71, b71, W.mg_of X G a71⟩, ⟨F72, b72, W.mg_of X G a72⟩, ⟨F73, b73, W.mg_of X G a73⟩, ⟨F74, b74, W.mg_of X G a74⟩, ⟨F75, b75, W.mg_of X G a75⟩, ⟨F76, b76, W.mg_of X G a76⟩, ⟨F77, b77, W.mg_of X G a77⟩, ⟨F78, b78, W.mg_of X G a78⟩, W.mg_of X G xg0, W.mg_of X G xg1, W.mg_of X G xg2, W.mg_of X G xg3, W.mg_of X G xg4, W.mg_of X G xg5, W.mg_none_of X G xz0, W.mg_none_of X G xz1, W.mg_none_of X G xz2, W.mg_none_of X G xz3, W.mg_none_of X G xz4, W.mg_none_of X G xz5, W.mg_none_of X G xz6, W.mg_none_of X G xz7, W.mg_none_of X G xz8, W.mg_none_of X G xz9, W.mg_none_of X G xz10, W.mg_none_of X G xz11, W.mg_none_of X G xz12, W.mg_none_of X G xz13, W.mg_of X G xcLETTERS, W.mg_of X G xcLONGEST_NAME, W.mg_of X G xcMOST_ROOM, W.mg_of X G xcNOUGHT, fun H => .inr ⟨_, _, _, xlNOUGHT, rfl, rfl, by show 2 ≤ sizeLine; decide, .cons ⟨_, rfl⟩ (.cons ⟨_, rfl⟩ (.nil))⟩, W.mg_of X G xcMOST_BY, W.mg_of X G xcROLLS, fun H => .inr ⟨_, _, _, xlROLLS, rfl, rfl, by show 3 ≤ sizeLine; decide, .cons ⟨_, rfl⟩ (.cons ⟨_, rfl⟩ (.cons ⟨_, rfl⟩ (.nil)))⟩, W.mg_of X G xcLAYS, fun H => .inr ⟨_, _, _, xlLAYS, rfl, rfl, by show 2 ≤ sizeLine; decide, .cons ⟨_, rfl⟩ (.cons ⟨_, rfl⟩ (.nil))⟩, W.mg_of X G xcPUSHES, fun H => .inr ⟨_, _, _, xlPUSHES, rfl, rfl, by show 3 ≤ sizeLine; decide, .cons ⟨_, rfl⟩ (.cons ⟨_, rfl⟩ (.cons ⟨_, rfl⟩ (.nil)))⟩, W.mg_of X G xcCHANGES, fun H => .inr ⟨_, _, _, xlCHANGES, rfl, rfl, by show 6 ≤ sizeLine; decide, .cons ⟨_, rfl⟩ (.cons ⟨_, rfl⟩ (.cons ⟨_, rfl⟩ (.cons ⟨_, rfl⟩ (.cons ⟨_, rfl⟩ (.cons ⟨_, rfl⟩ (.nil))))))⟩, x_NoClip, x_NoPlace, x_Mixed, e_NoPlace, e_NoClip, e_Mixed, e_Short, xPP, xCP, xCC, xMP, xMC, xMM, xSP, xSC, xSM, xSS, xP, xC, xM, xS, pP, pC, pM, pS, cP, cC, cM, cS, mP, mC, mM, mS, sP, sC, sM, sS, FmShort, bmShort, ⟨ivShort, ihShort, isShort, ixShort, ifShort⟩, itShort⟩
  exact ⟨W.fnOf "law" "law" (qO qBn) (qN qBn) (qF qBn) .none kV78 dc78 pm78 an78 cd78 ct78, fun s v => .of_eq rfl, fun base _ _ => qMl T⟩
theorem walk {l : W.OpenLaw} {q : Program} {loose : List Str} {XP : (Str → Option Value) → Heap → Prop} {YP : World → Heap → Prop} {d : DefRec} {K : Params → W.Frag} (hn : l.most = some 63) (hdf : d.params.defaults = [])
    (hY : ∀ (w : World) (h : Heap), YP w h → (K w.params).In h)
    (F : ∀ (w : World) (mg : Str → Option Value) (fa : Addr) (h : Heap), (K w.params).In h → h.Ns mainGlobals mg → mg d.name = some (.ref fa) →
      ∃ fd : FuncData, (∀ (s : Shared) (u : Value), BindsTo s fd ⟨[u], []⟩ [("_law_script", u)]) ∧ ∀ base : Heap, (K w.params).In base → base.Ns mainGlobals mg → FnOk l.prog w (K w.params) mg base CX0 13 fa fd ["_law_script"] (qJb (K w.params))) :
    W.WalkO q loose XP YP l.row.toRowW d [] (fun f vs => PySem.call f vs) :=
  L2.walk_of (n := 63) (k := 13) (x := "_law_script") (CX := fun _ => CX0) (sp := fun w => qJb (K w.params)) hn (by decide) hdf ⟨rfl, by decide, by decide⟩ hY F (fun _ _ a ns hl _ hS => ⟨a, ns, rfl, hS, hl, fun _ => rfl⟩) fun _ _ _ _ _ z => z
end Lw
namespace PySem.W.Fast
def tw11068145277174040768 := ()
def tw15657279995769998912 := ()
def tw2948697868852949824 := ()
def tw1628781611823068129 := ()
def tw9848297586690910754 := ()
def tw3467470211596654788 := ()
def tw9128612082761234469 := ()
def tw7307319490302496518 := ()
def tw14481939560050823975 := ()
def tw14784562873251735913 := ()
def tw18261450534569800297 := ()
def tw5501405403882122250 := ()
def tw15775274530627770635 := ()
def tw4468625296007390027 := ()
def tw4460902301051037228 := ()
def tw13936395989049532653 := ()
def tw16068706028536356141 := ()
def tw14929394378608261070 := ()
def tw2382429185728071120 := ()
def tw586469005842935697 := ()
def tw17296020425556101011 := ()
def tw12134007412183372660 := ()
def tw2145889577763820468 := ()
def tw1516561448360634292 := ()
def tw3637027333693220789 := ()
def tw14106930972685726102 := ()
def tw766979882705406104 := ()
def tw14557643655569432920 := ()
def tw3666216311361669246 := ()
def tw8929473066499152351 := ()
def tw17129052497109737215 := ()
def tw4382891278967048645 := ()
def tw592594974428294424 := ()
def tw12403304278312322997 := ()
def tw10372188272926783273 := ()
def tw12025401458690071694 := ()
def tw12892083021149125167 := ()
def tw10787361176645185186 := ()
def tw10003707215220398959 := ()
def tw5526273453102674829 := ()
def tw7934922924117732700 := ()
def tw15093054015671181718 := ()
def tw1403164003237596254 := ()
def tw14650445634753397381 := ()
def tw11201696505601991643 := ()
def tw10601380202187904542 := ()
def tw15468143001787907897 := ()
def tw1101199922535413699 := ()
def tw10923116397836786926 := ()
def tw2969757903571170394 := ()
def tw10207418366162491072 := ()
def tw9778403092034139952 := ()
def tw7868440032104799479 := ()
def tw7096028663960175633 := ()
def tw13488544295227843578 := ()
def tw14358408573847684175 := ()
def tw9342924032639387956 := ()
def tw4373632858998614436 := ()
def tw15986076174067936708 := ()
def tw16089302208596771321 := ()
def tw9460523653401755763 := ()
def tw16205706000848991158 := ()
def tw5032572554805008402 := ()
def tw3861628512325777609 := ()
def tw13210287163450816024 := ()
def tw12669413234134939395 := ()
def tw14202322743573765680 := ()
def tw11595645908423286825 := ()
def tw887541195224637782 := ()
def tw16456270347331255231 := ()
def tw9082943986141417075 := ()
def tw767453342159990571 := ()
def tw5579441870790789054 := ()
def tw16703707830339140783 := ()
def tw10484090786642255323 := ()
def tw14606830788312155672 := ()
def tw14888943182274781739 := ()
def tw14989596881634794220 := ()
def tw6497559490918054277 := ()
end PySem.W.Fast
open PySem PySem.W PyProof.Rows
set_option maxRecDepth 100000 in
set_option maxHeartbeats 0 in
theorem PySem.Challenge.cw_reelcut_k48_deeds_refused_holds : PySem.Challenge.rw_reelcut_k48_deeds_refused.Holds := by
  w_on; o_law; k_head; (case hw => w_witness2)
  k_fill
  refine Lw.walk (l := PySem.Challenge.rw_reelcut_k48_deeds_refused) rfl rfl (fun w h Y => PySem.W.kIn_of Y) ?F
  case F =>
    intro w mg fa h KX G hmg
    refine' Lw.all_mk KX G hmg ?a0 ?l0 ?c0 ?k0 ?a1 ?l1 ?c1 ?k1 ?a2 ?l2 ?c2 ?k2 ?a3 ?l3 ?c3 ?k3 ?a4 ?l4 ?c4 ?k4 ?a5 ?l5 ?c5 ?k5 ?a6 ?l6 ?c6 ?k6 ?a7 ?l7 ?c7 ?k7 ?a8 ?l8 ?c8 ?k8 ?a9 ?l9 ?c9 ?k9 ?a10 ?l10 ?c10 ?k10 ?a11 ?l11 ?c11 ?k11 ?a12 ?l12 ?c12 ?k12 ?a13 ?l13 ?c13 ?k13 ?a14 ?l14 ?c14 ?k14 ?a15 ?l15 ?c15 ?k15 ?a16 ?l16 ?c16 ?k16 ?a17 ?l17 ?c17 ?k17 ?a18 ?l18 ?c18 ?k18 ?a19 ?l19 ?c19 ?k19 ?a20 ?l20 ?c20 ?k20 ?a21 ?l21 ?c21 ?k21 ?a22 ?l22 ?c22 ?k22 ?a23 ?l23 ?c23 ?k23 ?a24 ?l24 ?c24 ?k24 ?a25 ?l25 ?c25 ?k25 ?a26 ?l26 ?c26 ?k26 ?a27 ?l27 ?c27 ?k27 ?a28 ?l28 ?c28 ?k28 ?a29 ?l29 ?c29 ?k29 ?a30 ?l30 ?c30 ?k30 ?a31 ?l31 ?c31 ?k31 ?a32 ?l32 ?c32 ?k32 ?a33 ?l33 ?c33 ?k33 ?a34 ?l34 ?c34 ?k34 ?a35 ?l35 ?c35 ?k35 ?a36 ?l36 ?c36 ?k36 ?a37 ?l37 ?c37 ?k37 ?a38 ?l38 ?c38 ?k38 ?a39 ?l39 ?c39 ?k39 ?a40 ?l40 ?c40 ?k40 ?a41 ?l41 ?c41 ?k41 ?a42 ?l42 ?c42 ?k42 ?a43 ?l43 ?c43 ?k43 ?a44 ?l44 ?c44 ?k44 ?a45 ?l45 ?c45 ?k45 ?a46 ?l46 ?c46 ?k46 ?a47 ?l47 ?c47 ?k47 ?a48 ?l48 ?c48 ?k48 ?a49 ?l49 ?c49 ?k49 ?a50 ?l50 ?c50 ?k50 ?a51 ?l51 ?c51 ?k51 ?a52 ?l52 ?c52 ?k52 ?a53 ?l53 ?c53 ?k53 ?a54 ?l54 ?c54 ?k54 ?a55 ?l55 ?c55 ?k55 ?a56 ?l56 ?c56 ?k56 ?a57 ?l57 ?c57 ?k57 ?a58 ?l58 ?c58 ?k58 ?a59 ?l59 ?c59 ?k59 ?a60 ?l60 ?c60 ?k60 ?a61 ?l61 ?c61 ?k61 ?a62 ?l62 ?c62 ?k62 ?a63 ?l63 ?c63 ?k63 ?a64 ?l64 ?c64 ?k64 ?a65 ?l65 ?c65 ?k65 ?a66 ?l66 ?c66 ?k66 ?a67 ?l67 ?c67 ?k67 ?a68 ?l68 ?c68 ?k68 ?a69 ?l69 ?c69 ?k69 ?a70 ?l70 ?c70 ?k70 ?a71 ?l71 ?c71 ?k71 ?a72 ?l72 ?c72 ?k72 ?a73 ?l73 ?c73 ?k73 ?a74 ?l74 ?c74 ?k74 ?a75 ?l75 ?c75 ?k75 ?a76 ?l76 ?c76 ?k76 ?a77 ?l77 ?c77 ?k77 ?a78 ?l78 ?c78 ?k78 ?xg0 ?xg1 ?xg2 ?xg3 ?xg4 ?xg5 ?x_NoClip ?x_NoPlace ?x_Mixed ?e_NoPlace ?e_NoClip ?e_Mixed ?e_Short ?xPP ?xCP ?xCC ?xMP ?xMC ?xMM ?xSP ?xSC ?xSM ?xSS ?xP ?xC ?xM ?xS ?pP ?pC ?pM ?pS ?cP ?cC ?cM ?cS ?mP ?mC ?mM ?mS ?sP ?sC ?sM ?sS ?xz0 ?xz1 ?xz2 ?xz3 ?xz4 ?xz5 ?xz6 ?xz7 ?xz8 ?xz9 ?xz10 ?xz11 ?xz12 ?xz13 ?xcLETTERS ?xcLONGEST_NAME ?xcMOST_ROOM ?xcNOUGHT ?xlNOUGHT ?xcMOST_BY ?xcROLLS ?xlROLLS ?xcLAYS ?xlLAYS ?xcPUSHES ?xlPUSHES ?xcCHANGES ?xlCHANGES ?iaShort ?ilShort ?icShort ?ikShort ?ifShort ?ivShort ?ihShort ?isShort ?ixShort ?itShort
    (case a0 | l0 | c0 | k0 | a1 | l1 | c1 | k1 | a2 | l2 | c2 | k2 | a3 | l3 | c3 | k3 | a4 | l4 | c4 | k4 | a5 | l5 | c5 | k5 | a6 | l6 | c6 | k6 | a7 | l7 | c7 | k7 | a8 | l8 | c8 | k8 | a9 | l9 | c9 | k9 | a10 | l10 | c10 | k10 | a11 | l11 | c11 | k11 | a12 | l12 | c12 | k12 | a13 | l13 | c13 | k13 | a14 | l14 | c14 | k14 | a15 | l15 | c15 | k15 | a16 | l16 | c16 | k16 | a17 | l17 | c17 | k17 | a18 | l18 | c18 | k18 | a19 | l19 | c19 | k19 | a20 | l20 | c20 | k20 | a21 | l21 | c21 | k21 | a22 | l22 | c22 | k22 | a23 | l23 | c23 | k23 | a24 | l24 | c24 | k24 | a25 | l25 | c25 | k25 | a26 | l26 | c26 | k26 | a27 | l27 | c27 | k27 | a28 | l28 | c28 | k28 | a29 | l29 | c29 | k29 | a30 | l30 | c30 | k30 | a31 | l31 | c31 | k31 | a32 | l32 | c32 | k32 | a33 | l33 | c33 | k33 | a34 | l34 | c34 | k34 | a35 | l35 | c35 | k35 | a36 | l36 | c36 | k36 | a37 | l37 | c37 | k37 | a38 | l38 | c38 | k38 | a39 | l39 | c39 | k39 | a40 | l40 | c40 | k40 | a41 | l41 | c41 | k41 | a42 | l42 | c42 | k42 | a43 | l43 | c43 | k43 | a44 | l44 | c44 | k44 | a45 | l45 | c45 | k45 | a46 | l46 | c46 | k46 | a47 | l47 | c47 | k47 | a48 | l48 | c48 | k48 | a49 | l49 | c49 | k49 | a50 | l50 | c50 | k50 | a51 | l51 | c51 | k51 | a52 | l52 | c52 | k52 | a53 | l53 | c53 | k53 | a54 | l54 | c54 | k54 | a55 | l55 | c55 | k55 | a56 | l56 | c56 | k56 | a57 | l57 | c57 | k57 | a58 | l58 | c58 | k58 | a59 | l59 | c59 | k59 | a60 | l60 | c60 | k60 | a61 | l61 | c61 | k61 | a62 | l62 | c62 | k62 | a63 | l63 | c63 | k63 | a64 | l64 | c64 | k64 | a65 | l65 | c65 | k65 | a66 | l66 | c66 | k66 | a67 | l67 | c67 | k67 | a68 | l68 | c68 | k68 | a69 | l69 | c69 | k69 | a70 | l70 | c70 | k70 | a71 | l71 | c71 | k71 | a72 | l72 | c72 | k72 | a73 | l73 | c73 | k73 | a74 | l74 | c74 | k74 | a75 | l75 | c75 | k75 | a76 | l76 | c76 | k76 | a77 | l77 | c77 | k77 | a78 | l78 | c78 | k78 | xg0 | xg1 | xg2 | xg3 | xg4 | xg5 => k_is)
    (case x_NoClip => (unfold L3.OwnX; kernel_rfl))
    (case x_NoPlace => (unfold L3.OwnX; kernel_rfl))
    (case x_Mixed => (unfold L3.OwnX; kernel_rfl))
    (case e_NoPlace => exact ⟨by k_is, by k_is, by k_is, by k_is, by k_is, by k_is, by k_is⟩)
    (case e_NoClip => exact ⟨by k_is, by k_is, by k_is, by k_is, by k_is, by k_is, by k_is⟩)
    (case e_Mixed => exact ⟨by k_is, by k_is, by k_is, by k_is, by k_is, by k_is, by k_is⟩)
    (case e_Short => exact ⟨by k_is, by k_is, by k_is, by k_is, by k_is, by k_is, by k_is⟩)
    (case xPP => kernel_rfl)
    (case xCP => kernel_rfl)
    (case xCC => kernel_rfl)
    (case xMP => kernel_rfl)
    (case xMC => kernel_rfl)
    (case xMM => kernel_rfl)
    (case xSP => kernel_rfl)
    (case xSC => kernel_rfl)
    (case xSM => kernel_rfl)
    (case xSS => kernel_rfl)
    (case xP => kernel_rfl)
    (case xC => kernel_rfl)
    (case xM => kernel_rfl)
    (case xS => kernel_rfl)
    (case pP => kernel_rfl)
    (case pC => kernel_rfl)
    (case pM => kernel_rfl)
    (case pS => kernel_rfl)
    (case cP => kernel_rfl)
    (case cC => kernel_rfl)
    (case cM => kernel_rfl)
    (case cS => kernel_rfl)
    (case mP => kernel_rfl)
    (case mC => kernel_rfl)
    (case mM => kernel_rfl)
    (case mS => kernel_rfl)
    (case sP => kernel_rfl)
    (case sC => kernel_rfl)
    (case sM => kernel_rfl)
    (case sS => kernel_rfl)
    (case xz0 | xz1 | xz2 | xz3 | xz4 | xz5 | xz6 | xz7 | xz8 | xz9 | xz10 | xz11 | xz12 | xz13 | xcLETTERS | xcLONGEST_NAME | xcMOST_ROOM | xcNOUGHT | xlNOUGHT | xcMOST_BY | xcROLLS | xlROLLS | xcLAYS | xlLAYS | xcPUSHES | xlPUSHES | xcCHANGES | xlCHANGES | iaShort | ilShort | icShort | ikShort | ifShort => k_is)
    (case ivShort => (unfold L3.exOver; kernel_rfl))
    (case ihShort | isShort => k_is)
    (case ixShort => (unfold L3.excInitIn; kernel_rfl))
    (case itShort => k_is)
